import PyProof.Rows.All
import Wide.All
import OpenK.AllK
import Wide.FinOn
import Lean
import PyProof.EqAt
import PyProof.EqKinds
import PyProof.TupleCall
import PySem.Challenge.RW_widelines_k10_what_is_cut_off
def PySem.W.Fast.tw5703730545673834504 : Unit := ()
def PySem.W.Fast.tw18445214921815494956 : Unit := ()
def PySem.W.Fast.tw15724873913118474979 : Unit := ()
def PySem.W.Fast.tw11416596145827310441 : Unit := ()
def PySem.W.Fast.tw1613521887862388689 : Unit := ()
def PySem.W.Fast.tw2623046828844591301 : Unit := ()
def PySem.W.Fast.tw13944824308779683201 : Unit := ()
def PySem.W.Fast.tw16137580469200032291 : Unit := ()
def PySem.W.Fast.tw14262783828624673431 : Unit := ()
def PySem.W.Fast.tw3984174045264297332 : Unit := ()
def PySem.W.Fast.tw869521137497484141 : Unit := ()
def PySem.W.Fast.tw9087019285780133460 : Unit := ()
def PySem.W.Fast.tw5240279280560721709 : Unit := ()
def PySem.W.Fast.tw11141984200365002793 : Unit := ()
def PySem.W.Fast.tw13167017407119256232 : Unit := ()
def PySem.W.Fast.tw17017302047717654295 : Unit := ()
def PySem.W.Fast.tw6780221888911092587 : Unit := ()
def PySem.W.Fast.tw7152670542316557360 : Unit := ()
def PySem.W.Fast.tw12459225748553900634 : Unit := ()
def PySem.W.Fast.tw9651779129953176239 : Unit := ()
local macro_rules | `(tactic| omega) => `(tactic| first | with_reducible assumption | decide | omega +splitMinMax)
theorem PySem.W.Fast.te18445214921815494956 : True := True.intro
set_option Elab.async false
set_option linter.all false
set_option maxRecDepth 100000
set_option bootstrap.genMatcherCode false
set_option genSizeOf false
namespace L2
open PySem PySem.Spec PyProof.Rows
noncomputable abbrev Key:=Sum Int Str
noncomputable def X3:Key → Value → Bool
 | .inl k,v=>Value.isInt k v
 | .inr x,v=>Value.isStrOf x v
noncomputable def b5c (w:World):Key → Int
 | .inl k=>hashInt k
 | .inr x=>hashStr w x
theorem Q9:∀ {k:Key} {v:Value},X3 k v = true → (∃ i t,k = Sum.inl i ∧ v = Value.int i t) ∨ (∃ x t,k = Sum.inr x ∧ v = Value.str x t)
 | .inl i,v,h=>by
  obtain ⟨t,e⟩:=Value.isInt_shape (k:=i) (v:=v) h
  exact .inl ⟨i,t,rfl,e⟩
 | .inr x,v,h=>by
  obtain ⟨t,e⟩:=Value.isStrOf_shape (x:=x) (v:=v) h
  exact .inr ⟨x,t,rfl,e⟩
theorem b0J (i:Int) (t:Tok):X3 (.inl i) (.int i t) = true:=by simp [X3,Value.isInt]
theorem b6a (x:Str) (t:Tok):X3 (.inr x) (.str x t) = true:=by simp [X3,Value.isStrOf]
theorem b5U (a b:Int):decide ((Sum.inl a:Key) = Sum.inl b) = (a == b):=by
 by_cases e:a = b
 ·subst e; simp
 ·have h:¬ (Sum.inl a:Key) = Sum.inl b:=fun q=>e (Sum.inl.inj q)
  rw [decide_eq_false h]
  exact (beq_eq_false_iff_ne.mpr e).symm
theorem b22 (a b:Str):decide ((Sum.inr a:Key) = Sum.inr b) = decide (a = b):=by
 by_cases e:a = b
 ·subst e; simp
 ·have h:¬ (Sum.inr a:Key) = Sum.inr b:=fun q=>e (Sum.inr.inj q)
  rw [decide_eq_false h,decide_eq_false e]
theorem b3s (a:Int) (b:Str):decide ((Sum.inl a:Key) = Sum.inr b) = false:=decide_eq_false (fun q=>nomatch q)
theorem b5a (a:Str) (b:Int):decide ((Sum.inr a:Key) = Sum.inl b) = false:=decide_eq_false (fun q=>nomatch q)
noncomputable def D4 (prog:Program) (w:World):PySem.KeyKind prog w Key where
 is:=X3
 hash:=b5c w
 inj:=fun v a b ha hb=>by
  rcases Q9 ha with ⟨i,t,rfl,rfl⟩ | ⟨x,t,rfl,rfl⟩
  ·rcases Q9 hb with ⟨j,u,rfl,e⟩ | ⟨y,u,rfl,e⟩
   ·injection e with e1 _; rw [e1]
   ·exact nomatch e
  ·rcases Q9 hb with ⟨j,u,rfl,e⟩ | ⟨y,u,rfl,e⟩
   ·exact nomatch e
   ·injection e with e1 _; rw [e1]
 byValue:=fun k v h=>by
  rcases Q9 h with ⟨i,t,rfl,rfl⟩ | ⟨x,t,rfl,rfl⟩ <;> rfl
 pyHash:=fun hv h=>by
  rcases Q9 hv with ⟨i,t,rfl,rfl⟩ | ⟨x,t,rfl,rfl⟩
  ·exact wpAny_pyHash_int h
  ·exact wpAny_pyHash_str h
 eqBool:=fun hu hv h=>by
  rcases Q9 hu with ⟨i,t,rfl,rfl⟩ | ⟨x,t,rfl,rfl⟩
  ·rcases Q9 hv with ⟨j,u,rfl,rfl⟩ | ⟨y,u,rfl,rfl⟩
   ·rw [b5U] at h; exact wpAny_eqBool_int h
   ·rw [b3s] at h; exact SeqAt.EqAt.int_str i t y u _ _ _ _ h
  ·rcases Q9 hv with ⟨j,u,rfl,rfl⟩ | ⟨y,u,rfl,rfl⟩
   ·rw [b5a] at h; exact SeqAt.EqAt.str_int x t j u _ _ _ _ h
   ·rw [b22] at h; exact wpAny_eqBool_str h
 «strs»:=fun k x t v h=>by
  rcases Q9 h with ⟨i,u,rfl,e⟩ | ⟨y,u,rfl,e⟩
  ·exact nomatch e
  ·injection e with e1 _
   subst e1
   cases v <;> rfl
theorem b2A (prog:Program) (w:World) (i:Int) (t:Tok):(D4 prog w).is (.inl i) (.int i t) = true:=b0J i t
theorem b2W (prog:Program) (w:World) (x:Str) (t:Tok):(D4 prog w).is (.inr x) (.str x t) = true:=b6a x t
inductive V where
 | non | bl (b:Bool) | int (i:Int) | str (x:Str) | byt (b:Array UInt8) | flt (b:UInt64) | ref (a:Addr) | ty (n:String)
 deriving DecidableEq
noncomputable def RelV:V → Value → Prop
 | .non,u=>u = Value.none
 | .bl b,u=>u = Value.bool b
 | .int i,u=>∃ t,u = Value.int i t
 | .str x,u=>∃ t,u = Value.str x t
 | .byt b,u=>∃ t,u = Value.bytes b t
 | .flt b,u=>∃ t,u = Value.float b t
 | .ref a,u=>u = Value.ref a
 | .ty n,u=>u = Value.type n
noncomputable abbrev Vals:List V → List Value → Prop:=Paired RelV
theorem Vals.length {xs:List V} {us:List Value} (r:Vals xs us):xs.length = us.length:=Paired.length r
theorem Vals.get:∀ {xs:List V} {us:List Value} {i:Nat} {x:V},Vals xs us → xs[i]? = some x → ∃ u,us[i]? = some u ∧ RelV x u
 | _,_,_,_,.nil,e=>by simp at e
 | _,_,0,_,.cons r _,e=>by simp at e; subst e; exact ⟨_,rfl,r⟩
 | _,_,i + 1,x,.cons _ t,e=>by
  obtain ⟨u,h1,h2⟩:=Vals.get (i:=i) (x:=x) t (by simpa using e)
  exact ⟨u,by simpa using h1,h2⟩
theorem Vals.append:∀ {xs ys:List V} {us ws:List Value},Vals xs us → Vals ys ws → Vals (xs ++ ys) (us ++ ws):=by
 intro xs ys us ws h s
 induction h with
 | nil=>exact s
 | cons r t ih=>exact .cons r ih
theorem Vals.take:∀ {xs:List V} {us:List Value} (n:Nat),Vals xs us → Vals (xs.take n) (us.take n)
 | _,_,0,_=>.nil
 | _,_,_ + 1,.nil=>.nil
 | _,_,n + 1,.cons r t=>.cons r (Vals.take n t)
theorem Vals.drop:∀ {xs:List V} {us:List Value} (n:Nat),Vals xs us → Vals (xs.drop n) (us.drop n)
 | _,_,0,r=>r
 | _,_,_ + 1,.nil=>.nil
 | _,_,n + 1,.cons _ t=>Vals.drop n t
noncomputable def RelO:Option V → Option Value → Prop
 | some v,some u=>RelV v u
 | none,none=>True
 | _,_=>False
noncomputable def KV {κ:Type}:List (κ × V) → List (κ × Value) → Prop:=Paired fun (p:κ × V) (q:κ × Value)=>p.1 = q.1 ∧ RelV p.2 q.2
noncomputable def kV:Key → V
 | .inl i=>.int i
 | .inr x=>.str x
inductive HO where
 | lst (xs:List V)
 | tup (xs:List V)
 | dK (kvs:List (Key × V)) | dT (kvs:List (List Key × V))
 | set (S:Int → Bool) (n:Nat)
 | ins (C dx:Addr) (fs:List (Str × V))
 | own (x:Addr)
 | xd (fs:List (Str × V))
 | met (f x:Addr)
 | rng (lo hi:Int)
 | frz (o:Obj) (u:HO)
 | tbl (ps:Array Value)
 | ext (φ:Heap → Prop)
noncomputable abbrev Hp:=Addr → Option HO
noncomputable def upd (H:Hp) (a:Addr) (o:HO):Hp:=fun b=>if b = a then some o else H b
theorem B7 {H:Hp} {a:Addr} {o:HO}:upd H a o a = some o:=by unfold upd; rw [if_pos rfl]
theorem o8 {H:Hp} {a b:Addr} {o:HO} (h:b ≠ a):upd H a o b = H b:=by unfold upd; rw [if_neg h]
theorem a99 {H:Hp} {a:Addr} {o u:HO}:upd (upd H a o) a u = upd H a u:=by
 funext b; unfold upd; split <;> rfl
theorem b4H {H:Hp} {a b:Addr} {o u:HO} (h:H a = some o) (h':H b = some u) (d:o ≠ u):a ≠ b:=by
 intro e; subst e; rw [h] at h'; exact d (Option.some.inj h')
theorem M3 {H:Hp} {a b:Addr} {o:HO} (h:H a = some o) (h':H b = none):a ≠ b:=by
 intro e; subst e; rw [h] at h'; cases h'
section
variable (P:Program) (w:World)
noncomputable def ObjOk (H:Hp) (h:Heap) (a:Addr):HO → Prop
 | .lst xs=>xs.length ≤ sizeLine ∧ ∃ (its:List Value) (n:Nat),Vals xs its ∧ h.get? a = some { cls:=.type "list",data:=.seq its.toArray n }
 | .tup xs=>xs.length ≤ sizeLine ∧ ∃ its:List Value,Vals xs its ∧ IsTup h a its.toArray
 | .dK kvs=>kvs.length ≤ sizeLine ∧ (a == sysModules) = false ∧ ∃ vs,KV kvs vs ∧ h.DictOf (D4 P w) a vs
 | .dT kvs=>kvs.length ≤ sizeLine ∧ (a == sysModules) = false ∧ ∃ xs:List (List Key × Addr × Value),
   Paired (fun (p:List Key × V) (q:List Key × Addr × Value)=>p.1 = q.1 ∧ H q.2.1 = some (.tup (p.1.map kV)) ∧ RelV p.2 q.2.2) kvs xs ∧
   ∃ o es ep,h.get? a = some o ∧ o.ExactDict ∧ o.data = .dict es ep ∧ es.toList = xs.map (entryOfKey (tupleKind (D4 P w))) ∧ (xs.map (·.1)).Nodup
 | .set S n=>h.SetOf (intKind P w) a S n
 | .ins C dx fs=>H dx = some (.own a) ∧ fs.length ≤ 1000 ∧ dx ≠ a ∧ h.get? a = some (PySem.W.instObj C dx) ∧
   ∃ mA,h.Ns1 dx mA ∧ (∀ f,RelO (fs.lookup f) (mA f)) ∧ PySem.Within mA (fs.map (·.1))
 | .own _=>∃ o,h.get? a = some o
 | .xd fs=>∃ mA,h.Ns1 a mA ∧ ∀ f,RelO (fs.lookup f) (mA f)
 | .rng lo hi=>∃ t u v,h.get? a = some { cls:=.type "range",data:=.fields #[.int lo t,.int hi u,.int 1 v] }
 | .frz o u=>h.get? a = some o ∧ ObjOk H h a u
 | .tbl ps=>h.get? a = some { cls:=.none,data:=.fields ps }
 | .met f x=>h.get? a = some (PySem.W.methodObj (.ref f) (.ref x))
 | .ext φ=>φ h ∧ (∃ o,h.get? a = some o) ∧ ∀ h1 h2:Heap,φ h1 → (∀ o,h1.get? a = some o → h2.get? a = some o) → φ h2
noncomputable def HOk (H:Hp) (h:Heap):Prop:=∀ a o,H a = some o → ObjOk P w H h a o
end
section
variable {P:Program} {w:World} {H H':Hp} {h h':Heap} {a:Addr} {o:HO}
theorem ObjOk.lt (x:ObjOk P w H h a o):a < h.objs.size:=by
 cases o with
 | lst xs=>obtain ⟨_,_,_,_,e⟩:=x; exact Heap.lt_size e
 | tup xs=>obtain ⟨_,_,_,p⟩:=x; exact p.lt
 | dK kvs=>obtain ⟨_,_,_,_,o,_,_,e,_⟩:=x; exact Heap.lt_size e
 | dT kvs=>obtain ⟨_,_,_,_,o,_,_,e,_⟩:=x; exact Heap.lt_size e
 | set S n=>obtain ⟨o,_,_,_,e,_⟩:=x; exact Heap.lt_size e
 | ins C dx fs=>obtain ⟨_,_,_,e,_⟩:=x; exact Heap.lt_size e
 | own y=>obtain ⟨_,e⟩:=x; exact Heap.lt_size e
 | xd fs=>obtain ⟨_,⟨_,_,_,e,_⟩,_⟩:=x; exact Heap.lt_size e
 | rng lo hi=>obtain ⟨_,_,_,e⟩:=x; exact Heap.lt_size e
 | frz ob u=>obtain ⟨e,_⟩:=x; exact Heap.lt_size e
 | tbl ps=>exact Heap.lt_size (show h.get? a = some _ from x)
 | met f y=>exact Heap.lt_size (show h.get? a = some _ from x)
 | ext φ=>obtain ⟨_,⟨_,e⟩,_⟩:=x; exact Heap.lt_size e
theorem Paired.mapP {α β:Type} {F G:α → β → Prop}:∀ {l₁:List α} {l₂:List β},Paired F l₁ l₂ → (∀ a b,F a b → G a b) → Paired G l₁ l₂:=by
 intro l₁ l₂ h f
 induction h with
 | nil=>exact .nil
 | cons r t ih=>exact .cons (f _ _ r) ih
theorem ObjOk.stay (x:ObjOk P w H h a o) (k:∀ b u,(b = a ∨ H b = some (.own a)) → h.get? b = some u → h'.get? b = some u)
  (ho:∀ b,H b = some (.own a) → H' b = some (.own a)) (ht:∀ b xs,H b = some (.tup xs) → H' b = some (.tup xs)):ObjOk P w H' h' a o:=by
 induction o with
 | lst xs=>obtain ⟨z,its,n,r,e⟩:=x; exact ⟨z,its,n,r,k _ _ (.inl rfl) e⟩
 | tup xs=>obtain ⟨z,its,r,ob,e,c⟩:=x; exact ⟨z,its,r,ob,k _ _ (.inl rfl) e,c⟩
 | dK kvs=>obtain ⟨z,y,vs,r,ob,es,ep,e,c⟩:=x; exact ⟨z,y,vs,r,ob,es,ep,k _ _ (.inl rfl) e,c⟩
 | dT kvs=>
  obtain ⟨z,y,xs,r,ob,es,ep,e,c⟩:=x
  exact ⟨z,y,xs,Paired.mapP r fun p q z=>⟨z.1,ht _ _ z.2.1,z.2.2⟩,ob,es,ep,k _ _ (.inl rfl) e,c⟩
 | set S n=>obtain ⟨ob,es,ep,t,e,c⟩:=x; exact ⟨ob,es,ep,t,k _ _ (.inl rfl) e,c⟩
 | ins C dx fs=>
  obtain ⟨d,z,ne,e,mA,⟨od,es,ep,e2,c⟩,r⟩:=x
  exact ⟨ho _ d,z,ne,k _ _ (.inl rfl) e,mA,⟨od,es,ep,k _ _ (.inr d) e2,c⟩,r⟩
 | own y=>obtain ⟨ob,e⟩:=x; exact ⟨ob,k _ _ (.inl rfl) e⟩
 | xd fs=>obtain ⟨mA,⟨od,es,ep,e,c⟩,r⟩:=x; exact ⟨mA,⟨od,es,ep,k _ _ (.inl rfl) e,c⟩,r⟩
 | rng lo hi=>obtain ⟨t,u,v,e⟩:=x; exact ⟨t,u,v,k _ _ (.inl rfl) e⟩
 | frz ob u ih=>obtain ⟨e,q⟩:=x; exact ⟨k _ _ (.inl rfl) e,ih q⟩
 | tbl ps=>
  have e:h.get? a = some { cls:=.none,data:=.fields ps }:=x
  show h'.get? a = some { cls:=.none,data:=.fields ps }
  exact k a _ (.inl rfl) e
 | met f y=>
  have e:h.get? a = some (PySem.W.methodObj (.ref f) (.ref y)):=x
  show h'.get? a = some (PySem.W.methodObj (.ref f) (.ref y))
  exact k a _ (.inl rfl) e
 | ext φ=>obtain ⟨p,⟨o,e⟩,st⟩:=x; exact ⟨st _ _ p fun o q=>k _ _ (.inl rfl) q,⟨o,k _ _ (.inl rfl) e⟩,st⟩
theorem HOk.lt (x:HOk P w H h) (e:H a = some o):a < h.objs.size:=(x a o e).lt
theorem HOk.fresh (x:HOk P w H h) (e:h.objs.size ≤ a):H a = none:=by
 cases q:H a with
 | none=>rfl
 | some u=>exact absurd (Nat.lt_of_lt_of_le (x.lt q) e) (Nat.lt_irrefl _)
theorem HOk.kept (x:HOk P w H h) (k:∀ b u,h.get? b = some u → h'.get? b = some u):HOk P w H h':=fun a o e=>
 (x a o e).stay (fun b u _ q=>k b u q) (fun _ q=>q) fun _ _ q=>q
theorem HOk.laid (x:HOk P w H h) (k:∀ b u,h.get? b = some u → h'.get? b = some u) (hp:h.objs.size ≤ a) (new:ObjOk P w (upd H a o) h' a o):HOk P w (upd H a o) h':=fun b u e=>by
 have hn:=x.fresh hp
 by_cases hb:b = a
 ·subst hb; rw [B7] at e; cases e; exact new
 ·rw [o8 hb] at e
  exact (x b u e).stay (fun c v _ q=>k c v q) (fun c q=>by rw [o8 (M3 q hn)]; exact q) fun c xs q=>by rw [o8 (M3 q hn)]; exact q
end
noncomputable def Rd (H:Hp) (a:Addr) (u:HO):Prop:=H a = some u ∨ ∃ o,H a = some (.frz o u)
theorem Rd.ok {P:Program} {w:World} {H:Hp} {h:Heap} {a:Addr} {u:HO} (r:Rd H a u) (x:HOk P w H h):ObjOk P w H h a u:=by
 rcases r with r | ⟨o,r⟩
 ·exact x a u r
 ·obtain ⟨_,q⟩:=x a _ r
  exact q
noncomputable def Mut:Option HO → Prop
 | some (.lst _)=>True
 | some (.dK _)=>True
 | some (.dT _)=>True
 | some (.set _ _)=>True
 | some (.ins _ _ _)=>True
 | some (.ext _)=>True
 | _=>False
section
variable {P:Program} {w:World} {H:Hp} {h h':Heap} {x e:Addr} {o':HO}
theorem HOk.write (ok:HOk P w H h) (mu:Mut (H x)) (he:e = x ∨ H e = some (.own x)) (k:∀ b u,b ≠ e → h.get? b = some u → h'.get? b = some u) (heo:∃ u,h'.get? e = some u)
  (new:ObjOk P w (upd H x o') h' x o'):HOk P w (upd H x o') h':=fun b u q=>by
 have nown:∀ c y,H c = some (.own y) → c ≠ x:=fun c y r z=>by subst z; rw [r] at mu; exact mu
 have ntup:∀ c xs,H c = some (.tup xs) → c ≠ x:=fun c xs r z=>by subst z; rw [r] at mu; exact mu
 by_cases hb:b = x
 ·subst hb; rw [B7] at q; cases q; exact new
 ·rw [o8 hb] at q
  by_cases hbe:b = e
  ·have q':H b = some (.own x):=by
    rcases he with z | z
    ·exact absurd (hbe.trans z) hb
    ·rw [hbe]; exact z
   rw [q] at q'; cases q'
   obtain ⟨v,hv⟩:=heo
   exact ⟨v,by rw [hbe]; exact hv⟩
  ·refine (ok b u q).stay (fun c v hc r=>k c v ?_ r) (fun c r=>by rw [o8 (nown c b r)]; exact r) fun c xs r=>by rw [o8 (ntup c xs r)]; exact r
   rcases hc with rfl | hc
   ·exact hbe
   ·rintro rfl
    rcases he with z | z
    ·exact nown c b hc z
    ·rw [hc] at z; cases z; exact hb rfl
end
structure Un (fs ex:List Addr) (H H':Hp) (h h':Heap):Prop where
 keep:∀ b o,h.get? b = some o → H b = none → b ∉ fs → b ∉ ex → h'.get? b = some o
 slot:∀ b o,h.get? b = some o → H b = none → b ∈ fs → b ∉ ex → ∃ sl,h'.get? b = some { o with slots:=sl }
 free:∀ b o,h.get? b = some o → H b = none → b ∉ ex → H' b = none
 there:∀ b o,h.get? b = some o → b ∉ ex → ∃ o',h'.get? b = some o'
 tups:∀ b xs,H b = some (.tup xs) → H' b = some (.tup xs)
 frzs:∀ b o u,H b = some (.frz o u) → H' b = some (.frz o u)
 tbls:∀ b ps,H b = some (.tbl ps) → ∃ more,H' b = some (.tbl (ps ++ more))
section
variable {fs fs' ex ex':List Addr} {H H1 H2:Hp} {h h1 h2 h':Heap} {a x e:Addr} {o:HO}
theorem Un.any (u:Un fs ex H H1 h h1) {b:Addr} {ob:Obj} (q:h.get? b = some ob) (n:H b = none) (hx:b ∉ ex):∃ sl,h1.get? b = some { ob with slots:=sl }:=by
 by_cases hb:b ∈ fs
 ·exact u.slot b ob q n hb hx
 ·exact ⟨ob.slots,u.keep b ob q n hb hx⟩
theorem Un.kept (k:∀ b u,h.get? b = some u → h'.get? b = some u):Un fs ex H H h h':=
 ⟨fun b ob q _ _ _=>k b ob q,fun b ob q _ _ _=>⟨ob.slots,k b ob q⟩,fun _ _ _ n _=>n,fun b ob q _=>⟨ob,k b ob q⟩,fun _ _ q=>q,fun _ _ _ q=>q,fun _ ps q=>⟨#[],by rw [q]; simp⟩⟩
theorem Un.refl:Un fs ex H H h h:=Un.kept fun _ _ q=>q
theorem Un.laid (k:∀ b u,h.get? b = some u → h'.get? b = some u) (hp:h.objs.size ≤ a) (hn:H a = none):Un fs ex H (upd H a o) h h' where
 keep:=fun b u q _ _ _=>k b u q
 slot:=fun b u q _ _ _=>⟨u.slots,k b u q⟩
 free:=fun b u q n _=>by rw [o8 (Nat.ne_of_lt (Nat.lt_of_lt_of_le (Heap.lt_size q) hp))]; exact n
 there:=fun b u q _=>⟨u,k b u q⟩
 tups:=fun b xs q=>by rw [o8 (M3 q hn)]; exact q
 frzs:=fun b u xs q=>by rw [o8 (M3 q hn)]; exact q
 tbls:=fun b ps q=>⟨#[],by rw [o8 (M3 q hn),q]; simp⟩
theorem Un.write (mu:Mut (H x)) (he:e = x ∨ H e = some (.own x)) (k:∀ b u,b ≠ e → h.get? b = some u → h'.get? b = some u) (heo:∃ u,h'.get? e = some u):Un fs ex H (upd H x o) h h':=by
 have hx:∀ b,H b = none → b ≠ x:=fun b n z=>by subst z; rw [n] at mu; exact mu
 have hb:∀ b,H b = none → b ≠ e:=fun b n z=>by
  subst z
  rcases he with r | r
  ·exact hx b n r
  ·rw [n] at r; cases r
 have hm:∀ b u,H b = some u → ¬ Mut (some u) → b ≠ x:=fun b u q nm z=>by subst z; rw [q] at mu; exact nm mu
 refine ⟨fun b u q n _ _=>k b u (hb b n) q,fun b u q n _ _=>⟨u.slots,k b u (hb b n) q⟩,fun b u q n _=>by rw [o8 (hx b n)]; exact n,fun b u q _=>?_,
  fun b xs q=>by rw [o8 (hm b _ q fun z=>z)]; exact q,fun b u xs q=>by rw [o8 (hm b _ q fun z=>z)]; exact q,fun b ps q=>⟨#[],by rw [o8 (hm b _ q fun z=>z),q]; simp⟩⟩
 by_cases hbe:b = e
 ·subst hbe; exact heo
 ·exact ⟨u,k b u hbe q⟩
end
noncomputable def trk (h:Heap) (H:Hp):List Addr:=(List.range h.objs.size).filter fun a=>(H a).isSome
noncomputable def Q3 (h:Heap) (H:Hp):Heap:=PySem.W.hideAll h (trk h H)
theorem b0m (h:Heap) (H:Hp):(Q3 h H).objs.size = h.objs.size:=PySem.W.hideAll_size _ _
theorem a9V {h:Heap} {H:Hp} {b:Addr} {o:Obj} (e:h.get? b = some o) (n:H b = none):(Q3 h H).get? b = some o:=
 PySem.W.hideAll_get _ e fun hm=>by
  have q:(H b).isSome = true:=(List.mem_filter.mp hm).2
  rw [n] at q; simp at q
theorem b3u {h:Heap} {H:Hp} {b:Addr} {o:Obj} (e:(Q3 h H).get? b = some o):h.get? b = some o ∧ H b = none:=by
 have e':h.get? b = some o:=PySem.W.of_hideAll (trk h H) e
 refine ⟨e',?_⟩
 cases q:H b with
 | none=>rfl
 | some x=>
  have hm:b ∈ trk h H:=List.mem_filter.mpr ⟨List.mem_range.mpr (Heap.lt_size e'),by simp [q]⟩
  have z:(Q3 h H).get? b = none:=PySem.W.hideAll_none (trk h H) hm
  rw [z] at e; cases e
structure Mod (K:PySem.W.Frag) (mg:Str → Option Value) (base:Heap):Prop where
 kin:K.In base
 glob:base.Ns mainGlobals mg
 blt:∃ mb,base.Ns builtinsNs mb ∧ ∀ x:Str,x ≠ "__name__" → mb x = bootBuiltins x
 nolimit:base.NoLimit
structure Cx where
 prog:Program
 w:World
 K:PySem.W.Frag
 mg:Str → Option Value
 base:Heap
 A:Around
 N:List Str
 s₀:Shared
 H₀:Hp
 env:Env
 outer:List Env
 stack:List Env
 ex:List Addr
 fn:Str → Bool
 calm:Bool
 pn:List (Addr × Obj)
 xe:Value → Shared → Prop
noncomputable def frs (l:List Env):List Addr:=l.filterMap (·.frame)
noncomputable abbrev Cx.fs (X:Cx):List Addr:=frs X.outer
noncomputable def Vis (sc:Scope) (x:Str):Prop:=sc.names.lookup x = some .local ∨ sc.names.lookup x = some .cell ∨ sc.names.lookup x = some .free
noncomputable def Loc (sc:Scope) (x:Str):Prop:=sc.names.lookup x = some .local ∨ sc.names.lookup x = some .cell
noncomputable def b0T (env:Env) (h:Heap) (m:Str → Option Value) (x:Str) (u:Value):Prop:=
 (env.kindOf x = some .local ∧ m x = some u) ∨ ((env.kindOf x = some .cell ∨ env.kindOf x = some .free) ∧ ∃ c,env.cells.lookup x = some c ∧ h.IsCell c (some u))
structure Cx.Ok (X:Cx):Prop where
 mod:Mod X.K X.mg X.base
 kind:X.env.scope.kind = .function
 glob:X.env.globals = mainGlobals
 blt:X.env.builtins = builtinsNs
 above:X.s₀.heap.objs.size ≤ X.env.locals
 inj:∀ x y c,X.env.cells.lookup x = some c → X.env.cells.lookup y = some c → x = y
 has:∀ x,(X.env.kindOf x = some .cell ∨ X.env.kindOf x = some .free) → ∃ c,X.env.cells.lookup x = some c
 cab:∀ x c,X.fn x = true → X.env.cells.lookup x = some c → X.s₀.heap.objs.size ≤ c
 hd:X.calm = true → X.A.handled = none
 frames:X.A.frames = some X.stack
 stk:X.stack = X.outer ∨ (X.stack = X.env :: X.outer ∧ X.env.frame = some X.env.locals)
 exf:∀ b ∈ X.ex,b ≠ X.env.locals ∧ ∀ x c,X.env.cells.lookup x = some c → c ≠ b
 bs:∀ b o,X.base.get? b = some o → X.s₀.heap.get? b = some o ∧ X.H₀ b = none
 bsz:X.base.objs.size ≤ X.s₀.heap.objs.size
 noex:∀ b o,X.base.get? b = some o → b ∉ X.ex
 exfs:∀ b ∈ X.ex,b ∉ X.fs
 funs:X.s₀.heap.FunFrames X.base X.outer
 frf:∀ b ∈ X.fs,X.H₀ b = none
structure Inv (X:Cx) (pins:List (Addr × Obj)) (σ:List (Option V)) (H:Hp) (s:Shared):Prop where
 ok:X.Ok
 os:s.os = X.s₀.os
 bare:AllBare s.gens
 base:Un X.fs X.ex X.H₀ H X.s₀.heap s.heap
 loc:∃ m,s.heap.Ns X.env.locals m ∧ ∀ (i:Nat) (x:Str) (v:V),X.N[i]? = some x → σ[i]? = some (some v) → Vis X.env.scope x → ∃ u,RelV v u ∧ b0T X.env s.heap m x u
 cell:∀ x c,X.env.cells.lookup x = some c → ∃ v,s.heap.IsCell c v
 free:H X.env.locals = none
 freeC:∀ x c,X.env.cells.lookup x = some c → H c = none
 pin:∀ p ∈ X.pn ++ pins,s.heap.get? p.1 = some p.2 ∧ H p.1 = none ∧ p.1 ≠ X.env.locals ∧ p.1 ∉ X.fs ∧ ∀ v,p.2.data ≠ .cell v
 hok:HOk X.prog X.w H s.heap
 len:σ.length = X.N.length
section
variable {X:Cx} {pins:List (Addr × Obj)} {σ:List (Option V)} {H H':Hp} {s:Shared} {h':Heap}
theorem Cx.Ok.nofr (ok:X.Ok) {b:Addr} {o:Obj} (e:X.base.get? b = some o):b ∉ X.fs:=fun hb=>by
 have:=(ok.funs.mem hb).1
 rw [e] at this; cases this
theorem Inv.bs (I:Inv X pins σ H s):∀ b o,X.base.get? b = some o → s.heap.get? b = some o ∧ H b = none:=fun b o e=>
 ⟨I.base.keep b o (I.ok.bs b o e).1 (I.ok.bs b o e).2 (I.ok.nofr e) (I.ok.noex b o e),I.base.free b o (I.ok.bs b o e).1 (I.ok.bs b o e).2 (I.ok.noex b o e)⟩
theorem Inv.bk (I:Inv X pins σ H s):∀ b o,X.base.get? b = some o → s.heap.get? b = some o:=fun b o e=>(I.bs b o e).1
theorem Inv.mod (I:Inv X pins σ H s):Mod X.K X.mg X.base:=I.ok.mod
theorem Inv.kIn (I:Inv X pins σ H s):X.K.In s.heap:=I.ok.mod.kin.keeps I.bk
theorem Inv.lt (I:Inv X pins σ H s):X.env.locals < s.heap.objs.size:=let ⟨_,hn,_⟩:=I.loc; hn.lt
theorem Inv.sz (I:Inv X pins σ H s):X.s₀.heap.objs.size ≤ s.heap.objs.size:=Nat.le_trans I.ok.above (Nat.le_of_lt I.lt)
theorem Inv.nofs (I:Inv X pins σ H s) {a:Addr} (h:s.heap.objs.size ≤ a):a ∉ X.fs:=fun hb=>by
 obtain ⟨_,o,ho,_⟩:=I.ok.funs.mem hb
 exact absurd (Nat.lt_of_lt_of_le (Heap.lt_size ho) (Nat.le_trans I.sz h)) (Nat.lt_irrefl _)
theorem Inv.cne (I:Inv X pins σ H s):∀ x c,X.env.cells.lookup x = some c → c ≠ X.env.locals:=fun x c e z=>by
 obtain ⟨v,o,ho,hd⟩:=I.cell x c e
 obtain ⟨m,⟨o',es,ep,ho',hd',_⟩,_⟩:=I.loc
 rw [z,ho'] at ho; cases ho; rw [hd'] at hd; cases hd
theorem Inv.funs (I:Inv X pins σ H s):s.heap.FunFrames X.base X.outer:=by
 have all:∀ (l:List Env),(∀ b ∈ frs l,b ∈ X.fs) → X.s₀.heap.FunFrames X.base l → s.heap.FunFrames X.base l:=by
  intro l
  induction l with
  | nil=>intro _ _; trivial
  | cons env r ih=>
   intro hs hl
   obtain ⟨hk,⟨L,o,hf,hn,ho,hd⟩,hr⟩:=hl
   have hL:L ∈ X.fs:=hs L (by unfold frs; rw [List.filterMap_cons,hf]; exact List.mem_cons_self)
   obtain ⟨sl,e⟩:=I.base.slot L o ho (I.ok.frf L hL) hL fun z=>I.ok.exfs L z hL
   exact ⟨hk,⟨L,_,hf,hn,e,hd⟩,ih (fun b hb=>hs b (by unfold frs; rw [List.filterMap_cons,hf]; exact List.mem_cons_of_mem _ hb)) hr⟩
 exact all X.outer (fun _ hb=>hb) I.ok.funs
theorem Inv.stack (I:Inv X pins σ H s):s.heap.FunFrames X.base X.stack:=by
 rcases I.ok.stk with e | ⟨e,hf⟩
 ·rw [e]; exact I.funs
 ·rw [e]
  obtain ⟨m,hn,_⟩:=I.loc
  refine .cons (by rw [I.ok.kind]; decide) hf hn ?_ I.funs
  exact Heap.get?_none_of_le (Nat.le_trans I.ok.bsz I.ok.above)
theorem Inv.stkSub (I:Inv X pins σ H s):∀ b ∈ frs X.stack,b ∈ X.env.locals :: X.fs:=fun b hb=>by
 rcases I.ok.stk with e | ⟨e,hf⟩
 ·rw [e] at hb; exact List.mem_cons_of_mem _ hb
 ·rw [e] at hb
  unfold frs at hb
  rw [List.filterMap_cons,hf] at hb
  exact hb
theorem Inv.stkFree (I:Inv X pins σ H s):∀ b ∈ frs X.stack,H b = none:=fun b hb=>by
 rcases List.mem_cons.mp (I.stkSub b hb) with e | hb
 ·rw [e]; exact I.free
 ·obtain ⟨_,o,ho,_⟩:=I.ok.funs.mem hb
  exact I.base.free b o ho (I.ok.frf b hb) fun z=>I.ok.exfs b z hb
theorem Inv.step {g':Array GenState} {t':Nat} {d':Drawn} {ch:List Addr} (I:Inv X pins σ H s)
  (hch:∀ b ∈ ch,(b ∈ X.ex ∨ X.s₀.heap.objs.size ≤ b) ∧ b ≠ X.env.locals ∧ (∀ x c,X.env.cells.lookup x = some c → c ≠ b) ∧ ∀ p ∈ X.pn ++ pins,p.1 ≠ b)
  (keep:∀ b o,b ≠ X.env.locals → b ∉ X.fs → b ∉ ch → s.heap.get? b = some o → H b = none → h'.get? b = some o)
  (slot:∀ b o,b ≠ X.env.locals → b ∈ X.fs → b ∉ ch → s.heap.get? b = some o → H b = none → ∃ sl,h'.get? b = some { o with slots:=sl }) (free:∀ b o,b ∉ ch → s.heap.get? b = some o → H b = none → H' b = none)
  (there:∀ b o,b ∉ ch → s.heap.get? b = some o → ∃ o',h'.get? b = some o')
  (tups:∀ b xs,H b = some (.tup xs) → H' b = some (.tup xs)) (frzs:∀ b o u,H b = some (.frz o u) → H' b = some (.frz o u)) (tbls:∀ b ps,H b = some (.tbl ps) → ∃ more,H' b = some (.tbl (ps ++ more)))
  (ns:∀ m,s.heap.Ns X.env.locals m → h'.Ns X.env.locals m) (hok:HOk X.prog X.w H' h') (hg:AllBare g') :
  Inv X pins σ H' { s with heap:=h',gens:=g',drawn:=d',toks:=t' }:=by
 have neL:∀ b o,X.s₀.heap.get? b = some o → b ≠ X.env.locals:=fun b o e=>Nat.ne_of_lt (Nat.lt_of_lt_of_le (Heap.lt_size e) I.ok.above)
 have neC:∀ b o,X.s₀.heap.get? b = some o → b ∉ X.ex → b ∉ ch:=fun b o e hx hb=>by
  rcases (hch b hb).1 with z | z
  ·exact hx z
  ·exact absurd (Nat.lt_of_lt_of_le (Heap.lt_size e) z) (Nat.lt_irrefl _)
 have cellK:∀ x c,X.env.cells.lookup x = some c → ∀ v,s.heap.IsCell c v → h'.IsCell c v:=fun x c e v hQ__=>by
  obtain ⟨o,ho,hd⟩:=hQ__
  have nch:c ∉ ch:=fun z=>(hch c z).2.2.1 x c e rfl
  by_cases hc:c ∈ X.fs
  ·obtain ⟨sl,q⟩:=slot c o (I.cne x c e) hc nch ho (I.freeC x c e)
   exact ⟨_,q,hd⟩
  ·exact ⟨o,keep c o (I.cne x c e) hc nch ho (I.freeC x c e),hd⟩
 refine ⟨I.ok,I.os,hg,⟨fun b o e n hb hx=>?_,fun b o e n hb hx=>?_,fun b o e n hx=>?_,fun b o e hx=>?_,fun b xs e=>tups b xs (I.base.tups b xs e),fun b o xs e=>frzs b o xs (I.base.frzs b o xs e),fun b ps e=>?_⟩,?_,fun x c e=>?_,?_,fun x c e=>?_,fun p hp=>?_,hok,I.len⟩
 ·exact keep b o (neL b o e) hb (neC b o e hx) (I.base.keep b o e n hb hx) (I.base.free b o e n hx)
 ·obtain ⟨sl,e1⟩:=I.base.slot b o e n hb hx
  obtain ⟨sl',e2⟩:=slot b _ (neL b o e) hb (neC b o e hx) e1 (I.base.free b o e n hx)
  exact ⟨sl',e2⟩
 ·obtain ⟨o',e1⟩:=I.base.there b o e hx
  exact free b o' (neC b o e hx) e1 (I.base.free b o e n hx)
 ·obtain ⟨o',e1⟩:=I.base.there b o e hx
  exact there b o' (neC b o e hx) e1
 ·obtain ⟨m1,e1⟩:=I.base.tbls b ps e
  obtain ⟨m2,e2⟩:=tbls b _ e1
  exact ⟨m1 ++ m2,by rw [e2,Array.append_assoc]⟩
 ·obtain ⟨m,hn,hl⟩:=I.loc
  refine ⟨m,ns m hn,fun i x v e1 e2 e3=>?_⟩
  obtain ⟨u,r,l⟩:=hl i x v e1 e2 e3
  refine ⟨u,r,?_⟩
  rcases l with l | ⟨k,c,e,z⟩
  ·exact .inl l
  ·exact .inr ⟨k,c,e,cellK x c e _ z⟩
 ·obtain ⟨v,z⟩:=I.cell x c e
  exact ⟨v,cellK x c e v z⟩
 ·obtain ⟨m,⟨o,_,_,ho,_⟩,_⟩:=I.loc
  exact free _ o (fun z=>(hch _ z).2.1 rfl) ho I.free
 ·obtain ⟨v,o,ho,hd⟩:=I.cell x c e
  exact free c o (fun z=>(hch c z).2.2.1 x c e rfl) ho (I.freeC x c e)
 ·obtain ⟨e,n,ne,nf,d⟩:=I.pin p hp
  have nch:p.1 ∉ ch:=fun z=>(hch p.1 z).2.2.2 p hp rfl
  exact ⟨keep p.1 p.2 ne nf nch e n,free p.1 p.2 nch e n,ne,nf,d⟩
theorem Inv.un {t':Nat} (I:Inv X pins σ H s) (u:Un X.fs [] H H' s.heap h') (hok:HOk X.prog X.w H' h'):Inv X pins σ H' { s with heap:=h',toks:=t' }:=by
 obtain ⟨m,⟨o,es,ep,ho,r⟩,_⟩:=id I.loc
 obtain ⟨sl,hL⟩:=u.any ho I.free (by simp)
 exact I.step (g':=s.gens) (d':=s.drawn) (ch:=[]) (fun _ z=>nomatch z) (fun b o _ hb _ e n=>u.keep b o e n hb (by simp)) (fun b o _ hb _ e n=>u.slot b o e n hb (by simp)) (fun b o _ e n=>u.free b o e n (by simp)) (fun b o _ e=>u.there b o e (by simp)) u.tups u.frzs u.tbls (fun m' hm=>by
  obtain ⟨o',es',ep',ho',r'⟩:=hm
  rw [ho] at ho'; cases ho'
  exact ⟨_,es',ep',hL,r'⟩) hok I.bare
theorem Inv.call {g':Array GenState} {t':Nat} {d':Drawn} {ch:List Addr} (I:Inv X pins σ H s) (u:Un (frs X.stack) ch H H' s.heap h') (hok:HOk X.prog X.w H' h') (hg:AllBare g')
  (hch:∀ b ∈ ch,(b ∈ X.ex ∨ X.s₀.heap.objs.size ≤ b) ∧ b ≠ X.env.locals ∧ (∀ x c,X.env.cells.lookup x = some c → c ≠ b) ∧ ∀ p ∈ X.pn ++ pins,p.1 ≠ b) :
  Inv X pins σ H' { s with heap:=h',gens:=g',drawn:=d',toks:=t' }:=by
 obtain ⟨m,⟨o,es,ep,ho,r⟩,_⟩:=id I.loc
 obtain ⟨sl,hL⟩:=u.any ho I.free fun z=>(hch _ z).2.1 rfl
 exact I.step (ch:=ch) hch (fun b o hL hb hc e n=>u.keep b o e n (fun z=>(List.mem_cons.mp (I.stkSub b z)).elim hL hb) hc) (fun b o _ _ hc e n=>u.any e n hc) (fun b o hc e n=>u.free b o e n hc) (fun b o hc e=>u.there b o e hc) u.tups u.frzs u.tbls (fun m' hm=>by
  obtain ⟨o',es',ep',ho',r'⟩:=hm
  rw [ho] at ho'; cases ho'
  exact ⟨_,es',ep',hL,r'⟩) hok hg
theorem Inv.turned {t':Nat} {it:Addr} (I:Inv X pins σ H s) (k:∀ b o,b ≠ it → s.heap.get? b = some o → h'.get? b = some o) (hn:H it = none) (hL:it ≠ X.env.locals)
  (h1:it ∈ X.ex ∨ X.s₀.heap.objs.size ≤ it) (h2:∀ x c,X.env.cells.lookup x = some c → c ≠ it) (h3:∀ p ∈ X.pn ++ pins,p.1 ≠ it):Inv X pins σ H { s with heap:=h',toks:=t' }:=by
 have nit:∀ b u,H b = some u → b ≠ it:=fun b u e z=>by rw [z,hn] at e; cases e
 refine I.step (g':=s.gens) (d':=s.drawn) (ch:=[it]) (fun b hb=>?_) (fun b o _ _ hc e _=>k b o (fun z=>hc (by simp [z])) e) (fun b o _ _ hc e _=>⟨o.slots,k b o (fun z=>hc (by simp [z])) e⟩) (fun _ _ _ _ n=>n)
  (fun b o hc e=>⟨o,k b o (fun z=>hc (by simp [z])) e⟩) (fun _ _ e=>e) (fun _ _ _ e=>e) (fun b ps e=>⟨#[],by rw [e]; simp⟩) (fun m hm=>?_) (fun b u e=>?_) I.bare
 ·have e:b = it:=by simpa using hb
  subst e
  exact ⟨h1,hL,h2,h3⟩
 ·obtain ⟨o,es,ep,ho,r⟩:=hm
  exact ⟨o,es,ep,k _ o (Ne.symm hL) ho,r⟩
 ·refine (I.hok b u e).stay (fun c v hc q=>k c v ?_ q) (fun _ q=>q) fun _ _ q=>q
  rcases hc with z | z
  ·rw [z]; exact nit b u e
  ·exact nit c _ z
theorem Inv.tok (I:Inv X pins σ H s) (t:Nat):Inv X pins σ H { s with toks:=t }:=I.un (h':=s.heap) (t':=t) Un.refl I.hok
theorem Inv.kept {t':Nat} (I:Inv X pins σ H s) (k:∀ b u,s.heap.get? b = some u → h'.get? b = some u):Inv X pins σ H { s with heap:=h',toks:=t' }:=I.un (Un.kept k) (I.hok.kept k)
theorem Inv.laid {a:Addr} {o:HO} {t':Nat} (I:Inv X pins σ H s) (k:∀ b u,s.heap.get? b = some u → h'.get? b = some u) (hp:s.heap.objs.size ≤ a) (new:ObjOk X.prog X.w (upd H a o) h' a o) :
  Inv X pins σ (upd H a o) { s with heap:=h',toks:=t' }:=I.un (Un.laid k hp (I.hok.fresh hp)) (I.hok.laid k hp new)
theorem Inv.write {x e:Addr} {o:HO} {t':Nat} (I:Inv X pins σ H s) (mu:Mut (H x)) (he:e = x ∨ H e = some (.own x)) (k:∀ b u,b ≠ e → s.heap.get? b = some u → h'.get? b = some u) (heo:∃ u,h'.get? e = some u)
  (new:ObjOk X.prog X.w (upd H x o) h' x o):Inv X pins σ (upd H x o) { s with heap:=h',toks:=t' }:=I.un (Un.write mu he k heo) (I.hok.write mu he k heo new)
theorem Inv.weak {σ':List (Option V)} (I:Inv X pins σ H s) (hl:σ'.length = σ.length) (w:∀ (i:Nat) v,σ'[i]? = some (some v) → σ[i]? = some (some v)):Inv X pins σ' H s:=
 ⟨I.ok,I.os,I.bare,I.base,let ⟨m,hn,hl'⟩:=I.loc; ⟨m,hn,fun i x v e1 e2 e3=>hl' i x v e1 (w i v e2) e3⟩,I.cell,I.free,I.freeC,I.pin,I.hok,hl.trans I.len⟩
theorem Inv.pins_of {pins':List (Addr × Obj)} (I:Inv X pins σ H s) (h:∀ p ∈ pins',s.heap.get? p.1 = some p.2 ∧ H p.1 = none ∧ p.1 ≠ X.env.locals ∧ p.1 ∉ X.fs ∧ ∀ v,p.2.data ≠ .cell v):Inv X pins' σ H s:=
 ⟨I.ok,I.os,I.bare,I.base,I.loc,I.cell,I.free,I.freeC,fun p hp=>(List.mem_append.mp hp).elim (fun z=>I.pin p (List.mem_append_left _ z)) (h p),I.hok,I.len⟩
theorem a71 {N:List Str} (hN:N.Nodup) {i j:Nat} {x:Str} (a:N[i]? = some x) (b:N[j]? = some x):i = j:=by
 obtain ⟨h1,e1⟩:=List.getElem?_eq_some_iff.mp a
 obtain ⟨h2,e2⟩:=List.getElem?_eq_some_iff.mp b
 exact (List.getElem_inj hN).mp (e1.trans e2.symm)
theorem b0M {M:Model} {A:Around} {E:Value → Shared → Prop} {i:Nat} {x:Str} {v:V} {u:Value} {Q:Unit → Shared → Prop} (I:Inv X pins σ H s) (hN:X.N.Nodup) (hi:X.N[i]? = some x) (hx:Loc X.env.scope x) (r:RelV v u)
  (h:∀ s',Inv X pins (σ.set i (some v)) H s' → (∃ a,Heap.SameBut a s.heap s'.heap ∧ (a = X.env.locals ∨ X.env.cells.lookup x = some a)) → Q () s') (hf:X.fn x = true ∨ X.env.scope.names.lookup x = some .local:=by first | exact .inl rfl | exact .inr rfl | assumption):wpAny M A (storeName X.env x u) Q E s:=by
 obtain ⟨m,hn,hl⟩:=id I.loc
 have hcls:(X.env.scope.kind == .class || (X.env.scope.kind == .module && X.env.locals != X.env.globals)) = false:=by rw [I.ok.kind]; rfl
 have hiσ:i < σ.length:=by rw [I.len]; exact (List.getElem?_eq_some_iff.mp hi).1
 have cne:=I.cne
 have tracked:∀ {a:Addr} {h':Heap},(∃ o,s.heap.get? a = some o ∧ H a = none) → Heap.SameBut a s.heap h' → HOk X.prog X.w H h':=fun {a h'} ha hs b ob e=>by
  obtain ⟨_,_,hfree⟩:=ha
  refine (I.hok b ob e).stay (fun c w' hc q=>(hs.2 c ?_).trans q) (fun _ q=>q) fun _ _ q=>q
  rintro rfl
  rcases hc with rfl | hc
  ·rw [hfree] at e; cases e
  ·rw [hfree] at hc; cases hc
 rcases hx with hk | hk
 ·refine wpAny_storeName_local hk hn (fun h' hn' hs=>?_) hcls
  obtain ⟨oL,_,_,hoL,_⟩:=id hn
  refine h _ ⟨I.ok,I.os,I.bare,⟨fun b o e n hb hx=>?_,fun b o e n hb hx=>?_,I.base.free,fun b o e hx=>?_,I.base.tups,I.base.frzs,I.base.tbls⟩,⟨_,hn',fun j y v' e1 e2 e3=>?_⟩,fun y c e=>?_,I.free,I.freeC,fun p hp=>?_,tracked ⟨oL,hoL,I.free⟩ hs,by simpa using I.len⟩ ⟨_,hs,.inl rfl⟩
  ·exact (hs.2 b (Nat.ne_of_lt (Nat.lt_of_lt_of_le (Heap.lt_size e) I.ok.above))).trans (I.base.keep b o e n hb hx)
  ·obtain ⟨sl,e1⟩:=I.base.slot b o e n hb hx
   exact ⟨sl,(hs.2 b (Nat.ne_of_lt (Nat.lt_of_lt_of_le (Heap.lt_size e) I.ok.above))).trans e1⟩
  ·obtain ⟨o',e1⟩:=I.base.there b o e hx
   exact ⟨o',(hs.2 b (Nat.ne_of_lt (Nat.lt_of_lt_of_le (Heap.lt_size e) I.ok.above))).trans e1⟩
  ·by_cases hj:j = i
   ·subst hj
    rw [hi] at e1; cases e1
    rw [List.getElem?_set_self hiσ] at e2
    cases e2
    exact ⟨u,r,.inl ⟨hk,by simp⟩⟩
   ·rw [List.getElem?_set_ne (Ne.symm hj)] at e2
    obtain ⟨u',r',q⟩:=hl j y v' e1 e2 e3
    refine ⟨u',r',?_⟩
    rcases q with ⟨k,e⟩ | ⟨k,c,e,z⟩
    ·refine .inl ⟨k,?_⟩
     have:y ≠ x:=fun e=>hj (a71 hN e1 (e ▸ hi))
     simp [this,e]
    ·exact .inr ⟨k,c,e,z.sameBut hs (cne y c e)⟩
  ·obtain ⟨w',z⟩:=I.cell y c e
   exact ⟨w',z.sameBut hs (cne y c e)⟩
  ·obtain ⟨e,n,ne,nf,d⟩:=I.pin p hp
   exact ⟨(hs.2 p.1 ne).trans e,n,ne,nf,d⟩
 ·have hfn:X.fn x = true:=by
   rcases hf with z | z
   ·exact z
   ·rw [z] at hk; cases hk
  obtain ⟨c,hc⟩:=I.ok.has x (.inl hk)
  obtain ⟨w',z⟩:=I.cell x c hc
  refine wpAny_storeName_cell I.ok.kind hk hc z (fun h' hc' hs=>?_)
  obtain ⟨oc,hoc,hocd⟩:=id z
  refine h { s with heap:=h' } ⟨I.ok,I.os,I.bare,⟨fun b o e n hb hx=>?_,fun b o e n hb hx=>?_,I.base.free,fun b o e hx=>?_,I.base.tups,I.base.frzs,I.base.tbls⟩,⟨m,hn.sameBut hs (Ne.symm (cne x c hc)),fun j y v' e1 e2 e3=>?_⟩,fun y c' e=>?_,I.free,I.freeC,fun p hp=>?_,tracked ⟨oc,hoc,I.freeC x c hc⟩ hs,by simpa using I.len⟩ ⟨c,hs,.inr hc⟩
  ·exact (hs.2 b (Nat.ne_of_lt (Nat.lt_of_lt_of_le (Heap.lt_size e) (I.ok.cab x c hfn hc)))).trans (I.base.keep b o e n hb hx)
  ·obtain ⟨sl,e1⟩:=I.base.slot b o e n hb hx
   exact ⟨sl,(hs.2 b (Nat.ne_of_lt (Nat.lt_of_lt_of_le (Heap.lt_size e) (I.ok.cab x c hfn hc)))).trans e1⟩
  ·obtain ⟨o',e1⟩:=I.base.there b o e hx
   exact ⟨o',(hs.2 b (Nat.ne_of_lt (Nat.lt_of_lt_of_le (Heap.lt_size e) (I.ok.cab x c hfn hc)))).trans e1⟩
  ·by_cases hj:j = i
   ·subst hj
    rw [hi] at e1; cases e1
    rw [List.getElem?_set_self hiσ] at e2
    cases e2
    exact ⟨u,r,.inr ⟨.inl hk,c,hc,hc'⟩⟩
   ·rw [List.getElem?_set_ne (Ne.symm hj)] at e2
    obtain ⟨u',r',q⟩:=hl j y v' e1 e2 e3
    refine ⟨u',r',?_⟩
    rcases q with q | ⟨k,c',e,z'⟩
    ·exact .inl q
    ·refine .inr ⟨k,c',e,z'.sameBut hs ?_⟩
     rintro rfl
     exact hj (a71 hN e1 (I.ok.inj _ _ _ e hc ▸ hi))
  ·by_cases hcc:c' = c
   ·subst hcc; exact ⟨_,hc'⟩
   ·obtain ⟨w2,z2⟩:=I.cell y c' e
    exact ⟨w2,z2.sameBut hs hcc⟩
  ·obtain ⟨e,n,ne,nf,d⟩:=I.pin p hp
   refine ⟨(hs.2 p.1 ?_).trans e,n,ne,nf,d⟩
   intro q
   rw [q,hoc] at e
   have q':oc = p.2:=Option.some.inj e
   exact d w' (by rw [← q']; exact hocd)
theorem a1l {M:Model} {A:Around} {E:Value → Shared → Prop} {i:Nat} {x:Str} {v:V} {u:Value} {Q:Unit → Shared → Prop} (I:Inv X pins σ H s) (hN:X.N.Nodup) (hi:X.N[i]? = some x) (hx:Loc X.env.scope x) (r:RelV v u)
  (h:∀ s',Inv X pins (σ.set i (some v)) H s' → Q () s') (hf:X.fn x = true ∨ X.env.scope.names.lookup x = some .local:=by first | exact .inl rfl | exact .inr rfl | assumption):wpAny M A (storeName X.env x u) Q E s:=
 b0M I hN hi hx r (fun s' I' _=>h s' I') hf
theorem Inv.call' {s':Shared} {ch:List Addr} (I:Inv X pins σ H s) (ho:s'.os = s.os) (u:Un (frs X.stack) ch H H' s.heap s'.heap) (hok:HOk X.prog X.w H' s'.heap) (hg:AllBare s'.gens)
  (hch:∀ b ∈ ch,(b ∈ X.ex ∨ X.s₀.heap.objs.size ≤ b) ∧ b ≠ X.env.locals ∧ (∀ x c,X.env.cells.lookup x = some c → c ≠ b) ∧ ∀ p ∈ X.pn ++ pins,p.1 ≠ b):Inv X pins σ H' s':=by
 obtain ⟨h',g',d',t',o'⟩:=s'
 have e:o' = s.os:=ho
 subst e
 exact I.call (g':=g') (t':=t') (d':=d') u hok hg hch
end
noncomputable abbrev XK:=Value → Option Addr → Hp → Prop
noncomputable abbrev St:=List (Option V)
noncomputable abbrev VK:=V → Hp → Prop
noncomputable abbrev TE:=St → Hp → VK → Prop
noncomputable abbrev TT:=St → Hp → (Bool → Hp → Prop) → Prop
noncomputable abbrev TA:=St → Hp → (List V → Hp → Prop) → Prop
structure Ends where
 nx:St → Hp → Prop
 rt:VK
 bk:St → Hp → Prop:=fun _ _=>False
 ct:St → Hp → Prop:=fun _ _=>False
noncomputable abbrev TS:=Ends → St → Hp → Prop
noncomputable def EP (X:Cx) (pins:List (Addr × Obj)) (σ:St) (Q:VK) (u:Value) (s':Shared):Prop:=∃ v H',Inv X pins σ H' s' ∧ RelV v u ∧ Q v H'
noncomputable def TP (X:Cx) (pins:List (Addr × Obj)) (σ:St) (Q:Bool → Hp → Prop) (b:Bool) (s':Shared):Prop:=∃ H',Inv X pins σ H' s' ∧ Q b H'
noncomputable def AP (X:Cx) (pins:List (Addr × Obj)) (σ:St) (Q:List V → Hp → Prop) (us:List Value) (s':Shared):Prop:=∃ vs H',Inv X pins σ H' s' ∧ Vals vs us ∧ Q vs H'
noncomputable def SP (X:Cx) (pins:List (Addr × Obj)) (D:Ends) (f:Flow) (s':Shared):Prop:=
 match f with
 | .next=>∃ σ' H',Inv X pins σ' H' s' ∧ D.nx σ' H'
 | .brk=>∃ σ' H',Inv X pins σ' H' s' ∧ D.bk σ' H'
 | .cont=>∃ σ' H',Inv X pins σ' H' s' ∧ D.ct σ' H'
 | .ret u=>∃ v σ' H',Inv X pins σ' H' s' ∧ RelV v u ∧ D.rt v H'
noncomputable def PE (X:Cx) (e:Expr) (t:TE):Prop:=
 ∀ (pins:List (Addr × Obj)) (s:Shared) (σ:St) (H:Hp) (Q:VK),Inv X pins σ H s → t σ H Q → wpAny (model X.prog X.w) X.A (eval e X.env) (EP X pins σ Q) X.xe s
noncomputable def PT (X:Cx) (e:Expr) (t:TT):Prop:=
 ∀ (pins:List (Addr × Obj)) (s:Shared) (σ:St) (H:Hp) (Q:Bool → Hp → Prop),Inv X pins σ H s → t σ H Q → wpAny (model X.prog X.w) X.A (isTrue e X.env (eval e X.env)) (TP X pins σ Q) X.xe s
noncomputable def PW (X:Cx) (e:Expr) (t:TT):Prop:=
 ∀ (whole:Sem Value) (pins:List (Addr × Obj)) (s:Shared) (σ:St) (H:Hp) (Q:Bool → Hp → Prop),Inv X pins σ H s → t σ H Q → wpAny (model X.prog X.w) X.A (isTrue e X.env whole) (TP X pins σ Q) X.xe s
theorem PW.pt {X:Cx} {e:Expr} {t:TT} (h:PW X e t):PT X e t:=h _
noncomputable def PA (X:Cx) (es:List Expr) (t:TA):Prop:=
 ∀ (pos:Pos) (pins:List (Addr × Obj)) (s:Shared) (σ:St) (H:Hp) (Q:List V → Hp → Prop),Inv X pins σ H s → t σ H Q → wpAny (model X.prog X.w) X.A (spliced (backTo pos (starEach es X.env))) (AP X pins σ Q) X.xe s
noncomputable def PS (X:Cx) (st:Stmt) (t:TS):Prop:=
 ∀ (pins:List (Addr × Obj)) (s:Shared) (σ:St) (H:Hp) (D:Ends),Inv X pins σ H s → t D σ H → wpAny (model X.prog X.w) X.A (exec st X.env) (SP X pins D) X.xe s
noncomputable def PSs (X:Cx) (st:List Stmt) (t:TS):Prop:=
 ∀ (pins:List (Addr × Obj)) (s:Shared) (σ:St) (H:Hp) (D:Ends),Inv X pins σ H s → t D σ H → wpAny (model X.prog X.w) X.A (execs st X.env) (SP X pins D) X.xe s
theorem thn {α:Type} {t:Sem α} {Q Q':α → Shared → Prop} {M:Model} {A:Around} {E:Value → Shared → Prop} {s:Shared} (h:wpAny M A t Q E s) (hQ:∀ a s,Q a s → Q' a s):wpAny M A t Q' E s:=wpAny_mono h hQ fun _ _ x=>x
section
variable {X:Cx}
noncomputable def G6 (i:Nat):TE:=fun σ H Q=>∃ v,σ[i]? = some (some v) ∧ Q v H
noncomputable def tC (v:V):TE:=fun _ H Q=>Q v H
theorem a9N {i:Nat} {x:Str} {pos:Pos} (hN:X.N[i]? = some x) (hv:Vis X.env.scope x) (hd:(x == ("__debug__" : Str)) = false:=by decide) (hcd:(x == ("__classdict__" : Str)) = false:=by decide):PE X (.Name x pos) (G6 i):=by
 intro pins s σ H Q I h
 obtain ⟨v,e,h⟩:=h
 obtain ⟨m,hn,hl⟩:=I.loc
 obtain ⟨u,r,l⟩:=hl i x v hN e hv
 have fin:EP X pins σ Q u s:=⟨v,H,I,r,h⟩
 rcases l with ⟨hk,hm⟩ | ⟨hk,c,hc,hcell⟩
 ·exact wpAny_Name (wpAny_loadName_local I.ok.kind hk hn hm fin) hd
 ·rcases hk with hk | hk
  ·exact wpAny_Name (wpAny_loadName_cell I.ok.kind hk hc hcell fin) hd
  ·exact wpAny_Name (wpAny_loadName_free I.ok.kind hk hc hcell fin hcd) hd
theorem a0Y {i j pos}:PE X (.Constant (.int i) j pos) (tC (.int i)):=fun _ _ _ H _ I h=>wpAny_Constant_int ⟨.int i,H,I.tok _,⟨_,rfl⟩,h⟩
theorem a7T {b j pos}:PE X (.Constant (.bool b) j pos) (tC (.bl b)):=fun _ _ _ H _ I h=>Constant_bool ⟨.bl b,H,I,rfl,h⟩
theorem b4i {j pos}:PE X (.Constant .none j pos) (tC .non):=fun _ _ _ H _ I h=>Constant_none ⟨.non,H,I,rfl,h⟩
theorem a0e {x j pos}:PE X (.Constant (.str x) j pos) (tC (.str x)):=fun _ _ _ H _ I h=>Calls.Constant_str ⟨.str x,H,I.tok _,⟨_,rfl⟩,h⟩
noncomputable def Gl (X:Cx) (x:Str):Prop:=X.env.kindOf x = some .globalImplicit
theorem a7E {E:Value → Shared → Prop} {pins:List (Addr × Obj)} {s:Shared} {σ:St} {H:Hp} {x:Str} {u:Value} {pos:Pos} {Q:Value → Shared → Prop} (I:Inv X pins σ H s) (hg:Gl X x) (hm:X.mg x = some u) (h:Q u s)
  (hd:(x == ("__debug__" : Str)) = false:=by decide):wpAny (model X.prog X.w) X.A (eval (.Name x pos) X.env) Q E s:=
 Calls.Name_function_global I.ok.kind hg (Calls.loadGlobal_global (by rw [I.ok.glob]; exact I.mod.glob.keeps I.bk) hm h) hd
theorem S4 {E:Value → Shared → Prop} {pins:List (Addr × Obj)} {s:Shared} {σ:St} {H:Hp} {x:Str} {u:Value} {pos:Pos} {Q:Value → Shared → Prop} (I:Inv X pins σ H s) (hg:Gl X x) (hm:X.mg x = none) (hv:bootBuiltins x = some u) (h:Q u s)
  (hn:x ≠ "__name__" := by decide) (hd:(x == ("__debug__" : Str)) = false:=by decide):wpAny (model X.prog X.w) X.A (eval (.Name x pos) X.env) Q E s:=by
 obtain ⟨mb,h1,h2⟩:=I.mod.blt
 exact Calls.Name_function_global I.ok.kind hg (Calls.loadGlobal_builtin (by rw [I.ok.glob]; exact I.mod.glob.keeps I.bk) hm (by rw [I.ok.blt]; exact h1.keeps I.bk) ((h2 x hn).trans hv) h) hd
theorem b5k {x:Str} {v:V} {u:Value} {pos:Pos} (hg:Gl X x) (hm:X.mg x = some u) (r:RelV v u) (hd:(x == ("__debug__" : Str)) = false:=by decide):PE X (.Name x pos) (tC v):=
 fun _ _ _ H _ I h=>a7E I hg hm ⟨v,H,I,r,h⟩ hd
variable {a b:Expr} {ta tb:TE} {pos:Pos}
variable {tA tB':TT} {rest:List Expr}
noncomputable def b5r (t u:TT):TT:=fun σ H Q=>t σ H fun c H1=>if c = true then u σ H1 Q else Q false H1
noncomputable def tOr (t u:TT):TT:=fun σ H Q=>t σ H fun c H1=>if c = true then Q true H1 else u σ H1 Q
theorem b2w (ha:PT X a tA):PW X (.BoolOp .And [a] pos) tA:=by
 intro wh pins s σ H Q I h
 refine isTrue_and (thn (ha pins s σ H Q I h) fun c s1 e=>?_)
 cases c with
 | true=>exact isTrue_and_nil e
 | false=>exact e
theorem b4X (ha:PT X a tA):PW X (.BoolOp .Or [a] pos) tA:=by
 intro wh pins s σ H Q I h
 refine isTrue_or (thn (ha pins s σ H Q I h) fun c s1 e=>?_)
 cases c with
 | false=>exact isTrue_or_nil e
 | true=>exact e
theorem b6b (ha:PT X a tA) (hb:PW X (.BoolOp .And (b :: rest) pos) tB'):PW X (.BoolOp .And (a :: b :: rest) pos) (b5r tA tB'):=by
 intro wh pins s σ H Q I h
 refine isTrue_and (thn (ha pins s σ H _ I h) fun c s1 ⟨H1,I1,q1⟩=>?_)
 cases c with
 | true=>exact hb wh pins s1 σ H1 Q I1 q1
 | false=>exact ⟨H1,I1,q1⟩
theorem b3N (ha:PT X a tA) (hb:PW X (.BoolOp .Or (b :: rest) pos) tB'):PW X (.BoolOp .Or (a :: b :: rest) pos) (tOr tA tB'):=by
 intro wh pins s σ H Q I h
 refine isTrue_or (thn (ha pins s σ H _ I h) fun c s1 ⟨H1,I1,q1⟩=>?_)
 cases c with
 | true=>exact ⟨H1,I1,q1⟩
 | false=>exact hb wh pins s1 σ H1 Q I1 q1
noncomputable def b3h (ta tb:TE):TE:=fun σ H Q=>ta σ H fun x H1=>∃ c,x = .bl c ∧ if c = true then tb σ H1 Q else Q (.bl false) H1
noncomputable def b3f (ta tb:TE):TE:=fun σ H Q=>ta σ H fun x H1=>∃ c,x = .bl c ∧ if c = true then Q (.bl true) H1 else tb σ H1 Q
theorem b3i {op} {t:TE} (h:PE X a t):PE X (.BoolOp op [a] pos) t:=fun pins s σ H Q I hw=>BoolOp_one (h pins s σ H Q I hw)
theorem b0t (ha:PE X a ta) (hb:PE X (.BoolOp .And (b :: rest) pos) tb):PE X (.BoolOp .And (a :: b :: rest) pos) (b3h ta tb):=by
 intro pins s σ H Q I h
 refine BoolOp_and (thn (ha pins s σ H _ I h) fun v s1 ⟨x,H1,I1,r1,q1⟩=>?_)
 obtain ⟨c,rfl,q1⟩:=q1
 cases r1
 refine wpAny_truthy_bool ?_
 cases c with
 | true=>exact hb pins s1 σ H1 Q I1 q1
 | false=>exact ⟨.bl false,H1,I1,rfl,q1⟩
theorem b1L (ha:PE X a ta) (hb:PE X (.BoolOp .Or (b :: rest) pos) tb):PE X (.BoolOp .Or (a :: b :: rest) pos) (b3f ta tb):=by
 intro pins s σ H Q I h
 refine BoolOp_or (thn (ha pins s σ H _ I h) fun v s1 ⟨x,H1,I1,r1,q1⟩=>?_)
 obtain ⟨c,rfl,q1⟩:=q1
 cases r1
 refine wpAny_truthy_bool ?_
 cases c with
 | false=>exact hb pins s1 σ H1 Q I1 q1
 | true=>exact ⟨.bl true,H1,I1,rfl,q1⟩
noncomputable def tIf (t:TT) (ta tb:TE):TE:=fun σ H Q=>t σ H fun c H1=>if c = true then ta σ H1 Q else tb σ H1 Q
theorem b1O {c:Expr} (hc:PT X c tA) (ha:PE X a ta) (hb:PE X b tb):PE X (.IfExp c a b pos) (tIf tA ta tb):=by
 intro pins s σ H Q I h
 refine wpAny_IfExp (thn (hc pins s σ H _ I h) fun d s1 ⟨H1,I1,q1⟩=>?_)
 cases d with
 | true=>exact ha pins s1 σ H1 Q I1 q1
 | false=>exact hb pins s1 σ H1 Q I1 q1
end
noncomputable def SqL (K:PySem.W.Frag) (H:Hp) (a:Addr) (xs:List V):Prop:=
 Rd H a (.lst xs) ∨
  ∃ (o:Obj) (its:Array Value) (n:Nat),K.lookup a = some o ∧ o.cls = .type "list" ∧ o.dict = none ∧ o.data = .seq its n ∧ its.size ≤ sizeLine ∧ Vals xs its.toList
noncomputable def SqT (K:PySem.W.Frag) (H:Hp) (a:Addr) (xs:List V):Prop:=
 Rd H a (.tup xs) ∨
  ∃ (o:Obj) (its:Array Value) (n:Nat),K.lookup a = some o ∧ o.cls = .type "tuple" ∧ o.data = .seq its n ∧ its.size ≤ sizeLine ∧ Vals xs its.toList
noncomputable def b47:Value → Option V
 | .none=>some .non
 | .bool b=>some (.bl b)
 | .int i _=>some (.int i)
 | .str x _=>some (.str x)
 | .bytes b _=>some (.byt b)
 | .float b _=>some (.flt b)
 | .ref a=>some (.ref a)
 | .type n=>some (.ty n)
 | _=>none
theorem RelV.abs {x:V} {u:Value} (r:RelV x u):b47 u = some x:=by
 cases x with
 | non=>cases r; rfl
 | bl _=>cases r; rfl
 | int _=>obtain ⟨t,rfl⟩:=r; rfl
 | str _=>obtain ⟨t,rfl⟩:=r; rfl
 | byt _=>obtain ⟨t,rfl⟩:=r; rfl
 | flt _=>obtain ⟨t,rfl⟩:=r; rfl
 | ref _=>cases r; rfl
 | ty _=>cases r; rfl
theorem RelV.inj {x y:V} {u:Value} (r:RelV x u) (q:RelV y u):x = y:=Option.some.inj (r.abs.symm.trans q.abs)
theorem Vals.inj:∀ {xs ys:List V} {us:List Value},Vals xs us → Vals ys us → xs = ys:=by
 intro xs ys us h
 induction h generalizing ys with
 | nil=>
  intro h2
  cases h2
  rfl
 | cons r t ih=>
  intro h2
  cases h2 with
  | cons r' t'=>rw [r.inj r',ih t']
section
variable {X:Cx} {pins:List (Addr × Obj)} {σ:St} {H:Hp} {s:Shared} {a:Addr} {xs ys:List V}
theorem SqL.of {K:PySem.W.Frag} (h:H a = some (.lst xs)):SqL K H a xs:=.inl (.inl h)
theorem SqT.of {K:PySem.W.Frag} (h:H a = some (.tup xs)):SqT K H a xs:=.inl (.inl h)
theorem Inv.list (I:Inv X pins σ H s) (h:SqL X.K H a xs):∃ its:List Value,Vals xs its ∧ PlainL s.heap a its.toArray ∧ xs.length ≤ sizeLine:=by
 rcases h with h | ⟨o,its,n,hk,hc,hd,hs,hz,r⟩
 ·obtain ⟨z,its,n,r,e⟩:=h.ok I.hok
  exact ⟨its,r,⟨_,n,e,rfl,rfl,rfl⟩,z⟩
 ·refine ⟨its.toList,r,⟨o,n,I.kIn a o hk,hc,hd,by simpa using hs⟩,?_⟩
  have e:=r.length
  simp only [Array.length_toList] at e
  omega
theorem Inv.tuple (I:Inv X pins σ H s) (h:SqT X.K H a xs):∃ its:List Value,Vals xs its ∧ IsTup s.heap a its.toArray ∧ xs.length ≤ sizeLine:=by
 rcases h with h | ⟨o,its,n,hk,hc,hs,hz,r⟩
 ·obtain ⟨z,its,r,p⟩:=h.ok I.hok
  exact ⟨its,r,p,z⟩
 ·refine ⟨its.toList,r,⟨o,I.kIn a o hk,hc,n,by simpa using hs⟩,?_⟩
  have e:=r.length
  simp only [Array.length_toList] at e
  omega
theorem Inv.list_inj (I:Inv X pins σ H s) (h:SqL X.K H a xs) (h':SqL X.K H a ys):xs = ys:=by
 obtain ⟨its,r,⟨o,n,e,_,_,d⟩,_⟩:=I.list h
 obtain ⟨its',r',⟨o',n',e',_,_,d'⟩,_⟩:=I.list h'
 rw [e] at e'; cases e'
 rw [d] at d'
 injection d' with d1 _
 have:its = its':=by simpa using congrArg Array.toList d1
 subst this
 exact r.inj r'
theorem Inv.tuple_inj (I:Inv X pins σ H s) (h:SqT X.K H a xs) (h':SqT X.K H a ys):xs = ys:=by
 obtain ⟨its,r,⟨o,e,_,n,d⟩,_⟩:=I.tuple h
 obtain ⟨its',r',⟨o',e',_,n',d'⟩,_⟩:=I.tuple h'
 rw [e] at e'; cases e'
 rw [d] at d'
 injection d' with d1 _
 have:its = its':=by simpa using congrArg Array.toList d1
 subst this
 exact r.inj r'
end
noncomputable abbrev Cx.wish (X:Cx) (E:Value → Shared → Prop):Cx:={ X with xe:=E }
noncomputable abbrev Cx.nox (X:Cx):Cx:=X.wish fun _ _=>False
theorem Cx.Ok.wish {X:Cx} (ok:X.Ok) (E:Value → Shared → Prop):(X.wish E).Ok:=
 ⟨ok.mod,ok.kind,ok.glob,ok.blt,ok.above,ok.inj,ok.has,ok.cab,ok.hd,ok.frames,ok.stk,ok.exf,ok.bs,ok.bsz,ok.noex,ok.exfs,ok.funs,ok.frf⟩
theorem Cx.Ok.unwish {X:Cx} {E:Value → Shared → Prop} (ok:(X.wish E).Ok):X.Ok:=
 ⟨ok.mod,ok.kind,ok.glob,ok.blt,ok.above,ok.inj,ok.has,ok.cab,ok.hd,ok.frames,ok.stk,ok.exf,ok.bs,ok.bsz,ok.noex,ok.exfs,ok.funs,ok.frf⟩
section
variable {X:Cx} {pins:List (Addr × Obj)} {σ:St} {H:Hp} {s:Shared} {E:Value → Shared → Prop}
theorem Inv.wish (I:Inv X pins σ H s) (E:Value → Shared → Prop):Inv (X.wish E) pins σ H s:=⟨I.ok.wish E,I.os,I.bare,I.base,I.loc,I.cell,I.free,I.freeC,I.pin,I.hok,I.len⟩
theorem Inv.unwish (I:Inv (X.wish E) pins σ H s):Inv X pins σ H s:=⟨I.ok.unwish,I.os,I.bare,I.base,I.loc,I.cell,I.free,I.freeC,I.pin,I.hok,I.len⟩
theorem SP.unwish {D:Ends} {f:Flow} {s':Shared} (h:SP (X.wish E) pins D f s'):SP X pins D f s':=by
 cases f with
 | next=>obtain ⟨σ',H',I,q⟩:=h; exact ⟨σ',H',I.unwish,q⟩
 | brk=>obtain ⟨σ',H',I,q⟩:=h; exact ⟨σ',H',I.unwish,q⟩
 | cont=>obtain ⟨σ',H',I,q⟩:=h; exact ⟨σ',H',I.unwish,q⟩
 | ret u=>obtain ⟨v,σ',H',I,r,q⟩:=h; exact ⟨v,σ',H',I.unwish,r,q⟩
theorem PSs.nox {st:List Stmt} {t:TS} (h:PSs X.nox st t):PSs X st t:=fun pins s σ H D I hw=>
 wpAny_mono (h pins s σ H D (I.wish _) hw) (fun _ _ q=>q.unwish) fun _ _ z=>False.elim z
end
section
variable {X:Cx} {st:Stmt} {rest:List Stmt} {t u:TS} {e:Expr} {te:TE} {pos:Pos}
noncomputable def b2a:TS:=fun D σ H=>D.nx σ H
noncomputable def a6H (t u:TS):TS:=fun D σ H=>t { D with nx:=u D } σ H
theorem a9M:PSs X [] b2a:=fun _ _ σ H _ I h=>wpAny_execs_nil ⟨σ,H,I,h⟩
theorem a1X (h1:PS X st t) (h2:PSs X rest u):PSs X (st :: rest) (a6H t u):=by
 intro pins s σ H D I h
 refine wpAny_execs_cons (thn (h1 pins s σ H { D with nx:=u D } I h) fun f s1 q=>?_)
 cases f with
 | next=>
  obtain ⟨σ',H',I',q⟩:=q
  exact h2 pins s1 σ' H' D I' q
 | ret v=>exact q
 | brk=>exact q
 | cont=>exact q
theorem a7o (h1:PS X st t):PSs X [st] t:=by
 intro pins s σ H D I h
 refine wpAny_execs_cons (thn (h1 pins s σ H D I h) fun f s1 q=>?_)
 cases f with
 | next=>exact wpAny_execs_nil q
 | ret v=>exact q
 | brk=>exact q
 | cont=>exact q
theorem Inv.quiet {pins:List (Addr × Obj)} {σ:St} {H:Hp} {s:Shared} (I:Inv X pins σ H s):interactive X.env = false:=by simp [interactive,I.ok.kind]
noncomputable def b4q (te:TE):TS:=fun D σ H=>te σ H fun _ H1=>D.nx σ H1
theorem a7n (he:PE X e te) (hs:swapsWith e none pos.line X.env = pure false:=by rfl):PS X (.Expr e pos) (b4q te):=by
 intro pins s σ H D I h
 exact wpAny_Expr_any (thn (he pins s σ H _ I h) fun v s1 ⟨x,H1,I1,r1,q1⟩=>⟨σ,H1,I1,q1⟩) I.quiet hs
noncomputable def a9W (te:TE):TS:=fun D σ H=>te σ H D.rt
theorem b3g (he:PE X e te):PS X (.Return (some e) pos) (a9W te):=by
 intro pins s σ H D I h
 exact wpAny_Return_some (thn (he pins s σ H _ I h) fun v s1 ⟨x,H1,I1,r1,q1⟩=>⟨x,σ,H1,I1,r1,q1⟩)
noncomputable def b4n (c:TT) (t u:TS):TS:=fun D σ H=>c σ H fun b H1=>if b = true then t D σ H1 else u D σ H1
theorem b31 {c:Expr} {a b:List Stmt} {tc:TT} (hc:PT X c tc) (ha:PSs X a t) (hb:PSs X b u):PS X (.If c a b pos) (b4n tc t u):=by
 intro pins s σ H D I h
 refine wpAny_If (thn (hc pins s σ H _ I h) fun d s1 ⟨H1,I1,q1⟩=>?_)
 cases d with
 | true=>exact ha pins s1 σ H1 D I1 q1
 | false=>exact hb pins s1 σ H1 D I1 q1
end
noncomputable abbrev TG:=V → St → Hp → (St → Hp → Prop) → Prop
noncomputable abbrev TGs:=List V → St → Hp → (St → Hp → Prop) → Prop
noncomputable def PG (X:Cx) (target:Expr) (t:TG):Prop:=
 ∀ (pins:List (Addr × Obj)) (s:Shared) (σ:St) (H:Hp) (v:V) (u:Value) (Q:St → Hp → Prop),Inv X pins σ H s → RelV v u → t v σ H Q →
  wpAny (model X.prog X.w) X.A (assign target X.env u) (fun _ s'=>∃ σ' H',Inv X pins σ' H' s' ∧ Q σ' H') X.xe s
noncomputable def PGs (X:Cx) (ts:List Expr) (t:TGs):Prop:=
 ∀ (pins:List (Addr × Obj)) (s:Shared) (σ:St) (H:Hp) (vs:List V) (us:List Value) (Q:St → Hp → Prop),Inv X pins σ H s → Vals vs us → t vs σ H Q →
  wpAny (model X.prog X.w) X.A (assignInOrder ((assignEach ts X.env).map (·.2)) us) (fun _ s'=>∃ σ' H',Inv X pins σ' H' s' ∧ Q σ' H') X.xe s
section
variable {X:Cx} {pos:Pos}
noncomputable def L4 (i:Nat):TG:=fun v σ H Q=>Q (σ.set i (some v)) H
theorem A3 {i:Nat} {x:Str} (hN:X.N.Nodup) (hi:X.N[i]? = some x) (hx:Loc X.env.scope x) (hf:X.fn x = true ∨ X.env.scope.names.lookup x = some .local:=by first | exact .inl rfl | exact .inr rfl | assumption):PG X (.Name x pos) (L4 i):=by
 intro pins s σ H v u Q I r h
 exact wpAny_assign_Name (a1l I hN hi hx r (fun s' I'=>⟨_,H,I',h⟩) hf)
noncomputable def a6T:TGs:=fun vs σ H Q=>vs = [] ∧ Q σ H
noncomputable def a4B (t:TG) (u:TGs):TGs:=fun vs σ H Q=>∃ v r,vs = v :: r ∧ t v σ H fun σ' H'=>u r σ' H' Q
theorem a7P:PGs X [] a6T:=by
 intro pins s σ H vs us Q I r h
 obtain ⟨e,h⟩:=h
 subst e
 cases r
 exact assignInOrder_nil ⟨σ,H,I,h⟩
theorem a4w {e:Expr} {es:List Expr} {t:TG} {u:TGs} (h1:PG X e t) (h2:PGs X es u)
  (hs:(assignEach (e :: es) X.env).map (·.2) = assign e X.env :: (assignEach es X.env).map (·.2):=by rfl):PGs X (e :: es) (a4B t u):=by
 intro pins s σ H vs us Q I r h
 obtain ⟨v,vr,e1,h⟩:=h
 subst e1
 cases r with
 | cons r rr=>
  rw [hs]
  refine assignInOrder_cons (thn (h1 pins s σ H _ _ _ I r h) fun _ s1 ⟨σ1,H1,I1,q1⟩=>?_)
  exact h2 pins s1 σ1 H1 _ _ Q I1 rr q1
noncomputable def a9t (K:PySem.W.Frag) (n:Nat) (t:TGs):TG:=fun v σ H Q=>∃ a xs,v = .ref a ∧ SqT K H a xs ∧ xs.length = n ∧ t xs σ H Q
theorem a6i {es:List Expr} {k:Nat} {t:TGs} {n:Nat} (hc:X.calm = true) (h:PGs X es t)
  (hn:(assignEach es X.env).length = n:=by rfl) (hst:(assignEach es X.env).findIdx? (·.1) = none:=by rfl):PG X (.Tuple es k pos) (a9t X.K n t):=by
 intro pins s σ H v u Q I r hw
 obtain ⟨a,xs,e1,hq,hl,hw⟩:=hw
 subst e1
 cases r
 obtain ⟨its,rv,ht,hz⟩:=I.tuple hq
 refine assign_Tuple_tuple (I.ok.hd hc) ht (by simp [hn,← hl,rv.length]) hst fun h' hx=>?_
 have I1:Inv X pins σ H { s with heap:=h' }:=I.kept (t':=s.toks) fun b o e=>hx b o (Nat.ne_of_lt (Heap.lt_size e)) e
 exact h pins _ σ H xs _ Q I1 (by simpa using rv) hw
noncomputable def a0d (te:TE) (g:TG):TS:=fun D σ H=>te σ H fun x H1=>g x σ H1 D.nx
theorem b51 {tg e:Expr} {te:TE} {g:TG} (he:PE X e te) (hg:PG X tg g) (hs:swapsWithSole [tg] e pos.line X.env = pure false:=by rfl) (hw:swappedStores [tg] e X.env = pure none:=by rfl)
  (h1:(assignEach [tg] X.env).map (·.2) = [assign tg X.env]:=by rfl):PS X (.Assign [tg] e pos) (a0d te g):=by
 intro pins s σ H D I h
 refine wpAny_Assign_stores (thn (he pins s σ H _ I h) fun v s1 ⟨x,H1,I1,r1,q1⟩=>?_) hs hw
 rw [h1]
 exact thn (hg pins s1 σ H1 x v _ I1 r1 q1) fun _ s2 q=>q
theorem a1s {i:Nat} {x:Str} {e:Expr} {te:TE} {pos':Pos} (hN:X.N.Nodup) (hi:X.N[i]? = some x) (hx:Loc X.env.scope x) (he:PE X e te) (hs:swapsWith e (some (.Name x pos')) pos.line X.env = pure false:=by rfl) (hf:X.fn x = true ∨ X.env.scope.names.lookup x = some .local:=by first | exact .inl rfl | exact .inr rfl | assumption) :
  PS X (.Assign [.Name x pos'] e pos) (a0d te (L4 i)):=by
 intro pins s σ H D I h
 refine wpAny_Assign_Name (thn (he pins s σ H _ I h) fun v s1 ⟨y,H1,I1,r1,q1⟩=>?_) hs
 exact a1l I1 hN hi hx r1 (fun s2 I2=>⟨_,H1,I2,q1⟩) hf
noncomputable def b5R (i j:Nat) (ta:TA):TS:=fun D σ H=>ta σ H fun vs H1=>∃ v w,vs = [v,w] ∧ D.nx ((σ.set i (some v)).set j (some w)) H1
theorem b0R {i j:Nat} {x y:Str} {a b:Expr} {ta:TA} {px py pt:Pos} {kt k2 pt2} (hc:X.calm = true) (hN:X.N.Nodup) (hi:X.N[i]? = some x) (hj:X.N[j]? = some y) (hij:i ≠ j)
  (hx:X.env.scope.names.lookup x = some .local) (hy:X.env.scope.names.lookup y = some .local) (ha:PA X [a,b] ta)
  (hw:swappedStores [.Tuple [.Name x px,.Name y py] kt pt] (.Tuple [a,b] k2 pt2) X.env = pure (some [x,y]))
  (hs:swapsWithSole [.Tuple [.Name x px,.Name y py] kt pt] (.Tuple [a,b] k2 pt2) pos.line X.env = pure false:=by rfl) :
  PS X (.Assign [.Tuple [.Name x px,.Name y py] kt pt] (.Tuple [a,b] k2 pt2) pos) (b5R i j ta):=by
 intro pins s σ H D I h
 rw [exec_Assign_arm]
 refine wpAny_bind (wpAny_standAt ?_)
 rw [hs]
 refine wpAny_bind (wpAny_pure ?_)
 rw [if_neg (by decide)]
 refine wpAny_bind (Tuple_ (thn (ha _ pins s σ H _ I h) fun us s1 ⟨vs,H1,I1,r1,q1⟩=>?_))
 obtain ⟨v,w,e1,q1⟩:=q1
 subst e1
 obtain ⟨u1,u2,rfl,rv,rw'⟩:∃ u1 u2,us = [u1,u2] ∧ RelV v u1 ∧ RelV w u2:=by
  cases r1 with
  | cons p q=>
   cases q with
   | cons p' q'=>
    cases q'
    exact ⟨_,_,rfl,p,p'⟩
 refine wpAny_newObj_type ?_ (by show 2 ≤ sizeLine; decide)
 have I2:Inv X pins σ H1 { s1 with heap:=s1.heap.push { cls:=.type "tuple",data:=.seq [u1,u2].toArray } }:=I1.kept (t':=s1.toks) fun b o e=>Heap.get?_push_of_some _ e
 rw [hw]
 refine wpAny_bind (wpAny_pure ?_)
 show wpAny (model X.prog X.w) X.A (do rule "assign.swapped-stores"; let items ← unpackItems (.ref s1.heap.objs.size) 2 none; assignInOrder [fun v=>bindName X.env y v,fun v=>bindName X.env x v] items.reverse; pure Flow.next) _ _ _
 refine wpAny_bind (wpAny_rule (wpAny_bind (unpackItems_tuple (items:=#[u1,u2]) (I.ok.hd hc) (IsTup.new s1.heap _) fun h' hx'=>?_)))
 have I3:=I2.kept (h':=h') (t':=s1.toks) fun b o e=>hx' b o (Nat.ne_of_lt (Heap.lt_size e)) e
 show wpAny _ _ (assignInOrder [fun v=>bindName X.env y v,fun v=>bindName X.env x v] [u2,u1] >>= fun _=>pure Flow.next) _ _ _
 refine wpAny_bind (assignInOrder_cons (wpAny_bindName (a1l I3 hN hj (.inl hy) rw' (fun s2 I4=>?_) (.inr hy))))
 refine assignInOrder_cons (wpAny_bindName (a1l I4 hN hi (.inl hx) rv (fun s3 I5=>assignInOrder_nil (wpAny_pure ?_)) (.inr hx)))
 rw [List.set_comm _ _ (Ne.symm hij)] at I5
 exact ⟨_,H1,I5,q1⟩
end
section
variable {X:Cx} {pos:Pos}
noncomputable def b0i (c:TT) (tb:TS):TS:=fun D σ H=>∃ W:Nat → St → Hp → Prop,(∃ m,W m σ H) ∧ ∀ m σ H,W m σ H →
 c σ H fun b H1=>if b = true then ∃ N:St → Hp → Prop,(∀ σ' H',N σ' H' → ∃ m',m' < m ∧ W m' σ' H') ∧ tb { D with nx:=N,ct:=N,bk:=D.nx } σ H1 else D.nx σ H1
theorem a91 {c:Expr} {body:List Stmt} {tc:TT} {tb:TS} (hp:PassesOwn (model X.prog X.w) X.A X.env X.xe) (hc:PT X c tc) (hb:PSs X body tb):PS X (.While c body [] pos) (b0i tc tb):=by
 intro pins s σ H D I h
 obtain ⟨W,⟨m0,w0⟩,turn⟩:=h
 refine wpAny_While (codeAny_whileLoop (fun n s'=>∃ σ' H',Inv X pins σ' H' s' ∧ W n σ' H') ?_ m0 ⟨σ,H,I,w0⟩)
 rintro n s1 ⟨σ1,H1,I1,w1⟩
 refine wpAny_passesOwn hp (thn (hc pins s1 σ1 H1 _ I1 (turn n σ1 H1 w1)) fun b s2 ⟨H2,I2,q2⟩=>?_)
 cases b with
 | true=>
  obtain ⟨N,hN,q2⟩:=q2
  rw [if_pos rfl]
  refine wpAny_passesOwn hp (thn (hb pins s2 σ1 H2 _ I2 q2) fun f s3 q3=>?_)
  cases f with
  | next=>
   obtain ⟨σ3,H3,I3,n3⟩:=q3
   obtain ⟨m',hm,w3⟩:=hN σ3 H3 n3
   exact ⟨m',hm,σ3,H3,I3,w3⟩
  | cont=>
   obtain ⟨σ3,H3,I3,n3⟩:=q3
   obtain ⟨m',hm,w3⟩:=hN σ3 H3 n3
   exact ⟨m',hm,σ3,H3,I3,w3⟩
  | brk=>exact q3
  | ret v=>exact q3
 | false=>
  rw [if_neg Bool.false_ne_true]
  exact wpAny_execs_nil ⟨σ1,H2,I2,q2⟩
end
structure It where
 go:Nat → Hp → Prop
 yld:Nat → Hp → V → Hp → Prop
 stop:Nat → Hp → Prop
noncomputable def Q6 (X:Cx) (pins:List (Addr × Obj)) (H:Hp) (b:Addr):Prop:=
 H b = none ∧ b ≠ X.env.locals ∧ b ∉ X.fs ∧ (b ∈ X.ex ∨ X.s₀.heap.objs.size ≤ b) ∧ (∀ x c,X.env.cells.lookup x = some c → c ≠ b) ∧ ∀ p ∈ X.pn ++ pins,p.1 ≠ b
theorem Inv.fpOk {X:Cx} {pins:List (Addr × Obj)} {σ:St} {H H':Hp} {s:Shared} {b:Addr} (I:Inv X pins σ H s) (hb:s.heap.objs.size ≤ b) (hn:H' b = none):Q6 X pins H' b:=by
 refine ⟨hn,Nat.ne_of_gt (Nat.lt_of_lt_of_le I.lt hb),I.nofs hb,.inr (Nat.le_trans I.sz hb),fun x c e z=>?_,fun p hp z=>?_⟩
 ·obtain ⟨v,q⟩:=I.cell x c e
  exact absurd (Nat.lt_of_lt_of_le q.lt (by rw [z]; exact hb)) (Nat.lt_irrefl _)
 ·exact absurd (Nat.lt_of_lt_of_le (Heap.lt_size (I.pin p hp).1) (by rw [z]; exact hb)) (Nat.lt_irrefl _)
structure Turn (P:Program) (w:World) (K:PySem.W.Frag) (tg:Expr) (J:It) (fp:List Addr) (it:Addr) (tn:Nat → Heap → Prop):Prop where
 mem:it ∈ fp
 obj:∀ i h,tn i h → ∀ b ∈ fp,∃ o,h.get? b = some o ∧ ∀ v,o.data ≠ .cell v
 keep:∀ i h h',tn i h → (∀ b ∈ fp,∀ o,h.get? b = some o → h'.get? b = some o) → tn i h'
 item:∀ (X:Cx),X.prog = P → X.w = w → X.K = K → X.calm = true → ∀ (i:Nat) (pins:List (Addr × Obj)) (s:Shared) (σ:St) (H:Hp) (E:Value → Shared → Prop),Inv X pins σ H s → (∀ b ∈ fp,Q6 X pins H b) → tn i s.heap → J.go i H →
  wpAny (model P w) X.A (pyNext (.ref it)) (fun r s1=>∃ u,r = some u ∧
   wpAny (model P w) X.A (letOwnedTupleGo tg (.ref it) u) (fun _ s2=>∃ x H',Inv X pins σ H' s2 ∧ RelV x u ∧ J.yld i H x H' ∧ tn (i + 1) s2.heap ∧ ∀ b ∈ fp,H' b = none) E s1) E s
 done:∀ (X:Cx),X.prog = P → X.w = w → X.K = K → X.calm = true → ∀ (i:Nat) (pins:List (Addr × Obj)) (s:Shared) (σ:St) (H:Hp) (E:Value → Shared → Prop),Inv X pins σ H s → (∀ b ∈ fp,Q6 X pins H b) → tn i s.heap → J.stop i H →
  wpAny (model P w) X.A (pyNext (.ref it)) (fun r s1=>r = none ∧ Inv X pins σ H s1) E s
 self:∀ (A:Around) (i:Nat) (s:Shared) (Q:Value → Shared → Prop) (E:Value → Shared → Prop),tn i s.heap → Q (.ref it) s → wpAny (model P w) A (pyIter (.ref it)) Q E s
noncomputable abbrev TI:=St → Hp → (It → Hp → Prop) → Prop
noncomputable def PIE (X:Cx) (pins:List (Addr × Obj)) (σ:St) (tg:Expr) (R:It → Hp → Prop) (itv:Value) (s2:Shared):Prop:=
 ∃ (it:Addr) (fp:List Addr) (tn:Nat → Heap → Prop) (J:It) (H':Hp),itv = .ref it ∧ Inv X pins σ H' s2 ∧ Turn X.prog X.w X.K tg J fp it tn ∧ tn 0 s2.heap ∧ (∀ b ∈ fp,Q6 X pins H' b) ∧ R J H'
noncomputable def PI (X:Cx) (tg iter:Expr) (wi:TI):Prop:=
 ∀ (pins:List (Addr × Obj)) (s:Shared) (σ:St) (H:Hp) (R:It → Hp → Prop),Inv X pins σ H s → wi σ H R →
  wpAny (model X.prog X.w) X.A (eval iter X.env) (fun v s1=>wpAny (model X.prog X.w) X.A (pyIter v) (PIE X pins σ tg R) X.xe s1) X.xe s
theorem a5a {M:Model} {A:Around} {E:Value → Shared → Prop} {s:Shared} {tg:Expr} {it:Addr} {u:Value} {o:Obj} {n:String} {vs:Array Value} {Q:Unit → Shared → Prop} (ho:s.heap.get? it = some o) (hc:o.cls = .type n) (hd:o.data = .fields vs)
    (hn:["enumerate", "zip", "dict_itemiterator", "dict_reverseitemiterator", "odict_iterator", "itertools.zip_longest", "itertools.pairwise"].contains n = false) (hQ:Q () s):wpAny M A (letOwnedTupleGo tg (.ref it) u) Q E s:=by
  unfold letOwnedTupleGo
  cases tg <;> first
    | exact wpAny_pure hQ
    | (cases u <;> first
        | exact wpAny_pure hQ
        | (refine wpAny_bind (wpAny_load ho ?_)
           rw [hc,hd]
           show wpAny M A (if (["enumerate", "zip", "dict_itemiterator", "dict_reverseitemiterator", "odict_iterator", "itertools.zip_longest", "itertools.pairwise"].contains n && vs[0]? == some (rawInt _)) = true then _ else _) Q E s
           rw [if_neg (by intro h; rw [hn,Bool.false_and] at h; cases h)]
           exact wpAny_pure hQ))
noncomputable def Itl (K:PySem.W.Frag) (a:Addr):It:=
 ⟨fun i H=>∃ xs x,SqL K H a xs ∧ xs[i]? = some x,fun i H x H'=>H' = H ∧ ∀ xs,SqL K H a xs → xs[i]? = some x,fun i H=>∃ xs,SqL K H a xs ∧ xs.length ≤ i⟩
noncomputable def Itt (K:PySem.W.Frag) (a:Addr):It:=
 ⟨fun i H=>∃ xs x,SqT K H a xs ∧ xs[i]? = some x,fun i H x H'=>H' = H ∧ ∀ xs,SqT K H a xs → xs[i]? = some x,fun i H=>∃ xs,SqT K H a xs ∧ xs.length ≤ i⟩
noncomputable def Itr (lo:Int) (n:Nat):It:=⟨fun i _=>i < n,fun i H x H'=>H' = H ∧ x = .int (lo + i),fun i _=>n ≤ i⟩
theorem b1Z {P:Program} {w:World} {K:PySem.W.Frag} {tg:Expr} (a it:Addr):Turn P w K tg (Itl K a) [it] it (fun i h=>h.IsListIter it a i) where
 mem:=by simp
 obj:=fun i h st b hb=>by
  have e:b = it:=by simpa using hb
  subst e
  obtain ⟨o,e,c,d⟩:=st
  exact ⟨o,e,fun v z=>by rw [d] at z; cases z⟩
 keep:=fun i h h' st k=>st.at fun o e=>k it (by simp) o e
 item:=by
  intro X hP hw hK hc i pins s σ H E I hf st hg
  subst hP hw hK
  obtain ⟨xs,x,hq,hx⟩:=hg
  obtain ⟨its,rv,p,hz⟩:=I.list hq
  obtain ⟨u,hu,ru⟩:=rv.get hx
  obtain ⟨f0,f1,f2,f3,f4,f5⟩:=hf it (by simp)
  refine wpAny_pyNext_list_item st p.isList (x:=u) (by simpa using hu) fun h' st' sb=>?_
  have I1:Inv X pins σ H { s with heap:=h' }:=I.turned (t':=s.toks) (fun b o hb e=>(sb.2 b hb).trans e) f0 f1 f3 f4 f5
  obtain ⟨o,e,c,d⟩:=id st'
  exact ⟨u,rfl,a5a (s:={ s with heap:=h' }) e c d (by decide) ⟨x,H,I1,ru,⟨rfl,fun ys hy=>by rw [I.list_inj hy hq]; exact hx⟩,st',fun b hb=>(hf b hb).1⟩⟩
 done:=by
  intro X hP hw hK hc i pins s σ H E I hf st hg
  subst hP hw hK
  obtain ⟨xs,hq,hx⟩:=hg
  obtain ⟨its,rv,p,hz⟩:=I.list hq
  obtain ⟨f0,f1,f2,f3,f4,f5⟩:=hf it (by simp)
  have hl:=rv.length
  exact wpAny_pyNext_list_end (I.ok.hd hc) st p.isList (by simp; omega) fun h' eb=>⟨rfl,I.turned (t':=s.toks) (fun b o hb e=>eb b o hb e) f0 f1 f3 f4 f5⟩
 self:=fun _ _ _ _ _ st h=>wpAny_pyIter_listiter st h
theorem b0B {P:Program} {w:World} {K:PySem.W.Frag} {tg:Expr} (a it:Addr):Turn P w K tg (Itt K a) [it] it (fun i h=>h.IsTupleIter it a i) where
 mem:=by simp
 obj:=fun i h st b hb=>by
  have e:b = it:=by simpa using hb
  subst e
  obtain ⟨o,e,c,d⟩:=st
  exact ⟨o,e,fun v z=>by rw [d] at z; cases z⟩
 keep:=fun i h h' st k=>st.at fun o e=>k it (by simp) o e
 item:=by
  intro X hP hw hK hc i pins s σ H E I hf st hg
  subst hP hw hK
  obtain ⟨xs,x,hq,hx⟩:=hg
  obtain ⟨its,rv,p,hz⟩:=I.tuple hq
  obtain ⟨u,hu,ru⟩:=rv.get hx
  obtain ⟨f0,f1,f2,f3,f4,f5⟩:=hf it (by simp)
  refine wpAny_pyNext_tuple_item st (show s.heap.IsTuple a its.toArray from p) (x:=u) (by simpa using hu) fun h' st' sb=>?_
  have I1:Inv X pins σ H { s with heap:=h' }:=I.turned (t':=s.toks) (fun b o hb e=>(sb.2 b hb).trans e) f0 f1 f3 f4 f5
  obtain ⟨o,e,c,d⟩:=id st'
  exact ⟨u,rfl,a5a (s:={ s with heap:=h' }) e c d (by decide) ⟨x,H,I1,ru,⟨rfl,fun ys hy=>by rw [I.tuple_inj hy hq]; exact hx⟩,st',fun b hb=>(hf b hb).1⟩⟩
 done:=by
  intro X hP hw hK hc i pins s σ H E I hf st hg
  subst hP hw hK
  obtain ⟨xs,hq,hx⟩:=hg
  obtain ⟨its,rv,p,hz⟩:=I.tuple hq
  obtain ⟨f0,f1,f2,f3,f4,f5⟩:=hf it (by simp)
  have hl:=rv.length
  exact wpAny_pyNext_tuple_end (I.ok.hd hc) st (show s.heap.IsTuple a its.toArray from p) (by simp; omega) fun h' eb=>⟨rfl,I.turned (t':=s.toks) (fun b o hb e=>eb b o hb e) f0 f1 f3 f4 f5⟩
 self:=fun _ _ _ _ _ st h=>wpAny_pyIter_tupleiter st h
theorem b4a {P:Program} {w:World} {K:PySem.W.Frag} {tg:Expr} (it:Addr) (lo:Int) (n:Nat):Turn P w K tg (Itr lo n) [it] it (fun i h=>IsRangeIter h it (lo + (i:Nat) * 1) ((n:Int) - (i:Nat)) 1) where
 mem:=by simp
 obj:=fun i h st b hb=>by
  have e:b = it:=by simpa using hb
  subst e
  exact ⟨_,st,fun v z=>by
   have z':Data.fields _ = Data.cell v:=z
   cases z'⟩
 keep:=fun i h h' st k=>k it (by simp) _ st
 item:=by
  intro X hP hw hK hc i pins s σ H E I hf st hg
  subst hP hw hK
  obtain ⟨f0,f1,f2,f3,f4,f5⟩:=hf it (by simp)
  have W:=Walks.range (prog:=X.prog) (w:=X.w) (I.ok.hd hc) it lo 1 n
  refine W.item i s _ _ hg st fun v h' tk hv st' kk=>?_
  obtain ⟨t,rfl⟩:=hv
  have I1:Inv X pins σ H { s with heap:=h',toks:=tk }:=I.turned (fun b o hb e=>kk b o (by simpa using hb) e) f0 f1 f3 f4 f5
  refine ⟨_,rfl,a5a (s:={ s with heap:=h',toks:=tk }) (n := "range_iterator") st' rfl rfl (by decide) ⟨.int (lo + i),H,I1,⟨t,?_⟩,⟨rfl,rfl⟩,st',fun b hb=>(hf b hb).1⟩⟩
  rw [Int.mul_one]
 done:=by
  intro X hP hw hK hc i pins s σ H E I hf st hg
  subst hP hw hK
  obtain ⟨f0,f1,f2,f3,f4,f5⟩:=hf it (by simp)
  exact wpAny_pyNext_range_end (I.ok.hd hc) st (by have:n ≤ i:=hg; omega) fun h' eb=>⟨rfl,I.turned (t':=s.toks) (fun b o hb e=>eb b o hb e) f0 f1 f3 f4 f5⟩
 self:=fun _ _ _ _ _ st h=>wpAny_pyIter_rangeiter st h
section
variable {X:Cx} {tg:Expr}
theorem b4t {pins:List (Addr × Obj)} {σ:St} {H:Hp} {s:Shared} {R:It → Hp → Prop} {E:Value → Shared → Prop} {lo hi:Int} {t u v:Tok} {tk:Nat} (I:Inv X pins σ H s) (h1:-(2 ^ 62) ≤ lo) (h2:lo < 2 ^ 62) (h3:-(2 ^ 62) ≤ hi) (h4:hi < 2 ^ 62)
  (q:R (Itr lo (hi - lo).toNat) H):wpAny (model X.prog X.w) X.A (pyIter (.ref s.heap.objs.size)) (PIE X pins σ tg R) E { s with heap:=s.heap.push { cls:=.type "range",data:=.fields #[.int lo t,.int hi u,.int 1 v] },toks:=tk }:=by
 refine wpAny_pyIter_range (IsRange.new ..) (small_one h1 h2 h3 h4) ?_
 have I1:Inv X pins σ H { s with heap:=s.heap.push { cls:=.type "range",data:=.fields #[.int lo t,.int hi u,.int 1 v] },toks:=tk }:=I.kept fun b o e=>Heap.get?_push_of_some _ e
 refine ⟨(s.heap.push { cls:=.type "range",data:=.fields #[.int lo t,.int hi u,.int 1 v] }).objs.size,[(s.heap.push { cls:=.type "range",data:=.fields #[.int lo t,.int hi u,.int 1 v] }).objs.size],_,_,H,rfl,
  I1.kept (t':=tk) fun b o e=>Heap.get?_push_of_some _ e,b4a _ lo (hi - lo).toNat,?_,fun b hb=>?_,q⟩
 ·have e1:lo + ((0:Nat):Int) * 1 = lo:=by simp
  have e2:(((hi - lo).toNat:Nat):Int) - ((0:Nat):Int) = Builtin.Range.rangeSize lo hi 1:=by rw [rangeSize_one]; split <;> omega
  show IsRangeIter _ _ (lo + ((0:Nat):Int) * 1) ((((hi - lo).toNat:Nat):Int) - ((0:Nat):Int)) 1
  rw [e1,e2]
  exact Heap.get?_push_size _ rfl
 ·have e:b = (s.heap.push { cls:=.type "range",data:=.fields #[.int lo t,.int hi u,.int 1 v] }).objs.size:=by simpa using hb
  subst e
  exact I1.fpOk (Nat.le_refl _) (I1.hok.fresh (Nat.le_refl _))
noncomputable def b3G (ta:TA):TI:=fun σ H R=>ta σ H fun vs H1=>∃ j:Int,vs = [.int j] ∧ -(2 ^ 62) ≤ j ∧ j < 2 ^ 62 ∧ R (Itr 0 j.toNat) H1
theorem a9D {a:Expr} {ta:TA} {p pos:Pos} (hg:Gl X "range") (hm:X.mg "range" = none) (ha:PA X [a] ta) (hs:starEach [a] X.env = [(false,eval a X.env)]:=by rfl):PI X tg (.Call (.Name "range" p) [a] [] pos) (b3G ta):=by
 intro pins s σ H R I h
 refine Call_ (S4 I hg hm boot_range (PyProof.Rows.callWith_type1 (thn (ha pos pins s σ H _ I h) fun us s1 ⟨vs,H1,I1,r1,q1⟩=>?_) hs rfl))
 obtain ⟨j,e,q1,q2,q⟩:=q1
 subst e
 cases r1 with
 | cons r rr=>
  cases rr
  obtain ⟨t,rfl⟩:=r
  exact call_range_1 (b4t I1 (by omega) (by omega) q1 q2 (by simpa using q))
noncomputable def b2E (wi:TI) (g:TG) (tb:TS):TS:=fun D σ H=>wi σ H fun J H1=>∃ W:Nat → Nat → St → Hp → Prop,(∃ m,W 0 m σ H1) ∧ ∀ i m σ H,W i m σ H →
 (J.stop i H ∧ D.nx σ H) ∨ (J.go i H ∧ ∃ N:St → Hp → Prop,(∀ σ' H',N σ' H' → ∃ m',m' < m ∧ W (i + 1) m' σ' H') ∧ ∀ x H',J.yld i H x H' → g x σ H' fun σ2 H2=>tb { D with nx:=N,ct:=N,bk:=D.nx } σ2 H2)
noncomputable def a0K (fp:List Addr) (h:Heap):List (Addr × Obj):=fp.filterMap fun b=>(h.get? b).map fun o=>(b,o)
theorem a0x {fp:List Addr} {h:Heap} {b:Addr} {o:Obj} (hb:b ∈ fp) (e:h.get? b = some o):(b,o) ∈ a0K fp h:=List.mem_filterMap.mpr ⟨b,hb,by rw [e]; rfl⟩
theorem b6j {fp:List Addr} {h:Heap} {p:Addr × Obj} (hp:p ∈ a0K fp h):p.1 ∈ fp ∧ h.get? p.1 = some p.2:=by
 obtain ⟨b,hb,e⟩:=List.mem_filterMap.mp hp
 cases q:h.get? b with
 | none=>rw [q] at e; cases e
 | some o=>
  rw [q] at e
  have e':(b,o) = p:=Option.some.inj e
  subst e'
  exact ⟨hb,q⟩
theorem Inv.pinned {pins:List (Addr × Obj)} {σ:St} {H:Hp} {s:Shared} {fp:List Addr} (I:Inv X pins σ H s) (hf:∀ b ∈ fp,Q6 X pins H b) (ho:∀ b ∈ fp,∃ o,s.heap.get? b = some o ∧ ∀ v,o.data ≠ .cell v):Inv X (pins ++ a0K fp s.heap) σ H s:=
 I.pins_of fun p hp=>(List.mem_append.mp hp).elim (fun z=>I.pin p (List.mem_append_right _ z)) fun z=>by
  obtain ⟨hb,e⟩:=b6j z
  obtain ⟨f0,f1,f2,_⟩:=hf p.1 hb
  obtain ⟨o,e',d⟩:=ho p.1 hb
  rw [e] at e'; cases e'
  exact ⟨e,f0,f1,f2,d⟩
theorem Inv.unpinned {pins pl:List (Addr × Obj)} {σ:St} {H:Hp} {s:Shared} (I:Inv X (pins ++ pl) σ H s):Inv X pins σ H s:=I.pins_of fun p hp=>I.pin p (List.mem_append_right _ (List.mem_append_left _ hp))
theorem a5l {iter:Expr} {body:List Stmt} {wi:TI} {g:TG} {tb:TS} {pos:Pos} (hp:PassesOwn (model X.prog X.w) X.A X.env X.xe) (hc:X.calm = true) (hi:PI X tg iter wi) (hg:PG X tg g) (hb:PSs X body tb)
  (hs:∀ x,foldedSetIterable iter X.env x = pure x:=by intro _; rfl):PS X (.For tg iter body [] pos) (b2E wi g tb):=by
 intro pins s σ H D I h
 refine wpAny_For (thn (hi pins s σ H _ I h) fun v s1 h1=>thn h1 fun itv s2 h2=>?_) hs
 obtain ⟨it,fp,tn,J,H2,e,I2,T,st2,f2,W,⟨m0,w0⟩,turn⟩:=h2
 subst e
 have stat:∀ {H':Hp},(∀ b ∈ fp,H' b = none) → ∀ b ∈ fp,Q6 X pins H' b:=fun hn b hb=>⟨hn b hb,(f2 b hb).2⟩
 refine codeAny_forLoop_any (fun n s'=>∃ i σ' H',Inv X pins σ' H' s' ∧ tn i s'.heap ∧ (∀ b ∈ fp,H' b = none) ∧ W i n σ' H') ?_ m0 ⟨0,σ,H2,I2,st2,fun b hb=>(f2 b hb).1,w0⟩
 rintro n s3 ⟨i,σ3,H3,I3,st3,fr3,w3⟩
 rcases turn i n σ3 H3 w3 with ⟨stop,qn⟩ | ⟨go,N,hN,step⟩
 ·refine wpAny_passesOwn hp (thn (T.done X rfl rfl rfl hc i pins s3 σ3 H3 X.xe I3 (stat fr3) st3 stop) fun r s4 ⟨hr,I4⟩=>?_)
  subst hr
  exact wpAny_execs_nil ⟨σ3,H3,I4,qn⟩
 ·refine wpAny_passesOwn hp (thn (T.item X rfl rfl rfl hc i pins s3 σ3 H3 X.xe I3 (stat fr3) st3 go) fun r s4 ⟨u,hr,h4⟩=>?_)
  subst hr
  refine wpAny_passesOwn hp (thn h4 fun _ s5 ⟨x,H5,I5,r5,y5,st5,fr5⟩=>?_)
  have I5':=I5.pinned (stat fr5) (T.obj _ _ st5)
  refine wpAny_passesOwn hp (thn (hg _ s5 σ3 H5 x u _ I5' r5 (step x H5 y5)) fun _ s6 ⟨σ6,H6,I6,q6⟩=>?_)
  refine wpAny_passesOwn hp (thn (hb _ s6 σ6 H6 _ I6 q6) fun f s7 q7=>?_)
  have again:∀ {σ7:St} {H7:Hp},Inv X (pins ++ a0K fp s5.heap) σ7 H7 s7 → N σ7 H7 → ∃ m,m < n ∧ ∃ i σ' H',Inv X pins σ' H' s7 ∧ tn i s7.heap ∧ (∀ b ∈ fp,H' b = none) ∧ W i m σ' H':=fun {σ7 H7} I7 n7=>by
   obtain ⟨m',hm,w7⟩:=hN σ7 H7 n7
   refine ⟨m',hm,i + 1,σ7,H7,I7.unpinned,T.keep _ _ _ st5 fun b hb o e=>(I7.pin (b,o) (List.mem_append_right _ (List.mem_append_right _ (a0x hb e)))).1,fun b hb=>?_,w7⟩
   obtain ⟨o,e,d⟩:=T.obj _ _ st5 b hb
   exact (I7.pin (b,o) (List.mem_append_right _ (List.mem_append_right _ (a0x hb e)))).2.1
  cases f with
  | next=>obtain ⟨σ7,H7,I7,n7⟩:=q7; exact again I7 n7
  | cont=>obtain ⟨σ7,H7,I7,n7⟩:=q7; exact again I7 n7
  | brk=>obtain ⟨σ7,H7,I7,q7⟩:=q7; exact ⟨σ7,H7,I7.unpinned,q7⟩
  | ret v=>obtain ⟨x7,σ7,H7,I7,r7,q7⟩:=q7; exact ⟨x7,σ7,H7,I7.unpinned,r7,q7⟩
end
theorem a6o {K:PySem.W.Frag} {a:Addr} {xs:List V} {g:TG} {tb:TS} {D:Ends} {σ:St} {H:Hp} (Pv:Nat → St → Hp → Prop) (h0:Pv 0 σ H) (hl:∀ i σ H,i ≤ xs.length → Pv i σ H → SqL K H a xs)
  (hs:∀ i x σ H,xs[i]? = some x → Pv i σ H → g x σ H fun σ2 H2=>tb { D with nx:=Pv (i + 1),ct:=Pv (i + 1),bk:=D.nx } σ2 H2) (hd:∀ σ H,Pv xs.length σ H → D.nx σ H) :
  ∃ W:Nat → Nat → St → Hp → Prop,(∃ m,W 0 m σ H) ∧ ∀ i m σ H,W i m σ H →
   ((Itl K a).stop i H ∧ D.nx σ H) ∨ ((Itl K a).go i H ∧ ∃ N:St → Hp → Prop,(∀ σ' H',N σ' H' → ∃ m',m' < m ∧ W (i + 1) m' σ' H') ∧ ∀ x H',(Itl K a).yld i H x H' → g x σ H' fun σ2 H2=>tb { D with nx:=N,ct:=N,bk:=D.nx } σ2 H2):=by
 refine ⟨fun i m σ H=>m = xs.length - i ∧ i ≤ xs.length ∧ Pv i σ H,⟨xs.length,by simp,Nat.zero_le _,h0⟩,?_⟩
 rintro i m σ H ⟨rfl,hi,p⟩
 have q:=hl i σ H hi p
 by_cases hlt:i < xs.length
 ·refine .inr ⟨⟨xs,xs[i],q,by simp [hlt]⟩,Pv (i + 1),fun σ' H' p'=>⟨xs.length - (i + 1),by omega,rfl,hlt,p'⟩,fun x H' y=>?_⟩
  obtain ⟨e,y⟩:=y
  subst e
  exact hs i x σ _ (y xs q) p
 ·have e:i = xs.length:=by omega
  subst e
  exact .inl ⟨⟨xs,q,Nat.le_refl _⟩,hd σ H p⟩
theorem a8l {K:PySem.W.Frag} {a:Addr} {xs:List V} {g:TG} {tb:TS} {D:Ends} {σ:St} {H:Hp} (Pv:Nat → St → Hp → Prop) (h0:Pv 0 σ H) (hl:∀ i σ H,i ≤ xs.length → Pv i σ H → SqT K H a xs)
  (hs:∀ i x σ H,xs[i]? = some x → Pv i σ H → g x σ H fun σ2 H2=>tb { D with nx:=Pv (i + 1),ct:=Pv (i + 1),bk:=D.nx } σ2 H2) (hd:∀ σ H,Pv xs.length σ H → D.nx σ H) :
  ∃ W:Nat → Nat → St → Hp → Prop,(∃ m,W 0 m σ H) ∧ ∀ i m σ H,W i m σ H →
   ((Itt K a).stop i H ∧ D.nx σ H) ∨ ((Itt K a).go i H ∧ ∃ N:St → Hp → Prop,(∀ σ' H',N σ' H' → ∃ m',m' < m ∧ W (i + 1) m' σ' H') ∧ ∀ x H',(Itt K a).yld i H x H' → g x σ H' fun σ2 H2=>tb { D with nx:=N,ct:=N,bk:=D.nx } σ2 H2):=by
 refine ⟨fun i m σ H=>m = xs.length - i ∧ i ≤ xs.length ∧ Pv i σ H,⟨xs.length,by simp,Nat.zero_le _,h0⟩,?_⟩
 rintro i m σ H ⟨rfl,hi,p⟩
 have q:=hl i σ H hi p
 by_cases hlt:i < xs.length
 ·refine .inr ⟨⟨xs,xs[i],q,by simp [hlt]⟩,Pv (i + 1),fun σ' H' p'=>⟨xs.length - (i + 1),by omega,rfl,hlt,p'⟩,fun x H' y=>?_⟩
  obtain ⟨e,y⟩:=y
  subst e
  exact hs i x σ _ (y xs q) p
 ·have e:i = xs.length:=by omega
  subst e
  exact .inl ⟨⟨xs,q,Nat.le_refl _⟩,hd σ H p⟩
theorem b3v {lo:Int} {n:Nat} {g:TG} {tb:TS} {D:Ends} {σ:St} {H:Hp} (Pv:Nat → St → Hp → Prop) (h0:Pv 0 σ H)
  (hs:∀ i σ H,i < n → Pv i σ H → g (.int (lo + i)) σ H fun σ2 H2=>tb { D with nx:=Pv (i + 1),ct:=Pv (i + 1),bk:=D.nx } σ2 H2) (hd:∀ σ H,Pv n σ H → D.nx σ H) :
  ∃ W:Nat → Nat → St → Hp → Prop,(∃ m,W 0 m σ H) ∧ ∀ i m σ H,W i m σ H →
   ((Itr lo n).stop i H ∧ D.nx σ H) ∨ ((Itr lo n).go i H ∧ ∃ N:St → Hp → Prop,(∀ σ' H',N σ' H' → ∃ m',m' < m ∧ W (i + 1) m' σ' H') ∧ ∀ x H',(Itr lo n).yld i H x H' → g x σ H' fun σ2 H2=>tb { D with nx:=N,ct:=N,bk:=D.nx } σ2 H2):=by
 refine ⟨fun i m σ H=>m = n - i ∧ i ≤ n ∧ Pv i σ H,⟨n,by simp,Nat.zero_le _,h0⟩,?_⟩
 rintro i m σ H ⟨rfl,hi,p⟩
 by_cases hlt:i < n
 ·refine .inr ⟨hlt,Pv (i + 1),fun σ' H' p'=>⟨n - (i + 1),by omega,rfl,hlt,p'⟩,fun x H' y=>?_⟩
  obtain ⟨e,y⟩:=y
  subst e y
  exact hs i σ _ hlt p
 ·have e:i = n:=by omega
  subst e
  exact .inl ⟨Nat.le_refl _,hd σ H p⟩
noncomputable abbrev R2:=V → V → Hp → VK → Prop
noncomputable def OpR (X:Cx) (f:Value → Value → Sem Value) (r:R2):Prop:=
 ∀ (pins:List (Addr × Obj)) (s:Shared) (σ:St) (H:Hp) (x y:V) (v u:Value) (Q:VK),Inv X pins σ H s → RelV x v → RelV y u → r x y H Q →
  wpAny (model X.prog X.w) X.A (f v u) (EP X pins σ Q) X.xe s
noncomputable def UnR (X:Cx) (f:Value → Sem Value) (r:V → Hp → VK → Prop):Prop:=
 ∀ (pins:List (Addr × Obj)) (s:Shared) (σ:St) (H:Hp) (x:V) (v:Value) (Q:VK),Inv X pins σ H s → RelV x v → r x H Q →
  wpAny (model X.prog X.w) X.A (f v) (EP X pins σ Q) X.xe s
noncomputable def CallR (X:Cx) (f:Value) (r:List V → Hp → VK → Prop):Prop:=
 ∀ (pins:List (Addr × Obj)) (s:Shared) (σ:St) (H:Hp) (xs:List V) (us:List Value) (Q:VK),Inv X pins σ H s → Vals xs us → r xs H Q →
  wpAny (model X.prog X.w) X.A (call f us) (EP X pins σ Q) X.xe s
noncomputable def b5F (X:Cx) (r:V → Hp → (Bool → Hp → Prop) → Prop):Prop:=
 ∀ (pins:List (Addr × Obj)) (s:Shared) (σ:St) (H:Hp) (x:V) (v:Value) (Q:Bool → Hp → Prop),Inv X pins σ H s → RelV x v → r x H Q →
  wpAny (model X.prog X.w) X.A (truthy v) (TP X pins σ Q) X.xe s
noncomputable def tOp (r:R2) (ta tb:TE):TE:=fun σ H Q=>ta σ H fun x H1=>tb σ H1 fun y H2=>r x y H2 Q
noncomputable def tUn (r:V → Hp → VK → Prop) (ta:TE):TE:=fun σ H Q=>ta σ H fun x H1=>r x H1 Q
noncomputable def rI (C:Int → Int → Prop) (g:Int → Int → V):R2:=fun x y H Q=>∃ i j,x = .int i ∧ y = .int j ∧ C i j ∧ Q (g i j) H
noncomputable def rI0 (g:Int → Int → V):R2:=fun x y H Q=>∃ i j,x = .int i ∧ y = .int j ∧ Q (g i j) H
noncomputable def rU (g:Int → V):V → Hp → VK → Prop:=fun x H Q=>∃ i,x = .int i ∧ Q (g i) H
section
variable {X:Cx} {a b c:Expr} {ta tb tc:TE} {pos:Pos}
theorem a3k (ha:PE X a ta) (hb:PE X b tb) {pins:List (Addr × Obj)} {s:Shared} {σ:St} {H:Hp} {R:V → V → Hp → Prop} (I:Inv X pins σ H s)
  (h:ta σ H fun x H1=>tb σ H1 fun y H2=>R x y H2) {Q:Value → Shared → Prop} {f:Value → Value → Sem Value}
  (hf:∀ v u s2 x y H2,Inv X pins σ H2 s2 → RelV x v → RelV y u → R x y H2 → wpAny (model X.prog X.w) X.A (f v u) Q X.xe s2) :
  wpAny (model X.prog X.w) X.A (eval a X.env) (fun v s₁=>wpAny (model X.prog X.w) X.A (eval b X.env) (fun u s₂=>wpAny (model X.prog X.w) X.A (f v u) Q X.xe s₂) X.xe s₁) X.xe s:=by
 refine thn (ha pins s σ H _ I h) fun v s1 ⟨x,H1,I1,r1,q1⟩=>?_
 refine thn (hb pins s1 σ H1 _ I1 q1) fun u s2 ⟨y,H2,I2,r2,q2⟩=>?_
 exact hf v u s2 x y H2 I2 r1 r2 q2
theorem a51 {op:Operator} {r:R2} (ho:OpR X (binaryOp op) r) (ha:PE X a ta) (hb:PE X b tb):PE X (.BinOp a op b pos) (tOp r ta tb):=by
 intro pins s σ H Q I h
 exact wpAny_BinOp (a3k ha hb I h fun v u s2 x y H2 I2 rx ry q=>ho pins s2 σ H2 x y v u Q I2 rx ry q)
theorem b2b {op:UnaryOp} {r:V → Hp → VK → Prop} (ho:UnR X (unaryOp op) r) (ha:PE X a ta):PE X (.UnaryOp op a pos) (tUn r ta):=by
 intro pins s σ H Q I h
 exact UnaryOp_ (thn (ha pins s σ H _ I h) fun v s1 ⟨x,H1,I1,r1,q1⟩=>ho pins s1 σ H1 x v Q I1 r1 q1)
theorem opI {f:Value → Value → Sem Value} {C:Int → Int → Prop} {g:Int → Int → Int}
  (rule:∀ (i j:Int) (t u:Tok) (s:Shared) (Q:Value → Shared → Prop) (E:Value → Shared → Prop),C i j → Q (.int (g i j) s.toks) { s with toks:=s.toks + 1 } → wpAny (model X.prog X.w) X.A (f (.int i t) (.int j u)) Q E s) :
  OpR X f (rI C fun i j=>.int (g i j)):=by
 intro pins s σ H x y v u Q I rx ry h
 obtain ⟨i,j,rfl,rfl,hc,q⟩:=h
 obtain ⟨t,rfl⟩:=rx
 obtain ⟨t',rfl⟩:=ry
 exact rule i j t t' s _ _ hc ⟨.int (g i j),H,I.tok _,⟨_,rfl⟩,q⟩
theorem a7f {f:Value → Value → Sem Value} {g:Int → Int → Int}
  (rule:∀ (i j:Int) (t u:Tok) (s:Shared) (Q:Value → Shared → Prop) (E:Value → Shared → Prop),Q (.int (g i j) s.toks) { s with toks:=s.toks + 1 } → wpAny (model X.prog X.w) X.A (f (.int i t) (.int j u)) Q E s) :
  OpR X f (rI0 fun i j=>.int (g i j)):=by
 intro pins s σ H x y v u Q I rx ry h
 obtain ⟨i,j,rfl,rfl,q⟩:=h
 obtain ⟨t,rfl⟩:=rx
 obtain ⟨t',rfl⟩:=ry
 exact rule i j t t' s _ _ ⟨.int (g i j),H,I.tok _,⟨_,rfl⟩,q⟩
theorem a1B {f:Value → Value → Sem Value} {g:Int → Int → Bool}
  (rule:∀ (i j:Int) (t u:Tok) (s:Shared) (Q:Value → Shared → Prop) (E:Value → Shared → Prop),Q (.bool (g i j)) s → wpAny (model X.prog X.w) X.A (f (.int i t) (.int j u)) Q E s) :
  OpR X f (rI0 fun i j=>.bl (g i j)):=by
 intro pins s σ H x y v u Q I rx ry h
 obtain ⟨i,j,rfl,rfl,q⟩:=h
 obtain ⟨t,rfl⟩:=rx
 obtain ⟨t',rfl⟩:=ry
 exact rule i j t t' s _ _ ⟨.bl (g i j),H,I,rfl,q⟩
noncomputable def a7R (i j:Int):Prop:=0 ≤ j ∧ j ≤ 1000000 ∧ i.natAbs < 2 ^ 64
theorem op_add:OpR X (binaryOp .Add) (rI0 fun i j=>.int (i + j)):=a7f fun _ _ _ _ _ _ _ q=>add_int q
theorem D6:OpR X (binaryOp .Sub) (rI0 fun i j=>.int (i - j)):=a7f fun _ _ _ _ _ _ _ q=>sub_int q
theorem P9:OpR X (binaryOp .Mod) (rI (fun _ j=>j ≠ 0) fun i j=>.int (i.fmod j)):=opI fun _ _ _ _ _ _ _ hc q=>mod_int' hc q
theorem b39:OpR X (binaryOp .Pow) (rI a7R fun i j=>.int (i ^ j.toNat)):=opI fun _ _ _ _ _ _ _ hc q=>pow_int_small hc.1 hc.2.1 hc.2.2 q
theorem unI {f:Value → Sem Value} {g:Int → Int}
  (rule:∀ (i:Int) (t:Tok) (s:Shared) (Q:Value → Shared → Prop) (E:Value → Shared → Prop),Q (.int (g i) s.toks) { s with toks:=s.toks + 1 } → wpAny (model X.prog X.w) X.A (f (.int i t)) Q E s) :
  UnR X f (rU fun i=>.int (g i)):=by
 intro pins s σ H x v Q I rx h
 obtain ⟨i,rfl,q⟩:=h
 obtain ⟨t,rfl⟩:=rx
 exact rule i t s _ _ ⟨.int (g i),H,I.tok _,⟨_,rfl⟩,q⟩
theorem K9:UnR X (unaryOp .USub) (rU fun i=>.int (-i)):=unI fun _ _ _ _ _ q=>neg_int q
end
noncomputable def a7J:V → V → Bool
 | .non,.non=>true | .non,.int _=>true | .int _,.non=>true | .non,.bl _=>true | .bl _,.non=>true | .non,.str _=>true | .str _,.non=>true
 | .int _,.int _=>true | .bl _,.bl _=>true | .str _,.str _=>true | .byt _,.byt _=>true
 | .int _,.str _=>true | .str _,.int _=>true | .bl _,.str _=>true | .str _,.bl _=>true
 | _,_=>false
noncomputable def rEq:R2:=fun x y H Q=>a7J x y = true ∧ Q (.bl (decide (x = y))) H
noncomputable def rNe:R2:=fun x y H Q=>a7J x y = true ∧ Q (.bl (!decide (x = y))) H
theorem a7z {i j:Int}:decide (V.int i = V.int j) = (i == j):=by
 rw [Bool.eq_iff_iff]
 simp
theorem a8z {i j:Bool}:decide (V.bl i = V.bl j) = (i == j):=by
 rw [Bool.eq_iff_iff]
 simp
theorem a6U {i j:Str}:decide (V.str i = V.str j) = (i == j):=by
 rw [Bool.eq_iff_iff]
 simp
theorem a9J {i j:Array UInt8}:decide (V.byt i = V.byt j) = (i.toList == j.toList):=by
 rw [Bool.eq_iff_iff]
 cases i
 cases j
 simp
section
variable {X:Cx} {a b c:Expr} {ta tb tc:TE} {pos:Pos}
theorem A6 {pins:List (Addr × Obj)} {σ:St} {H:Hp} {s:Shared} {Q:VK} {k k':Bool} (I:Inv X pins σ H s) (q:Q (.bl k) H) (e:k = k'):EP X pins σ Q (.bool k') s:=by
 subst e
 exact ⟨.bl k,H,I,rfl,q⟩
theorem op_eq:OpR X (compareOp .Eq) rEq:=by
 intro pins s σ H x y v u Q I rx ry h
 obtain ⟨hs,q⟩:=h
 cases x with
 | non=>
  cases rx
  cases y with
  | non=>cases ry; exact PySem.EqNone.eq_none_none (A6 I q (by simp))
  | bl j=>cases ry; exact PySem.EqNone.eq_none_bool (A6 I q (by simp))
  | int j=>obtain ⟨t',rfl⟩:=ry; exact PySem.EqNone.eq_none_int (A6 I q (by simp))
  | str j=>obtain ⟨t',rfl⟩:=ry; exact PySem.EqNone.eq_none_str (A6 I q (by simp))
  | _=>exact absurd (show false = true from hs) Bool.false_ne_true
 | bl i=>
  cases rx
  cases y with
  | non=>cases ry; exact PySem.EqNone.eq_bool_none (A6 I q (by simp))
  | bl j=>cases ry; exact eq_bool (A6 I q a8z)
  | str j=>obtain ⟨t',rfl⟩:=ry; exact PySem.EqMixed.eq_bool_str (A6 I q (by simp))
  | _=>exact absurd (show false = true from hs) Bool.false_ne_true
 | int i=>
  obtain ⟨t,rfl⟩:=rx
  cases y with
  | non=>cases ry; exact PySem.EqNone.eq_int_none (A6 I q (by simp))
  | int j=>obtain ⟨t',rfl⟩:=ry; exact eq_int (A6 I q a7z)
  | str j=>obtain ⟨t',rfl⟩:=ry; exact PySem.EqMixed.eq_int_str (A6 I q (by simp))
  | _=>exact absurd (show false = true from hs) Bool.false_ne_true
 | str i=>
  obtain ⟨t,rfl⟩:=rx
  cases y with
  | non=>cases ry; exact PySem.EqNone.eq_str_none (A6 I q (by simp))
  | bl j=>cases ry; exact PySem.EqMixed.eq_str_bool (A6 I q (by simp))
  | int j=>obtain ⟨t',rfl⟩:=ry; exact PySem.EqMixed.eq_str_int (A6 I q (by simp))
  | str j=>obtain ⟨t',rfl⟩:=ry; exact eq_str (A6 I q a6U)
  | _=>exact absurd (show false = true from hs) Bool.false_ne_true
 | byt i=>
  obtain ⟨t,rfl⟩:=rx
  cases y with
  | byt j=>obtain ⟨t',rfl⟩:=ry; exact PySem.W.eq_bytes (A6 I q a9J)
  | _=>exact absurd (show false = true from hs) Bool.false_ne_true
 | _=>cases y <;> exact absurd (show false = true from hs) Bool.false_ne_true
theorem op_ne:OpR X (compareOp .NotEq) rNe:=by
 intro pins s σ H x y v u Q I rx ry h
 obtain ⟨hs,q⟩:=h
 cases x with
 | non=>
  cases rx
  cases y with
  | non=>cases ry; exact PySem.EqNone.ne_none_none (A6 I q (by simp))
  | bl j=>cases ry; exact PySem.EqNone.ne_none_bool (A6 I q (by simp))
  | int j=>obtain ⟨t',rfl⟩:=ry; exact PySem.EqNone.ne_none_int (A6 I q (by simp))
  | str j=>obtain ⟨t',rfl⟩:=ry; exact PySem.EqNone.ne_none_str (A6 I q (by simp))
  | _=>exact absurd (show false = true from hs) Bool.false_ne_true
 | bl i=>
  cases rx
  cases y with
  | non=>cases ry; exact PySem.EqNone.ne_bool_none (A6 I q (by simp))
  | bl j=>cases ry; exact ne_bool (A6 I q (congrArg not a8z))
  | str j=>obtain ⟨t',rfl⟩:=ry; exact PySem.EqMixed.ne_bool_str (A6 I q (by simp))
  | _=>exact absurd (show false = true from hs) Bool.false_ne_true
 | int i=>
  obtain ⟨t,rfl⟩:=rx
  cases y with
  | non=>cases ry; exact PySem.EqNone.ne_int_none (A6 I q (by simp))
  | int j=>obtain ⟨t',rfl⟩:=ry; exact ne_int (A6 I q (congrArg not a7z))
  | str j=>obtain ⟨t',rfl⟩:=ry; exact PySem.EqMixed.ne_int_str (A6 I q (by simp))
  | _=>exact absurd (show false = true from hs) Bool.false_ne_true
 | str i=>
  obtain ⟨t,rfl⟩:=rx
  cases y with
  | non=>cases ry; exact PySem.EqNone.ne_str_none (A6 I q (by simp))
  | bl j=>cases ry; exact PySem.EqMixed.ne_str_bool (A6 I q (by simp))
  | int j=>obtain ⟨t',rfl⟩:=ry; exact PySem.EqMixed.ne_str_int (A6 I q (by simp))
  | str j=>obtain ⟨t',rfl⟩:=ry; exact ne_str (A6 I q (congrArg not a6U))
  | _=>exact absurd (show false = true from hs) Bool.false_ne_true
 | byt i=>
  obtain ⟨t,rfl⟩:=rx
  cases y with
  | byt j=>obtain ⟨t',rfl⟩:=ry; exact PySem.W.ne_bytes (A6 I q (congrArg not a9J))
  | _=>exact absurd (show false = true from hs) Bool.false_ne_true
 | _=>cases y <;> exact absurd (show false = true from hs) Bool.false_ne_true
theorem K6:OpR X (compareOp .Lt) (rI0 fun i j=>.bl (decide (i < j))):=a1B fun _ _ _ _ _ _ _ q=>lt_int q
theorem b4c:OpR X (compareOp .LtE) (rI0 fun i j=>.bl (decide (i ≤ j))):=a1B fun _ _ _ _ _ _ _ q=>le_int q
theorem R4:OpR X (compareOp .Gt) (rI0 fun i j=>.bl (decide (j < i))):=a1B fun _ _ _ _ _ _ _ q=>gt_int q
theorem a7g:OpR X (compareOp .GtE) (rI0 fun i j=>.bl (decide (j ≤ i))):=a1B fun _ _ _ _ _ _ _ q=>ge_int q
theorem a7p:OpR X (compareOp .Is) (fun x y H Q=>y = .non ∧ Q (.bl (decide (x = .non))) H):=by
 intro pins s σ H x y v u Q I rx ry h
 obtain ⟨rfl,q⟩:=h
 cases ry
 refine is_none_gen (A6 I q ?_)
 cases x <;> first
  | (cases rx; rfl)
  | (obtain ⟨t,rfl⟩:=rx; rfl)
theorem OpR.or {f:Value → Value → Sem Value} {r r':R2} (h:OpR X f r) (h':OpR X f r'):OpR X f (fun x y H Q=>r x y H Q ∨ r' x y H Q):=by
 intro pins s σ H x y v u Q I rx ry q
 rcases q with q | q
 ·exact h pins s σ H x y v u Q I rx ry q
 ·exact h' pins s σ H x y v u Q I rx ry q
theorem u7 (b:Expr) {op:CmpOp} (h:op ≠ .In:=by decide) (h2:op ≠ .NotIn:=by decide):behindInMarks op b = false:=by
 have e1:(op == CmpOp.In) = false:=by cases op <;> first | rfl | exact absurd rfl h
 have e2:(op == CmpOp.NotIn) = false:=by cases op <;> first | rfl | exact absurd rfl h2
 cases b <;> simp [behindInMarks,e1,e2]
theorem b6r {op:CmpOp} {r:R2} (ho:OpR X (compareOp op) r) (ha:PE X a ta) (hb:PE X b tb) (hm:behindInMarks op b = false):PE X (.Compare a [op] [b] pos) (tOp r ta tb):=by
 intro pins s σ H Q I h
 exact wpAny_Compare1 (a3k ha hb I h fun v u s2 x y H2 I2 rx ry q=>ho pins s2 σ H2 x y v u Q I2 rx ry q) hm
noncomputable def b5w (t:TE):TT:=fun σ H Q=>t σ H fun x H'=>∃ k,x = .bl k ∧ Q k H'
theorem b5N {op:CmpOp} {r:R2} (ho:OpR X (compareOp op) r) (ha:PE X a ta) (hb:PE X b tb) (hm:behindInMarks op b = false):PT X (.Compare a [op] [b] pos) (b5w (tOp r ta tb)):=by
 intro pins s σ H Q I h
 refine wpAny_isTrue_Compare1 (thn (ha pins s σ H _ I h) fun v s1 ⟨x,H1,I1,r1,q1⟩=>thn (hb pins s1 σ H1 _ I1 q1) fun u s2 ⟨y,H2,I2,r2,q2⟩=>
  thn (ho pins s2 σ H2 x y v u _ I2 r1 r2 q2) fun c s3 ⟨z,H3,I3,r3,k,e,q3⟩=>?_) hm
 subst e
 cases r3
 exact wpAny_truthy_bool ⟨H3,I3,q3⟩
noncomputable def a1L (K:PySem.W.Frag) (x:V) (H:Hp) (k:Bool):Prop:=
 match x with
 | .non=>k = false
 | .bl b=>k = b
 | .int i=>k = (i != 0)
 | .str y=>y.length ≤ sizeLine ∧ k = ((y.length:Int) != 0)
 | .byt y=>y.size ≤ sizeLine ∧ k = ((y.size:Int) != 0)
 | .ref p=>(∃ xs,SqL K H p xs ∧ k = !xs.isEmpty) ∨ (∃ xs,SqT K H p xs ∧ k = !xs.isEmpty) ∨ ∃ kvs,H p = some (.dK kvs) ∧ k = !kvs.isEmpty
 | _=>False
theorem b25 {κ:Type} {kvs:List (κ × V)} {vs:List (κ × Value)} (r:KV kvs vs):(!vs.isEmpty) = !kvs.isEmpty:=by
 cases r <;> rfl
theorem a5Q {xs:List V} {its:List Value} (r:Vals xs its):(!its.toArray.isEmpty) = !xs.isEmpty:=by
 cases r <;> simp
theorem a0M:(sizeLine:Nat) < 2 ^ 63:=by rw [sizeLine_eq]; decide
theorem a6j:b5F X (fun x H Q=>∃ k,a1L X.K x H k ∧ Q k H):=by
 intro pins s σ H x v Q I rx h
 obtain ⟨k,e,q⟩:=h
 have hl:=a0M
 have hs:sizeLine = 16777216:=sizeLine_eq
 cases x with
 | non=>
  cases rx
  have e':k = false:=e
  subst e'
  exact truthy_none ⟨H,I,q⟩
 | bl b=>
  cases rx
  have e':k = b:=e
  subst e'
  exact wpAny_truthy_bool ⟨H,I,q⟩
 | int i=>
  obtain ⟨t,rfl⟩:=rx
  have e':k = (i != 0):=e
  subst e'
  exact PySem.P.truthy_int ⟨H,I,q⟩
 | str y=>
  obtain ⟨t,rfl⟩:=rx
  obtain ⟨hy,e'⟩:y.length ≤ sizeLine ∧ k = ((y.length:Int) != 0):=e
  subst e'
  exact PySem.P.truthy_str (by omega) ⟨H,I.tok _,q⟩
 | byt y=>
  obtain ⟨t,rfl⟩:=rx
  obtain ⟨hy,e'⟩:y.size ≤ sizeLine ∧ k = ((y.size:Int) != 0):=e
  subst e'
  exact PySem.W.truthy_bytes (by omega) ⟨H,I.tok _,q⟩
 | ref p=>
  cases rx
  have e':(∃ xs,SqL X.K H p xs ∧ k = !xs.isEmpty) ∨ (∃ xs,SqT X.K H p xs ∧ k = !xs.isEmpty) ∨ ∃ kvs,H p = some (.dK kvs) ∧ k = !kvs.isEmpty:=e
  rcases e' with ⟨xs,hx,e'⟩ | ⟨xs,hx,e'⟩ | ⟨kvs,hx,e'⟩
  ·subst e'
   obtain ⟨its,r,pl,hz⟩:=I.list hx
   have hlen:=r.length
   exact wpAny_truthy_list pl.isList (by simp only [List.size_toArray]; omega) ⟨H,I.tok _,by rw [a5Q r]; exact q⟩
  ·subst e'
   obtain ⟨its,r,pl,hz⟩:=I.tuple hx
   have hlen:=r.length
   exact truthy_tuple pl (by simp only [List.size_toArray]; omega) ⟨H,I.tok _,by rw [a5Q r]; exact q⟩
  ·subst e'
   obtain ⟨hz,hS,vs,r,m⟩:kvs.length ≤ sizeLine ∧ (p == sysModules) = false ∧ ∃ vs,KV kvs vs ∧ s.heap.DictOf (D4 X.prog X.w) p vs:=I.hok p _ hx
   have hlen:kvs.length = vs.length:=Paired.length r
   exact wpAny_truthy_dict hS m (by omega) ⟨H,I.tok _,by rw [b25 r]; exact q⟩
 | _=>exact (show False from e).elim
theorem b2S (ha:PE X a ta) (he:∀ whole,isTrue a X.env whole = (do let v ← whole; standAt a.pos; holding [v] (truthy v))) :
  PT X a (fun σ H Q=>ta σ H fun x H'=>∃ k,a1L X.K x H' k ∧ Q k H'):=by
 intro pins s σ H Q I h
 exact isTrue_plain (thn (ha pins s σ H _ I h) fun v s1 ⟨x,H1,I1,r1,q1⟩=>a6j pins s1 σ H1 x v Q I1 r1 q1) (he _)
theorem a9X:OpR X (binaryOp .Add) (fun x y H Q=>∃ i j,x = .str i ∧ y = .str j ∧ i.length + j.length ≤ sizeLine ∧ Q (.str (i ++ j)) H):=by
 intro pins s σ H x y v u Q I rx ry h
 obtain ⟨i,j,rfl,rfl,hz,q⟩:=h
 obtain ⟨t,rfl⟩:=rx
 obtain ⟨t',rfl⟩:=ry
 exact add_str (fun t' tk=>⟨.str (i ++ j),H,I.tok _,⟨_,rfl⟩,q⟩) hz
theorem P8 {x:V} {us:List Value} (r:Vals [x] us):∃ u,us = [u] ∧ RelV x u:=by
 cases r with
 | cons r1 r2=>cases r2; exact ⟨_,rfl,r1⟩
theorem a1z:CallR X (.builtin "abs") (fun xs H Q=>∃ i,xs = [.int i] ∧ Q (.int (if i < 0 then -i else i)) H):=by
 intro pins s σ H xs us Q I r h
 obtain ⟨i,rfl,q⟩:=h
 obtain ⟨u,rfl,t,rfl⟩:=P8 r
 exact call_abs_int fun u tk=>⟨.int (if i < 0 then -i else i),H,I.tok _,⟨_,rfl⟩,q⟩
theorem a5z:CallR X (.type "int") (fun xs H Q=>(∃ i,xs = [.int i] ∧ Q (.int i) H) ∨ ∃ k,xs = [.bl k] ∧ Q (.int (if k then 1 else 0)) H):=by
 intro pins s σ H xs us Q I r h
 rcases h with ⟨i,rfl,q⟩ | ⟨k,rfl,q⟩
 ·obtain ⟨u,rfl,t,rfl⟩:=P8 r
  exact call_int_int ⟨.int i,H,I,⟨_,rfl⟩,q⟩
 ·obtain ⟨u,rfl,r1⟩:=P8 r
  cases r1
  exact call_int_bool ⟨.int (if k then 1 else 0),H,I.tok _,⟨_,rfl⟩,q⟩
end
theorem RelO.some_of {v:V} {o:Option Value} (r:RelO (some v) o):∃ u,o = some u ∧ RelV v u:=by
 cases o with
 | none=>exact (show False from r).elim
 | some u=>exact ⟨u,rfl,r⟩
structure Room (k:Nat) (A:Around):Prop where
 hd:A.handled = none
 dp:A.depth + 3 * k + 5 < recursionLimit
 un:A.units + 16 * k + 200 < cLine
 gd:A.guards = some []
theorem Room.mono {j k:Nat} {A:Around} (r:Room k A) (h:j ≤ k):Room j A:=⟨r.hd,by have:=r.dp; omega,by have:=r.un; omega,r.gd⟩
theorem Room.deeper {k:Nat} {A:Around} (r:Room (k + 1) A) (env:Env):Room k (A.deeper env):=
 ⟨r.hd,by have:=r.dp; show A.depth + 1 + 3 * k + 5 < _; omega,by have:=r.un; show A.units + 3 + 16 * k + 200 < _; omega,r.gd⟩
theorem Room.depth {k:Nat} {A:Around} (r:Room k A):A.depth < recursionLimit:=by have:=r.dp; omega
theorem Room.units {k:Nat} {A:Around} (r:Room k A):A.units + 64 < cLine:=by have:=r.un; omega
noncomputable def a8S:TA:=fun _ H Q=>Q [] H
noncomputable def a5w (ta:TE) (tr:TA):TA:=fun σ H Q=>ta σ H fun x H1=>tr σ H1 fun xs H2=>Q (x :: xs) H2
section
variable {X:Cx} {e:Expr} {es:List Expr} {te:TE} {t:TA} {pos:Pos}
theorem a02:PA X [] a8S:=fun _ _ _ _ H Q I h=>Calls.spliced_nil ⟨[],H,I,.nil,h⟩
theorem Y6 (ha:PE X e te) (hr:PA X es t) (hs:starEach (e :: es) X.env = (false,eval e X.env) :: starEach es X.env:=by rfl):PA X (e :: es) (a5w te t):=by
 intro pos pins s σ H Q I h
 rw [hs]
 show wpAny _ _ (spliced ((false,eval e X.env) :: backTo pos (starEach es X.env))) _ _ s
 refine Calls.spliced_cons (thn (ha pins s σ H _ I h) fun u s1 ⟨x,H1,I1,r1,q1⟩=>?_)
 exact thn (hr pos pins s1 σ H1 _ I1 q1) fun us s2 ⟨xs,H2,I2,r2,q2⟩=>⟨x :: xs,H2,I2,.cons r1 r2,q2⟩
noncomputable def b2H (t:TA):TE:=fun σ H Q=>t σ H fun xs H1=>xs.length ≤ sizeLine ∧ ∀ p,H1 p = none → Q (.ref p) (upd H1 p (.tup xs))
noncomputable def b5t (t:TA):TE:=fun σ H Q=>t σ H fun xs H1=>xs.length ≤ sizeLine ∧ ∀ p,H1 p = none → Q (.ref p) (upd H1 p (.lst xs))
theorem b4W {x1} (h:PA X es t):PE X (.Tuple es x1 pos) (b2H t):=by
 intro pins s σ H Q I hq
 refine wpAny_Tuple_spliced (thn (h pos pins s σ H _ I hq) fun us s1 ⟨xs,H1,I1,r,z,q⟩=>⟨by rw [← r.length]; exact z,?_⟩)
 have hf:H1 s1.heap.objs.size = none:=I1.hok.fresh (Nat.le_refl _)
 refine ⟨.ref s1.heap.objs.size,upd H1 s1.heap.objs.size (.tup xs),I1.laid (t':=s1.toks) (fun b u e=>Heap.get?_push_of_some _ e) (Nat.le_refl _) ?_,rfl,q _ hf⟩
 exact ⟨z,us,r,⟨_,Heap.get?_push_size _ rfl,rfl,_,rfl⟩⟩
theorem b6m (h:PA X es t):PE X (.List es pos) (b5t t):=by
 intro pins s σ H Q I hq
 refine wpAny_List_spliced (thn (h pos pins s σ H _ I hq) fun us s1 ⟨xs,H1,I1,r,z,q⟩=>⟨by rw [← r.length]; exact z,?_⟩)
 have hf:H1 s1.heap.objs.size = none:=I1.hok.fresh (Nat.le_refl _)
 refine ⟨.ref s1.heap.objs.size,upd H1 s1.heap.objs.size (.lst xs),I1.laid (t':=s1.toks) (fun b u e=>Heap.get?_push_of_some _ e) (Nat.le_refl _) ?_,rfl,q _ hf⟩
 exact ⟨z,us,0,r,Heap.get?_push_size _ rfl⟩
end
noncomputable abbrev Sp:=List V → Hp → VK → XK → Prop
noncomputable abbrev CXT:=List Env → Hp → Shared → XK → Value → Shared → Prop
structure Env0 (P:Program) (w:World) (K:PySem.W.Frag) (mg:Str → Option Value) (base:Heap) (A:Around) (outer:List Env) (s:Shared) (H:Hp):Prop where
 frames:A.frames = some outer
 mod:Mod K mg base
 bs:∀ b o,base.get? b = some o → s.heap.get? b = some o ∧ H b = none
 bsz:base.objs.size ≤ s.heap.objs.size
 funs:s.heap.FunFrames base outer
 frf:∀ b ∈ frs outer,H b = none
 hok:HOk P w H s.heap
 bare:AllBare s.gens
noncomputable def CE (outer:List Env) (P:Program) (w:World) (H:Hp) (s:Shared) (Q:VK) (u:Value) (s':Shared):Prop:=
 ∃ v H',s'.os = s.os ∧ AllBare s'.gens ∧ Un (frs outer) [] H H' s.heap s'.heap ∧ HOk P w H' s'.heap ∧ RelV v u ∧ Q v H'
noncomputable def CR (CX:CXT) (outer:List Env) (P:Program) (w:World) (H:Hp) (s:Shared) (Q:VK) (E:XK) (r:Result) (s':Shared):Prop:=
 match r with
 | .ok (.ret u)=>CE outer P w H s Q u s'
 | .ok _=>False
 | .error e=>CX outer H s E e s'
structure FnOk (P:Program) (w:World) (K:PySem.W.Frag) (mg:Str → Option Value) (base:Heap) (CX:CXT) (k:Nat) (f:Addr) (fd:FuncData) (ps:List Str) (sp:Sp):Prop where
 len:∀ vs H Q E,sp vs H Q E → vs.length = ps.length
 run:∀ (A:Around) (outer:List Env) (s:Shared) (H:Hp) (args:Args) (us:List Value) (vs:List V) (Q:VK) (E:XK),Room k A → Env0 P w K mg base A outer s H → BindsTo s fd args (ps.zip us) → Vals vs us → sp vs H Q E →
  codeAny (model P w) A (.call (.ref f) args) (CR CX outer P w H s Q E) s
section
variable {X:Cx} {pins:List (Addr × Obj)} {σ:St} {H:Hp} {s s':Shared}
theorem Inv.env0 (I:Inv X pins σ H s):Env0 X.prog X.w X.K X.mg X.base X.A X.stack s H:=
 ⟨I.ok.frames,I.ok.mod,I.bs,Nat.le_trans I.ok.bsz I.sz,I.stack,I.stkFree,I.hok,I.bare⟩
theorem Inv.after {Q:VK} {u:Value} (I:Inv X pins σ H s) (h:CE X.stack X.prog X.w H s Q u s'):EP X pins σ Q u s':=by
 obtain ⟨v,H',os,bare,un,hok,r,q⟩:=h
 obtain ⟨hh,g,d,t,os'⟩:=s'
 obtain rfl:os' = s.os:=os
 exact ⟨v,H',I.call (h':=hh) (g':=g) (d':=d) (t':=t) (ch:=[]) un hok bare (fun b z=>absurd z (by simp)),r,q⟩
end
noncomputable def a4z (sp:Sp) (dvs:List V) (E:XK) (t:TA):TE:=fun σ H Q=>t σ H fun vs H1=>sp (vs ++ dvs) H1 Q E
noncomputable def Binds (K:PySem.W.Frag) (fd:FuncData) (ps:List Str) (ds:List Value):Prop:=
 ∀ (s:Shared) (us:List Value),K.In s.heap → (us ++ ds).length = ps.length → BindsTo s fd ⟨us,[]⟩ (ps.zip (us ++ ds))
theorem Binds.all {K:PySem.W.Frag} {fd:FuncData} {ps:List Str} (h:∀ us:List Value,us.length = ps.length → bindArgs fd ⟨us,[]⟩ = pure (ps.zip us)):Binds K fd ps []:=fun s us _ hl=>by
 rw [List.append_nil] at hl ⊢
 exact .of_eq (h us hl)
noncomputable def a2s (CX:CXT) (X:Cx) (E:XK):Prop:=∀ (pins:List (Addr × Obj)) (σ:St) (H:Hp) (s:Shared) (e:Value) (s':Shared),Inv X pins σ H s → CX X.stack H s E e s' → X.xe e s'
section
variable {X:Cx} {CX:CXT} {k:Nat} {f C:Addr} {fd:FuncData} {ps:List Str} {sp:Sp} {dvs:List V} {ds:List Value} {E:XK} {x m:Str} {p pos apos:Pos} {e o:Expr} {es:List Expr} {ta:TE} {t:TA}
theorem a59 {pins:List (Addr × Obj)} {σ:St} {H:Hp} {s:Shared} {Q:VK} {us:List Value} {vs:List V} (F:FnOk X.prog X.w X.K X.mg X.base CX k f fd ps sp) (hr:Room k X.A) (hb:Binds X.K fd ps ds) (hd:Vals dvs ds) (hx:a2s CX X E)
  (I:Inv X pins σ H s) (r:Vals vs us) (h:sp (vs ++ dvs) H Q E):wpAny (model X.prog X.w) X.A (call (.ref f) us) (EP X pins σ Q) X.xe s:=by
 have r2:Vals (vs ++ dvs) (us ++ ds):=r.append hd
 have hl:(us ++ ds).length = ps.length:=by rw [← r2.length]; exact F.len _ _ _ _ h
 refine wpAny_call (codeAny_mono (F.run X.A X.stack s H ⟨us,[]⟩ (us ++ ds) (vs ++ dvs) Q E hr I.env0 (hb s us I.kIn hl) r2 h) fun r s' hq=>?_)
 cases r with
 | error e=>exact hx pins σ H s e s' I hq
 | ok fl=>
  cases fl with
  | ret u=>exact I.after hq
  | next=>exact False.elim hq
  | brk=>exact False.elim hq
  | cont=>exact False.elim hq
theorem a9u (F:FnOk X.prog X.w X.K X.mg X.base CX k f fd ps sp) (hr:Room k X.A) (hg:Gl X x) (hm:X.mg x = some (.ref f)) (hk:PySem.W.keepIn X.K (.ref f) = true) (hb:Binds X.K fd ps ds) (hd:Vals dvs ds) (hx:a2s CX X E)
  (ha:PA X (e :: es) t) (hdb:(x == ("__debug__" : Str)) = false:=by decide) (he:starEach (e :: es) X.env = (false,eval e X.env) :: starEach es X.env:=by rfl) (hpl:(backTo pos (starEach es X.env)).any (·.1) = false:=by rfl) :
  PE X (.Call (.Name x p) (e :: es) [] pos) (a4z sp dvs E t):=by
 intro pins s σ H Q I h
 refine wpAny_Call_Name_kw (a7E I hg hm ?_ hdb)
 refine PySem.W.callWith_K (h₀:=X.base) I.ok.mod.kin hk (thn (ha pos pins s σ H _ I h) fun us s1 ⟨vs,H1,I1,r,q⟩=>⟨I1.kIn,?_⟩) he hpl
 exact a59 F hr hb hd hx I1 r q
end
structure FnScope (N P:List Str) (sc:Scope):Prop where
 kind:sc.kind = .function
 co:sc.isCoroutine = false
 gen:sc.isGenerator = false
 nd:N.Nodup
 pre:N.take P.length = P
 par:∀ x ∈ P,sc.names.lookup x = some .local ∨ sc.names.lookup x = some .cell
 nofree:∀ y ∈ sc.names,y.2 ≠ .free
theorem a5F {kindOf:Str → Option NameKind} {x:Str}:∀ {binds:List (Str × Value)} {m:Str → Option Value},(∀ v,(x,v) ∉ binds) → bindL kindOf binds m x = m x
 | [],_,_=>rfl
 | (n,v) :: r,m,h=>by
  unfold bindL
  rw [a5F fun w hw=>h w (List.mem_cons_of_mem _ hw)]
  split
  ·have:x ≠ n:=by rintro rfl; exact h v List.mem_cons_self
   simp [this]
  ·rfl
theorem a81 {kindOf:Str → Option NameKind} {x:Str}:∀ {binds:List (Str × Value)} {m:Str → Option Value},(∀ v,(x,v) ∉ binds) → bindC kindOf binds m x = m x
 | [],_,_=>rfl
 | (n,v) :: r,m,h=>by
  unfold bindC
  rw [a81 fun w hw=>h w (List.mem_cons_of_mem _ hw)]
  split
  ·rfl
  ·have:x ≠ n:=by rintro rfl; exact h v List.mem_cons_self
   simp [this]
theorem a5N {kindOf:Str → Option NameKind} {x:Str} {v:Value}:∀ {P:List Str} {vs:List Value} {i:Nat} {m:Str → Option Value},P.Nodup → P[i]? = some x → vs[i]? = some v → kindOf x = some .local →
  bindL kindOf (P.zip vs) m x = some v
 | [],_,_,_,_,h,_,_=>by simp at h
 | _ :: _,[],_,_,_,_,h,_=>by simp at h
 | p :: P,w :: vs,0,m,nd,h1,h2,hk=>by
  simp at h1 h2; subst h1; subst h2
  show bindL kindOf ((p,w) :: P.zip vs) m p = _
  unfold bindL
  rw [a5F fun v hv=>(List.nodup_cons.mp nd).1 (List.of_mem_zip hv).1,if_pos hk]
  simp
 | p :: P,w :: vs,i + 1,m,nd,h1,h2,hk=>by
  show bindL kindOf ((p,w) :: P.zip vs) m x = _
  unfold bindL
  exact a5N (i:=i) (List.nodup_cons.mp nd).2 (by simpa using h1) (by simpa using h2) hk
theorem a5T {kindOf:Str → Option NameKind} {x:Str} {v:Value}:∀ {P:List Str} {vs:List Value} {i:Nat} {m:Str → Option Value},P.Nodup → P[i]? = some x → vs[i]? = some v → kindOf x ≠ some .local →
  bindC kindOf (P.zip vs) m x = some v
 | [],_,_,_,_,h,_,_=>by simp at h
 | _ :: _,[],_,_,_,_,h,_=>by simp at h
 | p :: P,w :: vs,0,m,nd,h1,h2,hk=>by
  simp at h1 h2; subst h1; subst h2
  show bindC kindOf ((p,w) :: P.zip vs) m p = _
  unfold bindC
  rw [a81 fun v hv=>(List.nodup_cons.mp nd).1 (List.of_mem_zip hv).1,if_neg hk]
  simp
 | p :: P,w :: vs,i + 1,m,nd,h1,h2,hk=>by
  show bindC kindOf ((p,w) :: P.zip vs) m x = _
  unfold bindC
  exact a5T (i:=i) (List.nodup_cons.mp nd).2 (by simpa using h1) (by simpa using h2) hk
noncomputable def start (N:List Str) (vs:List V):St:=vs.map some ++ List.replicate (N.length - vs.length) none
noncomputable def R0 (CX:CXT) (P:Program) (w:World) (K:PySem.W.Frag) (mg:Str → Option Value) (base:Heap) (N:List Str) (qual:Str) (scope:Scope) (f:Addr) (cd:Value) (A:Around) (outer:List Env) (s:Shared) (H:Hp) (E:XK):Cx where
 prog:=P
 w:=w
 K:=K
 mg:=mg
 base:=base
 A:=A.deeper (envOfC qual scope s.heap.objs.size f cd)
 N:=N
 s₀:=s
 H₀:=H
 env:=envOfC qual scope s.heap.objs.size f cd
 outer:=outer
 stack:=envOfC qual scope s.heap.objs.size f cd :: outer
 ex:=[]
 calm:=true
 fn:=fun _=>true
 pn:=[]
 xe:=fun e s'=>wpAny (model P w) (A.deeper (envOfC qual scope s.heap.objs.size f cd)) (leaving (envOfC qual scope s.heap.objs.size f cd) e) (fun _ s''=>CX outer H s E e s'') (fun e' s''=>CX outer H s E e' s'') s'
theorem a8b {sc:Scope} {n:Nat} {x:Str} (h:sc.names.lookup x = some .cell):∃ c,(cellsFrom n sc.names []).lookup x = some c:=by
 have q:=PySem.W.cellsFrom_some sc.names n [] (.inl h)
 exact Option.isSome_iff_exists.mp q
theorem b6p {CX:CXT} {P:Program} {w:World} {K:PySem.W.Frag} {mg:Str → Option Value} {base:Heap} {N ps:List Str} {qual:Str} {scope:Scope} {f:Addr} {cd:Value} {A:Around} {outer:List Env} {s s1:Shared} {H:Hp} {E:XK} {us:List Value} {vs:List V}
  (S:FnScope N ps scope) (hd:A.handled = none) (e0:Env0 P w K mg base A outer s H) (hl:vs.length = ps.length) (r:Vals vs us)
  (x:InCallC s s.heap.objs.size (bindL (envOfC qual scope s.heap.objs.size f cd).kindOf (ps.zip us) fun _=>none) (cellsFrom (s.heap.objs.size + 1) scope.names []) (bindC (envOfC qual scope s.heap.objs.size f cd).kindOf (ps.zip us) fun _=>none) s1) :
  Inv (R0 CX P w K mg base N qual scope f cd A outer s H E) [] (start N vs) H s1:=by
 have hpl:ps.length ≤ N.length:=by have:=congrArg List.length S.pre; rw [List.length_take] at this; omega
 obtain ⟨h1,tk,rfl,hk⟩:=x.done
 have noA:∀ b:Addr,b ∉ (R0 CX P w K mg base N qual scope f cd A outer s H E).ex:=fun b z=>absurd (show b ∈ ([]:List Addr) from z) (by simp)
 refine ⟨⟨e0.mod,S.kind,rfl,rfl,Nat.le_refl _,fun y z c h1 h2=>?_,fun y hy=>?_,fun y c _ h=>?_,fun _=>hd,Around.frames_deeper e0.frames,.inr ⟨rfl,rfl⟩,fun b z=>absurd z (noA b),e0.bs,e0.bsz,fun b _ _=>noA b,fun b z=>absurd z (noA b),e0.funs,e0.frf⟩,
  rfl,e0.bare,Un.kept hk,⟨_,x.toInCall.ns,fun i y v h1 h2 h3=>?_⟩,fun y c h=>⟨_,x.cell y c h⟩,e0.hok.fresh (Nat.le_refl _),fun y c h=>?_,fun p hp=>absurd (show p ∈ ([]:List (Addr × Obj)) from hp) (by simp),e0.hok.kept hk,?_⟩
 ·exact name_of_addr x.apart (PySem.mem_of_lookup h1) (PySem.mem_of_lookup h2)
 ·have hy:scope.names.lookup y = some .cell ∨ scope.names.lookup y = some .free:=hy
  rcases hy with hy | hy
  ·exact a8b hy
  ·exact absurd rfl (S.nofree _ (PySem.mem_of_lookup hy))
 ·exact Nat.le_of_lt (x.above y c (PySem.mem_of_lookup h))
 ·have hi:i < vs.length:=by
   unfold start at h2
   by_cases hi:i < vs.length
   ·exact hi
   ·rw [List.getElem?_append_right (by simpa using hi)] at h2
    rw [List.getElem?_replicate] at h2
    split at h2 <;> cases h2
  have ha:vs[i]? = some v:=by
   unfold start at h2
   rw [List.getElem?_append_left (by simpa using hi),List.getElem?_map] at h2
   cases e:vs[i]? with
   | none=>rw [e] at h2; cases h2
   | some a=>rw [e] at h2; cases h2; rfl
  obtain ⟨u,hu,rv⟩:=r.get ha
  have hp:ps[i]? = some y:=by
   rw [← S.pre,List.getElem?_take_of_lt (by omega)]; exact h1
  have ndP:ps.Nodup:=by rw [← S.pre]; exact S.nd.sublist (List.take_sublist _ _)
  refine ⟨u,rv,?_⟩
  rcases S.par y (List.mem_of_getElem? hp) with k | k
  ·exact .inl ⟨k,a5N ndP hp hu k⟩
  ·obtain ⟨c,e⟩:=a8b (n:=s.heap.objs.size + 1) k
   refine .inr ⟨.inl k,c,e,?_⟩
   have q:=x.cell y c e
   rw [a5T ndP hp hu (by show scope.names.lookup y ≠ _; rw [k]; decide)] at q
   exact q
 ·exact e0.hok.fresh (Nat.le_of_lt (x.above y c (PySem.mem_of_lookup h)))
 ·unfold start
  show _ = N.length
  rw [List.length_append,List.length_map,List.length_replicate]
  omega
theorem b1t {CX:CXT} {P:Program} {w:World} {K:PySem.W.Frag} {mg:Str → Option Value} {base:Heap} {k:Nat} {f:Addr} {name qual:Str} {params:Arguments} {body:List Stmt} {scope:Scope} {dV kV doc pm cdv ct oc:Value} {an od:Option Addr}
  {osl:Array (Option Value)} {N ps:List Str} {sp:Sp} (lk:K.lookup f = some ⟨oc,od,.func (PySem.W.fnOf name qual params body scope dV kV doc pm an cdv ct),osl⟩) (hcd:PySem.W.codeIn K cdv qual = true) (S:FnScope N ps scope)
  (len:∀ vs H Q E,sp vs H Q E → vs.length = ps.length)
  (hbody:∀ (A:Around) (outer:List Env) (s:Shared) (H:Hp) (vs:List V) (Q:VK) (E:XK),Room k (A.deeper (envOfC qual scope s.heap.objs.size f cdv)) → sp vs H Q E →
   ∃ t,PSs (R0 CX P w K mg base N qual scope f cdv A outer s H E) body t ∧ t { nx:=fun _ H'=>Q .non H',rt:=Q } (start N vs) H) :
  FnOk P w K mg base CX (k + 1) f (PySem.W.fnOf name qual params body scope dV kV doc pm an cdv ct) ps sp:=by
 refine ⟨len,fun A outer s H args us vs Q E hr e0 hb r hsp=>?_⟩
 have hl:=len _ _ _ _ hsp
 have KX:K.In s.heap:=e0.mod.kin.keeps fun b o e=>(e0.bs b o e).1
 have lim:s.heap.NoLimit:=e0.mod.nolimit.keeps fun b o e=>(e0.bs b o e).1
 have hkind:∀ y ∈ ps.zip us,scope.names.lookup y.1 = some .local ∨ (scope.names.lookup y.1 = some .cell ∧ ((cellsFrom (s.heap.objs.size + 1) scope.names []).lookup y.1).isSome = true):=fun ⟨n,v⟩ hy=>by
  rcases S.par n (List.of_mem_zip hy).1 with q | q
  ·exact .inl q
  ·exact .inr ⟨q,PySem.W.cellsFrom_some _ _ _ (.inl q)⟩
 refine codeAny_call_function hr.depth (KX _ _ lk) rfl S.co S.gen rfl (PySem.W.codeRec_of KX hcd) (hb _ _ _ _ ?_)
 refine wpAny_newFunctionEnv_cells S.kind hkind fun env he s1 x=>?_
 subst he
 refine ⟨lim.keeps x.toInCall.keep,codeAny_func ?_⟩
 obtain ⟨t,ht,hq⟩:=hbody A outer s H vs Q E (hr.deeper _) hsp
 have I:Inv (R0 CX P w K mg base N qual scope f cdv A outer s H E) [] (start N vs) H s1:=b6p S hr.hd e0 hl r x
 refine wpAny_mono (ht [] s1 (start N vs) H _ I hq) (fun fl s' hs=>?_) fun e s' hs=>hs
 have fin:∀ {σ':St} {H':Hp} {v:V} {u:Value},Inv (R0 CX P w K mg base N qual scope f cdv A outer s H E) [] σ' H' s' → RelV v u → Q v H' → CE outer P w H s Q u s':=
  fun {σ' H' v u} J rv q=>⟨v,H',J.os,J.bare,J.base,J.hok,rv,q⟩
 cases fl with
 | ret u=>
  obtain ⟨v,σ',H',J,rv,q⟩:=hs
  exact fin J rv q
 | next=>
  obtain ⟨σ',H',J,q⟩:=hs
  exact fin (v:=V.non) (u:=Value.none) J rfl q
 | brk=>
  obtain ⟨_,_,_,q⟩:=hs
  exact False.elim q
 | cont=>
  obtain ⟨_,_,_,q⟩:=hs
  exact False.elim q
section
variable {X:Cx} {x:Str} {p pos:Pos} {e:Expr} {es:List Expr} {t:TA} {id T:String} {r:List V → Hp → VK → Prop}
noncomputable def tCB (r:List V → Hp → VK → Prop) (t:TA):TE:=fun σ H Q=>t σ H fun vs H1=>r vs H1 Q
theorem b1m (hc:CallR X (.builtin id) r) (hg:Gl X x) (hm:X.mg x = none) (hv:bootBuiltins x = some (.builtin id)) (ha:PA X (e :: es) t) (hn:x ≠ "__name__" := by decide) (hdb:(x == ("__debug__" : Str)) = false:=by decide)
  (he:starEach (e :: es) X.env = (false,eval e X.env) :: starEach es X.env:=by rfl) (hpl:(backTo pos (starEach es X.env)).any (·.1) = false:=by rfl):PE X (.Call (.Name x p) (e :: es) [] pos) (tCB r t):=by
 intro pins s σ H Q I h
 refine wpAny_Call_Name_kw (S4 I hg hm hv ?_ hn hdb)
 exact PyProof.Rows.callWith_builtin1 (thn (ha pos pins s σ H _ I h) fun us s1 ⟨vs,H1,I1,r1,q1⟩=>hc pins s1 σ H1 vs us Q I1 r1 q1) he hpl
theorem a8P (hc:CallR X (.type T) r) (hg:Gl X x) (hm:X.mg x = none) (hv:bootBuiltins x = some (.type T)) (ha:PA X (e :: es) t) (hn:x ≠ "__name__" := by decide) (hdb:(x == ("__debug__" : Str)) = false:=by decide)
  (he:starEach (e :: es) X.env = (false,eval e X.env) :: starEach es X.env:=by rfl) (hpl:(backTo pos (starEach es X.env)).any (·.1) = false:=by rfl):PE X (.Call (.Name x p) (e :: es) [] pos) (tCB r t):=by
 intro pins s σ H Q I h
 refine wpAny_Call_Name_kw (S4 I hg hm hv ?_ hn hdb)
 exact PyProof.Rows.callWith_type1 (thn (ha pos pins s σ H _ I h) fun us s1 ⟨vs,H1,I1,r1,q1⟩=>hc pins s1 σ H1 vs us Q I1 r1 q1) he hpl
end
end L2
namespace HT
open PySem PyProof.Rows
section
variable {prog:Program} {w:World} {A:Around} {E:Value → Shared → Prop} {s:Shared}
theorem cat_tup {t b:Addr} {vs ws:List Value} {Q:Value → Shared → Prop} (ht:IsTup s.heap t vs.toArray) (hb:IsTup s.heap b ws.toArray) (hv:vs ≠ [])
  (h1:ws = [] → Q (.ref t) s) (h2:ws ≠ [] → Q (.ref s.heap.objs.size) { s with heap:=s.heap.push { cls:=.type "tuple",data:=.seq (vs ++ ws).toArray } })
  (hsz:vs.length + ws.length ≤ sizeLine):wpAny (model prog w) A (binaryOp .Add (.ref t) (.ref b)) Q E s:=by
 obtain ⟨⟨cls,dd,data,sl⟩,ho,hc,n,hd⟩:=id ht
 obtain ⟨⟨cls2,dd2,data2,sl2⟩,ho2,hc2,n2,hd2⟩:=id hb
 simp only at hc hd hc2 hd2
 subst hc hd hc2 hd2
 have e:vs.toArray ++ ws.toArray = (vs ++ ws).toArray:=by simp
 by_cases hw:ws = []
 ·exact concat_meets ⟨_,ho,rfl⟩ ⟨_,ho2,rfl⟩ noFill_tuple_add seq_tuple_add PySem.F.slot_tuple_add PySem.F.entry_tuple_add (PySem.F.args_tuple_add_2 _ _)
   (tuple_addW1 t b vs.toArray ws.toArray n n2 dd dd2 sl sl2 (by simpa using hv) (by simp [hw])) ⟨ho,ho2,h1 hw⟩
 ·refine concat_meets ⟨_,ho,rfl⟩ ⟨_,ho2,rfl⟩ noFill_tuple_add seq_tuple_add PySem.F.slot_tuple_add PySem.F.entry_tuple_add (PySem.F.args_tuple_add_2 _ _)
   (tuple_addW2 t b vs.toArray ws.toArray n n2 dd dd2 sl sl2 (by simpa using hv) (by simpa using hw) (by rw [List.size_toArray,List.size_toArray]; exact hsz)) ⟨ho,ho2,?_⟩
  rw [e]
  exact h2 hw
noncomputable def sIx (n d:Nat):Option Int → Nat
 | none=>d
 | some v=>if v < 0 then (v + (n:Int)).toNat else min v.toNat n
theorem sIx_none (n d:Nat):sIx n d none = d:=rfl
theorem sIx_nat (n d k:Nat):sIx n d (some (k:Int)) = min k n:=by
 show (if (k:Int) < 0 then ((k:Int) + (n:Int)).toNat else min (k:Int).toNat n) = min k n
 rw [if_neg (by omega),Int.toNat_natCast]
theorem b3d (n d:Nat) (hd:d ≤ n) (o:Option Int):sIx n d o ≤ n:=by
 cases o with
 | none=>exact hd
 | some v=>
  show (if v < 0 then (v + (n:Int)).toNat else min v.toNat n) ≤ n
  by_cases hv:v < 0
  ·rw [if_pos hv]; omega
  ·rw [if_neg hv]; exact Nat.min_le_right _ _
theorem a7s (v:Int) (n d:Nat):(if v < 0 then max (v + (n:Int)) 0 else min v (n:Int)) = ((sIx n d (some v):Nat):Int):=by
 show (if v < 0 then max (v + (n:Int)) 0 else min v (n:Int)) = (((if v < 0 then (v + (n:Int)).toNat else min v.toNat n):Nat):Int)
 by_cases hv:v < 0
 ·simp only [if_pos hv]; omega
 ·simp only [if_neg hv]; omega
theorem b2X (lo hi:Option Int) (n:Nat):Builtin.Slice.sliceAdjust lo hi 1 (n:Int) = (((sIx n 0 lo:Nat):Int),((sIx n n hi:Nat):Int)):=by
 have h1:¬ ((1:Int) < 0):=by omega
 unfold Builtin.Slice.sliceAdjust
 simp only [h1,if_false]
 refine Prod.ext ?_ ?_
 ·cases lo with
  | none=>rfl
  | some v=>exact a7s v n 0
 ·cases hi with
  | none=>rfl
  | some v=>exact a7s v n n
theorem b1Q (i j:Nat):Builtin.Slice.slicePlaces (i:Int) (j:Int) 1 = j - i:=by
 unfold Builtin.Slice.slicePlaces
 have h1:(1:Int) > 0:=by omega
 simp only [h1,if_true,Int.ediv_one]
 split <;> omega
theorem a7D {v:Value} {o:Option Int} {Q:Option Int → Shared → Prop} (p:IsPart v o) (h:Q o s):wpAny (model prog w) A (Builtin.Slice.slicePartIndex v) Q E s:=by
 cases p with
 | none=>exact slicePart_none h
 | int i t=>exact slicePart_int h
theorem a7u {sl:Addr} {vl vu:Value} {lo hi:Option Int} {n:Nat} {Q:Int × Int × Nat → Shared → Prop} (hs:s.heap.IsSliceOf sl vl vu .none) (pl:IsPart vl lo) (pu:IsPart vu hi)
  (h:Q (((sIx n 0 lo:Nat):Int),1,sIx n n hi - sIx n 0 lo) s):wpAny (model prog w) A (Builtin.Slice.sliceApplied (.ref sl) (pure (n:Int))) Q E s:=by
 obtain ⟨os,hos,hcs,hds⟩:=id hs
 unfold Builtin.Slice.sliceApplied Builtin.Slice.sliceFields
 refine wpAny_bind (wpAny_bind (wpAny_field hos hds (x:=vl) rfl (wpAny_bind (wpAny_field hos hds (x:=vu) rfl (wpAny_bind (wpAny_field hos hds (x:=.none) rfl (wpAny_pure ?_)))))))
 refine wpAny_bind (slicePart_none ?_)
 show wpAny _ _ (if ((1:Int) == 0) = true then _ else _) _ _ s
 rw [if_neg (by decide)]
 refine wpAny_bind (a7D pl (wpAny_bind (a7D pu (wpAny_bind (wpAny_pure ?_)))))
 show wpAny _ _ (match Builtin.Slice.sliceAdjust lo hi 1 (n:Int) with | (lo,hi)=>pure (lo,(1:Int),Builtin.Slice.slicePlaces lo hi 1)) _ _ s
 rw [b2X lo hi n]
 show wpAny _ _ (pure (((sIx n 0 lo:Nat):Int),(1:Int),Builtin.Slice.slicePlaces ((sIx n 0 lo:Nat):Int) ((sIx n n hi:Nat):Int) 1)) _ _ s
 rw [b1Q]
 exact wpAny_pure h
theorem b2L (xs:Array Value) (i k:Nat):((List.range k).filterMap fun (m:Nat)=>xs[((i:Int) + (m:Int) * 1).toNat]?).toArray = ((xs.toList.drop i).take k).toArray:=by
 have e:(fun (m:Nat)=>xs[((i:Int) + (m:Int) * 1).toNat]?) = fun m=>xs[i + m]?:=by
  funext m
  have:((i:Int) + (m:Int) * 1).toNat = i + m:=by omega
  rw [this]
 rw [e]
 have:=pick_run xs i k
 rw [List.filterMap_map] at this
 have e2:((fun x=>xs[x]?) ∘ fun x=>i + x) = fun m=>xs[i + m]?:=rfl
 rw [e2] at this
 rw [this]
theorem getItem_tuple_cut {t sl:Addr} {items:Array Value} {vl vu:Value} {lo hi:Option Int} {Q:Value → Shared → Prop} (ht:IsTup s.heap t items) (hs:s.heap.IsSliceOf sl vl vu .none) (pl:IsPart vl lo) (pu:IsPart vu hi)
  (hw:¬ (sIx items.size 0 lo = 0 ∧ sIx items.size items.size hi = items.size))
  (h:Q (.ref s.heap.objs.size) { s with heap:=s.heap.push { cls:=.type "tuple",data:=.seq ((items.toList.drop (sIx items.size 0 lo)).take (sIx items.size items.size hi - sIx items.size 0 lo)).toArray } })
  (hsz:items.size ≤ sizeLine):wpAny (model prog w) A (getItem (.ref t) (.ref sl)) Q E s:=by
 have htake:sizeOk (.seq ((items.toList.drop (sIx items.size 0 lo)).take (sIx items.size items.size hi - sIx items.size 0 lo)).toArray):=by
  show ((items.toList.drop (sIx items.size 0 lo)).take (sIx items.size items.size hi - sIx items.size 0 lo)).toArray.size ≤ sizeLine
  rw [List.size_toArray,List.length_take,List.length_drop,Array.length_toList]
  omega
 have hj:sIx items.size items.size hi ≤ items.size:=b3d _ _ (Nat.le_refl _) hi
 obtain ⟨os,hos,hcs,hds⟩:=id hs
 have hTs:s.TypeIs (.ref sl) "slice" := ⟨os,hos,hcs⟩
 unfold getItem
 try with_reducible refine wpAny_holding ?_
 first | refine wpAny_bind (wpAny_pure ?_) | skip
 refine wpAny_bind (wpAny_sequenceKey ht.typeIs (by decide) ?_)
 refine wpAny_bind (wpAny_callSpecial?_slot (name:=Str.ofString "__getitem__") ht.typeIs PyProof.Rows.slot_tuple_getitem
  (wpAny_call_entry PyProof.Rows.slot_tuple_getitem ht.typeIs entry_tuple_getitem ?_ (args_tuple_getitem _ _)))
 show wpAny _ _ (Builtin.Tuple.tupleItemsOf (.ref t) >>= _) _ _ s
 refine wpAny_bind (tupleItemsOf_ ht ?_)
 refine wpAny_bind (wpAny_typeOf hTs ?_)
 rw [if_pos (by decide)]
 refine wpAny_bind (a7u hs pl pu ?_)
 have hno:¬ ((((sIx items.size 0 lo:Nat):Int) == 0 && (1:Int) == 1 && (sIx items.size items.size hi - sIx items.size 0 lo) == items.size) = true):=by
  intro q
  rw [Bool.and_eq_true,Bool.and_eq_true] at q
  have q1:((sIx items.size 0 lo:Nat):Int) = 0:=eq_of_beq q.1.1
  have q2:sIx items.size items.size hi - sIx items.size 0 lo = items.size:=eq_of_beq q.2
  exact hw ⟨by omega,by omega⟩
 show wpAny _ _ (if (((sIx items.size 0 lo:Nat):Int) == 0 && (1:Int) == 1 && (sIx items.size items.size hi - sIx items.size 0 lo) == items.size) = true then _ else _) _ _ s
 rw [if_neg hno,b2L]
 first
  | exact wpAny_bind (m:=Builtin.Tuple.tupleExact _) (wpAny_newObj_type (wpAny_pure ⟨_,rfl,wpAny_pure h⟩) htake)
  | exact wpAny_bind (m:=Builtin.Tuple.tupleExact _) (wpAny_newObj_type (wpAny_bind (wpAny_pure (wpAny_pure ⟨_,rfl,wpAny_pure h⟩))) htake)
  | exact wpAny_bind (wpAny_bind (m:=Builtin.Tuple.tupleExact _) (wpAny_newObj_type (wpAny_pure (wpAny_pure ⟨_,rfl,wpAny_pure h⟩)) htake))
  | exact wpAny_bind (wpAny_bind (m:=Builtin.Tuple.tupleExact _) (wpAny_newObj_type (wpAny_pure ⟨_,rfl,wpAny_pure h⟩) htake))
end
end HT
namespace L2
open PySem PySem.Spec PyProof.Rows
noncomputable abbrev TO:=St → Hp → (Option Int → Hp → Prop) → Prop
noncomputable def PO (X:Cx) (e:Option Expr) (t:TO):Prop:=
 ∀ (pins:List (Addr × Obj)) (s:Shared) (σ:St) (H:Hp) (Q:Option Int → Hp → Prop),Inv X pins σ H s → t σ H Q →
  wpAny (model X.prog X.w) X.A (evalPart e X.env) (fun u s'=>∃ o H',Inv X pins σ H' s' ∧ IsPart u o ∧ Q o H') X.xe s
noncomputable def b2F:TO:=fun _ H Q=>Q none H
noncomputable def b3w (t:TE):TO:=fun σ H Q=>t σ H fun x H1=>∃ i,x = .int i ∧ Q (some i) H1
section
variable {X:Cx} {e:Expr} {te:TE} {lo hi:Option Expr} {tl th:TO} {pos p2:Pos}
theorem a6v:PO X none b2F:=by
 intro pins s σ H Q I h
 rw [evalPart_none]
 exact wpAny_pure ⟨none,H,I,.none,h⟩
theorem a7k (h:PE X e te):PO X (some e) (b3w te):=by
 intro pins s σ H Q I hw
 rw [evalPart_some]
 refine thn (h pins s σ H _ I hw) fun u s1 ⟨x,H1,I1,r1,q1⟩=>?_
 obtain ⟨i,rfl,q⟩:=q1
 obtain ⟨t,rfl⟩:=r1
 exact ⟨some i,H1,I1,.int i t,q⟩
noncomputable def SlR (X:Cx) (r:V → Option Int → Option Int → Hp → VK → Prop):Prop:=
 ∀ (pins:List (Addr × Obj)) (s:Shared) (σ:St) (H:Hp) (x:V) (v vl vu:Value) (lo hi:Option Int) (sl:Addr) (Q:VK),Inv X pins σ H s → RelV x v → s.heap.IsSliceOf sl vl vu .none → IsPart vl lo → IsPart vu hi → r x lo hi H Q →
  ∃ T id,typeLookup (.type T) "__getitem__" = pure (some (.builtin id)) ∧ s.TypeIs v T ∧ wpAny (model X.prog X.w) X.A (getItem v (.ref sl)) (EP X pins σ Q) X.xe s
theorem SlR.or {r r':V → Option Int → Option Int → Hp → VK → Prop} (h:SlR X r) (h':SlR X r'):SlR X (fun x lo hi H Q=>r x lo hi H Q ∨ r' x lo hi H Q):=by
 intro pins s σ H x v vl vu lo hi sl Q I rx hs pl pu q
 rcases q with q | q
 ·exact h pins s σ H x v vl vu lo hi sl Q I rx hs pl pu q
 ·exact h' pins s σ H x v vl vu lo hi sl Q I rx hs pl pu q
noncomputable def tSl (r:V → Option Int → Option Int → Hp → VK → Prop) (te:TE) (tl th:TO):TE:=fun σ H Q=>te σ H fun x H1=>tl σ H1 fun l H2=>th σ H2 fun u H3=>r x l u H3 Q
theorem a6Z {r:V → Option Int → Option Int → Hp → VK → Prop} (hr:SlR X r) (he:PE X e te) (hl:PO X lo tl) (hu:PO X hi th):PE X (.Subscript e (.Slice lo hi none p2) pos) (tSl r te tl th):=by
 intro pins s σ H Q I h
 refine Subscript_ (thn (he pins s σ H _ I h) fun v s1 ⟨x,H1,I1,r1,q1⟩=>?_)
 refine wpAny_Slice (thn (hl pins s1 σ H1 _ I1 q1) fun vl s2 ⟨l,H2,I2,pl,q2⟩=>thn (hu pins s2 σ H2 _ I2 q2) fun vu s3 ⟨u,H3,I3,pu,q3⟩=>?_)
 rw [evalPart_none]
 refine wpAny_pure ?_
 have I4:Inv X pins σ H3 { s3 with heap:=s3.heap.push { cls:=.type "slice",data:=.fields #[vl,vu,.none] } }:=I3.kept (t':=s3.toks) fun b ob q=>Heap.get?_push_of_some _ q
 obtain ⟨T,id,hT,ht,hg⟩:=hr pins { s3 with heap:=s3.heap.push { cls:=.type "slice",data:=.fields #[vl,vu,.none] } } σ H3 x v vl vu l u s3.heap.objs.size Q I4 r1 (Heap.IsSliceOf.new ..) pl pu q3
 show wpAny (model X.prog X.w) X.A (subscriptTail e (.Slice lo hi none p2) v (.ref s3.heap.objs.size)) (EP X pins σ Q) X.xe { s3 with heap:=s3.heap.push { cls:=.type "slice",data:=.fields #[vl,vu,.none] } }
 exact tail_any (ops:=[.ref s3.heap.objs.size,v]) ht hT hg (by with_unfolding_all rfl)
noncomputable def M4 (xs:List V) (lo hi:Option Int):List V:=(xs.drop (HT.sIx xs.length 0 lo)).take (HT.sIx xs.length xs.length hi - HT.sIx xs.length 0 lo)
theorem a8B (xs:List V) (lo hi:Option Int):(M4 xs lo hi).length ≤ xs.length:=by
 unfold M4
 rw [List.length_take,List.length_drop]
 omega
noncomputable def b1A (K:PySem.W.Frag):V → Option Int → Option Int → Hp → VK → Prop:=fun x lo hi H Q=>∃ a xs,x = .ref a ∧ SqT K H a xs ∧
 ¬ (HT.sIx xs.length 0 lo = 0 ∧ HT.sIx xs.length xs.length hi = xs.length) ∧ ∀ p,H p = none → Q (.ref p) (upd H p (.tup (M4 xs lo hi)))
theorem a9U:SlR X (b1A X.K):=by
 intro pins s σ H x v vl vu lo hi sl Q I rx hs pl pu h
 obtain ⟨a,xs,rfl,hx,hw,q⟩:=h
 cases rx
 obtain ⟨its,r,ht,hz⟩:=I.tuple hx
 have hlen:its.toArray.size = xs.length:=by rw [List.size_toArray]; exact r.length.symm
 refine ⟨"tuple",_,PyProof.Rows.slot_tuple_getitem.lookup,ht.typeIs,?_⟩
 refine HT.getItem_tuple_cut ht hs pl pu (by rw [hlen]; exact hw) ?_ (by rw [hlen]; exact hz)
 rw [hlen]
 refine ⟨.ref s.heap.objs.size,_,I.laid (t':=s.toks) (o:=.tup (M4 xs lo hi)) (fun b ob q=>Heap.get?_push_of_some _ q) (Nat.le_refl _) ?_,rfl,q _ (I.hok.fresh (Nat.le_refl _))⟩
 exact ⟨Nat.le_trans (a8B xs lo hi) hz,_,(r.drop (HT.sIx xs.length 0 lo)).take (HT.sIx xs.length xs.length hi - HT.sIx xs.length 0 lo),IsTup.new _ _⟩
noncomputable def a5R (K:PySem.W.Frag):R2:=fun x y H Q=>∃ a b xs ys,x = .ref a ∧ y = .ref b ∧ SqT K H a xs ∧ SqT K H b ys ∧ xs ≠ [] ∧ xs.length + ys.length ≤ sizeLine ∧
 (ys = [] → Q (.ref a) H) ∧ (ys ≠ [] → ∀ p,H p = none → Q (.ref p) (upd H p (.tup (xs ++ ys))))
theorem Vals.nil_iff {xs:List V} {us:List Value} (r:Vals xs us):us = [] ↔ xs = []:=by
 cases r with
 | nil=>simp
 | cons _ _=>simp
theorem b2f:OpR X (binaryOp .Add) (a5R X.K):=by
 intro pins s σ H x y v u Q I rx ry h
 obtain ⟨a,b,xs,ys,rfl,rfl,ha,hb,hx,hz,q1,q2⟩:=h
 cases rx
 cases ry
 obtain ⟨its,r1,p1,_⟩:=I.tuple ha
 obtain ⟨its2,r2,p2,_⟩:=I.tuple hb
 refine HT.cat_tup p1 p2 (fun z=>hx (r1.nil_iff.mp z)) (fun z=>⟨.ref a,H,I,rfl,q1 (r2.nil_iff.mp z)⟩) (fun z=>?_) (by rw [← r1.length,← r2.length]; exact hz)
 refine ⟨.ref s.heap.objs.size,_,I.laid (t':=s.toks) (o:=.tup (xs ++ ys)) (fun b ob q=>Heap.get?_push_of_some _ q) (Nat.le_refl _) ?_,rfl,q2 (fun w=>z (r2.nil_iff.mpr w)) _ (I.hok.fresh (Nat.le_refl _))⟩
 exact ⟨by rw [List.length_append]; exact hz,_,r1.append r2,IsTup.new _ _⟩
end
noncomputable def ixN (n:Nat) (i:Int):Option Nat:=if 0 ≤ i then (if i < n then some i.toNat else none) else if -(n:Int) ≤ i then some (i + n).toNat else none
noncomputable def atI {α:Type} (xs:List α) (i:Int):Option α:=(ixN xs.length i).bind fun j=>xs[j]?
theorem b5J {n:Nat} {i:Int} {j:Nat} (h:ixN n i = some j):seqIndex? i n = some j ∧ j < n ∧ -(n:Int) ≤ i ∧ i < n:=by
 unfold ixN at h
 by_cases h0:0 ≤ i
 ·rw [if_pos h0] at h
  by_cases h1:i < n
  ·rw [if_pos h1] at h
   have e:i.toNat = j:=Option.some.inj h
   exact ⟨by rw [seqIndex_of h0 h1,e],by omega,by omega,h1⟩
  ·rw [if_neg h1] at h; cases h
 ·rw [if_neg h0] at h
  by_cases h1:-(n:Int) ≤ i
  ·rw [if_pos h1] at h
   have e:(i + n).toNat = j:=Option.some.inj h
   exact ⟨by rw [seqIndex_neg (by omega) h1,e],by omega,h1,by omega⟩
  ·rw [if_neg h1] at h; cases h
theorem a8D {α:Type} {xs:List α} {i:Int} {v:α} (h:atI xs i = some v):∃ j,seqIndex? i xs.length = some j ∧ xs[j]? = some v ∧ j < xs.length ∧ -(xs.length:Int) ≤ i ∧ i < xs.length:=by
 unfold atI at h
 cases e:ixN xs.length i with
 | none=>rw [e] at h; cases h
 | some j=>
  rw [e] at h
  obtain ⟨h1,h2,h3,h4⟩:=b5J e
  exact ⟨j,h1,h,h2,h3,h4⟩
theorem b3X {α:Type} (xs:List α) (v:α):atI (xs ++ [v]) (-1) = some v:=by
 have hl:(xs ++ [v]).length = xs.length + 1:=by simp
 have e:ixN (xs ++ [v]).length (-1) = some xs.length:=by
  unfold ixN
  rw [hl,if_neg (by decide),if_pos (by omega)]
  congr 1
  omega
 unfold atI
 rw [e]
 show (xs ++ [v])[xs.length]? = some v
 simp
noncomputable def a8I (b:Expr):Prop:=∀ o i,subscripted b false o i = operate [o,i] (getItem o i)
noncomputable def IxR (X:Cx) (r:R2):Prop:=
 ∀ (value slice:Expr) (pins:List (Addr × Obj)) (s:Shared) (σ:St) (H:Hp) (x y:V) (v u:Value) (Q:VK),Inv X pins σ H s → RelV x v → RelV y u → r x y H Q →
  subscripted slice false v u = operate [v,u] (getItem v u) → wpAny (model X.prog X.w) X.A (subscriptTail value slice v u) (EP X pins σ Q) X.xe s
noncomputable def MtR (X:Cx) (id:String) (r:V → List V → Hp → VK → Prop):Prop:=
 ∀ (pins:List (Addr × Obj)) (s:Shared) (σ:St) (H:Hp) (x:V) (xs:List V) (v:Value) (us:List Value) (Q:VK),Inv X pins σ H s → RelV x v → Vals xs us → r x xs H Q →
  wpAny (model X.prog X.w) X.A (call (.builtin id) (v :: us)) (EP X pins σ Q) X.xe s
section
variable {X:Cx} {a b:Expr} {ta tb:TE} {pos:Pos}
theorem IxR.or {r r':R2} (h:IxR X r) (h':IxR X r'):IxR X (fun x y H Q=>r x y H Q ∨ r' x y H Q):=by
 intro value slice pins s σ H x y v u Q I rx ry q hs
 rcases q with q | q
 ·exact h value slice pins s σ H x y v u Q I rx ry q hs
 ·exact h' value slice pins s σ H x y v u Q I rx ry q hs
theorem b2v {r:R2} (hr:IxR X r) (ha:PE X a ta) (hb:PE X b tb) (hs:a8I b):PE X (.Subscript a b pos) (tOp r ta tb):=by
 intro pins s σ H Q I h
 exact Subscript_ (a3k ha hb I h fun v u s2 x y H2 I2 rx ry q=>hr a b pins s2 σ H2 x y v u Q I2 rx ry q (hs _ _))
noncomputable def a2X (K:PySem.W.Frag):R2:=fun x y H Q=>∃ p xs i v,x = .ref p ∧ y = .int i ∧ SqL K H p xs ∧ atI xs i = some v ∧ Q v H
noncomputable def a3j (K:PySem.W.Frag):R2:=fun x y H Q=>∃ p xs i v,x = .ref p ∧ y = .int i ∧ SqT K H p xs ∧ atI xs i = some v ∧ Q v H
theorem ix_list:IxR X (a2X X.K):=by
 intro value slice pins s σ H x y v u Q I rx ry h hs
 obtain ⟨p,xs,i,z,rfl,rfl,hq,he,q⟩:=h
 cases rx
 obtain ⟨t,rfl⟩:=ry
 obtain ⟨its,r,pl,hz⟩:=I.list hq
 obtain ⟨j,h1,h2,h3,h4,h5⟩:=a8D he
 obtain ⟨w,ew,rw'⟩:=r.get h2
 have hl:=r.length
 have hn:=a0M
 have fin:EP X pins σ Q w s:=⟨z,H,I,rw',q⟩
 by_cases h0:0 ≤ i
 ·have hj:i.toNat = j:=by
   rw [seqIndex_of h0 h5] at h1
   exact Option.some.inj h1
  exact item_listR pl.isList h0 (by omega) (by rw [hj]; simpa using ew) fin hs
 ·have hj:(i + (its.toArray.size:Int)).toNat = j:=by
   rw [seqIndex_neg (by omega) h4] at h1
   rw [List.size_toArray,← hl]
   exact Option.some.inj h1
  exact subscriptTail_builtinR (x:=w) pl.isList.typeIs slot_list_getitem.lookup
   (wpAny_getItem_list_neg (Q:=fun r s'=>r = w ∧ EP X pins σ Q r s') pl.isList (by omega) (by rw [List.size_toArray] <;> omega) (by omega) (by rw [hj]; simpa using ew) ⟨rfl,fin⟩) hs
theorem b0r:IxR X (a3j X.K):=by
 intro value slice pins s σ H x y v u Q I rx ry h hs
 obtain ⟨p,xs,i,z,rfl,rfl,hq,he,q⟩:=h
 cases rx
 obtain ⟨t,rfl⟩:=ry
 obtain ⟨its,r,pl,hz⟩:=I.tuple hq
 obtain ⟨j,h1,h2,h3,h4,h5⟩:=a8D he
 obtain ⟨w,ew,rw'⟩:=r.get h2
 have hl:=r.length
 have hn:=a0M
 have fin:EP X pins σ Q w s:=⟨z,H,I,rw',q⟩
 exact subscriptTail_builtinR (x:=w) pl.typeIs slot_tuple_getitem.lookup
  (getItem_tuple (j:=j) (Q:=fun r s'=>r = w ∧ EP X pins σ Q r s') pl (by omega) (by omega) (by rw [List.size_toArray,← hl]; exact h1) (by simpa using ew) ⟨rfl,fin⟩) hs
theorem b03 (lo hi:Option Int) (n:Nat):(sliceBounds lo hi none n).1 = ((HT.sIx n 0 lo:Nat):Int) ∧ (sliceBounds lo hi none n).2.1 = ((HT.sIx n n hi:Nat):Int) ∧ (sliceBounds lo hi none n).2.2 = 1:=by
 have key:∀ i:Int,(sliceBounds (some i) none none n).1 = ((HT.sIx n 0 (some i):Nat):Int):=fun i=>by
  simp only [sliceBounds,HT.sIx,Option.getD_none,show (1:Int) > 0 by decide,if_true]
  by_cases h:i < 0
  ·simp only [h,if_true] <;> omega
  ·simp only [h,if_false] <;> omega
 refine ⟨?_,?_,rfl⟩
 ·cases lo with
  | none=>simp [sliceBounds,HT.sIx]
  | some i=>exact key i
 ·cases hi with
  | none=>simp [sliceBounds,HT.sIx]
  | some i=>exact key i
theorem b1q (its:List Value) (lo hi:Option Int):slicePick its.toArray lo hi none = ((its.drop (HT.sIx its.length 0 lo)).take (HT.sIx its.length its.length hi - HT.sIx its.length 0 lo)).toArray:=by
 obtain ⟨h1,h2,h3⟩:=b03 lo hi its.toArray.size
 unfold slicePick
 rw [h1,h2,h3]
 simp only [sliceRange_one,pick_run,List.size_toArray] <;> rfl
noncomputable def b2C (K:PySem.W.Frag):V → Option Int → Option Int → Hp → VK → Prop:=fun x lo hi H Q=>∃ a xs,x = .ref a ∧ SqL K H a xs ∧ ∀ p,H p = none → Q (.ref p) (upd H p (.lst (M4 xs lo hi)))
theorem a9o:SlR X (b2C X.K):=by
 intro pins s σ H x v vl vu lo hi sl Q I rx hs pl pu h
 obtain ⟨a,xs,rfl,hx,q⟩:=h
 cases rx
 obtain ⟨its,r,ht,hz⟩:=I.list hx
 have hlen:=r.length
 refine ⟨"list",_,slot_list_getitem.lookup,ht.isList.typeIs,?_⟩
 refine wpAny_getItem_list_slice ht.isList hs pl pu .none (by simp) ?_ (by rw [List.size_toArray] <;> omega)
 rw [b1q,← hlen]
 refine ⟨.ref s.heap.objs.size,_,I.laid (t':=s.toks) (o:=.lst (M4 xs lo hi)) (fun b ob q=>Heap.get?_push_of_some _ q) (Nat.le_refl _) ?_,rfl,q _ (I.hok.fresh (Nat.le_refl _))⟩
 exact ⟨Nat.le_trans (a8B xs lo hi) hz,_,0,(r.drop (HT.sIx xs.length 0 lo)).take (HT.sIx xs.length xs.length hi - HT.sIx xs.length 0 lo),Heap.get?_push_size _ rfl⟩
theorem call_len_seq:CallR X (.builtin "len") (fun xs H Q=>∃ p ys,xs = [.ref p] ∧ (SqL X.K H p ys ∨ SqT X.K H p ys) ∧ Q (.int ys.length) H):=by
 intro pins s σ H xs us Q I r h
 obtain ⟨p,ys,rfl,hq,q⟩:=h
 obtain ⟨u,rfl,rx⟩:=P8 r
 cases rx
 have hn:=a0M
 rcases hq with hq | hq
 ·obtain ⟨its,r',pl,hz⟩:=I.list hq
  have hlen:=r'.length
  exact Calls.call_len_list pl.isList (by simp only [List.size_toArray] <;> omega) ⟨.int ys.length,H,I.tok _,⟨s.toks + 1,by rw [List.size_toArray,hlen]⟩,q⟩
 ·obtain ⟨its,r',pl,hz⟩:=I.tuple hq
  have hlen:=r'.length
  exact len_tuple pl (by simp only [List.size_toArray] <;> omega) ⟨.int ys.length,H,I.tok _,⟨s.toks + 1,by rw [List.size_toArray,hlen]⟩,q⟩
theorem b4T:CallR X (.builtin "len") (fun xs H Q=>∃ z,xs = [.str z] ∧ z.length ≤ sizeLine ∧ Q (.int z.length) H):=by
 intro pins s σ H xs us Q I r h
 obtain ⟨z,rfl,hz,q⟩:=h
 obtain ⟨u,rfl,t,rfl⟩:=P8 r
 have hn:=a0M
 exact len_str (by omega) ⟨.int z.length,H,I.tok _,⟨_,rfl⟩,q⟩
theorem CallR.or {f:Value} {r r':List V → Hp → VK → Prop} (h:CallR X f r) (h':CallR X f r'):CallR X f (fun xs H Q=>r xs H Q ∨ r' xs H Q):=by
 intro pins s σ H xs us Q I rs q
 rcases q with q | q
 ·exact h pins s σ H xs us Q I rs q
 ·exact h' pins s σ H xs us Q I rs q
theorem a8L:CallR X (.type "list") (fun xs H Q=>∃ p ys,xs = [.ref p] ∧ (SqL X.K H p ys ∨ SqT X.K H p ys) ∧ ∀ l,H l = none → Q (.ref l) (upd H l (.lst ys))):=by
 intro pins s σ H xs us Q I r h
 obtain ⟨p,ys,rfl,hq,q⟩:=h
 obtain ⟨u,rfl,rx⟩:=P8 r
 cases rx
 have fin:∀ (its:List Value),Vals ys its → ys.length ≤ sizeLine → ∀ (h':Heap) (c':Nat),(∀ b o',s.heap.get? b = some o' → h'.get? b = some o') →
   h'.get? s.heap.objs.size = some { cls:=.type "list",dict:=none,data:=.seq its.toArray c',slots:=#[] } → EP X pins σ Q (.ref s.heap.objs.size) { s with heap:=h' }:=fun its r' hz h' c' kp e=>
  ⟨.ref s.heap.objs.size,_,I.laid (t':=s.toks) kp (Nat.le_refl _) (show ObjOk X.prog X.w _ h' _ (.lst ys) from ⟨hz,its,c',r',e⟩),rfl,q _ (I.hok.fresh (Nat.le_refl _))⟩
 rcases hq with hq | hq
 ·obtain ⟨its,r',pl,hz⟩:=I.list hq
  have hlen:=r'.length
  obtain ⟨o,ho,hc,n,hd⟩:=pl.isList
  exact call_list_seq p (.inl rfl) ho hc hd (fun h' c' kp e=>fin its r' hz h' c' kp e) (by simp only [List.size_toArray] <;> omega)
 ·obtain ⟨its,r',pl,hz⟩:=I.tuple hq
  have hlen:=r'.length
  obtain ⟨o,ho,hc,n,hd⟩:=pl
  exact call_list_seq p (.inr rfl) ho hc hd (fun h' c' kp e=>fin its r' hz h' c' kp e) (by simp only [List.size_toArray] <;> omega)
theorem a3J:CallR X (.type "tuple") (fun xs H Q=>∃ p ys,xs = [.ref p] ∧ ((SqL X.K H p ys ∧ ∀ l,H l = none → Q (.ref l) (upd H l (.tup ys))) ∨ (SqT X.K H p ys ∧ Q (.ref p) H))):=by
 intro pins s σ H xs us Q I r h
 obtain ⟨p,ys,rfl,h⟩:=h
 obtain ⟨u,rfl,rx⟩:=P8 r
 cases rx
 rcases h with ⟨hq,q⟩ | ⟨hq,q⟩
 ·obtain ⟨its,r',pl,hz⟩:=I.list hq
  have hlen:=r'.length
  refine call_tuple_list pl.isList (fun h' kp=>?_) (by simp only [List.size_toArray] <;> omega)
  have I1:Inv X pins σ H { s with heap:=h' }:=I.kept (t':=s.toks) kp
  have I2:Inv X pins σ (upd H h'.objs.size (.tup ys)) { s with heap:=h'.push { cls:=.type "tuple",data:=.seq its.toArray } }:=
   I1.laid (t':=s.toks) (fun b o e=>Heap.get?_push_of_some _ e) (Nat.le_refl _) (show ObjOk X.prog X.w _ _ _ (.tup ys) from ⟨hz,its,r',IsTup.new _ _⟩)
  exact ⟨.ref h'.objs.size,_,I2,rfl,q _ (I1.hok.fresh (Nat.le_refl _))⟩
 ·obtain ⟨its,r',pl,hz⟩:=I.tuple hq
  exact call_tuple_same pl ⟨.ref p,H,I,rfl,q⟩
noncomputable def tyV (K:PySem.W.Frag) (T:String) (x:V) (H:Hp):Prop:=match x with
 | .str _=>T = "str"
 | .int _=>T = "int"
 | .ref p=>(T = "list" ∧ ∃ xs,SqL K H p xs) ∨ (T = "tuple" ∧ ∃ o,K.lookup p = some o ∧ o.cls = .type "tuple" ∧ o.dict = none) ∨
   (T = "dict" ∧ ((∃ kvs,H p = some (.dK kvs)) ∨ ∃ kvs,H p = some (.dT kvs))) ∨ (T = "set" ∧ ∃ S n,H p = some (.set S n))
 | _=>False
theorem a6w {pins:List (Addr × Obj)} {σ:St} {H:Hp} {s:Shared} {T:String} {x:V} {v:Value} (I:Inv X pins σ H s) (r:RelV x v) (ty:tyV X.K T x H) :
  s.TypeIs v T ∧ ∀ a,v = .ref a → ∃ ob,s.heap.get? a = some ob ∧ ob.dict = none:=by
 cases x with
 | str z=>
  obtain ⟨t,rfl⟩:=r
  cases (show T = "str" from ty)
  exact ⟨typeIs_str s z t,fun _ e=>nomatch e⟩
 | int i=>
  obtain ⟨t,rfl⟩:=r
  cases (show T = "int" from ty)
  exact ⟨typeIs_int s i t,fun _ e=>nomatch e⟩
 | ref p=>
  cases r
  rcases ty with ⟨rfl,xs,hq⟩ | ⟨rfl,o,hk,hc,hd⟩ | ⟨rfl,hk⟩ | ⟨rfl,S,n,hk⟩
  ·obtain ⟨its,_,pl,_⟩:=I.list hq
   refine ⟨pl.isList.typeIs,fun a e=>?_⟩
   cases e
   obtain ⟨o,n,e,c,hd,_⟩:=pl
   exact ⟨o,e,hd⟩
  ·refine ⟨⟨o,I.kIn p o hk,hc⟩,fun a e=>?_⟩
   cases e
   exact ⟨o,I.kIn _ o hk,hd⟩
  ·have z:∃ o,s.heap.get? p = some o ∧ o.ExactDict:=by
    rcases hk with ⟨kvs,hk⟩ | ⟨kvs,hk⟩
    ·obtain ⟨_,_,_,_,o,_,_,e,ex,_⟩:=I.hok p _ hk
     exact ⟨o,e,ex⟩
    ·obtain ⟨_,_,_,_,o,_,_,e,ex,_⟩:=I.hok p _ hk
     exact ⟨o,e,ex⟩
   obtain ⟨o,e,ex⟩:=z
   refine ⟨⟨o,e,ex.1⟩,fun a e2=>?_⟩
   cases e2
   exact ⟨o,e,ex.2.1⟩
  ·obtain ⟨o,_,_,_,e,ex,_⟩:=I.hok p _ hk
   refine ⟨⟨o,e,ex.1⟩,fun a e2=>?_⟩
   cases e2
   exact ⟨o,e,ex.2.1⟩
 | _=>exact False.elim ty
noncomputable def b5X (K:PySem.W.Frag) (T:String) (r:V → List V → Hp → VK → Prop) (to:TE):TE:=fun σ H Q=>to σ H fun x H1=>tyV K T x H1 ∧ r x [] H1 Q
noncomputable def tBM (K:PySem.W.Frag) (T:String) (r:V → List V → Hp → VK → Prop) (to:TE) (t:TA):TE:=fun σ H Q=>to σ H fun x H1=>tyV K T x H1 ∧ t σ H1 fun xs H2=>r x xs H2 Q
variable {o e:Expr} {es:List Expr} {to:TE} {t:TA} {name:Str} {apos cpos:Pos} {T id:String} {r:V → List V → Hp → VK → Prop}
theorem b5B (pa:PlainAttrs T) (slot:Slot T name id) (hty:typeOf (.builtin id) = pure (.type "method_descriptor")) (hm:MtR X id r) (ho:PE X o to)
  (hbase:attributeBase o name X.env (eval o X.env) = eval o X.env:=by rfl) (hline:(apos.endLine == cpos.line) = true:=by rfl):PE X (.Call (.Attribute o name apos) [] [] cpos) (b5X X.K T r to):=by
 intro pins s σ H Q I h
 refine wpAny_Call_method0_late hbase hline (thn (ho pins s σ H _ I h) fun v s1 ⟨x,H1,I1,r1,ty,q1⟩=>?_)
 obtain ⟨h1,h2⟩:=a6w I1 r1 ty
 exact ⟨T,id,pa,slot,hty,h1,h2,Calls.callWith_builtin rfl (PySem.evalArgs_none (hm pins s1 σ H1 x [] v [] Q I1 r1 .nil q1))⟩
theorem b48 (pa:PlainAttrs T) (slot:Slot T name id) (hty:typeOf (.builtin id) = pure (.type "method_descriptor")) (hm:MtR X id r) (ho:PE X o to) (ha:PA X (e :: es) t)
  (hbase:attributeBase o name X.env (eval o X.env) = eval o X.env:=by rfl)
  (hfew:((backTo cpos (starEach (e :: es) X.env)).all (fun x=>!x.1) && (backToKw cpos (keywordEach [] X.env)).all (fun x=>x.1.isSome)
   && decide ((e :: es).length + ([]:List Keyword).length + (if ([]:List Keyword).isEmpty then 0 else 1) < 30)) = true:=by rfl)
  (hline:(apos.endLine == cpos.line) = true:=by rfl) (hs:starEach (e :: es) X.env = (false,eval e X.env) :: starEach es X.env:=by rfl) (hplain:(backTo cpos (starEach es X.env)).any (·.1) = false:=by rfl) :
  PE X (.Call (.Attribute o name apos) (e :: es) [] cpos) (tBM X.K T r to t):=by
 intro pins s σ H Q I h
 refine wpAny_Call_method_late hbase hfew hline rfl (thn (ho pins s σ H _ I h) fun v s1 ⟨x,H1,I1,r1,ty,q1⟩=>?_)
 obtain ⟨h1,h2⟩:=a6w I1 r1 ty
 refine ⟨T,id,pa,slot,hty,h1,h2,?_⟩
 have hA:=ha cpos pins s1 σ H1 _ I1 q1
 rw [hs] at hA ⊢
 refine Calls.callWith_builtin (by show (false || (backTo cpos (starEach es X.env)).any (·.1)) = false; rw [hplain] <;> rfl) (Calls.evalArgs_plain ?_)
 exact thn hA fun us s2 ⟨vs,H2,I2,r2,q2⟩=>hm pins s2 σ H2 x vs v us Q I2 r1 r2 q2
end
noncomputable def MtM (X:Cx) (id:String) (r:V → List V → Hp → VK → Prop):Prop:=
 ∀ (pins:List (Addr × Obj)) (s:Shared) (σ:St) (H:Hp) (x:V) (xs:List V) (v:Value) (us:List Value) (Q:VK),Inv X pins σ H s → RelV x v → Vals xs us → r x xs H Q →
  wpAny (model X.prog X.w) X.A (call (.builtin id) (v :: us)) (EP X pins σ Q) X.xe s
theorem Vals.one:∀ {x:V} {us:List Value},Vals [x] us → ∃ u,us = [u] ∧ RelV x u:=by
 intro x us h
 cases h with
 | cons r t=>
  cases t
  exact ⟨_,rfl,r⟩
theorem Vals.zero:∀ {us:List Value},Vals [] us → us = []
 | _,.nil=>rfl
theorem Vals.dropLast {xs:List V} {us:List Value} (h:Vals xs us):Vals xs.dropLast us.dropLast:=by
 induction h with
 | nil=>exact .nil
 | cons r t ih=>
  cases t with
  | nil=>exact .nil
  | cons q t'=>exact .cons r ih
theorem Vals.reverse {xs:List V} {us:List Value} (h:Vals xs us):Vals xs.reverse us.reverse:=by
 induction h with
 | nil=>exact .nil
 | cons r t ih=>rw [List.reverse_cons,List.reverse_cons]; exact Vals.append ih (.cons r .nil)
theorem Vals.rep {xs:List V} {us:List Value} (h:Vals xs us):∀ k:Nat,Vals (List.replicate k xs).flatten (List.replicate k us).flatten
 | 0=>.nil
 | k + 1=>by
  rw [List.replicate_succ,List.replicate_succ,List.flatten_cons,List.flatten_cons]
  exact Vals.append h (Vals.rep h k)
theorem b4C {α:Type} (l:List α):l.eraseIdx (l.length - 1) = l.dropLast:=by
 induction l with
 | nil=>rfl
 | cons a r ih=>
  cases r with
  | nil=>rfl
  | cons b r=>
   have e:(a :: b :: r).length - 1 = ((b :: r).length - 1) + 1:=by
    have h1:(a :: b :: r).length = r.length + 2:=rfl
    have h2:(b :: r).length = r.length + 1:=rfl
    omega
   rw [e,List.eraseIdx_cons_succ,ih]
   all_goals rfl
theorem a68 (its:List Value):∀ (k:Nat) (acc:List Value),
  List.foldl (fun x1 x2=>x1 ++ x2) acc.toArray (List.replicate k its.toArray) = (acc ++ (List.replicate k its).flatten).toArray
 | 0,acc=>by simp
 | k + 1,acc=>by
  have e:acc.toArray ++ its.toArray = (acc ++ its).toArray:=by simp
  have e2:(acc ++ its) ++ (List.replicate k its).flatten = acc ++ (List.replicate (k + 1) its).flatten:=by
   rw [List.replicate_succ,List.flatten_cons,List.append_assoc]
  rw [← e2,← a68 its k (acc ++ its),← e,List.replicate_succ,List.foldl_cons]
section
variable {X:Cx} {pins:List (Addr × Obj)} {σ:St} {H:Hp} {s:Shared} {l b:Addr} {xs ys zs:List V}
theorem Inv.lset {its its':List Value} {n:Nat} {f:Array Value → Array Value} {t':Nat} (I:Inv X pins σ H s) (hH:H l = some (.lst xs))
  (e:s.heap.get? l = some { cls:=.type "list",data:=.seq its.toArray n }) (hf:f its.toArray = its'.toArray) (hv:Vals ys its') (hz:ys.length ≤ sizeLine) :
  Inv X pins σ (upd H l (.lst ys)) { s with heap:=s.heap.update l (Obj.mapSeq f),toks:=t' }:=by
 have q:=PySem.IsL.update e f
 rw [hf] at q
 refine I.write (x:=l) (e:=l) (by rw [hH]; exact trivial) (.inl rfl) (fun b' u hb hu=>(Heap.get?_update_other s.heap (Obj.mapSeq f) (Ne.symm hb)).trans hu) ⟨_,q⟩ ?_
 exact ⟨hz,its',_,hv,q⟩
theorem Inv.lnew {its:List Value} {t':Nat} (I:Inv X pins σ H s) (hv:Vals ys its) (hz:ys.length ≤ sizeLine) :
  Inv X pins σ (upd H s.heap.objs.size (.lst ys)) { s with heap:=s.heap.push { cls:=.type "list",data:=.seq its.toArray },toks:=t' }:=
 I.laid (fun _ _ q=>Heap.get?_push_of_some _ q) (Nat.le_refl _) ⟨hz,its,0,hv,Heap.get?_push_size _ rfl⟩
theorem Inv.fresh (I:Inv X pins σ H s):H s.heap.objs.size = none:=I.hok.fresh (Nat.le_refl _)
theorem Inv.lstM (I:Inv X pins σ H s) (hH:H l = some (.lst xs)):xs.length ≤ sizeLine ∧ ∃ (its:List Value) (n:Nat),Vals xs its ∧ xs.length = its.length ∧ s.heap.get? l = some { cls:=.type "list",data:=.seq its.toArray n }:=by
 obtain ⟨z,its,n,r,e⟩:=I.hok l _ hH
 exact ⟨z,its,n,r,r.length,e⟩
theorem b4Y {n:Nat} (h:n ≤ sizeLine):Builtin.List.listTooLong n = false:=by
 unfold Builtin.List.listTooLong
 exact decide_eq_false (by omega)
end
section
variable {X:Cx}
noncomputable def b37:V → List V → Hp → VK → Prop:=fun x vs H Q=>∃ l xs y,x = .ref l ∧ vs = [y] ∧ H l = some (.lst xs) ∧ xs.length < sizeLine ∧ Q .non (upd H l (.lst (xs ++ [y])))
theorem a6m:MtM X "list.append" b37:=by
 intro pins s σ H x vs v us Q I rx rv h
 obtain ⟨l,xs,y,rfl,rfl,hH,hz,q⟩:=h
 cases rx
 obtain ⟨u,rfl,ru⟩:=rv.one
 obtain ⟨z,its,n,r,hl,e⟩:=I.lstM hH
 refine call_meets F.slot_list_append ⟨_,e,rfl⟩ F.entry_list_append (F.args_list_append_2 _ _) (PySem.list_append l its.toArray n u (by rw [List.size_toArray]; omega)) ⟨e,?_⟩
 refine ⟨.non,_,I.lset (its':=its ++ [u]) hH e (by simp) (r.append (.cons ru .nil)) ?_,rfl,q⟩
 rw [List.length_append,List.length_singleton]
 omega
noncomputable def b2U:V → List V → Hp → VK → Prop:=fun x vs H Q=>∃ l xs y,x = .ref l ∧ vs = [] ∧ H l = some (.lst xs) ∧ xs[xs.length - 1]? = some y ∧ Q y (upd H l (.lst xs.dropLast))
theorem a9O:MtM X "list.pop" b2U:=by
 intro pins s σ H x vs v us Q I rx rv h
 obtain ⟨l,xs,y,rfl,rfl,hH,hy,q⟩:=h
 cases rx
 have hus:=rv.zero
 subst hus
 obtain ⟨z,its,n,r,hl,e⟩:=I.lstM hH
 obtain ⟨u,hu,ru⟩:=r.get hy
 have hy':its.toArray[its.toArray.size - 1]? = some u:=by
  show its.toArray[its.length - 1]? = some u
  rw [← Array.getElem?_toList,← hl]
  exact hu
 refine call_meets F.slot_list_pop ⟨_,e,rfl⟩ F.entry_list_pop (F.args_list_pop_1 _) (MeetsSeq.list_pop_last l its.toArray n u hy' (by rw [List.size_toArray]; omega)) ⟨e,?_⟩
 refine ⟨y,_,I.lset (its':=its.dropLast) hH e ?_ r.dropLast ?_,ru,q⟩
 ·show its.toArray.eraseIdxIfInBounds (its.toArray.size - 1) = its.dropLast.toArray
  rw [List.size_toArray,List.eraseIdxIfInBounds_toArray,b4C]
 ·rw [List.length_dropLast]
  omega
noncomputable def a33:R2:=fun x y H Q=>∃ l b xs zs,x = .ref l ∧ y = .ref b ∧ H l = some (.lst xs) ∧ H b = some (.lst zs) ∧ xs.length + zs.length ≤ sizeLine ∧ ∀ p,H p = none → Q (.ref p) (upd H p (.lst (xs ++ zs)))
theorem a2T:OpR X (binaryOp .Add) a33:=by
 intro pins s σ H x y v u Q I rx ry h
 obtain ⟨l,b,xs,zs,rfl,rfl,hH,hB,hz,q⟩:=h
 cases rx
 cases ry
 obtain ⟨z,its,n,r,hl,e⟩:=I.lstM hH
 obtain ⟨z2,its2,n2,r2,hl2,e2⟩:=I.lstM hB
 refine PySem.P.add_list e e2 ?_ (by rw [List.size_toArray,List.size_toArray]; omega)
 have ea:its.toArray ++ its2.toArray = (its ++ its2).toArray:=by simp
 rw [ea]
 exact ⟨.ref _,_,I.lnew (t':=s.toks) (r.append r2) (by rw [List.length_append]; omega),rfl,q _ I.fresh⟩
noncomputable def a6N:R2:=fun x y H Q=>∃ l k xs,x = .ref l ∧ y = .int k ∧ H l = some (.lst xs) ∧ -(2 ^ 63) ≤ k ∧ k < 2 ^ 63 ∧ xs.length * k.toNat ≤ sizeLine ∧
 ∀ p,H p = none → Q (.ref p) (upd H p (.lst (List.replicate k.toNat xs).flatten))
theorem b5G {α:Type} (xs:List α) (k:Nat):(List.replicate k xs).flatten.length = k * xs.length:=by
 induction k with
 | zero=>simp
 | succ k ih=>rw [List.replicate_succ,List.flatten_cons,List.length_append,ih,Nat.succ_mul,Nat.add_comm]
theorem b3L:OpR X (binaryOp .Mult) a6N:=by
 intro pins s σ H x y v u Q I rx ry h
 obtain ⟨l,k,xs,rfl,rfl,hH,h1,h2,hz,q⟩:=h
 cases rx
 obtain ⟨t,rfl⟩:=ry
 obtain ⟨z,its,n,r,hl,e⟩:=I.lstM hH
 have hlen:its.toArray.size * k.toNat ≤ sizeLine:=by rw [List.size_toArray,← hl]; exact hz
 have hcap:¬ its.toArray.size * k.toNat > (2 ^ 63 - 1) / 8:=by
  have:(sizeLine:Nat) ≤ (2 ^ 63 - 1) / 8:=by decide
  omega
 have hfit:¬ (!Builtin.List.listFitsIndex k) = true:=by
  rw [fitsIndex_both h1 h2]
  exact Bool.false_ne_true
 have hlong:¬ Builtin.List.listTooLong (its.toArray.size * k.toNat) = true:=by
  rw [b4Y hlen]
  exact Bool.false_ne_true
 have hnew:List.foldl (fun x1 x2=>x1 ++ x2) #[] (List.replicate (if its.toArray.isEmpty = true then 0 else k.toNat) its.toArray) = (List.replicate k.toNat its).flatten.toArray:=by
  have f0:∀ m:Nat,List.foldl (fun x1 x2=>x1 ++ x2) #[] (List.replicate m its.toArray) = (List.replicate m its).flatten.toArray:=fun m=>by
   have:=a68 its m []
   rw [List.nil_append] at this
   exact this
  rw [f0]
  cases its with
  | nil=>simp
  | cons a r'=>rw [if_neg (by simp)]
 refine wpAny_binaryOp_repeat_ref (T := "list") (U := "int") (by decide) ⟨_,e,rfl⟩ (fun s'=>typeIs_int s' k t) noFill_list_mul F.fills_int_mul F.slot_int_rmul repeat_list F.slot_int_index.lookup
  (call_meets F.slot_int_rmul (typeIs_int s k t) F.entry_int_rmul (F.args_int_rmul_2 _ _) (int___rmul___int_list k t l its.toArray n)
   ⟨e,rfl,⟨_,e,rfl⟩,call_meets F.slot_list_mul ⟨_,e,rfl⟩ F.entry_list_mul (F.args_list_mul_2 _ _) (AutoListH.list___mul___list_int_3 l its.toArray n k t hfit hcap hlong) ⟨e,?_⟩⟩)
 rw [hnew]
 exact ⟨.ref _,_,I.lnew (t':=s.toks) (r.rep k.toNat) (by rw [b5G,Nat.mul_comm]; exact hz),rfl,q _ I.fresh⟩
end
section
variable {κ:Type} [DecidableEq κ]
noncomputable def E7 (kvs:List (κ × V)) (k:κ):Option V:=(kvs.find? fun kv=>decide (kv.1 = k)).map (·.2)
noncomputable def A7 (kvs:List (κ × V)) (k:κ) (v:V):List (κ × V):=
 if (kvs.any fun kv=>decide (kv.1 = k)) = true then kvs.map (fun kv=>if kv.1 = k then (kv.1,v) else kv) else kvs ++ [(k,v)]
theorem a1Q {k:κ}:E7 ([]:List (κ × V)) k = none:=rfl
theorem U3 {p:κ × V} {r:List (κ × V)} {k:κ} (e:p.1 = k):E7 (p :: r) k = some p.2:=by simp [E7,List.find?_cons,e]
theorem J0 {p:κ × V} {r:List (κ × V)} {k:κ} (e:¬ p.1 = k):E7 (p :: r) k = E7 r k:=by simp [E7,List.find?_cons,e]
theorem a2k (k:κ):∀ kvs:List (κ × V),(kvs.any fun kv=>decide (kv.1 = k)) = (E7 kvs k).isSome
 | []=>rfl
 | p :: r=>by
  rw [List.any_cons]
  by_cases e:p.1 = k
  ·simp only [U3 e,decide_eq_true e,Bool.true_or,Option.isSome_some]
  ·rw [J0 e,decide_eq_false e,Bool.false_or]; exact a2k k r
theorem a5d (kvs:List (κ × V)) (k:κ) (v:V):(A7 kvs k v).length ≤ kvs.length + 1:=by
 unfold A7
 split
 ·rw [List.length_map]; omega
 ·rw [List.length_append,List.length_cons,List.length_nil]; omega
theorem a2m {kvs:List (κ × V)} {k:κ} (v:V) (h:E7 kvs k = none):A7 kvs k v = kvs ++ [(k,v)]:=by
 unfold A7
 rw [a2k,h]
 exact if_neg (by decide)
theorem RelO.isSome_eq {o:Option V} {u:Option Value} (r:RelO o u):o.isSome = u.isSome:=by
 cases o with
 | none=>cases u with
  | none=>rfl
  | some _=>exact (show False from r).elim
 | some _=>cases u with
  | none=>exact (show False from r).elim
  | some _=>rfl
theorem KV.val {kvs:List (κ × V)} {vs:List (κ × Value)} (r:KV kvs vs) (k:κ):RelO (E7 kvs k) (valueAt vs k):=by
 unfold KV at r
 induction r with
 | nil=>exact True.intro
 | @cons p q ps qs h t ih=>
  obtain ⟨h1,h2⟩:=h
  by_cases e:p.1 = k
  ·have e':q.1 = k:=h1.symm.trans e
   have b:valueAt (q :: qs) k = some q.2:=by simp [valueAt,List.find?_cons,e']
   rw [U3 e,b]; exact h2
  ·have e':¬ q.1 = k:=fun z=>e (h1.trans z)
   have b:valueAt (q :: qs) k = valueAt qs k:=by simp [valueAt,List.find?_cons,e']
   rw [J0 e,b]; exact ih
theorem KV.any {kvs:List (κ × V)} {vs:List (κ × Value)} (r:KV kvs vs) (k:κ):(kvs.any fun kv=>decide (kv.1 = k)) = vs.any fun kv=>decide (kv.1 = k):=by
 unfold KV at r
 induction r with
 | nil=>rfl
 | cons h t ih=>rw [List.any_cons,List.any_cons,ih,h.1]
theorem KV.repl {kvs:List (κ × V)} {vs:List (κ × Value)} (r:KV kvs vs) (k:κ) {y:V} {u:Value} (ry:RelV y u) :
  KV (kvs.map fun kv=>if kv.1 = k then (kv.1,y) else kv) (vs.map fun kv=>if kv.1 = k then (kv.1,u) else kv):=by
 unfold KV at r ⊢
 induction r with
 | nil=>exact .nil
 | @cons p q ps qs h t ih=>
  rw [List.map_cons,List.map_cons]
  refine .cons ?_ ih
  obtain ⟨h1,h2⟩:=h
  by_cases e:p.1 = k
  ·rw [if_pos e,if_pos (h1.symm.trans e)]; exact ⟨h1,ry⟩
  ·rw [if_neg e,if_neg (fun z=>e (h1.trans z))]; exact ⟨h1,h2⟩
theorem KV.put {kvs:List (κ × V)} {vs:List (κ × Value)} (r:KV kvs vs) (k:κ) {y:V} {u:Value} (ry:RelV y u):KV (A7 kvs k y) (stored vs k u):=by
 unfold A7 stored
 rw [r.any k]
 by_cases e:(vs.any fun kv=>decide (kv.1 = k)) = true
 ·rw [if_pos e,if_pos e]; exact r.repl k ry
 ·rw [if_neg e,if_neg e]; exact Paired.snoc r ⟨rfl,ry⟩
theorem KV.length {kvs:List (κ × V)} {vs:List (κ × Value)} (r:KV kvs vs):kvs.length = vs.length:=Paired.length r
end
theorem a1t {P:Program} {w:World} {k:Key} {u:Value} (r:RelV (kV k) u):(D4 P w).is k u = true:=by
 cases k with
 | inl i=>obtain ⟨t,e⟩:=(show ∃ t,u = Value.int i t from r); subst e; exact b2A P w i t
 | inr x=>obtain ⟨t,e⟩:=(show ∃ t,u = Value.str x t from r); subst e; exact b2W P w x t
theorem a3B {P:Program} {w:World}:∀ {ks:List Key} {us:List Value},Vals (ks.map kV) us → ItemsAre (D4 P w) ks us
 | [],_,r=>by rw [List.map_nil] at r; cases r; exact .nil
 | k :: ks,_,r=>by
  rw [List.map_cons] at r
  cases r with
  | cons h t=>exact .cons (a1t h) (a3B t)
noncomputable abbrev KT (H:Hp):List (List Key × V) → List (List Key × Addr × Value) → Prop:=Paired fun p q=>p.1 = q.1 ∧ H q.2.1 = some (.tup (p.1.map kV)) ∧ RelV p.2 q.2.2
theorem KT.val {H:Hp} {kvs:List (List Key × V)} {xs:List (List Key × Addr × Value)} (r:KT H kvs xs) (k:List Key):RelO (E7 kvs k) ((atKey xs k).map (·.2)):=by
 induction r with
 | nil=>exact True.intro
 | @cons p q ps qs h t ih=>
  obtain ⟨h1,_,h2⟩:=h
  by_cases e:p.1 = k
  ·have e':q.1 = k:=h1.symm.trans e
   have b:atKey (q :: qs) k = some q.2:=by simp [atKey,List.find?_cons,e']
   rw [U3 e,b]; exact h2
  ·have e':¬ q.1 = k:=fun z=>e (h1.trans z)
   have b:atKey (q :: qs) k = atKey qs k:=by simp [atKey,List.find?_cons,e']
   rw [J0 e,b]; exact ih
theorem KT.repl {H:Hp} {kvs:List (List Key × V)} {xs:List (List Key × Addr × Value)} (r:KT H kvs xs) (k:List Key) {y:V} {u:Value} (ry:RelV y u) :
  KT H (kvs.map fun kv=>if kv.1 = k then (kv.1,y) else kv) (xs.map (putAt k u)):=by
 induction r with
 | nil=>exact .nil
 | @cons p q ps qs h t ih=>
  rw [List.map_cons,List.map_cons]
  refine .cons ?_ ih
  obtain ⟨h1,h2,h3⟩:=h
  unfold putAt
  by_cases e:p.1 = k
  ·rw [if_pos e,if_pos (h1.symm.trans e)]; exact ⟨h1,h2,ry⟩
  ·rw [if_neg e,if_neg (fun z=>e (h1.trans z))]; exact ⟨h1,h2,h3⟩
theorem KT.put {H:Hp} {kvs:List (List Key × V)} {xs:List (List Key × Addr × Value)} (r:KT H kvs xs) (k:List Key) {b:Addr} {y:V} {u:Value} (hb:H b = some (.tup (k.map kV))) (ry:RelV y u) :
  KT H (A7 kvs k y) (storedH xs k b u):=by
 have e:(kvs.any fun kv=>decide (kv.1 = k)) = (atKey xs k).isSome:=by
  rw [a2k,(r.val k).isSome_eq,Option.isSome_map]
 unfold A7 storedH
 rw [e]
 by_cases q:(atKey xs k).isSome = true
 ·rw [if_pos q,if_pos q]; exact r.repl k ry
 ·rw [if_neg q,if_neg q]; exact Paired.snoc r ⟨rfl,hb,ry⟩
theorem KT.keeps {H H':Hp} {kvs:List (List Key × V)} {xs:List (List Key × Addr × Value)} (r:KT H kvs xs) (ht:∀ b ys,H b = some (.tup ys) → H' b = some (.tup ys)):KT H' kvs xs:=
 Paired.mapP r fun _ _ z=>⟨z.1,ht _ _ z.2.1,z.2.2⟩
section
variable {P:Program} {w:World} {H:Hp} {h:Heap} {a:Addr}
theorem a83 {u:HO} (ok:HOk P w H h) (e:Rd H a u):ObjOk P w H h a u:=e.ok ok
theorem a4y {kvs:List (Key × V)} (ok:HOk P w H h) (e:Rd H a (.dK kvs)):kvs.length ≤ sizeLine ∧ (a == sysModules) = false ∧ ∃ vs,KV kvs vs ∧ h.DictOf (D4 P w) a vs:=
 show ObjOk P w H h a (.dK kvs) from a83 ok e
theorem a8a {kvs:List (Key × V)} (ok:HOk P w H h) (e:H a = some (.dK kvs)):kvs.length ≤ sizeLine ∧ (a == sysModules) = false ∧ ∃ vs,KV kvs vs ∧ h.DictOf (D4 P w) a vs:=a4y ok (.inl e)
theorem a2u {ks:List Key} (ok:HOk P w H h) (e:H a = some (.tup (ks.map kV))):(tupleKind (D4 P w)).is h ks a:=by
 obtain ⟨_,its,r,o,h1,h2,n,h3⟩:=(show ObjOk P w H h a (.tup (ks.map kV)) from ok a _ e)
 exact ⟨o,its.toArray,n,h1,h2,h3,by simpa using a3B r⟩
theorem a3s {kvs:List (List Key × V)} (ok:HOk P w H h) (e:Rd H a (.dT kvs)):kvs.length ≤ sizeLine ∧ (a == sysModules) = false ∧
  ∃ xs,KT H kvs xs ∧ h.DictOfH (tupleKind (D4 P w)) a xs:=by
 obtain ⟨z,y,xs,r,o,es,ep,h1,h2,h3,h4,h5⟩:=(show ObjOk P w H h a (.dT kvs) from a83 ok e)
 refine ⟨z,y,xs,r,o,es,ep,h1,h2,h3,h4,fun x hx=>?_,h5⟩
 have all:∀ {l:List (List Key × V)} {m:List (List Key × Addr × Value)},KT H l m → ∀ x ∈ m,(tupleKind (D4 P w)).is h x.1 x.2.1:=by
  intro l m q
  induction q with
  | nil=>intro x hx; exact nomatch hx
  | @cons p q ps qs hq t ih=>
   intro x hx
   rcases List.mem_cons.mp hx with e | hx
   ·subst e
    exact a2u ok (by rw [← hq.1]; exact hq.2.1)
   ·exact ih x hx
 exact all r x hx
theorem b1D {kvs:List (List Key × V)} (ok:HOk P w H h) (e:H a = some (.dT kvs)):kvs.length ≤ sizeLine ∧ (a == sysModules) = false ∧
  ∃ xs,KT H kvs xs ∧ h.DictOfH (tupleKind (D4 P w)) a xs:=a3s ok (.inl e)
end
noncomputable def DGet (H:Hp) (a:Addr) (y:V) (r:Option V):Prop:=
 (∃ kvs k,Rd H a (.dK kvs) ∧ y = kV k ∧ r = E7 kvs k) ∨ ∃ kvs k b,Rd H a (.dT kvs) ∧ y = .ref b ∧ H b = some (.tup (k.map kV)) ∧ r = E7 kvs k
noncomputable def DPut (H:Hp) (a:Addr) (y v:V) (H':Hp):Prop:=
 (∃ kvs k,H a = some (.dK kvs) ∧ y = kV k ∧ kvs.length < sizeLine ∧ H' = upd H a (.dK (A7 kvs k v))) ∨
 ∃ kvs k b,H a = some (.dT kvs) ∧ y = .ref b ∧ H b = some (.tup (k.map kV)) ∧ kvs.length < sizeLine ∧ H' = upd H a (.dT (A7 kvs k v))
theorem DGet.k {H:Hp} {a:Addr} {kvs:List (Key × V)} {k:Key} (e:H a = some (.dK kvs)):DGet H a (kV k) (E7 kvs k):=.inl ⟨kvs,k,.inl e,rfl,rfl⟩
theorem DPut.k {H:Hp} {a:Addr} {kvs:List (Key × V)} {k:Key} {v:V} (e:H a = some (.dK kvs)) (hl:kvs.length < sizeLine):DPut H a (kV k) v (upd H a (.dK (A7 kvs k v))):=.inl ⟨kvs,k,e,rfl,hl,rfl⟩
section
variable {X:Cx} {pins:List (Addr × Obj)} {σ:St} {H:Hp} {s:Shared} {a:Addr} {y v:V} {u r:Value} {o:Option V} {A:Around} {E:Value → Shared → Prop}
theorem Inv.big (I:Inv X pins σ H s):sysModules < s.heap.objs.size:=by
 have h:mainGlobals < s.heap.objs.size:=(I.mod.glob.keeps I.bk).lt
 exact Nat.lt_trans (by decide) h
theorem b4E {Q:Value → Shared → Prop} (hu:A.units + 1 < cLine) (I:Inv X pins σ H s) (g:DGet H a y (some v)) (ry:RelV y u) (h:∀ w' s',Inv X pins σ H s' → RelV v w' → Q w' s') :
  wpAny (model X.prog X.w) A (getItem (.ref a) u) Q E s:=by
 rcases g with ⟨kvs,k,e,ey,l⟩ | ⟨kvs,k,b,e,ey,eb,l⟩
 ·subst ey
  obtain ⟨z,hd,vs,rel,dd⟩:=a4y I.hok e
  obtain ⟨w',hw,rw'⟩:=RelO.some_of (v:=v) (o:=valueAt vs k) (by rw [l]; exact rel.val k)
  exact wpAny_getItem_of (a1t ry) dd.mapOf hw (h w' _ (I.tok _) rw')
 ·subst ey
  cases (show u = Value.ref b from ry)
  obtain ⟨z,hd,xs,rel,dd⟩:=a3s I.hok e
  obtain ⟨w',hw,rw'⟩:=RelO.some_of (v:=v) (o:=(atKey xs k).map (·.2)) (by rw [l]; exact rel.val k)
  obtain ⟨p,hp,hp2⟩:=Option.map_eq_some_iff.mp hw
  refine wpAny_getItem_heap (tupleKind_room_in1 hu) (a2u I.hok eb) dd hp ?_
  rw [hp2]
  exact h w' _ (I.tok _) rw'
theorem a1W {h':Heap} {t':Nat} {ob:HO} (I:Inv X pins σ H s) (mu:Mut (H a)) (hs:Heap.SameBut a s.heap h') (he:∃ q,h'.get? a = some q) (new:ObjOk X.prog X.w (upd H a ob) h' a ob) :
  Inv X pins σ (upd H a ob) { s with heap:=h',toks:=t' }:=
 I.write (x:=a) (e:=a) mu (.inl rfl) (fun b q hb z=>(hs.2 b hb).trans z) he new
theorem a7c {P:Program} {w:World} {H':Hp} {h':Heap} {kvs:List (Key × V)} {vs:List (Key × Value)} (z:kvs.length ≤ sizeLine) (hd:(a == sysModules) = false) (rel:KV kvs vs) (dd:h'.DictOf (D4 P w) a vs) :
  ObjOk P w H' h' a (.dK kvs):=⟨z,hd,vs,rel,dd⟩
theorem b6c {H':Hp} {Q:Unit → Shared → Prop} (hu:A.units + 1 < cLine) (I:Inv X pins σ H s) (g:DPut H a y v H') (ry:RelV y u) (rv:RelV v r) (h:∀ s',Inv X pins σ H' s' → Q () s') :
  wpAny (model X.prog X.w) A (setItem (.ref a) u r) Q E s:=by
 rcases g with ⟨kvs,k,e,ey,l,eH⟩ | ⟨kvs,k,b,e,ey,eb,l,eH⟩
 ·subst ey eH
  obtain ⟨z,hd,vs,rel,dd⟩:=a8a I.hok e
  have hz:vs.length ≤ sizeLine:=by rw [← rel.length]; exact z
  have hl:(A7 kvs k v).length ≤ sizeLine:=by have:=a5d kvs k v; omega
  refine wpAny_setItem_pairs (hsz:=hz) (a1t ry) dd fun h' dd' hs=>h _ ?_
  have he:∃ q,h'.get? a = some q:=let ⟨q,_,_,hq,_⟩:=dd'; ⟨q,hq⟩
  exact a1W I (by rw [e]; exact True.intro) hs he (a7c hl hd (rel.put k rv) dd')
 ·subst ey eH
  cases (show u = Value.ref b from ry)
  obtain ⟨z,hd,xs,rel,dd⟩:=b1D I.hok e
  have hz:xs.length ≤ sizeLine:=by rw [← Paired.length rel]; exact z
  have hl:(A7 kvs k v).length ≤ sizeLine:=by have:=a5d kvs k v; omega
  refine wpAny_setItem_heap (hsz:=hz) (tupleKind_room_in1 hu) (a2u I.hok eb) dd fun h' dd' hs=>h _ ?_
  obtain ⟨q,es,ep,hq,h2,h3,h4,_,h5⟩:=dd'
  refine a1W I (by rw [e]; exact True.intro) hs ⟨q,hq⟩ ⟨hl,hd,_,(rel.put k eb rv).keeps fun c ys ec=>?_,q,es,ep,hq,h2,h3,h4,h5⟩
  rw [o8 (b4H ec e (fun z=>nomatch z))]
  exact ec
end
noncomputable def a5Z (i:Expr):Prop:=∀ ov iv,subscripted i false ov iv = operate [ov,iv] (getItem ov iv)
theorem b3U {prog:Program} {w:World} {A:Around} {E:Value → Shared → Prop} {s:Shared} {env:Env} {value slice:Expr} {pos:Pos} {T id:String} {Q:Value → Shared → Prop}
  (hl:typeLookup (.type T) "__getitem__" = pure (some (.builtin id))) (hs:a5Z slice)
  (h:wpAny (model prog w) A (eval value env) (fun o s₁=>wpAny (model prog w) A (eval slice env) (fun i s₂=>s₂.TypeIs o T ∧ wpAny (model prog w) A (getItem o i) Q E s₂) E s₁) E s) :
  wpAny (model prog w) A (eval (.Subscript value slice pos) env) Q E s:=by
 refine Subscript_ (wpAny_mono h (fun o s₁ h₁=>wpAny_mono h₁ (fun i s₂ h₂=>?_) fun _ _ x=>x) fun _ _ x=>x)
 obtain ⟨hT,h₂⟩:=h₂
 unfold subscriptTail
 refine wpAny_bind ?_
 rw [getitemInPython_of_ne hT.not_modules]
 refine wpAny_bind (wpAny_specialOf hT hl ?_)
 have fin:wpAny (model prog w) A (subscripted slice false o i) (fun r s₃=>wpAny (model prog w) A (letTemporaryGo value o r >>= fun _=>pure r) Q E s₃) E s₂:=by
  rw [hs o i]
  exact wpAny_operating (wpAny_mono h₂ (fun r s₃ h₃=>wpAny_bind (wpAny_letTemporaryGo (wpAny_pure h₃))) fun _ _ x=>x)
 first
  | exact wpAny_pure (wpAny_bind fin)
  | exact wpAny_bind (wpAny_pure (wpAny_bind fin))
  | exact wpAny_bind fin
theorem b52 {X:Cx} {pins:List (Addr × Obj)} {σ:St} {H:Hp} {s:Shared} {a:Addr} {y:V} {o:Option V} (I:Inv X pins σ H s) (g:DGet H a y o):s.TypeIs (.ref a) "dict":= by
 rcases g with ⟨kvs,k,e,_,_⟩ | ⟨kvs,k,b,e,_,_,_⟩
 ·obtain ⟨_,_,vs,_,dd⟩:=a4y I.hok e
  exact dd.typeIs
 ·obtain ⟨_,_,xs,_,dd⟩:=a3s I.hok e
  exact dd.typeIs
noncomputable def b3E (td ty:TE):TE:=fun σ H Q=>td σ H fun x H1=>ty σ H1 fun y H2=>∃ a v,x = .ref a ∧ DGet H2 a y (some v) ∧ Q v H2
noncomputable def b3S (td ty tv:TE):TS:=fun D σ H=>tv σ H fun v H1=>td σ H1 fun x H2=>ty σ H2 fun y H3=>∃ a H4,x = .ref a ∧ DPut H3 a y v H4 ∧ D.nx σ H4
section
variable {X:Cx} {o i e value:Expr} {pos pos' tpos:Pos} {td ty tv:TE}
theorem b5M (hu:X.A.units + 1 < cLine) (ho:PE X o td) (hi:PE X i ty) (hs:a5Z i):PE X (.Subscript o i pos) (b3E td ty):=by
 intro pins s σ H Q I h
 refine b3U PySem.F.slot_dict_getitem.lookup hs (thn (ho pins s σ H _ I h) fun u s1 ⟨x,H1,I1,rx,q1⟩=>thn (hi pins s1 σ H1 _ I1 q1) fun iv s2 ⟨y,H2,I2,ry,a,v,ex,g,q2⟩=>?_)
 subst ex
 obtain rfl:u = Value.ref a:=rx
 exact ⟨b52 I2 g,b4E hu I2 g ry fun w' s3 I3 rw'=>⟨v,H2,I3,rw',q2⟩⟩
theorem b4s (hu:X.A.units + 1 < cLine) (ho:PE X o td) (hi:PE X i ty) (hv:PE X value tv) (hs:swapsWith value (some (.Subscript o i pos')) pos.line X.env = pure false) :
  PS X (.Assign [.Subscript o i pos'] value pos) (b3S td ty tv):=by
 intro pins s σ H D I h
 refine wpAny_Assign_Subscript (thn (hv pins s σ H _ I h) fun r s1 ⟨v,H1,I1,rv,q1⟩=>thn (ho pins s1 σ H1 _ I1 q1) fun u s2 ⟨x,H2,I2,rx,q2⟩=>thn (hi pins s2 σ H2 _ I2 q2) fun iv s3 ⟨y,H3,I3,ry,a,H4,ex,g,q3⟩=>?_) hs
 subst ex
 obtain rfl:u = Value.ref a:=rx
 exact b6c hu I3 g ry rv fun s4 I4=>⟨σ,H4,I4,q3⟩
end
theorem b2K {P:Program} {w:World} {H:Hp} (h:Heap) (hb:sysModules < h.objs.size):ObjOk P w H (h.push { cls:=.type "dict",data:=.dict #[] }) h.objs.size (.dK []):=
 ⟨Nat.zero_le _,beq_eq_false_iff_ne.mpr (Ne.symm (Nat.ne_of_lt hb)),[],.nil,Heap.DictOf.new h⟩
noncomputable def a5g:List (TE × TE) → St → Hp → (List (V × V) → Hp → Prop) → Prop
 | [],_,H,Q=>Q [] H
 | (tk,tv) :: r,σ,H,Q=>tk σ H fun x H1=>tv σ H1 fun y H2=>a5g r σ H2 fun ps H3=>Q ((x,y) :: ps) H3
noncomputable abbrev VV:List (V × V) → List (Value × Value) → Prop:=Paired fun p q=>RelV p.1 q.1 ∧ RelV p.2 q.2
noncomputable def PPs (X:Cx) (pos:Pos) (keys:List (Option Expr)) (values:List Expr) (trs:List (TE × TE)):Prop:=
 ∀ (pins:List (Addr × Obj)) (s:Shared) (σ:St) (H:Hp) (Q:List (V × V) → Hp → Prop),Inv X pins σ H s → a5g trs σ H Q →
  wpAny (model X.prog X.w) X.A (evalPairs (pairTrees keys values X.env pos)) (fun vs s'=>∃ ps H',Inv X pins σ H' s' ∧ VV ps vs ∧ Q ps H') X.xe s
theorem b3V {X:Cx} {pos:Pos}:PPs X pos [] [] []:=fun pins s σ H Q I h=>pairTrees_nil_walk ⟨[],H,I,.nil,h⟩
theorem a1A {X:Cx} {pos:Pos} {k v:Expr} {ks:List (Option Expr)} {vs:List Expr} {tk tv:TE} {trs:List (TE × TE)} (hk:PE X k tk) (hv:PE X v tv) (hr:PPs X pos ks vs trs) :
  PPs X pos (some k :: ks) (v :: vs) ((tk,tv) :: trs):=fun pins s σ H Q I h=>
 pairTrees_cons_walk (thn (hk pins s σ H _ I h) fun u s1 ⟨x,H1,I1,rx,q1⟩=>thn (hv pins s1 σ H1 _ I1 q1) fun w2 s2 ⟨y,H2,I2,ry,q2⟩=>
  thn (hr pins s2 σ H2 _ I2 q2) fun ws s3 ⟨ps,H3,I3,rel,q3⟩=>⟨(x,y) :: ps,H3,I3,.cons ⟨rx,ry⟩ rel,q3⟩)
noncomputable def X9 (kvs more:List (Key × V)):List (Key × V):=more.foldl (fun acc kv=>A7 acc kv.1 kv.2) kvs
theorem KV.merge:∀ {more:List (Key × V)} {rs:List (Key × Value)} {kvs:List (Key × V)} {vs:List (Key × Value)},KV more rs → KV kvs vs → KV (X9 kvs more) (merged vs rs):=by
 intro more rs kvs vs r
 unfold KV at r
 induction r generalizing kvs vs with
 | nil=>intro q; exact q
 | @cons p q ps qs h t ih=>
  intro r0
  have e:KV (A7 kvs p.1 p.2) (stored vs q.1 q.2):=by
   have:=r0.put p.1 h.2
   rw [← h.1]; exact this
  exact ih e
theorem a73:∀ (more kvs:List (Key × V)),(X9 kvs more).length ≤ kvs.length + more.length
 | [],kvs=>by show kvs.length ≤ kvs.length + 0; omega
 | p :: r,kvs=>by
  have h1:=a73 r (A7 kvs p.1 p.2)
  have h2:=a5d kvs p.1 p.2
  show (X9 (A7 kvs p.1 p.2) r).length ≤ _
  rw [List.length_cons]; omega
theorem a6G {P:Program} {w:World}:∀ {kvs:List (Key × V)} {ws:List (Value × Value)},VV (kvs.map fun kv=>(kV kv.1,kv.2)) ws → ∃ rs,Carries (D4 P w) ws rs ∧ KV kvs rs
 | [],_,r=>by rw [List.map_nil] at r; cases r; exact ⟨[],True.intro,.nil⟩
 | p :: kvs,_,r=>by
  rw [List.map_cons] at r
  cases r with
  | @cons a b as bs h t=>
   obtain ⟨rs,c,q⟩:=a6G (P:=P) (w:=w) t
   obtain ⟨b1,b2⟩:=b
   exact ⟨(p.1,b2) :: rs,⟨a1t h.1,rfl,c⟩,.cons ⟨rfl,h.2⟩ q⟩
noncomputable def b0Z (trs:List (TE × TE)):TE:=fun σ H Q=>∀ p,H p = none → a5g trs σ (upd H p (.dK [])) fun ps H2=>H2 p = some (.dK []) ∧ ∃ kvs:List (Key × V),ps = kvs.map (fun kv=>(kV kv.1,kv.2)) ∧ kvs.length ≤ 15 ∧ Q (.ref p) (upd H2 p (.dK (X9 [] kvs)))
theorem b6s {X:Cx} {pos:Pos} {keys:List (Option Expr)} {values:List Expr} {trs:List (TE × TE)} (h:PPs X pos keys values trs) (hall:keys.all (·.isSome) = true) (hl:keys.length = values.length) (h0:keys ≠ [])
  (h15:keys.length ≤ 15):PE X (.Dict keys values pos) (b0Z trs):=by
 intro pins s σ H Q I q
 have hn:=I.hok.fresh (Nat.le_refl s.heap.objs.size)
 have I1:=I.laid (a:=s.heap.objs.size) (o:=.dK []) (h':=s.heap.push { cls:=.type "dict",data:=.dict #[] }) (t':=s.toks) (fun _ _ q=>Heap.get?_push_of_some _ q) (Nat.le_refl _) (b2K s.heap I.big)
 refine wpAny_Dict_walk (knd:=D4 X.prog X.w) hall hl h0 h15 (thn (h pins _ σ _ _ I1 (q _ hn)) fun ws s2 ⟨ps,H2,I2,rel,e,kvs,ep,lk,q2⟩=>?_)
 subst ep
 obtain ⟨rs,c,rk⟩:=a6G (P:=X.prog) (w:=X.w) rel
 obtain ⟨z,hd,vs0,r0,dd⟩:=a8a I2.hok e
 cases r0
 refine ⟨rs,c,dd,fun h' dd' hs=>⟨.ref s.heap.objs.size,_,?_,rfl,q2⟩⟩
 have hz:(X9 [] kvs).length ≤ sizeLine:=by
  have h1:=a73 kvs []
  rw [List.length_nil] at h1
  rw [sizeLine_eq]; omega
 have he:∃ q,h'.get? s.heap.objs.size = some q:=let ⟨q,_,_,hq,_⟩:=dd'; ⟨q,hq⟩
 exact a1W I2 (by rw [e]; exact True.intro) hs he (a7c hz hd (rk.merge .nil) dd')
end L2
namespace Att
open PySem PySem.W PySem.Calls PyProof.Rows
theorem b0X {P:Params} {h:Heap}:∀ (ns:List Int) (vs:List Value),WellAll P h vs (ns.map WData.int) → IntsAre vs ns:=by
 intro ns
 induction ns with
 | nil=>
  intro vs w
  rw [List.map_nil] at w
  cases w
  exact .nil
 | cons n ns ih=>
  intro vs w
  rw [List.map_cons] at w
  cases w with
  | cons a b=>
   cases a
   exact .cons _ _ (ih _ b)
theorem b2h {l:OpenLaw} {n:Nat} (hn:l.most = some n) {P:Params} {h:Heap} {args:List WData} {vals:List Value}
  (hpre:l.row.toRowW.claim.pre args = true) (hwl:WellAll P h vals args) :
  ∃ a vs ns,vals = [Value.ref a] ∧ args = [WData.list (ns.map WData.int)] ∧ h.get? a = some { cls:=.type "list",data:=.seq vs.toArray } ∧ IntsAre vs ns ∧ ns.length ≤ n:=by
 have hsh:WShape.hasAll [] args [.list .int] = true:=(pre_splitW hpre).1
 have hc:l.pre.holds [] { args:=args } = true:=(pre_splitW hpre).2
 obtain ⟨d,r,rfl,h1,h2⟩:=hasAllW_cons hsh
 obtain rfl:=hasAllW_nil h2
 obtain ⟨xs,rfl,h3⟩:=hasW_list h1
 obtain ⟨ns,rfl⟩:=items_int h3
 have hlen:ns.length ≤ n:=by
  unfold OpenLaw.pre at hc
  have h4:(WTm.not (.lt (.lit (.int (n:Int))) (.len (.arg 0)))).holds [] { args:=[.list (ns.map .int)] } = true:=by
   have h4:=(holds_andW hc).1
   rw [hn] at h4
   exact h4
  have h5:=condW_of h4 (w_not (w_lt w_lit (w_len_list (w_arg rfl))))
  rw [List.length_map] at h5
  refine Nat.le_of_not_lt fun q=>?_
  have q':(n:Int) < ((ns.length:Nat):Int):=by omega
  first
   | (rw [decide_eq_true q'] at h5; exact absurd h5 (by decide))
   | (simp at h5; omega)
 cases hwl with
 | cons w1 w2=>
  cases w2
  cases w1 with
  | list ho hall=>exact ⟨_,_,ns,rfl,rfl,ho,b0X ns _ hall,hlen⟩
theorem b3K (l:OpenLaw) (args:List WData):l.row.toRowW.claim.post args (.bool true) args = true:=
 postW_of (r:=l.row.toRowW) (X:=(true == true))
  (show WShape.has [] (.bool true) .bool = true by first | rfl | decide | simp [WShape.has,WShape.arms,WShape.armsAll])
  (show (WTm.eq .res (.lit (.bool true))).value [] { args:=args,res:=some (.bool true),after:=args } = some (.bool (true == true)) from w_eq_bool (w_res rfl) w_lit) rfl
theorem attach_call {l:OpenLaw} {n:Nat} {q:Program} {loose:List Str} {XP:(Str → Option Value) → Heap → Prop} {YP:World → Heap → Prop} {d:DefRec}
  (hn:l.most = some n) (hdf:d.params.defaults = [])
  (call:∀ (w:World) (s₀ s₁:Shared) (mg mb:Str → Option Value) (fa:Addr) (o:Obj) (pm cd doc:Value) (a:Addr) (vs:List Value) (ns:List Int),
   Ground q loose [] XP w s₀ mg mb s₁.heap → YP w s₁.heap →
   s₁.heap.get? fa = some o → o.data = .func (docDef d.name d.params d.body d.scope pm cd doc) → s₁.heap.CodeRec cd d.name → mg d.name = some (.ref fa) →
   s₁.heap.get? a = some { cls:=.type "list",data:=.seq vs.toArray } → IntsAre vs ns → ns.length ≤ n → s₁.gens = #[] →
   codeAny (model l.prog w) callerA (.call (.ref fa) ⟨[.ref a],[]⟩) (fun r s'=>r = .ok (.ret (.bool true)) ∧ OldK s₁.heap s'.heap ∧ s'.os = s₁.os ∧ AllBare s'.gens) s₁) :
  WalkO q loose XP YP l.row.toRowW d [] (fun f vs=>PySem.call f vs):=by
 intro w s₀ s₁ mg mb G Y fa o pm cd doc dV kV ho hd hcd hD hmg hg args vals as hpre hlay hrd hwl hlo
 obtain rfl:dV = .none:=Dflts.none hD hdf
 obtain rfl:kV = .none:=Dflts.noKw hD
 obtain ⟨a,vs,ns,rfl,rfl,hobj,hints,hlen⟩:=b2h hn hpre hwl
 refine enter_call (codeAny_mono (call w s₀ s₁ mg mb fa o pm cd doc a vs ns G Y ho (fd_plain hd) hcd hmg hobj hints hlen hg) fun r s' hq=>?_)
 obtain ⟨rfl,h2,h3,h4⟩:=hq
 exact ⟨.inl ⟨.bool true,.bool true,[],rfl,fun _=>rfl,.bool true,b3K l _,fun _=>⟨List.Pairwise.nil,fun _ hm=>(nomatch hm)⟩⟩,h2,h3,h4⟩
end Att
namespace L2
open PySem PySem.Spec PyProof.Rows
theorem a6V:∀ {vs:List Value} {ns:List Int},IntsAre vs ns → Vals (ns.map V.int) vs
 | _,_,.nil=>.nil
 | _,_,.cons n t h=>.cons ⟨t,rfl⟩ (a6V h)
noncomputable def a5k (H:Hp):Prop:=∀ b,H b = none ∨ ∃ o xs,H b = some (.frz o (.lst xs))
theorem b3e {P:Program} {w:World} {K:PySem.W.Frag} {mg mb:Str → Option Value} {CX:CXT} {k:Nat} {fa a:Addr} {fd:FuncData} {x:Str} {sp:Sp} {s₁:Shared} {vs:List Value} {ns:List Int}
  (KX:K.In s₁.heap) (hns:s₁.heap.Ns mainGlobals mg) (hb:s₁.heap.Ns builtinsNs mb) (hbb:∀ x:Str,x ≠ "__name__" → mb x = bootBuiltins x) (hlim:s₁.heap.NoLimit) (hg:s₁.gens = #[])
  (ha:s₁.heap.get? a = some { cls:=.type "list",data:=.seq vs.toArray }) (hi:IntsAre vs ns) (hl:ns.length ≤ sizeLine) (hr:Room k callerA)
  (F:∀ base:Heap,K.In base → base.Ns mainGlobals mg → FnOk P w K mg base CX k fa fd [x] sp) (hbind:∀ (s:Shared) (u:Value),BindsTo s fd ⟨[u],[]⟩ [(x,u)])
  (hsp:∀ H:Hp,a5k H → SqL K H a (ns.map V.int) → sp [.ref a] H (fun v _=>v = .bl true) fun _ _ _=>False)
  (hCX:∀ H e s',CX [] H s₁ (fun _ _ _=>False) e s' → False) :
  codeAny (model P w) callerA (.call (.ref fa) ⟨[.ref a],[]⟩) (fun r s'=>r = .ok (.ret (.bool true)) ∧ OldK s₁.heap s'.heap ∧ s'.os = s₁.os ∧ AllBare s'.gens) s₁:=by
 have rv:=a6V hi
 have lenV:=hi.length
 have core:∀ H:Hp,a5k H → SqL K H a (ns.map V.int) → HOk P w H s₁.heap → (∀ b,H b ≠ none → b = a) → (H a ≠ none → K.lookup a = none) →
   codeAny (model P w) callerA (.call (.ref fa) ⟨[.ref a],[]⟩) (fun r s'=>r = .ok (.ret (.bool true)) ∧ OldK s₁.heap s'.heap ∧ s'.os = s₁.os ∧ AllBare s'.gens) s₁:=by
  intro H hO hS hok hA hK
  have base_of:∀ {b:Addr} {o:Obj},s₁.heap.get? b = some o → H b = none → (Q3 s₁.heap H).get? b = some o:=fun e n=>a9V e n
  have noA:∀ {b:Addr} {o:Obj} {es:Array DictEntry} {ep:Nat},s₁.heap.get? b = some o → o.data = .dict es ep → H b = none:=fun {b o es ep} e d=>by
   cases q:H b with
   | none=>rfl
   | some u=>
    have e':b = a:=hA b (by rw [q]; simp)
    subst e'
    rw [ha] at e; cases e
    have d':Data.seq vs.toArray _ = Data.dict es ep:=d
    cases d'
  have nsK:∀ {b:Addr} {m:Str → Option Value},s₁.heap.Ns b m → (Q3 s₁.heap H).Ns b m:=fun {b m} ⟨o,es,ep,e,d,r⟩=>⟨o,es,ep,base_of e (noA e d),d,r⟩
  have hKb:K.In (Q3 s₁.heap H):=fun b o e=>base_of (KX b o e) (by
   cases q:H b with
   | none=>rfl
   | some u=>
    have e':b = a:=hA b (by rw [q]; simp)
    subst e'
    rw [hK (by rw [q]; simp)] at e; cases e)
  have hM:Mod K mg (Q3 s₁.heap H):=⟨hKb,nsK hns,⟨mb,nsK hb,hbb⟩,let ⟨mc,h1,h2⟩:=hlim; ⟨mc,nsK h1,h2⟩⟩
  have e0:Env0 P w K mg (Q3 s₁.heap H) callerA [] s₁ H:=⟨rfl,hM,fun b o e=>b3u e,Nat.le_of_eq (b0m _ _),trivial,fun b hb=>absurd (show b ∈ ([]:List Addr) from hb) (by simp),hok,.of_eq hg⟩
  refine codeAny_mono ((F _ hKb (nsK hns)).run callerA [] s₁ H ⟨[.ref a],[]⟩ [.ref a] [.ref a] _ _ hr e0 (hbind s₁ (.ref a)) (.cons rfl .nil) (hsp H hO hS)) fun r s' h=>?_
  cases r with
  | error e=>exact (hCX H e s' h).elim
  | ok fl=>
   cases fl with
   | next=>exact False.elim h
   | brk=>exact False.elim h
   | cont=>exact False.elim h
   | ret u=>
    obtain ⟨v,H',os,bare,un,hok',r',q⟩:=h
    have q':v = .bl true:=q
    subst q'
    obtain rfl:u = Value.bool true:=r'
    refine ⟨rfl,OldK.of_keep fun b o e=>?_,os,bare⟩
    cases q:H b with
    | none=>exact un.keep b o e q (by intro z; exact absurd (show b ∈ ([]:List Addr) from z) (by simp)) (by simp)
    | some u=>
     rcases hO b with z | ⟨ob,xs,z⟩
     ·rw [q] at z; cases z
     ·have z2:=un.frzs b ob _ z
      obtain ⟨e1,_⟩:=hok b _ z
      obtain ⟨e2,_⟩:=hok' b _ z2
      rw [e] at e1; cases e1
      exact e2
 cases hk:K.lookup a with
 | some o=>
  have e:=KX a o hk
  rw [ha] at e
  cases e
  refine core (fun _=>none) (fun _=>.inl rfl) (.inr ⟨_,vs.toArray,_,hk,rfl,rfl,rfl,by rw [List.size_toArray,lenV]; exact hl,by simpa using rv⟩) (fun b u z=>by have z':(none:Option HO) = some u:=z; cases z') (fun b z=>absurd rfl z) fun z=>absurd rfl z
 | none=>
  refine core (fun b=>if b = a then some (.frz { cls:=.type "list",data:=.seq vs.toArray } (.lst (ns.map V.int))) else none) (fun b=>?_) (.inl (.inr ⟨{ cls:=.type "list",data:=.seq vs.toArray },if_pos rfl⟩)) (fun b u z=>?_) (fun b z=>?_) fun _=>hk
  ·by_cases hb:b = a
   ·exact .inr ⟨_,_,if_pos hb⟩
   ·exact .inl (if_neg hb)
  ·by_cases hb:b = a
   ·have z':=(if_pos hb).symm.trans z
    cases z'
    subst hb
    exact ⟨ha,by rw [List.length_map]; exact hl,vs,_,rv,ha⟩
   ·have z':=(if_neg hb).symm.trans z
    cases z'
  ·by_cases hb:b = a
   ·exact hb
   ·exact absurd (if_neg hb) z
theorem walk_of {l:PySem.W.OpenLaw} {n k:Nat} {q:Program} {loose:List Str} {XP:(Str → Option Value) → Heap → Prop} {YP:World → Heap → Prop} {d:DefRec} {K:Params → PySem.W.Frag} {CX:World → CXT} {sp:World → Sp} {x:Str}
  (hn:l.most = some n) (hn2:n ≤ sizeLine) (hdf:d.params.defaults = []) (hr:Room k callerA)
  (hY:∀ (w:World) (h:Heap),YP w h → (K w.params).In h)
  (F:∀ (w:World) (mg:Str → Option Value) (fa:Addr) (h:Heap),(K w.params).In h → h.Ns mainGlobals mg → mg d.name = some (.ref fa) →
   ∃ fd:FuncData,(∀ (s:Shared) (u:Value),BindsTo s fd ⟨[u],[]⟩ [(x,u)]) ∧
    ∀ base:Heap,(K w.params).In base → base.Ns mainGlobals mg → FnOk l.prog w (K w.params) mg base (CX w) k fa fd [x] (sp w))
  (hsp:∀ (w:World) (H:Hp) (a:Addr) (ns:List Int),ns.length ≤ n → a5k H → SqL (K w.params) H a (ns.map V.int) → sp w [.ref a] H (fun v _=>v = .bl true) fun _ _ _=>False)
  (hCX:∀ (w:World) (H:Hp) (s:Shared) (e:Value) (s':Shared),CX w [] H s (fun _ _ _=>False) e s' → False) :
  PySem.W.WalkO q loose XP YP l.row.toRowW d [] (fun f vs=>PySem.call f vs):=by
 refine Att.attach_call hn hdf fun w s₀ s₁ mg mb fa o pm cd doc a vs ns G Y ho hd hcd hmg hobj hints hlen hg=>?_
 have KX:=hY w _ Y
 obtain ⟨fd,hb,hF⟩:=F w mg fa _ KX G.T.g hmg
 exact b3e KX G.T.g G.T.b G.T.builtins G.T.nolimit hg hobj hints (Nat.le_trans hlen hn2) hr hF hb (fun H hO hS=>hsp w H a ns hlen hO hS) fun H e s'=>hCX w H s₁ e s'
noncomputable def S3 (s:Stmt):Arguments:=match s with
 | .FunctionDef _ a _ _ _ _ _ _ _ _=>a
 | _=>{ posonlyargs:=[],args:=[],vararg:=none,kwonlyargs:=[],kw_defaults:=[],kwarg:=none,defaults:=[] }
noncomputable def M0 (s:Stmt):List Stmt:=match s with
 | .FunctionDef _ _ b _ _ _ _ _ _ _=>b
 | _=>[]
noncomputable def m9 (s:Stmt):Scope:=match s with
 | .FunctionDef _ _ _ _ _ _ sc _ _ _=>sc
 | _=>{ kind:=.function,names:=[],isGenerator:=false,isCoroutine:=false }
noncomputable abbrev CX0:CXT:=fun _ _ _ _ _ _=>False
noncomputable abbrev E0:XK:=fun _ _ _=>False
theorem a3x {X:Cx}:a2s CX0 X E0:=fun _ _ _ _ _ _ _ h=>h.elim
structure Fun (K:PySem.W.Frag) (x qual:Str) (st:Stmt) (f:Addr) (fd:FuncData):Prop where
 ex:∃ (oc:Value) (od:Option Addr) (kV doc pm:Value) (an:Option Addr) (cdv ct:Value) (osl:Array (Option Value)),
  fd = PySem.W.fnOf x qual (S3 st) (M0 st) (m9 st) .none kV doc pm an cdv ct ∧ K.lookup f = some ⟨oc,od,.func fd,osl⟩ ∧ PySem.W.codeIn K cdv qual = true
 kp:PySem.W.keepIn K (.ref f) = true
section
variable {P:Program} {w:World} {K:PySem.W.Frag} {mg:Str → Option Value} {base:Heap}
theorem Fun.ok {x qual:Str} {st:Stmt} {f:Addr} {fd:FuncData} {N ps:List Str} {k:Nat} {sp:Sp} (F:Fun K x qual st f fd) (S:FnScope N ps (m9 st)) (len:∀ vs H Q E,sp vs H Q E → vs.length = ps.length)
  (hbody:∀ (cdv:Value) (A:Around) (outer:List Env) (s:Shared) (H:Hp) (vs:List V) (Q:VK) (E:XK),Room k (A.deeper (envOfC qual (m9 st) s.heap.objs.size f cdv)) → sp vs H Q E →
   ∃ t,PSs (R0 CX0 P w K mg base N qual (m9 st) f cdv A outer s H E).nox (M0 st) t ∧ t { nx:=fun _ H'=>Q .non H',rt:=Q } (start N vs) H):FnOk P w K mg base CX0 (k + 1) f fd ps sp:=by
 obtain ⟨oc,od,kV,doc,pm,an,cdv,ct,osl,rfl,lk,hcd⟩:=F.ex
 refine b1t lk hcd S len fun A outer s H vs Q E hr hsp=>?_
 obtain ⟨t,h,q⟩:=hbody cdv A outer s H vs Q E hr hsp
 exact ⟨t,h.nox,q⟩
theorem Fun.binds {x qual:Str} {st:Stmt} {f:Addr} {fd:FuncData} {ps:List Str} (F:Fun K x qual st f fd)
  (h:∀ (kV doc pm:Value) (an:Option Addr) (cdv ct:Value) (us:List Value),us.length = ps.length → bindArgs (PySem.W.fnOf x qual (S3 st) (M0 st) (m9 st) .none kV doc pm an cdv ct) ⟨us,[]⟩ = pure (ps.zip us)):Binds K fd ps []:=by
 obtain ⟨oc,od,kV,doc,pm,an,cdv,ct,osl,rfl,lk,hcd⟩:=F.ex
 exact .all (h kV doc pm an cdv ct)
theorem b5g {x qual:Str} {st:Stmt} {f:Addr} {oc:Value} {od an:Option Addr} {osl:Array (Option Value)} {kV doc pm cdv ct:Value} (l:K.lookup f = some ⟨oc,od,.func (PySem.W.fnOf x qual (S3 st) (M0 st) (m9 st) .none kV doc pm an cdv ct),osl⟩)
  (c:PySem.W.codeIn K cdv qual = true) (k:PySem.W.keepIn K (.ref f) = true):Fun K x qual st f (PySem.W.fnOf x qual (S3 st) (M0 st) (m9 st) .none kV doc pm an cdv ct):=⟨⟨oc,od,kV,doc,pm,an,cdv,ct,osl,rfl,l,c⟩,k⟩
end
theorem L3 {A:Around} {k:Nat} (hr:Room k A):A.units + 1 < cLine:=Nat.lt_of_le_of_lt (Nat.add_le_add_left (by decide:1 ≤ 64) _) hr.units
section
variable {X:Cx}
theorem pv (i:Nat) {x:Str} {pos:Pos} (hN:X.N[i]? = some x:=by rfl) (hv:Vis X.env.scope x:=by first | exact Or.inl rfl | exact Or.inr (Or.inl rfl) | exact Or.inr (Or.inr rfl)) (hd:(x == ("__debug__" : Str)) = false:=by decide)
  (hcd:(x == ("__classdict__" : Str)) = false:=by decide):PE X (.Name x pos) (G6 i):=a9N hN hv hd hcd
end
theorem b3q {A B:Prop} (h:B):if false = true then A else B:=by
 rw [if_neg Bool.false_ne_true]
 exact h
theorem b2k {A B:Prop} (h:A):if true = true then A else B:=by
 rw [if_pos rfl]
 exact h
noncomputable def blk (X:Cx) (N':List Str) (scope:Scope) (cl:List (Str × Addr)) (C:Addr) (s0:Shared) (H0:Hp) (ex:List Addr):Cx:=
 { X with N:=N',env:=compEnvC scope cl C X.env,s₀:=s0,H₀:=H0,outer:=X.stack,stack:=X.stack,ex:=ex,fn:=fun _=>false,pn:=[],xe:=fun _ _=>False }
noncomputable def Z8 (X:Cx) (ifs:List Expr) (t:TT):Prop:=
 ∀ (pins:List (Addr × Obj)) (s:Shared) (σ:St) (H:Hp) (Q:Bool → Hp → Prop),Inv X pins σ H s → t σ H Q →
  wpAny (model X.prog X.w) X.A (forIn ifs true fun c r=>if r = true then do let ok ← isTrue c X.env (eval c X.env); pure (ForInStep.yield ok) else pure (ForInStep.yield r)) (TP X pins σ Q) X.xe s
noncomputable def b3F:TT:=fun _ H Q=>Q true H
theorem a98 {X:Cx}:Z8 X [] b3F:=fun pins s σ H Q I h=>wpAny_tests_nil ⟨H,I,h⟩
theorem b3W {X:Cx} {c:Expr} {t:TT} (h:PT X c t):Z8 X [c] t:=fun pins s σ H Q I q=>wpAny_tests_one (h pins s σ H Q I q)
noncomputable def C7 (n:Nat) (idx:List Nat) (σ:St):St:=List.replicate n none ++ idx.map fun i=>(σ[i]?).join
noncomputable def Z3 (n:Nat) (idx:List Nat) (wi:TI) (g:TG) (tc:TT) (te:TE):TE:=fun σ H Q=>wi σ H fun J H1=>∀ D,H1 D = none →
 ∃ W:Nat → Nat → Hp → Prop,(∃ m,W 0 m (upd H1 D (.lst []))) ∧ ∀ i m H,W i m H →
  (J.stop i H ∧ Q (.ref D) H) ∨ (J.go i H ∧ ∀ x H',J.yld i H x H' → g x (C7 n idx σ) H' fun σ2 H2=>(σ2.length = (C7 n idx σ).length ∧ ∀ (j:Nat) (v:V),(C7 n idx σ)[j]? = some (some v) → σ2[j]? = some (some v)) ∧ tc σ2 H2 fun b H3=>
   if b = true then te σ2 H3 fun v H4=>∃ ys,H4 D = some (.lst ys) ∧ ys.length < sizeLine ∧ ∃ m',m' < m ∧ W (i + 1) m' (upd H4 D (.lst (ys ++ [v]))) else ∃ m',m' < m ∧ W (i + 1) m' H3)
structure CompOk (X:Cx) (scope:Scope) (cl:List (Str × Addr)) (N':List Str) (n:Nat) (idx:List Nat):Prop where
 clos:closureFor scope X.env = pure cl
 sub:∀ x c,cl.lookup x = some c → X.env.cells.lookup x = some c
 cell:∀ y ∈ scope.names,y.2 ≠ .cell
 kind:scope.kind = .function
 names:∀ y ∈ scope.names,y.2 = .local → scope.names.lookup y.1 = some .local
 has:∀ x,((relabel scope X.env).names.lookup x = some .cell ∨ (relabel scope X.env).names.lookup x = some .free) → ∃ c,cl.lookup x = some c
 len:N'.length = n + idx.length
 cap:∀ (j i:Nat) (y:Str),idx[j]? = some i → N'[n + j]? = some y → X.N[i]? = some y ∧ (X.env.scope.names.lookup y = some .cell ∨ X.env.scope.names.lookup y = some .free) ∧ ((relabel scope X.env).names.lookup y = some .cell ∨ (relabel scope X.env).names.lookup y = some .free)
section
variable {X:Cx} {scope:Scope} {cl:List (Str × Addr)} {N':List Str} {n:Nat} {idx:List Nat} {tg iter elt:Expr} {ifs:List Expr} {pos:Pos} {wi:TI} {g:TG} {tc:TT} {te:TE}
theorem b4R (σ:St):(C7 n idx σ).length = n + idx.length:=by simp [C7]
theorem b1h {σ:St} {j:Nat} {v:V} (h:(C7 n idx σ)[j]? = some (some v)):∃ k i,j = n + k ∧ idx[k]? = some i ∧ σ[i]? = some (some v):=by
 unfold C7 at h
 by_cases hj:j < n
 ·rw [List.getElem?_append_left (by simpa using hj)] at h
  simp [hj] at h
 ·rw [List.getElem?_append_right (by simpa using Nat.le_of_not_lt hj)] at h
  simp only [List.length_replicate,List.getElem?_map] at h
  refine ⟨j - n,?_⟩
  cases e:idx[j - n]? with
  | none=>rw [e] at h; simp at h
  | some i=>
   rw [e] at h
   simp only [Option.map_some,Option.some.injEq] at h
   exact ⟨i,by omega,rfl,by simpa using Option.join_eq_some_iff.mp h⟩
theorem b4V (k:CompOk X scope cl N' n idx) {pins:List (Addr × Obj)} {s2:Shared} {σ:St} {H2:Hp} {fp:List Addr} {C:Addr} {h4:Heap} {t4:Nat} {m:Str → Option Value} (I:Inv X pins σ H2 s2) (f:∀ b ∈ fp,Q6 X pins H2 b) (fo:∀ b ∈ fp,b < s2.heap.objs.size)
  (hC:s2.heap.objs.size + 1 ≤ C) (ns:h4.Ns C m) (keep:∀ b o,s2.heap.get? b = some o → h4.get? b = some o) (hD:h4.get? s2.heap.objs.size = some { cls:=.type "list",data:=.seq ([]:List Value).toArray }) :
  Inv (blk X N' scope cl C s2 H2 fp) [] (C7 n idx σ) (upd H2 s2.heap.objs.size (.lst [])) { s2 with heap:=h4,toks:=t4 }:=by
 have fresh:H2 s2.heap.objs.size = none:=I.hok.fresh (Nat.le_refl _)
 have fC:H2 C = none:=I.hok.fresh (by omega)
 have cellsub:∀ x c,(blk X N' scope cl C s2 H2 fp).env.cells.lookup x = some c → X.env.cells.lookup x = some c:=fun x c e=>k.sub x c e
 have cellLt:∀ x c,X.env.cells.lookup x = some c → c < s2.heap.objs.size:=fun x c e=>by
  obtain ⟨v,q⟩:=I.cell x c e
  exact q.lt
 have ok:(blk X N' scope cl C s2 H2 fp).Ok:={
  mod:=I.ok.mod
  kind:=k.kind
  glob:=I.ok.glob
  blt:=I.ok.blt
  above:=by show s2.heap.objs.size ≤ C; omega
  inj:=fun x y c e1 e2=>I.ok.inj x y c (cellsub x c e1) (cellsub y c e2)
  has:=fun x h=>k.has x h
  cab:=fun x c h _=>by cases h
  hd:=I.ok.hd
  frames:=I.ok.frames
  stk:=.inl rfl
  exf:=fun b hb=>⟨Nat.ne_of_lt (Nat.lt_of_lt_of_le (fo b hb) (by show s2.heap.objs.size ≤ C; omega)),fun x c e z=>(f b hb).2.2.2.2.1 x c (cellsub x c e) z⟩
  bs:=fun b o e=>I.bs b o e
  bsz:=Nat.le_trans I.ok.bsz I.sz
  noex:=fun b o e hb=>by
   rcases (f b hb).2.2.2.1 with z | z
   ·exact I.ok.noex b o e z
   ·exact absurd (Nat.lt_of_lt_of_le (Heap.lt_size e) (Nat.le_trans I.ok.bsz z)) (Nat.lt_irrefl _)
  exfs:=fun b hb z=>by
   rcases List.mem_cons.mp (I.stkSub b z) with y | y
   ·exact (f b hb).2.1 y
   ·exact (f b hb).2.2.1 y
  funs:=I.stack
  frf:=I.stkFree }
 refine ⟨ok,rfl,I.bare,Un.laid keep (Nat.le_refl _) fresh,⟨m,ns,fun j y v e1 e2 e3=>?_⟩,fun x c e=>?_,?_,fun x c e=>?_,fun p hp=>(by cases hp),I.hok.laid keep (Nat.le_refl _) ⟨Nat.zero_le _,[],_,.nil,hD⟩,?_⟩
 ·obtain ⟨kk,i,rfl,hk,hv⟩:=b1h e2
  obtain ⟨hN,ok,hkind⟩:=k.cap kk i y hk e1
  obtain ⟨c,hc⟩:=k.has y hkind
  obtain ⟨m0,_,hl⟩:=I.loc
  have hc':=k.sub y c hc
  obtain ⟨u,r,l⟩:=hl i y v hN hv (by rcases ok with z | z; exact .inr (.inl z); exact .inr (.inr z))
  refine ⟨u,r,.inr ⟨hkind,c,hc,?_⟩⟩
  rcases l with ⟨z,_⟩ | ⟨_,c',e',q⟩
  ·have z':X.env.scope.names.lookup y = some .local:=z
   rcases ok with w | w <;> · rw [w] at z'; cases z'
  ·rw [hc'] at e'; cases e'
   obtain ⟨o,ho,hd⟩:=q
   exact ⟨o,keep _ o ho,hd⟩
 ·obtain ⟨v,q⟩:=I.cell x c (cellsub x c e)
  obtain ⟨o,ho,hd⟩:=q
  exact ⟨v,o,keep c o ho,hd⟩
 ·show upd H2 s2.heap.objs.size (.lst []) C = none
  rw [o8 (Nat.ne_of_gt hC)]; exact fC
 ·have:=cellLt x c (cellsub x c e)
  rw [o8 (Nat.ne_of_lt this)]
  exact I.freeC x c (cellsub x c e)
 ·rw [b4R,← k.len]; rfl
theorem b34 {prog:Program} {w:World} {A:Around} {R:Result → Shared → Prop} {s:Shared} {elt target iter:Expr} {ifs:List Expr} {scope:Scope} {pos:Pos} {it acc:Value} {env:Env} (I:Nat → Shared → Prop)
  (turn:∀ n s,I n s → wpAny (model prog w) A (pyNext it) (fun r s1=>match r with
   | none=>R (.ok .next) s1
   | some v=>wpAny (model prog w) A (letOwnedTupleGo target it v) (fun _ s1'=>wpAny (model prog w) A (assign target env v) (fun _ s2=>
     wpAny (model prog w) A (forIn ifs true fun c r=>if r = true then do let ok ← isTrue c env (eval c env); pure (ForInStep.yield ok) else pure (ForInStep.yield r)) (fun ok s3=>
      if ok = true then wpAny (model prog w) A (eval elt env) (fun x s4=>
       wpAny (model prog w) A (call (.builtin "list.append") [acc,x]) (fun _ s5=>∃ m,m < n ∧ I m s5) (notedBy (model prog w) A env fun e s'=>R (.error e) s') s4) (notedBy (model prog w) A env fun e s'=>R (.error e) s') s3
      else ∃ m,m < n ∧ I m s3) (notedBy (model prog w) A env fun e s'=>R (.error e) s') s2) (notedBy (model prog w) A env fun e s'=>R (.error e) s') s1') (notedBy (model prog w) A env fun e s'=>R (.error e) s') s1) (notedBy (model prog w) A env fun e s'=>R (.error e) s') s)
  (n:Nat) (h:I n s) :
  codeAny (model prog w) A (.compLoop (.ListComp elt [⟨target,iter,ifs,0⟩] scope pos) 0 it acc env) R s:=by
 refine codeAny_loop rfl I (fun n s hI=>?_) n h
 show wpAny _ A ((compTurn (.ListComp elt [⟨target,iter,ifs,0⟩] scope pos) 0 it acc env).onRaise (fun x=>do noteFrame x env; theTreesLotGoes x)) _ _ s
 refine wpAny_noted ?_
 rw [compTurn_list]
 refine wpAny_bind (wpAny_standAt (wpAny_bind (wpAny_mono (turn n s hI) (fun r s₁ h₁=>?_) fun _ _ h'=>h')))
 cases r with
 | none=>exact wpAny_pure h₁
 | some v=>
  refine wpAny_bind (wpAny_mono h₁ (fun _ s1' h1'=>?_) fun _ _ h'=>h')
  refine wpAny_bind (wpAny_mono h1' (fun _ s₂ h₂=>wpAny_bind (wpAny_mono h₂ (fun ok s₃ h₃=>?_) fun _ _ h'=>h')) fun _ _ h'=>h')
  cases ok with
  | false=>exact wpAny_pure ⟨rfl,h₃⟩
  | true=>
   exact wpAny_bind (wpAny_bind (wpAny_mono h₃ (fun x s₄ h₄=>wpAny_bind (wpAny_mono h₄ (fun _ s₅ h₅=>wpAny_pure (wpAny_pure ⟨rfl,h₅⟩)) fun _ _ h'=>h')) fun _ _ h'=>h'))
end
section
variable {X:Cx} {scope:Scope} {cl:List (Str × Addr)} {N':List Str} {n:Nat} {idx:List Nat} {tg iter elt:Expr} {ifs:List Expr} {pos:Pos} {wi:TI} {g:TG} {tc:TT} {te:TE}
theorem a6Q {use:Option (Value → Sem Unit)} {Q':Value → Shared → Prop} {pos2:Pos} (hc:X.calm = true) (k:CompOk X scope cl N' n idx) (hi:PI X tg iter wi)
  (hg:∀ C s0 H0 ex,PG (blk X N' scope cl C s0 H0 ex) tg g) (ht:∀ C s0 H0 ex,Z8 (blk X N' scope cl C s0 H0 ex) ifs tc) (he:∀ C s0 H0 ex,PE (blk X N' scope cl C s0 H0 ex) elt te)
  (hs:∀ x,foldedSetIterable iter X.env x = pure x) {pins:List (Addr × Obj)} {s:Shared} {σ:St} {H:Hp} {Q:VK} (I0:Inv X pins σ H s) (h:Z3 n idx wi g tc te σ H Q)
  (last:∀ (C D:Addr) (s':Shared) (H':Hp) (m:Str → Option Value),Inv X pins σ H' s' → Q6 X pins H' C → s'.heap.Ns C m → Q (.ref D) H' → compPost (model X.prog X.w) X.A X.xe use Q' (.ref D) C (.ok .next) s') :
  wpAny (model X.prog X.w) X.A (comprehension (.ListComp elt [⟨tg,iter,ifs,0⟩] scope pos) scope X.env pos2 (newList []) false (eval iter X.env) use) Q' X.xe s:=by
 refine wpAny_comprehension_free (use:=use) rfl hs k.clos k.kind k.names (thn (hi pins s σ H _ I0 h) fun v s1 h1=>thn h1 fun itv s2 h2=>?_)
 obtain ⟨it,fp,tn,J,H2,e,I2,T,st2,f2,hW⟩:=h2
 subst e
 have fo2:∀ b ∈ fp,b < s2.heap.objs.size:=fun b hb=>by
  obtain ⟨o,e,_⟩:=T.obj _ _ st2 b hb
  exact Heap.lt_size e
 obtain ⟨W,⟨m0,w0⟩,turn⟩:=hW s2.heap.objs.size (I2.hok.fresh (Nat.le_refl _))
 refine wpAny_newObj_type (wpAny_newFunctionEnv k.cell (by intro y hy; simp at hy) (fun h4 hns4 hsb4=>?_) k.kind)
 dsimp only at hns4 hsb4 ⊢
 generalize hH3:s2.heap.push { cls:=.type "list",dict:=none,data:=.seq ([]:List Value).toArray } = h3 at hns4 hsb4 ⊢
 have hCe:h3.objs.size = s2.heap.objs.size + 1:=by rw [← hH3,Heap.size_push]
 have k34:∀ b o,b ≠ h3.objs.size → h3.get? b = some o → h4.get? b = some o:=fun b o nb e=>hsb4.extBut b o nb (Heap.get?_push_of_some _ e)
 have keep:∀ b o,s2.heap.get? b = some o → h4.get? b = some o:=fun b o e=>k34 b o (Nat.ne_of_lt (by rw [hCe]; exact Nat.lt_succ_of_lt (Heap.lt_size e))) (by rw [← hH3]; exact Heap.get?_push_of_some _ e)
 have hD:h4.get? s2.heap.objs.size = some { cls:=.type "list",data:=.seq ([]:List Value).toArray }:=k34 _ _ (Nat.ne_of_lt (by rw [hCe]; exact Nat.lt_succ_self _)) (by rw [← hH3]; exact Heap.get?_push_size _ rfl)
 have I4:=b4V k I2 f2 fo2 (Nat.le_of_eq hCe.symm) hns4 keep hD (t4:=s2.toks + ([]:List (Str × Value)).length)
 have stat:∀ {H':Hp},(∀ b ∈ fp,H' b = none) → ∀ b ∈ fp,Q6 (blk X N' scope cl h3.objs.size s2 H2 fp) [] H' b:=fun hn b hb=>
  ⟨hn b hb,Nat.ne_of_lt (by rw [hCe]; exact Nat.lt_succ_of_lt (fo2 b hb)),fun z=>(List.mem_cons.mp (I2.stkSub b z)).elim (f2 b hb).2.1 (f2 b hb).2.2.1,.inl hb,fun x c e=>(f2 b hb).2.2.2.2.1 x c (k.sub x c e),fun p hp=>(by cases hp)⟩
 have fr4:∀ b ∈ fp,upd H2 s2.heap.objs.size (.lst []) b = none:=fun b hb=>by rw [o8 (Nat.ne_of_lt (fo2 b hb))]; exact (f2 b hb).1
 have fin:∀ (s':Shared) (H':Hp),Inv (blk X N' scope cl h3.objs.size s2 H2 fp) [] (C7 n idx σ) H' s' → Q (.ref s2.heap.objs.size) H' →
   compPost (model X.prog X.w) X.A X.xe use Q' (.ref s2.heap.objs.size) h3.objs.size (.ok .next) s':=fun s' H' I' q=>by
  obtain ⟨m',hn',_⟩:=I'.loc
  have B:=I'.base
  refine last _ _ s' H' m' ?_ (I2.fpOk (by rw [hCe]; exact Nat.le_succ _) I'.free) hn' q
  refine I2.call' (s':=s') (ch:=fp) (show s'.os = s2.os from I'.os) ⟨fun b o e nn hb hx=>B.keep b o e nn hb hx,fun b o e nn hb hx=>B.slot b o e nn hb hx,B.free,fun b o e hx=>B.there b o e hx,B.tups,B.frzs,B.tbls⟩ I'.hok I'.bare fun b hb=>?_
  obtain ⟨p1,p2,p3,p4,p5,p6⟩:=f2 b hb
  exact ⟨p4,p2,p5,p6⟩
 have loop:∀ s4:Shared,s4 = { s2 with heap:=h4,toks:=s2.toks + ([]:List (Str × Value)).length } →
   codeAny (model X.prog X.w) X.A (.compLoop (.ListComp elt [⟨tg,iter,ifs,0⟩] scope pos) 0 (.ref it) (.ref s2.heap.objs.size) (compEnvC scope cl h3.objs.size X.env)) (compPost (model X.prog X.w) X.A X.xe use Q' (.ref s2.heap.objs.size) h3.objs.size) s4:=by
  rintro s4 rfl
  refine b34 (fun m s'=>∃ i H',Inv (blk X N' scope cl h3.objs.size s2 H2 fp) [] (C7 n idx σ) H' s' ∧ tn i s'.heap ∧ (∀ b ∈ fp,H' b = none) ∧ W i m H') ?_ m0 ⟨0,_,I4,T.keep _ _ _ st2 (fun b _ o e=>keep b o e),fr4,w0⟩
  rintro m s3 ⟨i,H3,I3,st3,fr3,w3⟩
  rcases turn i m H3 w3 with ⟨stop,q⟩ | ⟨go,step⟩
  ·refine wpAny_mono (T.done (blk X N' scope cl h3.objs.size s2 H2 fp) rfl rfl rfl hc i [] s3 _ H3 (fun _ _=>False) I3 (stat fr3) st3 stop) (fun r s5 ⟨hr,I5⟩=>?_) fun _ _ z=>z.elim
   subst hr
   exact fin s5 H3 I5 q
  ·refine wpAny_mono (T.item (blk X N' scope cl h3.objs.size s2 H2 fp) rfl rfl rfl hc i [] s3 _ H3 (fun _ _=>False) I3 (stat fr3) st3 go) (fun r s5 ⟨u,hr,h5⟩=>?_) fun _ _ z=>z.elim
   subst hr
   refine wpAny_mono h5 (fun _ s6 ⟨x,H6,I6,r6,y6,st6,fr6⟩=>?_) fun _ _ z=>z.elim
   have I6':=I6.pinned (stat fr6) (T.obj _ _ st6)
   have again:∀ {σ7:St} {H7:Hp} {s7:Shared},Inv (blk X N' scope cl h3.objs.size s2 H2 fp) ([] ++ a0K fp s6.heap) σ7 H7 s7 → σ7.length = (C7 n idx σ).length → (∀ (j:Nat) v,(C7 n idx σ)[j]? = some (some v) → σ7[j]? = some (some v)) → (∃ m',m' < m ∧ W (i + 1) m' H7) →
     ∃ m',m' < m ∧ ∃ i H',Inv (blk X N' scope cl h3.objs.size s2 H2 fp) [] (C7 n idx σ) H' s7 ∧ tn i s7.heap ∧ (∀ b ∈ fp,H' b = none) ∧ W i m' H':=fun {σ7 H7 s7} I7 hl hw ⟨m',hm,w7⟩=>by
    refine ⟨m',hm,i + 1,H7,(I7.unpinned).weak hl.symm hw,T.keep _ _ _ st6 fun b hb o e=>(I7.pin (b,o) (List.mem_append_right _ (List.mem_append_right _ (a0x hb e)))).1,fun b hb=>?_,w7⟩
    obtain ⟨o,e,d⟩:=T.obj _ _ st6 b hb
    exact (I7.pin (b,o) (List.mem_append_right _ (List.mem_append_right _ (a0x hb e)))).2.1
   refine wpAny_mono (hg _ _ _ _ _ s6 _ H6 x u _ I6' r6 (step x H6 y6)) (fun _ s7 ⟨σ7,H7,I7,⟨hl,hw⟩,q7⟩=>?_) fun _ _ z=>z.elim
   refine wpAny_mono (ht _ _ _ _ _ s7 σ7 H7 _ I7 q7) (fun ok s8 ⟨H8,I8,q8⟩=>?_) fun _ _ z=>z.elim
   cases ok with
   | false=>
    rw [if_neg Bool.false_ne_true] at q8 ⊢
    exact again I8 hl hw q8
   | true=>
    rw [if_pos rfl] at q8 ⊢
    refine wpAny_mono (he _ _ _ _ _ s8 σ7 H8 _ I8 q8) (fun v9 s9 ⟨x9,H9,I9,r9,ys,e9,l9,q9⟩=>?_) fun _ _ z=>z.elim
    refine wpAny_mono (a6m (X:=blk X N' scope cl h3.objs.size s2 H2 fp) _ s9 σ7 H9 (.ref s2.heap.objs.size) [x9] (.ref s2.heap.objs.size) [v9] (fun _ H'=>H' = upd H9 s2.heap.objs.size (.lst (ys ++ [x9]))) I9 rfl (.cons r9 .nil) ⟨s2.heap.objs.size,ys,x9,rfl,rfl,e9,l9,rfl⟩) (fun _ s10 ⟨_,H10,I10,_,e10⟩=>?_) fun _ _ z=>z.elim
    subst e10
    exact again I10 hl hw q9
 exact codeAny_compStart_list (loop _ rfl) (T.self _ 0 _ _ _ (T.keep _ _ _ st2 (fun b _ o e=>keep b o e)) (loop _ rfl))
theorem a6y (hc:X.calm = true) (k:CompOk X scope cl N' n idx) (hi:PI X tg iter wi)
  (hg:∀ C s0 H0 ex,PG (blk X N' scope cl C s0 H0 ex) tg g) (ht:∀ C s0 H0 ex,Z8 (blk X N' scope cl C s0 H0 ex) ifs tc) (he:∀ C s0 H0 ex,PE (blk X N' scope cl C s0 H0 ex) elt te)
  (hs:∀ x,foldedSetIterable iter X.env x = pure x:=by intro _; rfl):PE X (.ListComp elt [⟨tg,iter,ifs,0⟩] scope pos) (Z3 n idx wi g tc te):=by
 intro pins s σ H Q I0 h
 rw [eval_ListComp]
 refine a6Q (use:=none) (Q':=EP X pins σ Q) hc k hi hg ht he hs I0 h ?_
 intro C D' s' H' m IX fC hn q
 exact ⟨m,hn,fun h' hsb=>⟨.ref D',H',IX.turned (t':=s'.toks) (it:=C) (h':=h') (fun b o nb e=>(hsb.2 b nb).trans e) fC.1 fC.2.1 fC.2.2.2.1 fC.2.2.2.2.1 fC.2.2.2.2.2,rfl,q⟩⟩
theorem b0y {i:Nat} {y:Str} {py spos:Pos} (hN:X.N.Nodup) (hi':X.N[i]? = some y) (hx:Loc X.env.scope y) (hc:X.calm = true) (k:CompOk X scope cl N' n idx) (hi:PI X tg iter wi)
  (hg:∀ C s0 H0 ex,PG (blk X N' scope cl C s0 H0 ex) tg g) (ht:∀ C s0 H0 ex,Z8 (blk X N' scope cl C s0 H0 ex) ifs tc) (he:∀ C s0 H0 ex,PE (blk X N' scope cl C s0 H0 ex) elt te)
  (hs:∀ x,foldedSetIterable iter X.env x = pure x:=by intro _; rfl) (hsw:swapsWith (.ListComp elt [⟨tg,iter,ifs,0⟩] scope pos) (some (.Name y py)) spos.line X.env = pure true:=by rfl)
  (hf:X.fn y = true ∨ X.env.scope.names.lookup y = some .local:=by first | exact .inl rfl | exact .inr rfl | assumption) :
  PS X (.Assign [.Name y py] (.ListComp elt [⟨tg,iter,ifs,0⟩] scope pos) spos) (a0d (Z3 n idx wi g tc te) (L4 i)):=by
 intro pins s σ H D I h
 rw [exec_Assign_Name_used _ _ _ _ hsw]
 refine wpAny_bind (wpAny_standAt (wpAny_bind ?_))
 show wpAny _ X.A (do let _ ← comprehension (.ListComp elt [⟨tg,iter,ifs,0⟩] scope pos) scope X.env _ (newList []) false (eval iter X.env) (some (assign (.Name y py) X.env))) _ _ s
 refine wpAny_bind (wpAny_mono (a6Q (use:=some (assign (.Name y py) X.env)) (Q':=fun _ s'=>SP X pins D .next s') hc k hi hg ht he hs I h ?_) (fun _ s' hq=>wpAny_pure (wpAny_pure hq)) fun _ _ e=>e)
 intro C D' s' H' m IX fC hn q
 show wpAny _ X.A (assign (.Name y py) X.env (.ref D')) _ _ _
 obtain ⟨o,es,ep,ho,hd,hr⟩:=hn
 have IP:=IX.pinned (fp:=[C]) (fun b hb=>by rw [List.mem_singleton.mp hb]; exact fC) (fun b hb=>by rw [List.mem_singleton.mp hb]; exact ⟨o,ho,fun v z=>by rw [hd] at z; cases z⟩)
 refine wpAny_mono (A3 hN hi' hx hf _ s' σ H' (.ref D') (.ref D') D.nx IP rfl q) (fun _ s'' ⟨σ2,H2,I2,q2⟩=>?_) fun _ _ e=>e
 have pn:=I2.pin (C,o) (List.mem_append_right _ (List.mem_append_right _ (a0x (List.mem_singleton.mpr rfl) ho)))
 refine ⟨m,⟨o,es,ep,pn.1,hd,hr⟩,fun h' hsb=>⟨σ2,H2,?_,q2⟩⟩
 have It:=I2.unpinned.turned (t':=s''.toks) (it:=C) (h':=h') (fun b o nb e=>(hsb.2 b nb).trans e) pn.2.1 fC.2.1 fC.2.2.2.1 fC.2.2.2.2.1 fC.2.2.2.2.2
 exact It
end
end L2
namespace DL
open PySem PySem.Spec L2
theorem v6 {α β γ:Type} {o:Option (α × β)} {f:α × β → Option γ} {r:γ} {G:Prop} (h:o.bind f = some r) (k:∀ x y,o = some (x,y) → f (x,y) = some r → G):G:=by
 obtain ⟨⟨x,y⟩,a,b⟩:=Option.bind_eq_some_iff.mp h
 exact k x y a b
theorem L5 {α γ:Type} {o:Option α} {f:α → Option γ} {r:γ} {G:Prop} (h:o.bind f = some r) (k:∀ x,o = some x → f x = some r → G):G:=by
 obtain ⟨x,a,b⟩:=Option.bind_eq_some_iff.mp h
 exact k x a b
theorem mapP {α β γ:Type} {o:Option (α × β)} {f:α × β → γ} {r:γ} {G:Prop} (h:o.map f = some r) (k:∀ x y,o = some (x,y) → f (x,y) = r → G):G:=by
 obtain ⟨⟨x,y⟩,a,b⟩:=Option.map_eq_some_iff.mp h
 exact k x y a b
theorem N7 {α γ:Type} {o:Option α} {f:α → γ} {r:γ} {G:Prop} (h:o.map f = some r) (k:∀ x,o = some x → f x = r → G):G:=by
 obtain ⟨x,a,b⟩:=Option.map_eq_some_iff.mp h
 exact k x a b
inductive D where
 | non | bl (b:Bool) | int (i:Int) | str (x:Str) | tup (ds:List D) | lst (ds:List D)
 | feed | scr (ns:List Int) | fn (x:Str)
mutual
noncomputable def D.py:D → PyData
 | .non=>.none
 | .bl b=>.bool b
 | .int i=>.int i
 | .str x=>.str x
 | .tup ds=>.tuple (D.pys ds)
 | .lst ds=>.list (D.pys ds)
 | .feed=>.none
 | .scr _=>.none
 | .fn _=>.none
noncomputable def D.pys:List D → List PyData
 | []=>[]
 | d :: r=>D.py d :: D.pys r
end
mutual
noncomputable def D.plain:D → Bool
 | .non=>true
 | .bl _=>true
 | .int _=>true
 | .str _=>true
 | .tup ds=>D.plains ds
 | .lst ds=>D.plains ds
 | .feed=>false
 | .scr _=>false
 | .fn _=>false
noncomputable def D.plains:List D → Bool
 | []=>true
 | d :: r=>D.plain d && D.plains r
end
structure FS where
 cells:List Int
 pos:Int
 left:Int
 turn:Int
 kind:Nat
noncomputable def b2s (c:Addr) (f:FS):List V:=if f.kind = 1 then [V.ref c,V.int f.pos,V.int f.left] else [V.ref c,V.int f.pos,V.int f.left,V.int f.turn]
noncomputable def fho (c:Addr) (f:FS):HO:=if f.kind = 0 then .dK [(Sum.inr ("cells" : Str),V.ref c),(Sum.inr ("at" : Str),V.int f.pos),(Sum.inr ("left" : Str),V.int f.left),(Sum.inr ("turn" : Str),V.int f.turn)] else .lst (b2s c f)
theorem a4V {c:Addr} {f:FS} (h:f.kind = 0):fho c f = .dK [(Sum.inr ("cells" : Str),V.ref c),(Sum.inr ("at" : Str),V.int f.pos),(Sum.inr ("left" : Str),V.int f.left),(Sum.inr ("turn" : Str),V.int f.turn)]:=if_pos h
theorem b3x {c:Addr} {f:FS} {xs:List V} (h:fho c f = .tup xs):False:=by unfold fho at h; split at h <;> cases h
theorem b3a {c:Addr} {f:FS} {o:Obj} {u:HO} (h:fho c f = .frz o u):False:=by unfold fho at h; split at h <;> cases h
noncomputable def FeedR (N:Addr → Prop) (H:Hp):Option Addr → Option FS → Prop
 | none,none=>True
 | some a,some f=>f.cells.length ≤ 63 ∧ ∃ c,H a = some (fho c f) ∧ ¬ N c ∧ H c = some (.lst (f.cells.map V.int))
 | _,_=>False
noncomputable def SqF (K:PySem.W.Frag) (H:Hp) (a:Addr) (xs:List V):Prop:=
 (∃ o,H a = some (.frz o (.lst xs))) ∨
  ∃ (o:Obj) (its:Array Value) (n:Nat),K.lookup a = some o ∧ o.cls = .type "list" ∧ o.dict = none ∧ o.data = .seq its n ∧ its.size ≤ sizeLine ∧ Vals xs its.toList
theorem SqF.sq {K:PySem.W.Frag} {H:Hp} {a:Addr} {xs:List V} (h:SqF K H a xs):SqL K H a xs:=by
 rcases h with ⟨o,h⟩ | h
 ·exact .inl (.inr ⟨o,h⟩)
 ·exact .inr h
mutual
noncomputable def Rep (K:PySem.W.Frag) (N:Addr → Prop) (fa:Option Addr) (H:Hp):D → V → Prop
 | .non,v=>v = .non
 | .bl b,v=>v = .bl b
 | .int i,v=>v = .int i
 | .str x,v=>v = .str x ∧ x.length ≤ sizeLine
 | .tup ds,v=>∃ a xs,v = .ref a ∧ SqT K H a xs ∧ Reps K N fa H ds xs
 | .lst ds,v=>∃ a xs,v = .ref a ∧ ¬ N a ∧ H a = some (.lst xs) ∧ Reps K N fa H ds xs
 | .feed,v=>∃ a,fa = some a ∧ v = .ref a
 | .scr ns,v=>ns.length ≤ 63 ∧ ∃ a,v = .ref a ∧ SqF K H a (ns.map V.int)
 | .fn x,v=>∃ a,v = .ref a ∧ PySem.W.nsIn K mainGlobals x = some (some (.ref a))
noncomputable def Reps (K:PySem.W.Frag) (N:Addr → Prop) (fa:Option Addr) (H:Hp):List D → List V → Prop
 | [],xs=>xs = []
 | d :: r,xs=>∃ x ys,xs = x :: ys ∧ Rep K N fa H d x ∧ Reps K N fa H r ys
end
noncomputable def RepB (K:PySem.W.Frag) (N:Addr → Prop) (fa:Option Addr) (H:Hp):D → V → Prop
 | .lst ds,v=>∃ a xs,v = .ref a ∧ fa ≠ some a ∧ H a = some (.lst xs) ∧ Reps K N fa H ds xs
 | d,v=>Rep K N fa H d v
noncomputable def O9 (K:PySem.W.Frag) (N:Addr → Prop) (fa:Option Addr) (H:Hp):List D → List V → Prop
 | [],xs=>xs = []
 | d :: r,xs=>∃ x ys,xs = x :: ys ∧ RepB K N fa H d x ∧ O9 K N fa H r ys
structure Car (K:PySem.W.Frag) (N:Addr → Prop) (fa:Option Addr) (H:Hp) (N':Addr → Prop) (fa':Option Addr) (H':Hp):Prop where
 ls:∀ b xs,¬ N b → H b = some (.lst xs) → H' b = some (.lst xs) ∧ ¬ N' b
 tp:∀ b xs,SqT K H b xs → SqT K H' b xs
 fz:∀ b xs,SqF K H b xs → SqF K H' b xs
 fe:∀ a,fa = some a → fa' = some a
section
variable {K:PySem.W.Frag} {N N':Addr → Prop} {fa fa':Option Addr} {H H':Hp}
mutual
theorem Rep.go (c:Car K N fa H N' fa' H'):∀ (d:D) (v:V),Rep K N fa H d v → Rep K N' fa' H' d v
 | .non,v,h=>by simpa only [Rep] using h
 | .bl b,v,h=>by simpa only [Rep] using h
 | .int i,v,h=>by simpa only [Rep] using h
 | .str x,v,h=>by simpa only [Rep] using h
 | .tup ds,v,h=>by
  simp only [Rep] at h ⊢
  obtain ⟨a,xs,e,q,r⟩:=h
  exact ⟨a,xs,e,c.tp a xs q,Reps.go c ds xs r⟩
 | .lst ds,v,h=>by
  simp only [Rep] at h ⊢
  obtain ⟨a,xs,e,n,q,r⟩:=h
  obtain ⟨q',n'⟩:=c.ls a xs n q
  exact ⟨a,xs,e,n',q',Reps.go c ds xs r⟩
 | .feed,v,h=>by
  simp only [Rep] at h ⊢
  obtain ⟨a,e,q⟩:=h
  exact ⟨a,c.fe a e,q⟩
 | .scr ns,v,h=>by
  simp only [Rep] at h ⊢
  obtain ⟨l,a,e,q⟩:=h
  exact ⟨l,a,e,c.fz a _ q⟩
 | .fn x,v,h=>by simpa only [Rep] using h
theorem Reps.go (c:Car K N fa H N' fa' H'):∀ (ds:List D) (xs:List V),Reps K N fa H ds xs → Reps K N' fa' H' ds xs
 | [],xs,h=>by simpa only [Reps] using h
 | d :: r,xs,h=>by
  simp only [Reps] at h ⊢
  obtain ⟨x,ys,e,h1,h2⟩:=h
  exact ⟨x,ys,e,Rep.go c d x h1,Reps.go c r ys h2⟩
end
theorem Rep.b (hN:∀ a,fa = some a → N a) {d:D} {v:V} (h:Rep K N fa H d v):RepB K N fa H d v:=by
 cases d with
 | lst ds=>
  simp only [Rep] at h
  obtain ⟨a,xs,e,n,q,r⟩:=h
  exact ⟨a,xs,e,fun z=>n (hN a z),q,r⟩
 | _=>simpa only [RepB] using h
noncomputable def O8 (K:PySem.W.Frag) (N:Addr → Prop) (fa:Option Addr) (H:Hp):D → V → Prop
 | .lst ds,v=>∃ a xs,v = .ref a ∧ H a = some (.lst xs) ∧ Reps K N fa H ds xs
 | d,v=>Rep K N fa H d v
theorem Rep.o {d:D} {v:V} (h:Rep K N fa H d v):O8 K N fa H d v:=by
 cases d with
 | lst ds=>
  simp only [Rep] at h
  obtain ⟨a,xs,e,_,q,r⟩:=h
  exact ⟨a,xs,e,q,r⟩
 | _=>simpa only [O8] using h
theorem RepB.o {d:D} {v:V} (h:RepB K N fa H d v):O8 K N fa H d v:=by
 cases d with
 | lst ds=>
  obtain ⟨a,xs,e,_,q,r⟩:=h
  exact ⟨a,xs,e,q,r⟩
 | _=>simpa only [O8,RepB] using h
theorem Reps.length:∀ {ds:List D} {xs:List V},Reps K N fa H ds xs → xs.length = ds.length
 | [],xs,h=>by simp only [Reps] at h; subst h; rfl
 | d :: r,xs,h=>by
  simp only [Reps] at h
  obtain ⟨x,ys,e,h1,h2⟩:=h
  subst e
  simp [Reps.length h2]
theorem Reps.get:∀ {ds:List D} {xs:List V} {i:Nat} {d:D},Reps K N fa H ds xs → ds[i]? = some d → ∃ x,xs[i]? = some x ∧ Rep K N fa H d x
 | [],xs,i,d,h,e=>by simp at e
 | d :: r,xs,0,d',h,e=>by
  simp only [Reps] at h
  obtain ⟨x,ys,e1,h1,h2⟩:=h
  simp at e
  subst e1; subst e
  exact ⟨x,rfl,h1⟩
 | d :: r,xs,i + 1,d',h,e=>by
  simp only [Reps] at h
  obtain ⟨x,ys,e1,h1,h2⟩:=h
  subst e1
  obtain ⟨y,e2,h3⟩:=Reps.get h2 (by simpa using e)
  exact ⟨y,by simpa using e2,h3⟩
theorem Reps.get':∀ {ds:List D} {xs:List V} {i:Nat} {x:V},Reps K N fa H ds xs → xs[i]? = some x → ∃ d,ds[i]? = some d ∧ Rep K N fa H d x:=fun {ds xs i x} h e=>by
 have hl:=h.length
 have hi:i < xs.length:=(List.getElem?_eq_some_iff.mp e).1
 obtain ⟨y,e2,h3⟩:=Reps.get h (List.getElem?_eq_getElem (show i < ds.length by omega))
 rw [e] at e2; cases e2
 exact ⟨_,List.getElem?_eq_getElem (show i < ds.length by omega),h3⟩
theorem Reps.append:∀ {ds es:List D} {xs ys:List V},Reps K N fa H ds xs → Reps K N fa H es ys → Reps K N fa H (ds ++ es) (xs ++ ys)
 | [],es,xs,ys,h,q=>by simp only [Reps] at h; subst h; simpa using q
 | d :: r,es,xs,ys,h,q=>by
  simp only [Reps] at h
  obtain ⟨x,zs,e1,h1,h2⟩:=h
  subst e1
  simp only [List.cons_append,Reps]
  exact ⟨x,_,rfl,h1,Reps.append h2 q⟩
theorem Reps.one {d:D} {x:V} (h:Rep K N fa H d x):Reps K N fa H [d] [x]:=by
 simp only [Reps]
 exact ⟨x,[],rfl,h,rfl⟩
theorem Reps.nil:Reps K N fa H [] []:=by simp only [Reps]
theorem Reps.take:∀ {ds:List D} {xs:List V} (n:Nat),Reps K N fa H ds xs → Reps K N fa H (ds.take n) (xs.take n)
 | _,_,0,_=>by simp only [List.take_zero,Reps]
 | [],xs,n + 1,h=>by simp only [Reps] at h; subst h; simp only [List.take_nil,Reps]
 | d :: r,xs,n + 1,h=>by
  simp only [Reps] at h
  obtain ⟨x,zs,e1,h1,h2⟩:=h
  subst e1
  simp only [List.take_succ_cons,Reps]
  exact ⟨x,_,rfl,h1,Reps.take n h2⟩
theorem Reps.drop:∀ {ds:List D} {xs:List V} (n:Nat),Reps K N fa H ds xs → Reps K N fa H (ds.drop n) (xs.drop n)
 | _,_,0,h=>by simpa using h
 | [],xs,n + 1,h=>by simp only [Reps] at h; subst h; simp only [List.drop_nil,Reps]
 | d :: r,xs,n + 1,h=>by
  simp only [Reps] at h
  obtain ⟨x,zs,e1,h1,h2⟩:=h
  subst e1
  simpa using Reps.drop n h2
theorem Reps.ints:∀ {ns:List Int},Reps K N fa H (ns.map D.int) (ns.map V.int)
 | []=>by simp only [List.map_nil,Reps]
 | n :: r=>by
  simp only [List.map_cons,Reps,Rep]
  exact ⟨_,_,rfl,rfl,Reps.ints⟩
theorem Reps.reverse:∀ {ds:List D} {xs:List V},Reps K N fa H ds xs → Reps K N fa H ds.reverse xs.reverse
 | [],xs,h=>by simp only [Reps] at h; subst h; simp only [List.reverse_nil,Reps]
 | d :: r,xs,h=>by
  simp only [Reps] at h
  obtain ⟨x,zs,e1,h1,h2⟩:=h
  subst e1
  simp only [List.reverse_cons]
  exact Reps.append (Reps.reverse h2) (Reps.one h1)
end
inductive Sl where
 | no | val (d:D) | own (ds:List D)
structure DS where
 sl:List Sl
 fs:Option FS
noncomputable def NN (F:Addr → Prop) (fa:Option Addr) (O:List Addr):Addr → Prop:=fun b=>F b ∨ b ∈ O ∨ fa = some b
noncomputable def SlR (K:PySem.W.Frag) (N:Addr → Prop) (fa:Option Addr) (H:Hp):List Sl → List (Option V) → List Addr → Prop
 | [],σ,O=>σ = [] ∧ O = []
 | .no :: r,σ,O=>∃ v τ,σ = v :: τ ∧ SlR K N fa H r τ O
 | .val d :: r,σ,O=>∃ u τ,σ = some u :: τ ∧ Rep K N fa H d u ∧ SlR K N fa H r τ O
 | .own ds :: r,σ,O=>∃ a xs τ P,σ = some (.ref a) :: τ ∧ O = a :: P ∧ H a = some (.lst xs) ∧ Reps K N fa H ds xs ∧ SlR K N fa H r τ P
structure Stp (fa:Option Addr) (O:List Addr) (H:Hp) (fa':Option Addr) (O':List Addr) (H':Hp):Prop where
 sub:∀ b ∈ O',b ∈ O ∨ H b = none
 fe:fa' = fa ∨ (fa = none ∧ ∀ a,fa' = some a → H a = none)
 same:∀ b u,H b = some u → b ∉ O → fa ≠ some b → H' b = some u
 mon:∀ b,H' b = none → H b = none
structure StE (fa:Option Addr) (O:List Addr) (H:Hp) (fa':Option Addr) (O':List Addr) (H':Hp):Prop where
 sub:∀ b ∈ O',b ∈ O
 fe:fa' = fa ∨ (fa = none ∧ ∀ a,fa' = some a → H a = none)
 same:∀ b u,H b = some u → fa ≠ some b → H' b = some u
 mon:∀ b,H' b = none → H b = none
structure DI (K:PySem.W.Frag) (F:Addr → Prop) (H0:Hp) (fa0:Option Addr) (σ:St) (H:Hp) (fa:Option Addr) (O:List Addr) (s:DS):Prop where
 nd:O.Nodup
 sl:SlR K (NN F fa O) fa H s.sl σ O
 fr:∀ b ∈ O,H0 b = none
 st:Stp fa0 [] H0 fa [] H
 tr:∀ b,F b → H0 b ≠ none
 ff:∀ a,fa0 = some a → F a
 fd:FeedR (NN F fa O) H fa s.fs
 nf:∀ a,fa = some a → a ∉ O
section
variable {fa fa' fa'':Option Addr} {O O' O'':List Addr} {H H' H'':Hp}
theorem StE.stp (h:StE fa O H fa' O' H'):Stp fa O H fa' O' H':=⟨fun b hb=>.inl (h.sub b hb),h.fe,fun b u e _ n=>h.same b u e n,h.mon⟩
theorem StE.refl:StE fa O H fa O H:=⟨fun _ h=>h,.inl rfl,fun _ _ e _=>e,fun _ h=>h⟩
theorem Stp.refl:Stp fa O H fa O H:=StE.refl.stp
theorem StE.trans (a:StE fa O H fa' O' H') (b:StE fa' O' H' fa'' O'' H''):StE fa O H fa'' O'' H'':=by
 refine ⟨fun c hc=>a.sub c (b.sub c hc),?_,fun c u e n=>?_,fun c h=>a.mon c (b.mon c h)⟩
 ·rcases a.fe with e | ⟨e,h⟩
  ·rcases b.fe with e' | ⟨e',h'⟩
   ·exact .inl (e'.trans e)
   ·exact .inr ⟨e ▸ e',fun c z=>a.mon c (h' c z)⟩
  ·rcases b.fe with e' | ⟨e',h'⟩
   ·exact .inr ⟨e,fun c z=>h c (e' ▸ z)⟩
   ·exact .inr ⟨e,fun c z=>a.mon c (h' c z)⟩
 ·refine b.same c u (a.same c u e n) fun z=>?_
  rcases a.fe with q | ⟨q,h⟩
  ·rw [q] at z; exact n z
  ·rw [h c z] at e; cases e
theorem Stp.trans (a:Stp fa O H fa' O' H') (b:Stp fa' O' H' fa'' O'' H''):Stp fa O H fa'' O'' H'':=by
 refine ⟨fun c hc=>?_,?_,fun c u e hc n=>?_,fun c h=>a.mon c (b.mon c h)⟩
 ·rcases b.sub c hc with q | q
  ·exact a.sub c q
  ·exact .inr (a.mon c q)
 ·rcases a.fe with e | ⟨e,h⟩
  ·rcases b.fe with e' | ⟨e',h'⟩
   ·exact .inl (e'.trans e)
   ·exact .inr ⟨e ▸ e',fun c z=>a.mon c (h' c z)⟩
  ·rcases b.fe with e' | ⟨e',h'⟩
   ·exact .inr ⟨e,fun c z=>h c (e' ▸ z)⟩
   ·exact .inr ⟨e,fun c z=>a.mon c (h' c z)⟩
 ·refine b.same c u (a.same c u e hc n) (fun z=>?_) fun z=>?_
  ·rcases a.sub c z with q | q
   ·exact hc q
   ·rw [q] at e; cases e
  ·rcases a.fe with q | ⟨q,h⟩
   ·rw [q] at z; exact n z
   ·rw [h c z] at e; cases e
theorem Stp.fa_keep (a:Stp fa O H fa' O' H') {x:Addr} (h:fa = some x):fa' = some x:=by
 rcases a.fe with e | ⟨e,_⟩
 ·rw [e,h]
 ·rw [h] at e; cases e
variable {K:PySem.W.Frag} {F:Addr → Prop} {H0:Hp} {fa0:Option Addr} {σ:St} {s:DS}
theorem FeedR.no_frz {N:Addr → Prop} {fs:Option FS} {a:Addr} {o:Obj} {u:HO} (h:FeedR N H fa fs) (e:fa = some a) (q:H a = some (.frz o u)):False:=by
 subst e
 cases fs with
 | none=>exact h
 | some f=>
  obtain ⟨_,c,h1,_⟩:=h
  rw [h1] at q; exact b3a (Option.some.inj q)
theorem FeedR.no_tup {N:Addr → Prop} {fs:Option FS} {a:Addr} {xs:List V} (h:FeedR N H fa fs) (e:fa = some a) (z:Rd H a (.tup xs)):False:=by
 rcases z with z | ⟨o,z⟩
 ·subst e
  cases fs with
  | none=>exact h
  | some f=>
   obtain ⟨_,c,h1,_⟩:=h
   rw [h1] at z; exact b3x (Option.some.inj z)
 ·exact h.no_frz e z
theorem FeedR.tracked {N:Addr → Prop} {fs:Option FS} {a:Addr} (h:FeedR N H fa fs) (e:fa = some a):H a ≠ none:=by
 subst e
 cases fs with
 | none=>exact h.elim
 | some f=>
  obtain ⟨_,c,h1,_⟩:=h
  rw [h1]; simp
theorem SqT.stp' (a:Stp fa O H fa' O' H') (hf:∀ x,fa = some x → ∀ xs,¬ Rd H x (.tup xs)) (hO:∀ x ∈ O,∀ xs,¬ Rd H x (.tup xs)) {b:Addr} {xs:List V} (h:SqT K H b xs):SqT K H' b xs:=by
 rcases h with h | h
 ·refine .inl ?_
  have n1:b ∉ O:=fun z=>hO b z xs h
  have n2:fa ≠ some b:=fun z=>hf b z xs h
  rcases h with h | ⟨o,h⟩
  ·exact .inl (a.same _ _ h n1 n2)
  ·exact .inr ⟨o,a.same _ _ h n1 n2⟩
 ·exact .inr h
theorem SlR.owned:∀ {sl:List Sl} {N:Addr → Prop} {σ:List (Option V)} {O:List Addr},SlR K N fa H sl σ O → ∀ b ∈ O,∃ xs,H b = some (.lst xs)
 | [],N,σ,O,h,b,hb=>by simp only [SlR] at h; rw [h.2] at hb; cases hb
 | .no :: r,N,σ,O,h,b,hb=>by
  simp only [SlR] at h
  obtain ⟨v,τ,_,h⟩:=h
  exact SlR.owned h b hb
 | .val d :: r,N,σ,O,h,b,hb=>by
  simp only [SlR] at h
  obtain ⟨v,τ,_,_,h⟩:=h
  exact SlR.owned h b hb
 | .own ds :: r,N,σ,O,h,b,hb=>by
  simp only [SlR] at h
  obtain ⟨a,xs,τ,P,_,rfl,e,_,h⟩:=h
  rcases List.mem_cons.mp hb with z | z
  ·subst z; exact ⟨xs,e⟩
  ·exact SlR.owned h b z
theorem DI.owned (I:DI K F H0 fa0 σ H fa O s) {b:Addr} (hb:b ∈ O):∃ xs,H b = some (.lst xs):=SlR.owned I.sl b hb
theorem DI.trF (I:DI K F H0 fa0 σ H fa O s) {b:Addr} (hb:F b):H b ≠ none:=fun z=>I.tr b hb (I.st.mon b z)
theorem DI.nn_tracked (I:DI K F H0 fa0 σ H fa O s) {b:Addr} (h:NN F fa O b):H b ≠ none:=by
 rcases h with h | h | h
 ·exact I.trF h
 ·obtain ⟨xs,e⟩:=I.owned h
  rw [e]; simp
 ·exact I.fd.tracked h
theorem DI.nf_step (I:DI K F H0 fa0 σ H fa O s) (h:fa' = fa ∨ (fa = none ∧ ∀ a,fa' = some a → H a = none)):∀ a,fa' = some a → a ∉ O:=fun a e m=>by
 rcases h with z | ⟨z,y⟩
 ·rw [z] at e; exact I.nf a e m
 ·obtain ⟨xs,q⟩:=I.owned m
  rw [y a e] at q; cases q
theorem DI.car (I:DI K F H0 fa0 σ H fa O s) (a:Stp fa O H fa' O' H'):Car K (NN F fa O) fa H (NN F fa' O') fa' H':=by
 have nt:∀ x xs,H x = some (.lst xs) → ∀ ys,¬ Rd H x (.tup ys):=fun x xs e ys z=>by
  rcases z with z | ⟨o,z⟩ <;> · rw [e] at z; cases z
 refine ⟨fun b xs n q=>?_,fun b xs q=>?_,fun b xs q=>?_,fun x e=>a.fa_keep e⟩
 ·have n1:b ∉ O:=fun z=>n (.inr (.inl z))
  have n2:fa ≠ some b:=fun z=>n (.inr (.inr z))
  have tr:H b ≠ none:=by rw [q]; simp
  refine ⟨a.same _ _ q n1 n2,fun z=>?_⟩
  ·rcases z with z | z | z
   ·exact n (.inl z)
   ·rcases a.sub b z with y | y
    ·exact n1 y
    ·exact tr y
   ·rcases a.fe with e | ⟨e,h⟩
    ·rw [e] at z; exact n2 z
    ·exact tr (h b z)
 ·refine SqT.stp' a (fun x e ys z=>?_) (fun x hx ys=>?_) q
  ·exact I.fd.no_tup e z
  ·obtain ⟨xs,e⟩:=I.owned hx
   exact nt x xs e ys
 ·rcases q with ⟨o,q⟩ | q
  ·refine .inl ⟨o,a.same _ _ q (fun z=>?_) fun z=>?_⟩
   ·obtain ⟨ys,e⟩:=I.owned z
    rw [e] at q; cases q
   ·exact I.fd.no_frz z q
  ·exact .inr q
end
structure Gh where
 F:Addr → Prop
 H0:Hp
 fa0:Option Addr
noncomputable abbrev GI (K:PySem.W.Frag) (g:Gh):=DI K g.F g.H0 g.fa0
section
variable {K:PySem.W.Frag} {N N':Addr → Prop} {fa fa':Option Addr} {H H':Hp} {g:Gh} {σ:L2.St} {O O':List Addr} {s:DS}
theorem SlR.go (c:Car K N fa H N' fa' H'):∀ {sl:List Sl} {σ:List (Option V)} {O:List Addr},(∀ a xs,a ∈ O → H a = some (.lst xs) → H' a = some (.lst xs)) → SlR K N fa H sl σ O → SlR K N' fa' H' sl σ O
 | [],σ,O,_,h=>by simpa only [SlR] using h
 | .no :: r,σ,O,ho,h=>by
  simp only [SlR] at h ⊢
  obtain ⟨v,τ,e,h⟩:=h
  exact ⟨v,τ,e,SlR.go c ho h⟩
 | .val d :: r,σ,O,ho,h=>by
  simp only [SlR] at h ⊢
  obtain ⟨u,τ,e,q,h⟩:=h
  exact ⟨u,τ,e,Rep.go c d u q,SlR.go c ho h⟩
 | .own ds :: r,σ,O,ho,h=>by
  simp only [SlR] at h ⊢
  obtain ⟨a,xs,τ,P,e,rfl,ha,q,h⟩:=h
  exact ⟨a,xs,τ,P,e,rfl,ho a xs (List.mem_cons_self ..) ha,Reps.go c ds xs q,SlR.go c (fun b ys hb=>ho b ys (List.mem_cons_of_mem _ hb)) h⟩
theorem SlR.val:∀ {sl:List Sl} {σ:List (Option V)} {O:List Addr} {i:Nat} {d:D},SlR K N fa H sl σ O → sl[i]? = some (.val d) → ∃ u,σ[i]? = some (some u) ∧ Rep K N fa H d u
 | [],σ,O,i,d,h,e=>by simp at e
 | .no :: r,σ,O,i,d,h,e=>by
  simp only [SlR] at h
  obtain ⟨v,τ,rfl,h⟩:=h
  cases i with
  | zero=>simp at e
  | succ i=>simpa using SlR.val h (by simpa using e)
 | .val d' :: r,σ,O,i,d,h,e=>by
  simp only [SlR] at h
  obtain ⟨u,τ,rfl,q,h⟩:=h
  cases i with
  | zero=>simp at e; subst e; exact ⟨u,rfl,q⟩
  | succ i=>simpa using SlR.val h (by simpa using e)
 | .own ds :: r,σ,O,i,d,h,e=>by
  simp only [SlR] at h
  obtain ⟨a,xs,τ,P,rfl,rfl,ha,q,h⟩:=h
  cases i with
  | zero=>simp at e
  | succ i=>simpa using SlR.val h (by simpa using e)
theorem SlR.own:∀ {sl:List Sl} {σ:List (Option V)} {O:List Addr} {i:Nat} {ds:List D},SlR K N fa H sl σ O → sl[i]? = some (.own ds) → ∃ a xs,σ[i]? = some (some (.ref a)) ∧ a ∈ O ∧ H a = some (.lst xs) ∧ Reps K N fa H ds xs
 | [],σ,O,i,d,h,e=>by simp at e
 | .no :: r,σ,O,i,d,h,e=>by
  simp only [SlR] at h
  obtain ⟨v,τ,rfl,h⟩:=h
  cases i with
  | zero=>simp at e
  | succ i=>simpa using SlR.own h (by simpa using e)
 | .val d' :: r,σ,O,i,d,h,e=>by
  simp only [SlR] at h
  obtain ⟨u,τ,rfl,q,h⟩:=h
  cases i with
  | zero=>simp at e
  | succ i=>simpa using SlR.own h (by simpa using e)
 | .own ds :: r,σ,O,i,d,h,e=>by
  simp only [SlR] at h
  obtain ⟨a,xs,τ,P,rfl,rfl,ha,q,h⟩:=h
  cases i with
  | zero=>simp at e; subst e; exact ⟨a,xs,rfl,List.mem_cons_self ..,ha,q⟩
  | succ i=>
   obtain ⟨b,ys,e1,m,e2,q2⟩:=SlR.own h (by simpa using e)
   exact ⟨b,ys,by simpa using e1,List.mem_cons_of_mem _ m,e2,q2⟩
theorem SlR.len:∀ {sl:List Sl} {σ:List (Option V)} {O:List Addr},SlR K N fa H sl σ O → σ.length = sl.length
 | [],σ,O,h=>by simp only [SlR] at h; rw [h.1]; rfl
 | .no :: r,σ,O,h=>by
  simp only [SlR] at h
  obtain ⟨v,τ,rfl,h⟩:=h
  simp [SlR.len h]
 | .val d' :: r,σ,O,h=>by
  simp only [SlR] at h
  obtain ⟨u,τ,rfl,q,h⟩:=h
  simp [SlR.len h]
 | .own ds :: r,σ,O,h=>by
  simp only [SlR] at h
  obtain ⟨a,xs,τ,P,rfl,rfl,ha,q,h⟩:=h
  simp [SlR.len h]
theorem SlR.put:∀ {sl:List Sl} {σ:List (Option V)} {O:List Addr} (i:Nat) {d:D} {u:V},SlR K N fa H sl σ O → Rep K N fa H d u →
  ∃ P,P.Sublist O ∧ SlR K N fa H (sl.set i (.val d)) (σ.set i (some u)) P ∧ (O.Nodup → ∀ a,sl[i]?.isSome = true → (∃ ds,sl[i]? = some (.own ds)) → σ[i]? = some (some (.ref a)) → a ∉ P)
 | [],σ,O,i,d,u,h,q=>by
  simp only [SlR] at h
  refine ⟨O,List.Sublist.refl _,?_,fun _ a z=>by simp at z⟩
  rw [h.1,h.2]
  simp [SlR]
 | .no :: r,σ,O,i,d,u,h,q=>by
  simp only [SlR] at h
  obtain ⟨v,τ,rfl,h⟩:=h
  cases i with
  | zero=>exact ⟨O,List.Sublist.refl _,by simp only [List.set_cons_zero,SlR]; exact ⟨u,τ,rfl,q,h⟩,fun _ a _ z=>by obtain ⟨ds,z⟩:=z; simp at z⟩
  | succ i=>
   obtain ⟨P,hs,h1,h2⟩:=SlR.put i h q
   exact ⟨P,hs,by simp only [List.set_cons_succ,SlR]; exact ⟨v,_,rfl,h1⟩,by simpa using h2⟩
 | .val d' :: r,σ,O,i,d,u,h,q=>by
  simp only [SlR] at h
  obtain ⟨v,τ,rfl,qv,h⟩:=h
  cases i with
  | zero=>exact ⟨O,List.Sublist.refl _,by simp only [List.set_cons_zero,SlR]; exact ⟨u,τ,rfl,q,h⟩,fun _ a _ z=>by obtain ⟨ds,z⟩:=z; simp at z⟩
  | succ i=>
   obtain ⟨P,hs,h1,h2⟩:=SlR.put i h q
   exact ⟨P,hs,by simp only [List.set_cons_succ,SlR]; exact ⟨v,_,rfl,qv,h1⟩,by simpa using h2⟩
 | .own ds :: r,σ,O,i,d,u,h,q=>by
  simp only [SlR] at h
  obtain ⟨a,xs,τ,P,rfl,rfl,ha,qv,h⟩:=h
  cases i with
  | zero=>
   refine ⟨P,List.sublist_cons_self ..,by simp only [List.set_cons_zero,SlR]; exact ⟨u,τ,rfl,q,h⟩,fun nd b _ _ e=>?_⟩
   simp at e; subst e
   exact (List.nodup_cons.mp nd).1
  | succ i=>
   obtain ⟨P',hs,h1,h2⟩:=SlR.put i h q
   refine ⟨a :: P',hs.cons_cons a,by simp only [List.set_cons_succ,SlR]; exact ⟨a,xs,_,P',rfl,rfl,ha,qv,h1⟩,fun nd b e1 e2 e3=>?_⟩
   have nd':=List.nodup_cons.mp nd
   have n1:=h2 nd'.2 b (by simpa using e1) (by simpa using e2) (by simpa using e3)
   intro z
   rcases List.mem_cons.mp z with z | z
   ·subst z
    obtain ⟨dz,e2⟩:=e2
    obtain ⟨b',_,e4,m,_⟩:=SlR.own h (i:=i) (by simpa using e2)
    rw [List.getElem?_cons_succ] at e3
    rw [e3] at e4
    cases e4
    exact nd'.1 m
   ·exact n1 z
theorem SlR.putN:∀ {sl:List Sl} {σ:List (Option V)} {O:List Addr} (i:Nat) {ds:List D} {p:Addr} {xs:List V},SlR K N fa H sl σ O → i < sl.length → p ∉ O → O.Nodup → H p = some (.lst xs) → Reps K N fa H ds xs →
  ∃ P,(∀ b ∈ P,b = p ∨ b ∈ O) ∧ P.Nodup ∧ SlR K N fa H (sl.set i (.own ds)) (σ.set i (some (.ref p))) P
 | [],σ,O,i,ds,p,xs,h,hi,hp,nd,e,q=>by simp at hi
 | .no :: r,σ,O,i,ds,p,xs,h,hi,hp,nd,e,q=>by
  simp only [SlR] at h
  obtain ⟨v,τ,rfl,h⟩:=h
  cases i with
  | zero=>exact ⟨p :: O,fun b hb=>List.mem_cons.mp hb,List.nodup_cons.mpr ⟨hp,nd⟩,by simp only [List.set_cons_zero,SlR]; exact ⟨p,xs,τ,O,rfl,rfl,e,q,h⟩⟩
  | succ i=>
   obtain ⟨P,h1,h2,h3⟩:=SlR.putN i h (by simpa using hi) hp nd e q
   exact ⟨P,h1,h2,by simp only [List.set_cons_succ,SlR]; exact ⟨v,_,rfl,h3⟩⟩
 | .val d' :: r,σ,O,i,ds,p,xs,h,hi,hp,nd,e,q=>by
  simp only [SlR] at h
  obtain ⟨v,τ,rfl,qv,h⟩:=h
  cases i with
  | zero=>exact ⟨p :: O,fun b hb=>List.mem_cons.mp hb,List.nodup_cons.mpr ⟨hp,nd⟩,by simp only [List.set_cons_zero,SlR]; exact ⟨p,xs,τ,O,rfl,rfl,e,q,h⟩⟩
  | succ i=>
   obtain ⟨P,h1,h2,h3⟩:=SlR.putN i h (by simpa using hi) hp nd e q
   exact ⟨P,h1,h2,by simp only [List.set_cons_succ,SlR]; exact ⟨v,_,rfl,qv,h3⟩⟩
 | .own ds' :: r,σ,O,i,ds,p,xs,h,hi,hp,nd,e,q=>by
  simp only [SlR] at h
  obtain ⟨a,ys,τ,P,rfl,rfl,ha,qv,h⟩:=h
  have nd':=List.nodup_cons.mp nd
  cases i with
  | zero=>
   refine ⟨p :: P,fun b hb=>(List.mem_cons.mp hb).imp id fun z=>List.mem_cons_of_mem _ z,List.nodup_cons.mpr ⟨fun z=>hp (List.mem_cons_of_mem _ z),nd'.2⟩,?_⟩
   simp only [List.set_cons_zero,SlR]
   exact ⟨p,xs,τ,P,rfl,rfl,e,q,h⟩
  | succ i=>
   obtain ⟨P',h1,h2,h3⟩:=SlR.putN i h (by simpa using hi) (fun z=>hp (List.mem_cons_of_mem _ z)) nd'.2 e q
   refine ⟨a :: P',fun b hb=>?_,List.nodup_cons.mpr ⟨fun z=>?_,h2⟩,by simp only [List.set_cons_succ,SlR]; exact ⟨a,ys,_,P',rfl,rfl,ha,qv,h3⟩⟩
   ·rcases List.mem_cons.mp hb with z | z
    ·exact .inr (by rw [z]; exact List.mem_cons_self ..)
    ·exact (h1 b z).imp id fun y=>List.mem_cons_of_mem _ y
   ·rcases h1 a z with y | y
    ·exact hp (by rw [y]; exact List.mem_cons_self ..)
    ·exact nd'.1 y
theorem SlR.rew:∀ {sl:List Sl} {σ:List (Option V)} {O:List Addr} {i:Nat} {ds es:List D} {a:Addr} {ys:List V},SlR K N fa H sl σ O → O.Nodup → (∀ b ∈ O,N b) → sl[i]? = some (.own ds) → σ[i]? = some (some (.ref a)) → H' a = some (.lst ys) →
  Car K N fa H N fa H' → (∀ b u,b ≠ a → H b = some u → H' b = some u) → Reps K N fa H' es ys → SlR K N fa H' (sl.set i (.own es)) σ O
 | [],σ,O,i,ds,es,a,ys,h,nd,hN,e1,e2,e3,c,k,q=>by simp at e1
 | .no :: r,σ,O,i,ds,es,a,ys,h,nd,hN,e1,e2,e3,c,k,q=>by
  simp only [SlR] at h
  obtain ⟨v,τ,rfl,h⟩:=h
  cases i with
  | zero=>simp at e1
  | succ i=>simp only [List.set_cons_succ,SlR]; exact ⟨v,τ,rfl,SlR.rew h nd hN (by simpa using e1) (by simpa using e2) e3 c k q⟩
 | .val d' :: r,σ,O,i,ds,es,a,ys,h,nd,hN,e1,e2,e3,c,k,q=>by
  simp only [SlR] at h
  obtain ⟨v,τ,rfl,qv,h⟩:=h
  cases i with
  | zero=>simp at e1
  | succ i=>simp only [List.set_cons_succ,SlR]; exact ⟨v,τ,rfl,Rep.go c _ _ qv,SlR.rew h nd hN (by simpa using e1) (by simpa using e2) e3 c k q⟩
 | .own ds' :: r,σ,O,i,ds,es,a,ys,h,nd,hN,e1,e2,e3,c,k,q=>by
  simp only [SlR] at h
  obtain ⟨b,zs,τ,P,rfl,rfl,ha,qv,h⟩:=h
  have nd':=List.nodup_cons.mp nd
  cases i with
  | zero=>
   simp at e2
   subst e2
   simp only [List.set_cons_zero,SlR]
   exact ⟨b,ys,τ,P,rfl,rfl,e3,q,SlR.go c (fun x xs hx z=>k x _ (fun y=>nd'.1 (y ▸ hx)) z) h⟩
  | succ i=>
   have nb:b ≠ a:=fun z=>by
    obtain ⟨a',_,e4,m,_⟩:=SlR.own h (i:=i) (by simpa using e1)
    rw [List.getElem?_cons_succ] at e2
    rw [e2] at e4
    cases e4
    exact nd'.1 (z ▸ m)
   simp only [List.set_cons_succ,SlR]
   exact ⟨b,zs,τ,P,rfl,rfl,k b _ nb ha,Reps.go c _ _ qv,SlR.rew h nd'.2 (fun x hx=>hN x (List.mem_cons_of_mem _ hx)) (by simpa using e1) (by simpa using e2) e3 c k q⟩
theorem RepB.stp {d:D} {v:V} (I:GI K g σ H fa O s) (a:StE fa O H fa' O' H') (h:RepB K (NN g.F fa O) fa H d v):RepB K (NN g.F fa' O') fa' H' d v:=by
 have c:=I.car a.stp
 cases d with
 | lst ds=>
  obtain ⟨x,xs,e,nf,q,r⟩:=h
  refine ⟨x,xs,e,fun z=>?_,a.same _ _ q nf,Reps.go c ds xs r⟩
  rcases a.fe with y | ⟨_,y⟩
  ·rw [y] at z; exact nf z
  ·rw [y x z] at q; cases q
 | _=>
  simp only [RepB] at h ⊢
  exact Rep.go c _ _ h
theorem Rep.stp {d:D} {v:V} (I:GI K g σ H fa O s) (a:Stp fa O H fa' O' H') (h:Rep K (NN g.F fa O) fa H d v):Rep K (NN g.F fa' O') fa' H' d v:=Rep.go (I.car a) d v h
theorem Reps.stp {ds:List D} {xs:List V} (I:GI K g σ H fa O s) (a:Stp fa O H fa' O' H') (h:Reps K (NN g.F fa O) fa H ds xs):Reps K (NN g.F fa' O') fa' H' ds xs:=Reps.go (I.car a) ds xs h
theorem C1 {p:Addr} {o:HO} (h:H p = none):StE fa O H fa O (upd H p o):=
 ⟨fun _ h=>h,.inl rfl,fun b u e _=>by rw [o8 (M3 e h)]; exact e,fun b z=>by
  by_cases hb:b = p
  ·subst hb; exact h
  ·rw [o8 hb] at z; exact z⟩
theorem FeedR.car {fs:Option FS} (c:Car K N fa H N' fa H') (h:∀ a,fa = some a → H' a = H a) (f:FeedR N H fa fs):FeedR N' H' fa fs:=by
 cases fa with
 | none=>cases fs <;> simpa only [FeedR] using f
 | some a=>
  cases fs with
  | none=>simpa only [FeedR] using f
  | some x=>
   simp only [FeedR] at f ⊢
   obtain ⟨l,b,h1,h2,h3⟩:=f
   obtain ⟨q,n⟩:=c.ls b _ h2 h3
   exact ⟨l,b,by rw [h a rfl]; exact h1,n,q⟩
theorem FeedR.same_new {fs:Option FS} {p:Addr} {o:HO} (f:FeedR N H fa fs) (h:H p = none):∀ a,fa = some a → upd H p o a = H a:=fun a e=>o8 fun z=>f.tracked e (z ▸ h)
theorem DI.new {p:Addr} {o:HO} (I:GI K g σ H fa O s) (h:H p = none):GI K g σ (upd H p o) fa O s:=by
 have a:StE fa O H fa O (upd H p o):=C1 h
 refine ⟨I.nd,SlR.go (I.car a.stp) (fun b xs hb e=>?_) I.sl,I.fr,I.st.trans ((C1 (O:=[]) h).stp),I.tr,I.ff,I.fd.car (I.car a.stp) (I.fd.same_new h),I.nf⟩
 rw [o8 (M3 e h)]; exact e
end
noncomputable abbrev DE:=DS → Option (D × DS)
noncomputable abbrev DT:=DS → Option (Bool × DS)
noncomputable abbrev DA:=DS → Option (List D × DS)
inductive Fl where
 | next | brk | cont | ret (d:D)
noncomputable abbrev DM:=DS → Option (Fl × DS)
structure NewL (K:PySem.W.Frag) (g:Gh) (σ:L2.St) (H:Hp) (fa:Option Addr) (O:List Addr) (s:DS) (p:Addr) (xs:List V) (ds:List D):Prop where
 gi:GI K g σ H fa O s
 ls:H p = some (.lst xs)
 sl:SlR K (fun b=>NN g.F fa O b ∨ b = p) fa H s.sl σ O
 fd:FeedR (fun b=>NN g.F fa O b ∨ b = p) H fa s.fs
 rs:Reps K (fun b=>NN g.F fa O b ∨ b = p) fa H ds xs
 nf:fa ≠ some p
section
variable (K:PySem.W.Frag) (g:Gh)
noncomputable def liftE (f:DE):TE:=fun σ H Q=>∃ fa O s d s',GI K g σ H fa O s ∧ f s = some (d,s') ∧
 ∀ v H' fa' O',StE fa O H fa' O' H' → GI K g σ H' fa' O' s' → Rep K (NN g.F fa' O') fa' H' d v → Q v H'
noncomputable def liftB (f:DE):TE:=fun σ H Q=>∃ fa O s d s',GI K g σ H fa O s ∧ f s = some (d,s') ∧
 ∀ v H' fa' O',StE fa O H fa' O' H' → GI K g σ H' fa' O' s' → RepB K (NN g.F fa' O') fa' H' d v → Q v H'
noncomputable def liftF (f:DA):TE:=fun σ H Q=>∃ fa O s ds s',GI K g σ H fa O s ∧ f s = some (ds,s') ∧
 ∀ p xs H' fa' O',StE fa O H fa' O' H' → NewL K g σ H' fa' O' s' p xs ds → H p = none → Q (.ref p) H'
noncomputable def liftT (f:DT):TT:=fun σ H Q=>∃ fa O s d s',GI K g σ H fa O s ∧ f s = some (d,s') ∧
 ∀ H' fa' O',StE fa O H fa' O' H' → GI K g σ H' fa' O' s' → Q d H'
noncomputable def liftA (f:DA):TA:=fun σ H Q=>∃ fa O s ds s',GI K g σ H fa O s ∧ f s = some (ds,s') ∧
 ∀ vs H' fa' O',StE fa O H fa' O' H' → GI K g σ H' fa' O' s' → Reps K (NN g.F fa' O') fa' H' ds vs → Q vs H'
noncomputable def liftBA (f:DA):TA:=fun σ H Q=>∃ fa O s ds s',GI K g σ H fa O s ∧ f s = some (ds,s') ∧
 ∀ vs H' fa' O',StE fa O H fa' O' H' → GI K g σ H' fa' O' s' → O9 K (NN g.F fa' O') fa' H' ds vs → Q vs H'
noncomputable def FlK (E:Ends) (fa:Option Addr) (O:List Addr) (H:Hp) (fl:Fl) (s':DS):Prop:=
 match fl with
 | .next=>∀ σ' H' fa' O',Stp fa O H fa' O' H' → GI K g σ' H' fa' O' s' → E.nx σ' H'
 | .brk=>∀ σ' H' fa' O',Stp fa O H fa' O' H' → GI K g σ' H' fa' O' s' → E.bk σ' H'
 | .cont=>∀ σ' H' fa' O',Stp fa O H fa' O' H' → GI K g σ' H' fa' O' s' → E.ct σ' H'
 | .ret d=>∀ σ' v H' fa' O',Stp fa O H fa' O' H' → GI K g σ' H' fa' O' s' → Rep K (NN g.F fa' O') fa' H' d v → E.rt v H'
noncomputable def liftS (f:DM):TS:=fun E σ H=>∃ fa O s fl s',GI K g σ H fa O s ∧ f s = some (fl,s') ∧ FlK K g E fa O H fl s'
end
section
variable {K:PySem.W.Frag} {g:Gh} {σ:L2.St} {H:Hp} {G:Prop}
theorem liftE.elim {f:DE} {Q:VK} (h:liftE K g f σ H Q) (k:∀ fa O s d s',GI K g σ H fa O s → f s = some (d,s') → (∀ v H' fa' O',StE fa O H fa' O' H' → GI K g σ H' fa' O' s' → Rep K (NN g.F fa' O') fa' H' d v → Q v H') → G):G:=by
 obtain ⟨fa,O,s,d,s',a,b,c⟩:=h
 exact k fa O s d s' a b c
theorem liftB.elim {f:DE} {Q:VK} (h:liftB K g f σ H Q) (k:∀ fa O s d s',GI K g σ H fa O s → f s = some (d,s') → (∀ v H' fa' O',StE fa O H fa' O' H' → GI K g σ H' fa' O' s' → RepB K (NN g.F fa' O') fa' H' d v → Q v H') → G):G:=by
 obtain ⟨fa,O,s,d,s',a,b,c⟩:=h
 exact k fa O s d s' a b c
theorem liftF.elim {f:DA} {Q:VK} (h:liftF K g f σ H Q) (k:∀ fa O s d s',GI K g σ H fa O s → f s = some (d,s') → (∀ p xs H' fa' O',StE fa O H fa' O' H' → NewL K g σ H' fa' O' s' p xs d → H p = none → Q (.ref p) H') → G):G:=by
 obtain ⟨fa,O,s,d,s',a,b,c⟩:=h
 exact k fa O s d s' a b c
theorem liftT.elim {f:DT} {Q:Bool → Hp → Prop} (h:liftT K g f σ H Q) (k:∀ fa O s d s',GI K g σ H fa O s → f s = some (d,s') → (∀ H' fa' O',StE fa O H fa' O' H' → GI K g σ H' fa' O' s' → Q d H') → G):G:=by
 obtain ⟨fa,O,s,d,s',a,b,c⟩:=h
 exact k fa O s d s' a b c
theorem liftA.elim {f:DA} {Q:List V → Hp → Prop} (h:liftA K g f σ H Q) (k:∀ fa O s d s',GI K g σ H fa O s → f s = some (d,s') → (∀ vs H' fa' O',StE fa O H fa' O' H' → GI K g σ H' fa' O' s' → Reps K (NN g.F fa' O') fa' H' d vs → Q vs H') → G):G:=by
 obtain ⟨fa,O,s,d,s',a,b,c⟩:=h
 exact k fa O s d s' a b c
theorem liftBA.elim {f:DA} {Q:List V → Hp → Prop} (h:liftBA K g f σ H Q) (k:∀ fa O s d s',GI K g σ H fa O s → f s = some (d,s') → (∀ vs H' fa' O',StE fa O H fa' O' H' → GI K g σ H' fa' O' s' → O9 K (NN g.F fa' O') fa' H' d vs → Q vs H') → G):G:=by
 obtain ⟨fa,O,s,d,s',a,b,c⟩:=h
 exact k fa O s d s' a b c
theorem liftS.elim {f:DM} {E:Ends} (h:liftS K g f E σ H) (k:∀ fa O s d s',GI K g σ H fa O s → f s = some (d,s') → (FlK K g E fa O H d s') → G):G:=by
 obtain ⟨fa,O,s,d,s',a,b,c⟩:=h
 exact k fa O s d s' a b c
end
structure EO (X:Cx) (g:Gh) (e:Expr) (f:DE):Prop where
 pe:PE X e (liftE X.K g f)
structure BO (X:Cx) (g:Gh) (e:Expr) (f:DE):Prop where
 pe:PE X e (liftB X.K g f)
structure FO (X:Cx) (g:Gh) (e:Expr) (f:DA):Prop where
 pe:PE X e (liftF X.K g f)
structure TO (X:Cx) (g:Gh) (e:Expr) (f:DT):Prop where
 pe:PT X e (liftT X.K g f)
structure WO (X:Cx) (g:Gh) (e:Expr) (f:DT):Prop where
 pe:PW X e (liftT X.K g f)
structure AO (X:Cx) (g:Gh) (es:List Expr) (f:DA):Prop where
 pe:PA X es (liftA X.K g f)
structure BAO (X:Cx) (g:Gh) (es:List Expr) (f:DA):Prop where
 pe:PA X es (liftBA X.K g f)
structure SO (X:Cx) (g:Gh) (st:Stmt) (f:DM):Prop where
 pe:PS X st (liftS X.K g f)
structure SSO (X:Cx) (g:Gh) (st:List Stmt) (f:DM):Prop where
 pe:PSs X st (liftS X.K g f)
section
variable {X:Cx} {g:Gh} {e:Expr} {f:DE}
theorem PEw {t t':TE} (h:PE X e t) (w:∀ σ H Q,t' σ H Q → t σ H Q):PE X e t':=fun pins s σ H Q I q=>h pins s σ H Q I (w σ H Q q)
theorem PTw {t t':TT} (h:PT X e t) (w:∀ σ H Q,t' σ H Q → t σ H Q):PT X e t':=fun pins s σ H Q I q=>h pins s σ H Q I (w σ H Q q)
theorem PWw {t t':TT} (h:PW X e t) (w:∀ σ H Q,t' σ H Q → t σ H Q):PW X e t':=fun wh pins s σ H Q I q=>h wh pins s σ H Q I (w σ H Q q)
theorem PAw {es:List Expr} {t t':TA} (h:PA X es t) (w:∀ σ H Q,t' σ H Q → t σ H Q):PA X es t':=fun pos pins s σ H Q I q=>h pos pins s σ H Q I (w σ H Q q)
theorem PSw {st:Stmt} {t t':TS} (h:PS X st t) (w:∀ E σ H,t' E σ H → t E σ H):PS X st t':=fun pins s σ H E I q=>h pins s σ H E I (w E σ H q)
theorem b5z {st:List Stmt} {t t':TS} (h:PSs X st t) (w:∀ E σ H,t' E σ H → t E σ H):PSs X st t':=fun pins s σ H E I q=>h pins s σ H E I (w E σ H q)
theorem EO.w {f:DE} {t:TE} (h:PE X e t) (w:∀ σ H Q,liftE X.K g f σ H Q → t σ H Q):EO X g e f:=⟨PEw h w⟩
theorem BO.w {f:DE} {t:TE} (h:PE X e t) (w:∀ σ H Q,liftB X.K g f σ H Q → t σ H Q):BO X g e f:=⟨PEw h w⟩
theorem FO.w {f:DA} {t:TE} (h:PE X e t) (w:∀ σ H Q,liftF X.K g f σ H Q → t σ H Q):FO X g e f:=⟨PEw h w⟩
theorem TO.w {f:DT} {t:TT} (h:PT X e t) (w:∀ σ H Q,liftT X.K g f σ H Q → t σ H Q):TO X g e f:=⟨PTw h w⟩
theorem WO.w {f:DT} {t:TT} (h:PW X e t) (w:∀ σ H Q,liftT X.K g f σ H Q → t σ H Q):WO X g e f:=⟨PWw h w⟩
theorem AO.w {es:List Expr} {f:DA} {t:TA} (h:PA X es t) (w:∀ σ H Q,liftA X.K g f σ H Q → t σ H Q):AO X g es f:=⟨PAw h w⟩
theorem BAO.w {es:List Expr} {f:DA} {t:TA} (h:PA X es t) (w:∀ σ H Q,liftBA X.K g f σ H Q → t σ H Q):BAO X g es f:=⟨PAw h w⟩
theorem SO.w {st:Stmt} {f:DM} {t:TS} (h:PS X st t) (w:∀ E σ H,liftS X.K g f E σ H → t E σ H):SO X g st f:=⟨PSw h w⟩
theorem SSO.w {st:List Stmt} {f:DM} {t:TS} (h:PSs X st t) (w:∀ E σ H,liftS X.K g f E σ H → t E σ H):SSO X g st f:=⟨b5z h w⟩
theorem EO.b (h:EO X g e f):BO X g e f:=BO.w h.pe fun σ H Q ⟨fa,O,s,d,s',I,e,k⟩=>⟨fa,O,s,d,s',I,e,fun v H' fa' O' a I' r=>k v H' fa' O' a I' (r.b fun _ z=>.inr (.inr z))⟩
noncomputable def r8 (f:DA):DE:=fun s=>(f s).map fun p=>(.lst p.1,p.2)
theorem a13 {K:PySem.W.Frag} {σ:L2.St} {H H':Hp} {fa fa':Option Addr} {O O':List Addr} {s s':DS} {p:Addr} (I:GI K g σ H fa O s) (a:StE fa O H fa' O' H') (I':GI K g σ H' fa' O' s') (e:H p = none) (e':fa' ≠ some p):¬ NN g.F fa' O' p:=by
 rintro (z | z | z)
 ·exact I.trF z e
 ·obtain ⟨ys,q⟩:=I.owned (a.sub p z)
  rw [e] at q; cases q
 ·exact e' z
theorem FO.v {f:DA} (h:FO X g e f):EO X g e (r8 f):=EO.w h.pe fun σ H Q hQ=>by
 refine hQ.elim fun fa O s d s' I e k=>?_
 simp only [r8] at e
 cases q:f s with
 | none=>rw [q] at e; cases e
 | some p=>
  obtain ⟨ds,s1⟩:=p
  rw [q] at e
  simp only [Option.map_some,Option.some.injEq,Prod.mk.injEq] at e
  obtain ⟨e1,e2⟩:=e
  subst e1; subst e2
  refine ⟨fa,O,s,ds,s1,I,q,fun p xs H' fa' O' a L e1=>k _ H' fa' O' a L.gi ?_⟩
  simp only [Rep]
  exact ⟨p,xs,rfl,a13 I a L.gi e1 L.nf,L.ls,Reps.go ⟨fun b ys n q=>⟨q,fun z=>n (.inl z)⟩,fun _ _ q=>q,fun _ _ q=>q,fun _ q=>q⟩ ds xs L.rs⟩
end
theorem a1f {g:Gh} {K:PySem.W.Frag} {σ:L2.St} {H:Hp} {fa:Option Addr} {O:List Addr} {s:DS} {p:Addr} {o:HO} (I:GI K g σ H fa O s) (hp:H p = none):Car K (NN g.F fa O) fa H (fun b=>NN g.F fa O b ∨ b = p) fa (upd H p o):=by
 have c:=I.car (C1 (fa:=fa) (O:=O) (o:=o) hp).stp
 refine ⟨fun b xs n q=>?_,c.tp,c.fz,c.fe⟩
 obtain ⟨q',n'⟩:=c.ls b xs n q
 refine ⟨q',?_⟩
 rintro (z | z)
 ·exact n' z
 ·subst z
  rw [hp] at q; cases q
theorem R6 {g:Gh} {K:PySem.W.Frag} {σ:L2.St} {H:Hp} {fa:Option Addr} {O:List Addr} {s:DS} {p:Addr} {ds:List D} {xs:List V} (I:GI K g σ H fa O s) (hp:H p = none) (r:Reps K (NN g.F fa O) fa H ds xs):NewL K g σ (upd H p (.lst xs)) fa O s p xs ds:=
 ⟨I.new hp,B7,SlR.go (a1f I hp) (fun b ys _ e=>by rw [o8 (M3 e hp)]; exact e) I.sl,I.fd.car (a1f I hp) (I.fd.same_new hp),Reps.go (a1f I hp) ds xs r,fun z=>I.fd.tracked z hp⟩
noncomputable def dC (d:D):DE:=fun s=>some (d,s)
noncomputable def dV (i:Nat):DE:=fun s=>match s.sl[i]? with
 | some (.val d)=>some (d,s)
 | some (.own ds)=>some (.lst ds,{ s with sl:=s.sl.set i (.val (.lst ds)) })
 | _=>none
noncomputable def dL (i:Nat):DE:=fun s=>match s.sl[i]? with
 | some (.val d)=>some (d,s)
 | some (.own ds)=>some (.lst ds,s)
 | _=>none
section
variable {X:Cx} {g:Gh}
theorem a9 {i:Nat} {x:Str} {pos:Pos} (h:PE X (.Name x pos) (G6 i)):BO X g (.Name x pos) (dL i):=BO.w h fun σ H Q hQ=>by
 refine hQ.elim fun fa O s d s' I e k=>?_
 simp only [dL] at e
 cases q:s.sl[i]? with
 | none=>rw [q] at e; cases e
 | some z=>
  rw [q] at e
  cases z with
  | no=>cases e
  | val d'=>
   cases e
   obtain ⟨u,e1,r⟩:=SlR.val I.sl q
   exact ⟨u,e1,k u H fa O StE.refl I (r.b fun _ z=>.inr (.inr z))⟩
  | own ds=>
   cases e
   obtain ⟨a,xs,e1,m,e2,r⟩:=SlR.own I.sl q
   exact ⟨_,e1,k _ H fa O StE.refl I ⟨a,xs,rfl,fun z=>I.nf a z m,e2,r⟩⟩
theorem c8 {i:Nat} {x:Str} {pos:Pos} (h:PE X (.Name x pos) (G6 i)):EO X g (.Name x pos) (dV i):=EO.w h fun σ H Q hQ=>by
 refine hQ.elim fun fa O s d s' I e k=>?_
 simp only [dV] at e
 cases q:s.sl[i]? with
 | none=>rw [q] at e; cases e
 | some z=>
  rw [q] at e
  cases z with
  | no=>cases e
  | val d'=>
   cases e
   obtain ⟨u,e1,r⟩:=SlR.val I.sl q
   exact ⟨u,e1,k u H fa O StE.refl I r⟩
  | own ds=>
   cases e
   obtain ⟨a,xs,e1,m,e2,r⟩:=SlR.own I.sl q
   have i':i < s.sl.length:=(List.getElem?_eq_some_iff.mp q).1
   let N1:Addr → Prop:=fun b=>NN g.F fa O b ∧ b ≠ a
   have c1:Car X.K (NN g.F fa O) fa H N1 fa H:=⟨fun b ys n z=>⟨z,fun y=>n y.1⟩,fun _ _ z=>z,fun _ _ z=>z,fun _ z=>z⟩
   have S1:=SlR.go c1 (fun _ _ _ z=>z) I.sl
   have R1:Rep X.K N1 fa H (.lst ds) (.ref a):=by
    simp only [Rep]
    exact ⟨a,xs,rfl,fun z=>z.2 rfl,e2,Reps.go c1 ds xs r⟩
   obtain ⟨P,hs,S2,hn⟩:=SlR.put i S1 R1
   have na:a ∉ P:=hn I.nd a (by rw [q]; rfl) ⟨ds,q⟩ e1
   have eσ:σ.set i (some (V.ref a)) = σ:=by
    apply List.ext_getElem?
    intro j
    by_cases hj:j = i
    ·subst hj
     rw [e1,List.getElem?_set_self (List.getElem?_eq_some_iff.mp e1).1]
    ·rw [List.getElem?_set_ne (Ne.symm hj)]
   rw [eσ] at S2
   have sub:∀ b ∈ P,b ∈ O:=fun b hb=>hs.subset hb
   have a1:StE fa O H fa P H:=⟨sub,.inl rfl,fun _ _ z _=>z,fun _ z=>z⟩
   have c2:Car X.K N1 fa H (NN g.F fa P) fa H:=⟨fun b ys n z=>⟨z,fun y=>n ⟨by
     rcases y with y | y | y
     ·exact .inl y
     ·exact .inr (.inl (sub b y))
     ·exact .inr (.inr y),fun w=>by
     subst w
     rcases y with y | y | y
     ·exact I.tr b y (I.fr b m)
     ·exact na y
     ·exact I.nf b y m⟩⟩,fun _ _ z=>z,fun _ _ z=>z,fun _ z=>z⟩
   refine ⟨_,e1,k _ H fa P a1 ⟨hs.nodup I.nd,SlR.go c2 (fun _ _ _ z=>z) S2,fun b hb=>I.fr b (sub b hb),I.st,I.tr,I.ff,(I.fd.car c1 fun _ _=>rfl).car c2 fun _ _=>rfl,fun b z y=>I.nf b z (sub b y)⟩ (Rep.go c2 _ _ R1)⟩
theorem a2G {e:Expr} {v:V} {d:D} (h:PE X e (tC v)) (r:∀ K N fa H,Rep K N fa H d v):EO X g e (dC d):=EO.w h fun σ H Q hQ=>by
 refine hQ.elim fun fa O s d' s' I q k=>?_
 simp only [dC,Option.some.injEq,Prod.mk.injEq] at q
 obtain ⟨q1,q2⟩:=q
 subst q1; subst q2
 exact k v H fa O StE.refl I (r _ _ _ _)
theorem b0 {i j pos}:EO X g (.Constant (.int i) j pos) (dC (.int i)):=a2G a0Y fun _ _ _ _=>by simp only [Rep]
theorem S6 {i j pos}:EO X g (.Constant (.bool i) j pos) (dC (.bl i)):=a2G a7T fun _ _ _ _=>by simp only [Rep]
theorem a0j {j pos}:EO X g (.Constant .none j pos) (dC .non):=a2G b4i fun _ _ _ _=>by simp only [Rep]
end
noncomputable def R2D (K:PySem.W.Frag) (r:R2) (p:D → D → Option D):Prop:=
 ∀ (g:Gh) (σ:L2.St) (H:Hp) (fa:Option Addr) (O:List Addr) (s:DS) (x y:V) (d1 d2 d:D) (Q:VK),GI K g σ H fa O s → RepB K (NN g.F fa O) fa H d1 x → RepB K (NN g.F fa O) fa H d2 y → p d1 d2 = some d →
  (∀ v H',StE fa O H fa O H' → GI K g σ H' fa O s → Rep K (NN g.F fa O) fa H' d v → Q v H') → r x y H Q
noncomputable def R1D (K:PySem.W.Frag) (r:V → Hp → VK → Prop) (p:D → Option D):Prop:=
 ∀ (g:Gh) (σ:L2.St) (H:Hp) (fa:Option Addr) (O:List Addr) (s:DS) (x:V) (d1 d:D) (Q:VK),GI K g σ H fa O s → RepB K (NN g.F fa O) fa H d1 x → p d1 = some d →
  (∀ v H',StE fa O H fa O H' → GI K g σ H' fa O s → Rep K (NN g.F fa O) fa H' d v → Q v H') → r x H Q
noncomputable def R2F (K:PySem.W.Frag) (r:R2) (p:D → D → Option (List D)):Prop:=
 ∀ (g:Gh) (σ:L2.St) (H:Hp) (fa:Option Addr) (O:List Addr) (s:DS) (x y:V) (d1 d2:D) (ds:List D) (Q:VK),GI K g σ H fa O s → RepB K (NN g.F fa O) fa H d1 x → RepB K (NN g.F fa O) fa H d2 y → p d1 d2 = some ds →
  (∀ q xs H',StE fa O H fa O H' → NewL K g σ H' fa O s q xs ds → H q = none → Q (.ref q) H') → r x y H Q
noncomputable def RCD (K:PySem.W.Frag) (r:List V → Hp → VK → Prop) (p:List D → Option D):Prop:=
 ∀ (g:Gh) (σ:L2.St) (H:Hp) (fa:Option Addr) (O:List Addr) (s:DS) (xs:List V) (ds:List D) (d:D) (Q:VK),GI K g σ H fa O s → O9 K (NN g.F fa O) fa H ds xs → p ds = some d →
  (∀ v H',StE fa O H fa O H' → GI K g σ H' fa O s → Rep K (NN g.F fa O) fa H' d v → Q v H') → r xs H Q
noncomputable def RCF (K:PySem.W.Frag) (r:List V → Hp → VK → Prop) (p:List D → Option (List D)):Prop:=
 ∀ (g:Gh) (σ:L2.St) (H:Hp) (fa:Option Addr) (O:List Addr) (s:DS) (xs:List V) (ds es:List D) (Q:VK),GI K g σ H fa O s → O9 K (NN g.F fa O) fa H ds xs → p ds = some es →
  (∀ q ys H',StE fa O H fa O H' → NewL K g σ H' fa O s q ys es → H q = none → Q (.ref q) H') → r xs H Q
noncomputable def dOp (p:D → D → Option D) (a b:DE):DE:=fun s=>(a s).bind fun x=>(b x.2).bind fun y=>(p x.1 y.1).map fun d=>(d,y.2)
noncomputable def Y8 (p:D → D → Option (List D)) (a b:DE):DA:=fun s=>(a s).bind fun x=>(b x.2).bind fun y=>(p x.1 y.1).map fun d=>(d,y.2)
noncomputable def dUn (p:D → Option D) (a:DE):DE:=fun s=>(a s).bind fun x=>(p x.1).map fun d=>(d,x.2)
theorem a7b {α:Type} {p:D → D → Option α} {a b:DE} {s s':DS} {d:α} (h:((a s).bind fun x=>(b x.2).bind fun y=>(p x.1 y.1).map fun d=>(d,y.2)) = some (d,s')):∃ x s1 y,a s = some (x,s1) ∧ b s1 = some (y,s') ∧ p x y = some d:=by
 refine v6 h fun x s1 h1 h=>?_
 refine v6 h fun y s2 h2 h=>?_
 refine N7 h fun d' h3 h=>?_
 simp only [Prod.mk.injEq] at h
 obtain ⟨e1,e2⟩:=h
 subst e1; subst e2
 exact ⟨x,s1,y,h1,h2,h3⟩
section
variable {X:Cx} {g:Gh} {a b:Expr} {fa fb:DE} {pos:Pos} {r:R2} {p:D → D → Option D}
theorem a11 {r:R2} {p:D → D → Option D} (hr:R2D X.K r p) (σ:L2.St) (H:Hp) (Q:VK) (h:liftE X.K g (dOp p fa fb) σ H Q):tOp r (liftB X.K g fa) (liftB X.K g fb) σ H Q:=by
 obtain ⟨f0,O,s,d,s',I,e,k⟩:=h
 obtain ⟨x,s1,y,h1,h2,h3⟩:=a7b e
 refine ⟨f0,O,s,x,s1,I,h1,fun v H1 f1 O1 a1 I1 r1=>⟨f1,O1,s1,y,s',I1,h2,fun u H2 f2 O2 a2 I2 r2=>?_⟩⟩
 exact hr g σ H2 f2 O2 s' v u x y d Q I2 (RepB.stp I1 a2 r1) r2 h3 fun z H3 a3 I3 r3=>k z H3 f2 O2 (a1.trans (a2.trans a3)) I3 r3
theorem b6e {r:R2} {p:D → D → Option (List D)} (hr:R2F X.K r p) (σ:L2.St) (H:Hp) (Q:VK) (h:liftF X.K g (Y8 p fa fb) σ H Q):tOp r (liftB X.K g fa) (liftB X.K g fb) σ H Q:=by
 obtain ⟨f0,O,s,d,s',I,e,k⟩:=h
 obtain ⟨x,s1,y,h1,h2,h3⟩:=a7b e
 refine ⟨f0,O,s,x,s1,I,h1,fun v H1 f1 O1 a1 I1 r1=>⟨f1,O1,s1,y,s',I1,h2,fun u H2 f2 O2 a2 I2 r2=>?_⟩⟩
 exact hr g σ H2 f2 O2 s' v u x y d Q I2 (RepB.stp I1 a2 r1) r2 h3 fun q xs H3 a3 L e1=>k q xs H3 f2 O2 (a1.trans (a2.trans a3)) L (a1.mon _ (a2.mon _ e1))
theorem i9 {op:Operator} (ho:OpR X (binaryOp op) r) (hr:R2D X.K r p) (ha:BO X g a fa) (hb:BO X g b fb):EO X g (.BinOp a op b pos) (dOp p fa fb):=EO.w (a51 ho ha.pe hb.pe) (a11 hr)
theorem a88 {op:Operator} {p:D → D → Option (List D)} (ho:OpR X (binaryOp op) r) (hr:R2F X.K r p) (ha:BO X g a fa) (hb:BO X g b fb):FO X g (.BinOp a op b pos) (Y8 p fa fb):=FO.w (a51 ho ha.pe hb.pe) (b6e hr)
theorem P5 {op:CmpOp} (ho:OpR X (compareOp op) r) (hr:R2D X.K r p) (ha:BO X g a fa) (hb:BO X g b fb) (hm:behindInMarks op b = false):EO X g (.Compare a [op] [b] pos) (dOp p fa fb):=EO.w (b6r ho ha.pe hb.pe hm) (a11 hr)
theorem i7 {r:R2} (ho:IxR X r) (hr:R2D X.K r p) (ha:BO X g a fa) (hb:BO X g b fb) (hs:a8I b):EO X g (.Subscript a b pos) (dOp p fa fb):=EO.w (b2v ho ha.pe hb.pe hs) (a11 hr)
theorem K7 {op:UnaryOp} {r:V → Hp → VK → Prop} {p:D → Option D} (ho:UnR X (unaryOp op) r) (hr:R1D X.K r p) (ha:BO X g a fa):EO X g (.UnaryOp op a pos) (dUn p fa):=EO.w (b2b ho ha.pe) fun σ H Q hQ=>by
 refine hQ.elim fun f0 O s d s' I e k=>?_
 refine v6 e fun x s1 h1 h=>?_
 refine N7 h fun d' h3 h=>?_
 simp only [Prod.mk.injEq] at h
 obtain ⟨e1,e2⟩:=h
 subst e1; subst e2
 exact ⟨f0,O,s,x,s1,I,h1,fun v H1 f1 O1 a1 I1 r1=>hr g σ H1 f1 O1 s1 v x d' Q I1 r1 h3 fun z H3 a3 I3 r3=>k z H3 f1 O1 (a1.trans a3) I3 r3⟩
noncomputable def dB (f:DE):DT:=fun s=>(f s).bind fun x=>match x.1 with | .bl b=>some (b,x.2) | _=>none
theorem a4u {f:DE} {s s':DS} {b:Bool} (h:dB f s = some (b,s')):f s = some (.bl b,s'):=by
 refine v6 h fun x s1 h1 h=>?_
 cases x with
 | bl c=>simp only [Option.some.injEq,Prod.mk.injEq] at h; rw [h1,h.1,h.2]
 | _=>cases h
theorem v7 {op:CmpOp} (ho:OpR X (compareOp op) r) (hr:R2D X.K r p) (ha:BO X g a fa) (hb:BO X g b fb) (hm:behindInMarks op b = false):TO X g (.Compare a [op] [b] pos) (dB (dOp p fa fb)):=
 TO.w (b5N ho ha.pe hb.pe hm) fun σ H Q ⟨f0,O,s,d,s',I,e,k⟩=>a11 hr σ H _ ⟨f0,O,s,.bl d,s',I,a4u e,fun v H' f1 O1 a I1 r=>by
  simp only [Rep] at r
  exact ⟨d,r,k H' f1 O1 a I1⟩⟩
noncomputable def B4:D → Option Bool
 | .non=>some false
 | .bl b=>some b
 | .int i=>some (i != 0)
 | .str x=>some ((x.length:Int) != 0)
 | .tup ds=>some (!ds.isEmpty)
 | .lst ds=>some (!ds.isEmpty)
 | _=>none
noncomputable def dTr (f:DE):DT:=fun s=>(f s).bind fun x=>(B4 x.1).map fun b=>(b,x.2)
theorem a2e {α β:Type} {xs:List α} {ys:List β} (h:xs.length = ys.length):xs.isEmpty = ys.isEmpty:=by cases xs <;> cases ys <;> simp_all
theorem a1d {e:Expr} {f:DE} (h:BO X g e f) (he:∀ whole,isTrue e X.env whole = (do let v ← whole; standAt e.pos; holding [v] (truthy v)):=by intro _; rfl):TO X g e (dTr f):=
 TO.w (b2S h.pe he) fun σ H Q hQ=>by
  refine hQ.elim fun f0 O s d s' I e k=>?_
  obtain ⟨⟨x,s1⟩,h1,h.pe⟩:=Option.bind_eq_some_iff.mp e
  obtain ⟨d',h3,h.pe⟩:=Option.map_eq_some_iff.mp h.pe
  simp only [Prod.mk.injEq] at h.pe
  obtain ⟨e1,e2⟩:=h.pe
  subst e1; subst e2
  refine ⟨f0,O,s,x,s1,I,h1,fun v H' f1 O1 a I1 r=>⟨d',?_,k H' f1 O1 a I1⟩⟩
  cases x with
  | non=>simp only [RepB,Rep] at r; subst r; cases h3; rfl
  | bl b=>simp only [RepB,Rep] at r; subst r; cases h3; rfl
  | int i=>simp only [RepB,Rep] at r; subst r; cases h3; rfl
  | str x=>simp only [RepB,Rep] at r; obtain ⟨r,l⟩:=r; subst r; cases h3; exact ⟨l,rfl⟩
  | tup ds=>
   simp only [RepB,Rep] at r
   obtain ⟨c,xs,r,q,w⟩:=r
   subst r; cases h3
   exact .inr (.inl ⟨xs,q,by rw [a2e w.length]⟩)
  | lst ds=>
   obtain ⟨c,xs,r,_,q,w⟩:=r
   subst r; cases h3
   exact .inl ⟨xs,SqL.of q,by rw [a2e w.length]⟩
  | feed=>cases h3
  | scr _=>cases h3
  | fn _=>cases h3
noncomputable def v4 (a b:DT):DT:=fun s=>(a s).bind fun x=>if x.1 = true then b x.2 else some (false,x.2)
noncomputable def dOr (a b:DT):DT:=fun s=>(a s).bind fun x=>if x.1 = true then some (true,x.2) else b x.2
noncomputable def C4 (a:DT):DT:=fun s=>(a s).map fun x=>(!x.1,x.2)
noncomputable def B8 (a b:DE):DE:=fun s=>(dB a s).bind fun x=>if x.1 = true then b x.2 else some (.bl false,x.2)
noncomputable def B5 (a b:DE):DE:=fun s=>(dB a s).bind fun x=>if x.1 = true then some (.bl true,x.2) else b x.2
noncomputable def C3 (a:DE):DE:=fun s=>(dB a s).map fun x=>(.bl (!x.1),x.2)
variable {ta tb:DT} {rest:List Expr}
theorem a0S (h:TO X g a ta):WO X g (.BoolOp .And [a] pos) ta:=⟨b2w h.pe⟩
theorem a0V (h:TO X g a ta):WO X g (.BoolOp .Or [a] pos) ta:=⟨b4X h.pe⟩
theorem a01 (ha:TO X g a ta) (hb:WO X g (.BoolOp .And (b :: rest) pos) tb):WO X g (.BoolOp .And (a :: b :: rest) pos) (v4 ta tb):=WO.w (b6b ha.pe hb.pe) fun σ H Q hQ=>by
 refine hQ.elim fun f0 O s d s' I e k=>?_
 refine v6 e fun x s1 h1 h=>?_
 refine ⟨f0,O,s,x,s1,I,h1,fun H1 f1 O1 a1 I1=>?_⟩
 cases x with
 | true=>rw [if_pos rfl] at h ⊢; exact ⟨f1,O1,s1,d,s',I1,h,fun H2 f2 O2 a2 I2=>k H2 f2 O2 (a1.trans a2) I2⟩
 | false=>
  rw [if_neg Bool.false_ne_true] at h ⊢
  simp only [Option.some.injEq,Prod.mk.injEq] at h
  obtain ⟨e1,e2⟩:=h
  subst e1; subst e2
  exact k H1 f1 O1 a1 I1
theorem a0o (ha:TO X g a ta) (hb:WO X g (.BoolOp .Or (b :: rest) pos) tb):WO X g (.BoolOp .Or (a :: b :: rest) pos) (dOr ta tb):=WO.w (b3N ha.pe hb.pe) fun σ H Q hQ=>by
 refine hQ.elim fun f0 O s d s' I e k=>?_
 refine v6 e fun x s1 h1 h=>?_
 refine ⟨f0,O,s,x,s1,I,h1,fun H1 f1 O1 a1 I1=>?_⟩
 cases x with
 | false=>rw [if_neg Bool.false_ne_true] at h ⊢; exact ⟨f1,O1,s1,d,s',I1,h,fun H2 f2 O2 a2 I2=>k H2 f2 O2 (a1.trans a2) I2⟩
 | true=>
  rw [if_pos rfl] at h ⊢
  simp only [Option.some.injEq,Prod.mk.injEq] at h
  obtain ⟨e1,e2⟩:=h
  subst e1; subst e2
  exact k H1 f1 O1 a1 I1
theorem WO.t {e:Expr} {f:DT} (h:WO X g e f):TO X g e f:=⟨h.pe.pt⟩
theorem a3E {op} {f:DE} (h:EO X g a f):EO X g (.BoolOp op [a] pos) f:=⟨b3i h.pe⟩
theorem b53 (ha:EO X g a fa) (hb:EO X g (.BoolOp .And (b :: rest) pos) fb):EO X g (.BoolOp .And (a :: b :: rest) pos) (B8 fa fb):=EO.w (b0t ha.pe hb.pe) fun σ H Q hQ=>by
 refine hQ.elim fun f0 O s d s' I e k=>?_
 refine v6 e fun x s1 h1 h=>?_
 refine ⟨f0,O,s,_,s1,I,a4u h1,fun v H1 f1 O1 a1 I1 r=>⟨x,by simpa only [Rep] using r,?_⟩⟩
 cases x with
 | true=>rw [if_pos rfl] at h ⊢; exact ⟨f1,O1,s1,d,s',I1,h,fun v H2 f2 O2 a2 I2=>k v H2 f2 O2 (a1.trans a2) I2⟩
 | false=>
  rw [if_neg Bool.false_ne_true] at h ⊢
  simp only [Option.some.injEq,Prod.mk.injEq] at h
  obtain ⟨e1,e2⟩:=h
  subst e1; subst e2
  exact k _ H1 f1 O1 a1 I1 (by simp only [Rep])
theorem b4h (ha:EO X g a fa) (hb:EO X g (.BoolOp .Or (b :: rest) pos) fb):EO X g (.BoolOp .Or (a :: b :: rest) pos) (B5 fa fb):=EO.w (b1L ha.pe hb.pe) fun σ H Q hQ=>by
 refine hQ.elim fun f0 O s d s' I e k=>?_
 refine v6 e fun x s1 h1 h=>?_
 refine ⟨f0,O,s,_,s1,I,a4u h1,fun v H1 f1 O1 a1 I1 r=>⟨x,by simpa only [Rep] using r,?_⟩⟩
 cases x with
 | false=>rw [if_neg Bool.false_ne_true] at h ⊢; exact ⟨f1,O1,s1,d,s',I1,h,fun v H2 f2 O2 a2 I2=>k v H2 f2 O2 (a1.trans a2) I2⟩
 | true=>
  rw [if_pos rfl] at h ⊢
  simp only [Option.some.injEq,Prod.mk.injEq] at h
  obtain ⟨e1,e2⟩:=h
  subst e1; subst e2
  exact k _ H1 f1 O1 a1 I1 (by simp only [Rep])
noncomputable def dIf (c:DT) (a b:DE):DE:=fun s=>(c s).bind fun x=>if x.1 = true then a x.2 else b x.2
theorem a0y {c:Expr} {fc:DT} (hc:TO X g c fc) (ha:EO X g a fa) (hb:EO X g b fb):EO X g (.IfExp c a b pos) (dIf fc fa fb):=EO.w (b1O hc.pe ha.pe hb.pe) fun σ H Q hQ=>by
 refine hQ.elim fun f0 O s d s' I e k=>?_
 refine v6 e fun x s1 h1 h=>?_
 refine ⟨f0,O,s,x,s1,I,h1,fun H1 f1 O1 a1 I1=>?_⟩
 cases x with
 | false=>rw [if_neg Bool.false_ne_true] at h ⊢; exact ⟨f1,O1,s1,d,s',I1,h,fun v H2 f2 O2 a2 I2=>k v H2 f2 O2 (a1.trans a2) I2⟩
 | true=>rw [if_pos rfl] at h ⊢; exact ⟨f1,O1,s1,d,s',I1,h,fun v H2 f2 O2 a2 I2=>k v H2 f2 O2 (a1.trans a2) I2⟩
noncomputable def a8:DA:=fun s=>some ([],s)
noncomputable def a6 (a:DE) (r:DA):DA:=fun s=>(a s).bind fun x=>(r x.2).map fun y=>(x.1 :: y.1,y.2)
theorem a0W {a:DE} {r:DA} {s s':DS} {ds:List D} (h:a6 a r s = some (ds,s')):∃ d s1 es,a s = some (d,s1) ∧ r s1 = some (es,s') ∧ ds = d :: es:=by
 refine v6 h fun x s1 h1 h=>?_
 refine mapP h fun y s2 h2 h=>?_
 simp only [Prod.mk.injEq] at h
 exact ⟨x,s1,y,h1,by rw [h2,h.2],h.1.symm⟩
variable {es:List Expr} {fr:DA}
theorem i0:AO X g [] a8:=AO.w a02 fun σ H Q hQ=>by
 refine hQ.elim fun f0 O s d s' I e k=>?_
 simp only [a8,Option.some.injEq,Prod.mk.injEq] at e
 obtain ⟨e1,e2⟩:=e
 subst e1; subst e2
 exact k [] H f0 O StE.refl I (by simp only [Reps])
theorem a2C (ha:EO X g a fa) (hr:AO X g es fr) (hs:starEach (a :: es) X.env = (false,eval a X.env) :: starEach es X.env:=by rfl):AO X g (a :: es) (a6 fa fr):=AO.w (Y6 ha.pe hr.pe hs) fun σ H Q hQ=>by
 refine hQ.elim fun f0 O s ds s' I e k=>?_
 obtain ⟨d,s1,es,h1,h2,h3⟩:=a0W e
 subst h3
 refine ⟨f0,O,s,d,s1,I,h1,fun v H1 f1 O1 a1 I1 r1=>⟨f1,O1,s1,es,s',I1,h2,fun vs H2 f2 O2 a2 I2 r2=>?_⟩⟩
 refine k (v :: vs) H2 f2 O2 (a1.trans a2) I2 ?_
 simp only [Reps]
 exact ⟨v,vs,rfl,Rep.stp I1 a2.stp r1,r2⟩
theorem A5:BAO X g [] a8:=BAO.w a02 fun σ H Q hQ=>by
 refine hQ.elim fun f0 O s d s' I e k=>?_
 simp only [a8,Option.some.injEq,Prod.mk.injEq] at e
 obtain ⟨e1,e2⟩:=e
 subst e1; subst e2
 exact k [] H f0 O StE.refl I (by simp only [O9])
theorem b12 (ha:BO X g a fa) (hr:BAO X g es fr) (hs:starEach (a :: es) X.env = (false,eval a X.env) :: starEach es X.env:=by rfl):BAO X g (a :: es) (a6 fa fr):=BAO.w (Y6 ha.pe hr.pe hs) fun σ H Q hQ=>by
 refine hQ.elim fun f0 O s ds s' I e k=>?_
 obtain ⟨d,s1,es,h1,h2,h3⟩:=a0W e
 subst h3
 refine ⟨f0,O,s,d,s1,I,h1,fun v H1 f1 O1 a1 I1 r1=>⟨f1,O1,s1,es,s',I1,h2,fun vs H2 f2 O2 a2 I2 r2=>?_⟩⟩
 exact k (v :: vs) H2 f2 O2 (a1.trans a2) I2 ⟨v,vs,rfl,RepB.stp I1 a2 r1,r2⟩
noncomputable def n9 (f:DA):DE:=fun s=>(f s).bind fun x=>if x.1.length ≤ sizeLine then some (.tup x.1,x.2) else none
noncomputable def t7 (f:DA):DA:=fun s=>(f s).bind fun x=>if x.1.length ≤ sizeLine then some (x.1,x.2) else none
theorem C9 {x1} (h:AO X g es fr):EO X g (.Tuple es x1 pos) (n9 fr):=EO.w (b4W h.pe) fun σ H Q hQ=>by
 refine hQ.elim fun f0 O s d s' I e k=>?_
 obtain ⟨⟨ds,s1⟩,h1,h.pe⟩:=Option.bind_eq_some_iff.mp e
 by_cases hl:ds.length ≤ sizeLine
 ·rw [if_pos hl] at h.pe
  simp only [Option.some.injEq,Prod.mk.injEq] at h.pe
  obtain ⟨e1,e2⟩:=h.pe
  subst e1; subst e2
  refine ⟨f0,O,s,ds,s1,I,h1,fun vs H1 f1 O1 a1 I1 r1=>⟨by rw [r1.length]; exact hl,fun p hp=>?_⟩⟩
  have a2:StE f1 O1 H1 f1 O1 (upd H1 p (.tup vs)):=C1 hp
  refine k _ _ f1 O1 (a1.trans a2) (I1.new hp) ?_
  simp only [Rep]
  exact ⟨p,vs,rfl,SqT.of B7,Reps.stp I1 a2.stp r1⟩
 ·rw [if_neg hl] at h.pe; cases h.pe
theorem G7 (h:AO X g es fr):FO X g (.List es pos) (t7 fr):=FO.w (b6m h.pe) fun σ H Q hQ=>by
 refine hQ.elim fun f0 O s d s' I e k=>?_
 obtain ⟨⟨ds,s1⟩,h1,h.pe⟩:=Option.bind_eq_some_iff.mp e
 by_cases hl:ds.length ≤ sizeLine
 ·rw [if_pos hl] at h.pe
  simp only [Option.some.injEq,Prod.mk.injEq] at h.pe
  obtain ⟨e1,e2⟩:=h.pe
  subst e1; subst e2
  refine ⟨f0,O,s,ds,s1,I,h1,fun vs H1 f1 O1 a1 I1 r1=>⟨by rw [r1.length]; exact hl,fun p hp=>?_⟩⟩
  have a2:StE f1 O1 H1 f1 O1 (upd H1 p (.lst vs)):=C1 hp
  exact k p vs _ f1 O1 (a1.trans a2) (R6 I1 hp r1) (a1.mon _ hp)
 ·rw [if_neg hl] at h.pe; cases h.pe
end
section
variable {K:PySem.W.Frag} {g:Gh} {σ:L2.St} {H H':Hp} {fa fa':Option Addr} {O O':List Addr} {s s':DS}
theorem NN.mono {F:Addr → Prop} {P:List Addr} (h:∀ b ∈ P,b ∈ O) {b:Addr} (z:NN F fa P b):NN F fa O b:=by
 rcases z with z | z | z
 ·exact .inl z
 ·exact .inr (.inl (h b z))
 ·exact .inr (.inr z)
theorem a70 {F:Addr → Prop} {N:Addr → Prop} (h:∀ b,NN F fa O b → N b):Car K N fa H (NN F fa O) fa H:=⟨fun b xs n q=>⟨q,fun z=>n (h b z)⟩,fun _ _ q=>q,fun _ _ q=>q,fun _ q=>q⟩
theorem DI.put (I:GI K g σ H fa O s) (i:Nat) {d:D} {v:V} (r:Rep K (NN g.F fa O) fa H d v):∃ P,(∀ b ∈ P,b ∈ O) ∧ GI K g (σ.set i (some v)) H fa P { s with sl:=s.sl.set i (.val d) }:=by
 obtain ⟨P,hs,S,_⟩:=SlR.put i I.sl r
 have sub:∀ b ∈ P,b ∈ O:=fun b hb=>hs.subset hb
 have c:Car K (NN g.F fa O) fa H (NN g.F fa P) fa H:=a70 fun b=>NN.mono sub
 exact ⟨P,sub,hs.nodup I.nd,SlR.go c (fun _ _ _ z=>z) S,fun b hb=>I.fr b (sub b hb),I.st,I.tr,I.ff,I.fd.car c fun _ _=>rfl,fun b z y=>I.nf b z (sub b y)⟩
theorem a0Z {P:List Addr} (h:∀ b ∈ P,b ∈ O):StE fa O H fa P H:=⟨h,.inl rfl,fun _ _ e _=>e,fun _ e=>e⟩
theorem NewL.put {p:Addr} {xs:List V} {ds:List D} (L:NewL K g σ H fa O s p xs ds) (i:Nat) (hi:i < s.sl.length) (h0:g.H0 p = none) (hp:p ∉ O):∃ P,(∀ b ∈ P,b = p ∨ b ∈ O) ∧ GI K g (σ.set i (some (.ref p))) H fa P { s with sl:=s.sl.set i (.own ds) }:=by
 obtain ⟨P,h1,h2,S⟩:=SlR.putN i L.sl hi hp L.gi.nd L.ls L.rs
 have c:Car K (fun b=>NN g.F fa O b ∨ b = p) fa H (NN g.F fa P) fa H:=a70 fun b z=>by
  rcases z with z | z | z
  ·exact .inl (.inl z)
  ·rcases h1 b z with y | y
   ·exact .inr y
   ·exact .inl (.inr (.inl y))
  ·exact .inl (.inr (.inr z))
 refine ⟨P,h1,h2,SlR.go c (fun _ _ _ z=>z) S,fun b hb=>?_,L.gi.st,L.gi.tr,L.gi.ff,L.fd.car c fun _ _=>rfl,fun b z hb=>?_⟩
 ·rcases h1 b hb with y | y
  ·rw [y]; exact h0
  ·exact L.gi.fr b y
 ·rcases h1 b hb with y | y
  ·rw [y] at z; exact L.nf z
  ·exact L.gi.nf b z y
theorem DI.rew (I:GI K g σ H fa O s) {i:Nat} {ds es:List D} {a:Addr} {xs ys:List V} (e1:s.sl[i]? = some (.own ds)) (e2:σ[i]? = some (some (.ref a))) (m:a ∈ O) (e3:H a = some (.lst xs)) (r:Reps K (NN g.F fa O) fa H es ys) :
  GI K g σ (upd H a (.lst ys)) fa O { s with sl:=s.sl.set i (.own es) } ∧ Stp fa O H fa O (upd H a (.lst ys)):=by
 have a1:Stp fa O H fa O (upd H a (.lst ys)):=⟨fun b hb=>.inl hb,.inl rfl,fun b u e n _=>by
  rw [o8 (show b ≠ a from fun z=>n (by rw [z]; exact m))]; exact e,fun b z=>by
  by_cases hb:b = a
  ·subst hb; rw [B7] at z; cases z
  ·rw [o8 hb] at z; exact z⟩
 have c:=I.car a1
 have k:∀ b u,b ≠ a → H b = some u → upd H a (.lst ys) b = some u:=fun b u n e=>by rw [o8 n]; exact e
 refine ⟨⟨I.nd,SlR.rew I.sl I.nd (fun b hb=>.inr (.inl hb)) e1 e2 B7 c k (Reps.go c es ys r),I.fr,?_,I.tr,I.ff,I.fd.car c fun b hb=>?_,I.nf⟩,a1⟩
 ·refine ⟨fun b hb=>(by cases hb),I.st.fe,fun b u e n f=>?_,fun b z=>I.st.mon b (a1.mon b z)⟩
  refine k b u (fun z=>?_) (I.st.same b u e n f)
  rw [z,I.fr a m] at e; cases e
 ·refine o8 fun z=>?_
  subst z
  exact I.nf _ hb m
end
theorem FlK.shift {K:PySem.W.Frag} {g:Gh} {E:Ends} {fa fa':Option Addr} {O O':List Addr} {H H':Hp} {fl:Fl} {s:DS} (a:Stp fa O H fa' O' H') (h:FlK K g E fa O H fl s):FlK K g E fa' O' H' fl s:=by
 cases fl with
 | next=>exact fun σ' H2 f2 O2 a2 I2=>h σ' H2 f2 O2 (a.trans a2) I2
 | brk=>exact fun σ' H2 f2 O2 a2 I2=>h σ' H2 f2 O2 (a.trans a2) I2
 | cont=>exact fun σ' H2 f2 O2 a2 I2=>h σ' H2 f2 O2 (a.trans a2) I2
 | ret d=>exact fun σ' v H2 f2 O2 a2 I2=>h σ' v H2 f2 O2 (a.trans a2) I2
noncomputable def o7:DM:=fun s=>some (.next,s)
noncomputable def B0 (b:DM) (x:Fl × DS):Option (Fl × DS):=match x.1 with
 | .next=>b x.2
 | .brk=>some (.brk,x.2)
 | .cont=>some (.cont,x.2)
 | .ret d=>some (.ret d,x.2)
noncomputable def c9 (a b:DM):DM:=fun s=>(a s).bind (B0 b)
section
variable {X:Cx} {g:Gh} {st:Stmt} {rest:List Stmt} {e:Expr} {pos:Pos} {a b:DM} {f:DE}
theorem D3:SSO X g [] o7:=SSO.w a9M fun E σ H hQ=>by
 refine hQ.elim fun fa O s fl s' I e k=>?_
 cases e
 exact k σ H fa O Stp.refl I
theorem j9 (h:SO X g st a):SSO X g [st] a:=⟨a7o h.pe⟩
theorem j3 (h:SO X g st a) (hr:SSO X g rest b):SSO X g (st :: rest) (c9 a b):=SSO.w (a1X h.pe hr.pe) fun E σ H hQ=>by
 refine hQ.elim fun fa O s fl s' I e k=>?_
 refine v6 e fun f1 s1 h1 h2=>?_
 refine ⟨fa,O,s,f1,s1,I,h1,?_⟩
 cases f1 with
 | next=>exact fun σ' H' f1 O1 a1 I1=>⟨f1,O1,s1,fl,s',I1,h2,k.shift a1⟩
 | brk=>cases h2; exact k
 | cont=>cases h2; exact k
 | ret d=>cases h2; exact k
noncomputable def j7 (f:DE):DM:=fun s=>(f s).map fun x=>(.ret x.1,x.2)
theorem p7 (he:EO X g e f):SO X g (.Return (some e) pos) (j7 f):=SO.w (b3g he.pe) fun E σ H hQ=>by
 refine hQ.elim fun fa O s fl s' I q k=>?_
 refine mapP q fun d s1 h1 h2=>?_
 cases h2
 exact ⟨fa,O,s,d,s1,I,h1,fun v H' f1 O1 a1 I1 r=>k σ v H' f1 O1 a1.stp I1 r⟩
noncomputable def n8 (c:DT) (a b:DM):DM:=fun s=>(c s).bind fun x=>if x.1 = true then a x.2 else b x.2
theorem D7 {c:Expr} {fc:DT} {la lb:List Stmt} (hc:TO X g c fc) (ha:SSO X g la a) (hb:SSO X g lb b):SO X g (.If c la lb pos) (n8 fc a b):=SO.w (b31 hc.pe ha.pe hb.pe) fun E σ H hQ=>by
 refine hQ.elim fun fa O s fl s' I e k=>?_
 refine v6 e fun x s1 h1 h=>?_
 refine ⟨fa,O,s,x,s1,I,h1,fun H1 f1 O1 a1 I1=>?_⟩
 cases x with
 | false=>rw [if_neg Bool.false_ne_true] at h ⊢; exact ⟨f1,O1,s1,fl,s',I1,h,k.shift a1.stp⟩
 | true=>rw [if_pos rfl] at h ⊢; exact ⟨f1,O1,s1,fl,s',I1,h,k.shift a1.stp⟩
noncomputable def liftG (K:PySem.W.Frag) (g:Gh) (t:D → DS → Option DS):TG:=fun v σ H Q=>∃ fa O s d s',GI K g σ H fa O s ∧ Rep K (NN g.F fa O) fa H d v ∧ t d s = some s' ∧ ∀ σ' H' fa' O',Stp fa O H fa' O' H' → GI K g σ' H' fa' O' s' → Q σ' H'
noncomputable def liftGs (K:PySem.W.Frag) (g:Gh) (t:List D → DS → Option DS):TGs:=fun vs σ H Q=>∃ fa O s ds s',GI K g σ H fa O s ∧ Reps K (NN g.F fa O) fa H ds vs ∧ t ds s = some s' ∧ ∀ σ' H' fa' O',Stp fa O H fa' O' H' → GI K g σ' H' fa' O' s' → Q σ' H'
section
variable {K:PySem.W.Frag} {g:Gh} {σ:L2.St} {Q:L2.St → Hp → Prop} {H:Hp} {G:Prop}
theorem liftG.elim {t:D → DS → Option DS} {v:V} (h:liftG K g t v σ H Q) (k:∀ fa O s d s',GI K g σ H fa O s → Rep K (NN g.F fa O) fa H d v → t d s = some s' → (∀ σ' H' fa' O',Stp fa O H fa' O' H' → GI K g σ' H' fa' O' s' → Q σ' H') → G):G:=by
 obtain ⟨fa,O,s,d,s',a,r,b,c⟩:=h
 exact k fa O s d s' a r b c
theorem liftGs.elim {t:List D → DS → Option DS} {v:List V} (h:liftGs K g t v σ H Q) (k:∀ fa O s d s',GI K g σ H fa O s → Reps K (NN g.F fa O) fa H d v → t d s = some s' → (∀ σ' H' fa' O',Stp fa O H fa' O' H' → GI K g σ' H' fa' O' s' → Q σ' H') → G):G:=by
 obtain ⟨fa,O,s,d,s',a,r,b,c⟩:=h
 exact k fa O s d s' a r b c
end
structure GO (X:Cx) (g:Gh) (e:Expr) (t:D → DS → Option DS):Prop where
 pe:PG X e (liftG X.K g t)
structure GsO (X:Cx) (g:Gh) (es:List Expr) (t:List D → DS → Option DS):Prop where
 pe:PGs X es (liftGs X.K g t)
noncomputable def d0 (i:Nat) (d:D):DS → Option DS:=fun s=>some { s with sl:=s.sl.set i (.val d) }
theorem PGw {t t':TG} (h:PG X e t) (w:∀ v σ H Q,t' v σ H Q → t v σ H Q):PG X e t':=fun pins s σ H v u Q I r q=>h pins s σ H v u Q I r (w v σ H Q q)
theorem b2i {es:List Expr} {t t':TGs} (h:PGs X es t) (w:∀ v σ H Q,t' v σ H Q → t v σ H Q):PGs X es t':=fun pins s σ H v u Q I r q=>h pins s σ H v u Q I r (w v σ H Q q)
theorem GO.w {f:D → DS → Option DS} {t:TG} (h:PG X e t) (w:∀ v σ H Q,liftG X.K g f v σ H Q → t v σ H Q):GO X g e f:=⟨PGw h w⟩
theorem GsO.w {es:List Expr} {f:List D → DS → Option DS} {t:TGs} (h:PGs X es t) (w:∀ v σ H Q,liftGs X.K g f v σ H Q → t v σ H Q):GsO X g es f:=⟨b2i h w⟩
theorem D1 {i:Nat} {x:Str} (h:PG X (.Name x pos) (L4 i)):GO X g (.Name x pos) (d0 i):=GO.w h fun v σ H Q hQ=>by
 refine hQ.elim fun fa O s d s' I r e k=>?_
 cases e
 obtain ⟨P,sub,I'⟩:=I.put i r
 exact k _ H fa P (a0Z sub).stp I'
noncomputable def w8:List D → DS → Option DS
 | [],s=>some s
 | _ :: _,_=>none
noncomputable def t9 (t:D → DS → Option DS) (u:List D → DS → Option DS):List D → DS → Option DS
 | [],_=>none
 | d :: r,s=>(t d s).bind (u r)
theorem T9:GsO X g [] w8:=GsO.w a7P fun v σ H Q hQ=>by
 refine hQ.elim fun fa O s ds s' I r e k=>?_
 cases ds with
 | nil=>cases e; simp only [Reps] at r; exact ⟨r,k σ H fa O Stp.refl I⟩
 | cons d r'=>cases e
theorem K5 {es:List Expr} {t:D → DS → Option DS} {u:List D → DS → Option DS} (h:GO X g e t) (hr:GsO X g es u) (hs:(assignEach (e :: es) X.env).map (·.2) = assign e X.env :: (assignEach es X.env).map (·.2):=by rfl):GsO X g (e :: es) (t9 t u):=
 GsO.w (a4w h.pe hr.pe hs) fun v σ H Q hQ=>by
  refine hQ.elim fun fa O s ds s' I r e k=>?_
  cases ds with
  | nil=>cases e
  | cons d r'=>
   refine L5 e fun s1 h1 h2=>?_
   simp only [Reps] at r
   obtain ⟨x,ys,rfl,rx,ry⟩:=r
   exact ⟨x,ys,rfl,fa,O,s,d,s1,I,rx,h1,fun σ1 H1 f1 O1 a1 I1=>⟨f1,O1,s1,r',s',I1,Reps.stp I a1 ry,h2,fun σ2 H2 f2 O2 a2 I2=>k σ2 H2 f2 O2 (a1.trans a2) I2⟩⟩
noncomputable def w6 (n:Nat) (u:List D → DS → Option DS) (d:D) (s:DS):Option DS:=match d with
 | .tup ds=>if ds.length = n then u ds s else none
 | _=>none
theorem V4 {es:List Expr} {k:Nat} {n:Nat} {u:List D → DS → Option DS} (hc:X.calm = true) (h:GsO X g es u) (hn:(assignEach es X.env).length = n:=by rfl) (hst:(assignEach es X.env).findIdx? (·.1) = none:=by rfl):GO X g (.Tuple es k pos) (w6 n u):=
 GO.w (a6i hc h.pe hn hst) fun v σ H Q hQ=>by
  refine hQ.elim fun fa O s d s' I r e k=>?_
  cases d with
  | tup ds=>
   simp only [w6] at e
   by_cases hl:ds.length = n
   ·rw [if_pos hl] at e
    simp only [Rep] at r
    obtain ⟨a,xs,rfl,q,w⟩:=r
    exact ⟨a,xs,rfl,q,by rw [w.length]; exact hl,fa,O,s,ds,s',I,w,e,k⟩
   ·rw [if_neg hl] at e; cases e
  | _=>cases e
noncomputable def i8 (f:DE) (t:D → DS → Option DS):DM:=fun s=>(f s).bind fun x=>(t x.1 x.2).map fun s'=>(.next,s')
theorem a7X {f:DE} {t:D → DS → Option DS} (E:Ends) (σ:L2.St) (H:Hp) (h:liftS X.K g (i8 f t) E σ H):a0d (liftE X.K g f) (liftG X.K g t) E σ H:=by
 obtain ⟨fa,O,s,fl,s',I,q,k⟩:=h
 refine v6 q fun d s1 h1 h2=>?_
 refine N7 h2 fun s2 h3 h4=>?_
 cases h4
 exact ⟨fa,O,s,d,s1,I,h1,fun v H1 f1 O1 a1 I1 r=>⟨f1,O1,s1,d,_,I1,r,h3,fun σ2 H2 f2 O2 a2 I2=>k σ2 H2 f2 O2 (a1.stp.trans a2) I2⟩⟩
theorem a2y {tg:Expr} {t:D → DS → Option DS} (he:EO X g e f) (hg:GO X g tg t) (hs:swapsWithSole [tg] e pos.line X.env = pure false:=by rfl) (hw:swappedStores [tg] e X.env = pure none:=by rfl)
  (h1:(assignEach [tg] X.env).map (·.2) = [assign tg X.env]:=by rfl):SO X g (.Assign [tg] e pos) (i8 f t):=SO.w (b51 he.pe hg.pe hs hw h1) a7X
theorem l6 {i:Nat} {x:Str} {pos':Pos} (hN:X.N.Nodup) (hi:X.N[i]? = some x) (hx:Loc X.env.scope x) (he:EO X g e f) (hs:swapsWith e (some (.Name x pos')) pos.line X.env = pure false:=by rfl) (hf:X.fn x = true ∨ X.env.scope.names.lookup x = some .local:=by first | exact .inl rfl | exact .inr rfl | assumption) :
  SO X g (.Assign [.Name x pos'] e pos) (i8 f (d0 i)):=SO.w (a1s hN hi hx he.pe hs hf) fun E σ H h=>by
 obtain ⟨fa,O,s,d,s1,I,h1,k⟩:=a7X E σ H h
 refine ⟨fa,O,s,d,s1,I,h1,fun v H1 f1 O1 a1 I1 r=>?_⟩
 obtain ⟨f2,O2,s2,d2,s3,I2,r2,e2,k2⟩:=k v H1 f1 O1 a1 I1 r
 cases e2
 obtain ⟨P,sub,I'⟩:=I2.put i r2
 exact k2 _ H1 f2 P (a0Z sub).stp I'
noncomputable def E4 (i:Nat) (f:DA):DM:=fun s=>(f s).bind fun x=>if i < x.2.sl.length then some (.next,{ x.2 with sl:=x.2.sl.set i (.own x.1) }) else none
theorem N3 {i:Nat} {x:Str} {f:DA} {pos':Pos} (hN:X.N.Nodup) (hi:X.N[i]? = some x) (hx:Loc X.env.scope x) (he:FO X g e f) (hs:swapsWith e (some (.Name x pos')) pos.line X.env = pure false:=by rfl) (hf:X.fn x = true ∨ X.env.scope.names.lookup x = some .local:=by first | exact .inl rfl | exact .inr rfl | assumption) :
  SO X g (.Assign [.Name x pos'] e pos) (E4 i f):=SO.w (a1s hN hi hx he.pe hs hf) fun E σ H hQ=>by
 refine hQ.elim fun fa O s fl s' I q k=>?_
 refine v6 q fun ds s1 h1 h2=>?_
 by_cases hl:i < s1.sl.length
 ·simp only [] at h2
  rw [if_pos hl] at h2
  cases h2
  refine ⟨fa,O,s,ds,s1,I,h1,fun p xs H1 f1 O1 a1 L hp=>?_⟩
  have np:p ∉ O1:=fun z=>by
   obtain ⟨ys,e⟩:=I.owned (a1.sub p z)
   rw [hp] at e; cases e
  obtain ⟨P,sub,I'⟩:=L.put i hl (I.st.mon p hp) np
  refine k _ H1 f1 P ⟨fun b hb=>?_,a1.fe,fun b u e _ n=>a1.same b u e n,a1.mon⟩ I'
  rcases sub b hb with y | y
  ·exact .inr (by rw [y]; exact hp)
  ·exact .inl (a1.sub b y)
 ·simp only [] at h2
  rw [if_neg hl] at h2; cases h2
noncomputable def F5 (i:Nat) (f:DE):DM:=fun s=>match s.sl[i]? with
 | some (.own _)=>(f s).bind fun x=>match x.2.sl[i]? with
  | some (.own ds)=>if ds.length < sizeLine then some (.next,{ x.2 with sl:=x.2.sl.set i (.own (ds ++ [x.1])) }) else none
  | _=>none
 | _=>none
theorem R3 {i:Nat} {x:Str} {p1 p2 p3 p4:Pos} (hv:PE X (.Name x p1) (G6 i)) (he:EO X g e f) (hbase:attributeBase (.Name x p1) ("append" : Str) X.env (eval (.Name x p1) X.env) = eval (.Name x p1) X.env:=by rfl)
  (hfew:((backTo p3 (starEach [e] X.env)).all (fun x=>!x.1) && (backToKw p3 (keywordEach [] X.env)).all (fun x=>x.1.isSome)
   && decide ([e].length + ([]:List Keyword).length + (if ([]:List Keyword).isEmpty then 0 else 1) < 30)) = true:=by rfl)
  (hline:(p2.endLine == p3.line) = true:=by rfl) (hs:starEach [e] X.env = (false,eval e X.env) :: starEach [] X.env:=by rfl) (hplain:(backTo p3 (starEach [] X.env)).any (·.1) = false:=by rfl)
  (hsw:swapsWith (.Call (.Attribute (.Name x p1) ("append" : Str) p2) [e] [] p3) none p4.line X.env = pure false:=by rfl) :
  SO X g (.Expr (.Call (.Attribute (.Name x p1) ("append" : Str) p2) [e] [] p3) p4) (F5 i f):=
 SO.w (a7n (b48 PySem.F.plainAttrs_list PySem.F.slot_list_append PySem.F.type_list_append a6m hv (Y6 he.pe a02 hs) hbase hfew hline hs hplain) hsw) fun E σ H hQ=>by
  refine hQ.elim fun fa O s fl s' I q k=>?_
  cases q0:s.sl[i]? with
  | none=>simp only [F5,q0] at q; cases q
  | some z=>
  cases z with
  | no=>simp only [F5,q0] at q; cases q
  | val _=>simp only [F5,q0] at q; cases q
  | own ds0=>
  simp only [F5,q0] at q
  obtain ⟨a,xs0,e1,m,e2,_⟩:=SlR.own I.sl q0
  refine v6 q fun d s1 h1 h2=>?_
  cases q2:s1.sl[i]? with
  | none=>simp only [q2] at h2; cases h2
  | some z=>
   cases z with
   | no=>simp only [q2] at h2; cases h2
   | val _=>simp only [q2] at h2; cases h2
   | own ds=>
    simp only [q2] at h2
    by_cases hl:ds.length < sizeLine
    ·rw [if_pos hl] at h2
     cases h2
     refine ⟨_,e1,.inl ⟨rfl,xs0,SqL.of e2⟩,fa,O,s,d,s1,I,h1,fun v H1 f1 O1 a1 I1 r=>?_⟩
     obtain ⟨b,xs,e3,m1,e4,r1⟩:=SlR.own I1.sl q2
     rw [e1] at e3; cases e3
     obtain ⟨I2,a2⟩:=I1.rew q2 e1 m1 e4 (Reps.append r1 (Reps.one r))
     exact ⟨a,xs,v,rfl,rfl,e4,by rw [r1.length]; exact hl,k σ _ f1 O1 (a1.stp.trans a2) I2⟩
    ·rw [if_neg hl] at h2; cases h2
end
noncomputable def A9 (t:D → DS → Option DS) (b:DM):List D → DS → Option (Fl × DS)
 | [],s=>some (.next,s)
 | d :: r,s=>(t d s).bind fun s1=>(b s1).bind fun x=>match x.1 with
  | .next=>A9 t b r x.2
  | .cont=>A9 t b r x.2
  | .brk=>some (.next,x.2)
  | .ret v=>some (.ret v,x.2)
noncomputable def PvD (K:PySem.W.Frag) (g:Gh) (f1:Option Addr) (O1:List Addr) (H1:Hp) (t:D → DS → Option DS) (b:DM) (ds:List D) (fl:Fl) (sf:DS) (i:Nat):L2.St → Hp → Prop:=fun σ' H'=>
 ∃ fa' O' s',Stp f1 O1 H1 fa' O' H' ∧ GI K g σ' H' fa' O' s' ∧ A9 t b (ds.drop i) s' = some (fl,sf)
section
variable {K:PySem.W.Frag} {g:Gh} {f1:Option Addr} {O1:List Addr} {H1 H':Hp} {t:D → DS → Option DS} {b:DM} {ds:List D} {fl:Fl} {sf:DS} {i:Nat} {E:Ends} {σ':L2.St}
theorem a9G {α:Type} {l:List α} {i:Nat} {d:α} (h:l[i]? = some d):l.drop i = d :: l.drop (i + 1):=by
 obtain ⟨hi,e⟩:=List.getElem?_eq_some_iff.mp h
 rw [List.drop_eq_getElem_cons hi,e]
theorem a3U (hk:FlK K g E f1 O1 H1 fl sf) {d:D} {x:V} (hd:ds[i]? = some d) (hr:∀ fa' O',Stp f1 O1 H1 fa' O' H' → Rep K (NN g.F fa' O') fa' H' d x) (h:PvD K g f1 O1 H1 t b ds fl sf i σ' H') :
  liftG K g t x σ' H' fun σ2 H2=>liftS K g b { E with nx:=PvD K g f1 O1 H1 t b ds fl sf (i + 1),ct:=PvD K g f1 O1 H1 t b ds fl sf (i + 1),bk:=E.nx } σ2 H2:=by
 obtain ⟨fa',O',s',st,I,e⟩:=h
 rw [a9G hd,A9] at e
 refine L5 e fun s1 h1 h2=>?_
 refine v6 h2 fun fb s2 h3 h4=>?_
 refine ⟨fa',O',s',d,s1,I,hr fa' O' st,h1,fun σ2 H2 f2 O2 a2 I2=>⟨f2,O2,s1,fb,s2,I2,h3,?_⟩⟩
 cases fb with
 | next=>exact fun σ3 H3 f3 O3 a3 I3=>⟨f3,O3,s2,st.trans (a2.trans a3),I3,h4⟩
 | cont=>exact fun σ3 H3 f3 O3 a3 I3=>⟨f3,O3,s2,st.trans (a2.trans a3),I3,h4⟩
 | brk=>cases h4; exact fun σ3 H3 f3 O3 a3 I3=>hk σ3 H3 f3 O3 (st.trans (a2.trans a3)) I3
 | ret v=>cases h4; exact fun σ3 v H3 f3 O3 a3 I3 r=>hk σ3 v H3 f3 O3 (st.trans (a2.trans a3)) I3 r
theorem a3Y (hk:FlK K g E f1 O1 H1 fl sf) {n:Nat} (hn:ds.length ≤ n) (h:PvD K g f1 O1 H1 t b ds fl sf n σ' H'):E.nx σ' H':=by
 obtain ⟨fa',O',s',st,I,e⟩:=h
 rw [List.drop_eq_nil_of_le hn,A9] at e
 cases e
 exact hk σ' H' fa' O' st I
end
noncomputable def J8 (f:DE) (t:D → DS → Option DS) (b:DM):DM:=fun s=>(f s).bind fun x=>match x.1 with
 | .lst ds=>A9 t b ds x.2
 | .tup ds=>A9 t b ds x.2
 | _=>none
section
variable {X:Cx} {g:Gh} {tg iter:Expr} {body:List Stmt} {f:DE} {t:D → DS → Option DS} {b:DM} {pos:Pos}
noncomputable def b2j (K:PySem.W.Frag) (tl:TE):TI:=fun σ H R=>tl σ H fun x H1=>∃ a,x = .ref a ∧ (((∃ xs,SqL K H1 a xs) ∧ R (Itl K a) H1) ∨ ((∃ xs,SqT K H1 a xs) ∧ R (Itt K a) H1))
theorem a49 {l:Expr} {tl:TE} (hl:PE X l tl):PI X tg l (b2j X.K tl):=by
 intro pins s σ H R I h
 refine thn (hl pins s σ H _ I h) fun v s1 ⟨x,H1,I1,r1,q1⟩=>?_
 obtain ⟨a,e,q⟩:=q1
 subst e
 cases r1
 rcases q with ⟨⟨xs,hq⟩,q⟩ | ⟨⟨xs,hq⟩,q⟩
 ·obtain ⟨its,rv,p,hz⟩:=I1.list hq
  refine wpAny_pyIter_list p.isList ?_
  refine ⟨s1.heap.objs.size,[s1.heap.objs.size],_,_,H1,rfl,I1.kept (t':=s1.toks) fun b o e=>Heap.get?_push_of_some _ e,b1Z a _,⟨_,Heap.get?_push_size _ rfl,rfl,rfl⟩,fun b hb=>?_,q⟩
  have e:b = s1.heap.objs.size:=by simpa using hb
  subst e
  exact I1.fpOk (Nat.le_refl _) (I1.hok.fresh (Nat.le_refl _))
 ·obtain ⟨its,rv,p,hz⟩:=I1.tuple hq
  refine wpAny_pyIter_tuple (show s1.heap.IsTuple a its.toArray from p) ?_
  refine ⟨s1.heap.objs.size,[s1.heap.objs.size],_,_,H1,rfl,I1.kept (t':=s1.toks) fun b o e=>Heap.get?_push_of_some _ e,b0B a _,⟨_,Heap.get?_push_size _ rfl,rfl,rfl⟩,fun b hb=>?_,q⟩
  have e:b = s1.heap.objs.size:=by simpa using hb
  subst e
  exact I1.fpOk (Nat.le_refl _) (I1.hok.fresh (Nat.le_refl _))
theorem P0 (hp:PassesOwn (model X.prog X.w) X.A X.env X.xe) (hc:X.calm = true) (he:EO X g iter f) (hg:GO X g tg t) (hb:SSO X g body b) (hs:∀ x,foldedSetIterable iter X.env x = pure x:=by intro _; rfl) :
  SO X g (.For tg iter body [] pos) (J8 f t b):=SO.w (a5l hp hc (a49 he.pe) hg.pe hb.pe hs) fun E σ H hQ=>by
 refine hQ.elim fun fa O s fl sf I q k=>?_
 refine v6 q fun d s1 h1 h2=>?_
 refine ⟨fa,O,s,d,s1,I,h1,fun v H1 f1 O1 a1 I1 r=>?_⟩
 have k1:=k.shift a1.stp
 cases d with
 | lst ds=>
  simp only [Rep] at r
  obtain ⟨a,xs,rfl,na,q,w⟩:=r
  refine ⟨a,rfl,.inl ⟨⟨xs,SqL.of q⟩,a6o (xs:=xs) (PvD X.K g f1 O1 H1 t b ds fl sf) ⟨f1,O1,s1,Stp.refl,I1,h2⟩ ?_ ?_ ?_⟩⟩
  ·rintro i σ' H' _ ⟨fa',O',s',st,I',e⟩
   exact SqL.of ((I1.car st).ls a xs na q).1
  ·intro i x σ' H' hx h
   obtain ⟨d,hd,rd⟩:=Reps.get' w hx
   exact a3U k1 hd (fun fa' O' st=>Rep.stp I1 st rd) h
  ·intro σ' H' h
   exact a3Y k1 (Nat.le_of_eq w.length.symm) h
 | tup ds=>
  simp only [Rep] at r
  obtain ⟨a,xs,rfl,q,w⟩:=r
  refine ⟨a,rfl,.inr ⟨⟨xs,q⟩,a8l (xs:=xs) (PvD X.K g f1 O1 H1 t b ds fl sf) ⟨f1,O1,s1,Stp.refl,I1,h2⟩ ?_ ?_ ?_⟩⟩
  ·rintro i σ' H' _ ⟨fa',O',s',st,I',e⟩
   exact (I1.car st).tp a xs q
  ·intro i x σ' H' hx h
   obtain ⟨d,hd,rd⟩:=Reps.get' w hx
   exact a3U k1 hd (fun fa' O' st=>Rep.stp I1 st rd) h
  ·intro σ' H' h
   exact a3Y k1 (Nat.le_of_eq w.length.symm) h
 | _=>cases h2
noncomputable def ups (lo:Int) (n:Nat):List D:=(List.range n).map fun (i:Nat)=>D.int (lo + (i:Int))
theorem a4F {lo:Int} {n i:Nat} (h:i < n):(ups lo n)[i]? = some (.int (lo + (i:Int))):=by simp [ups,h]
theorem W5 (lo:Int) (n:Nat):(ups lo n).length = n:=by simp [ups]
noncomputable def W7:List D → Option (List D)
 | [.int j]=>if -(2 ^ 62) ≤ j ∧ j < 2 ^ 62 then some (ups 0 j.toNat) else none
 | [.int i,.int j]=>if -(2 ^ 62) ≤ i ∧ i < 2 ^ 62 ∧ -(2 ^ 62) ≤ j ∧ j < 2 ^ 62 then some (ups i (j - i).toNat) else none
 | _=>none
noncomputable def a0R (f:DA) (t:D → DS → Option DS) (b:DM):DM:=fun s=>(f s).bind fun x=>(W7 x.1).bind fun ds=>A9 t b ds x.2
theorem a8U {ds es:List D} {a:D} (h:W7 ds = some es) (l:ds = [a]):∃ j:Int,a = .int j ∧ -(2 ^ 62) ≤ j ∧ j < 2 ^ 62 ∧ es = ups 0 j.toNat:=by
 subst l
 cases a with
 | int j=>
  have h:(if -(2 ^ 62) ≤ j ∧ j < 2 ^ 62 then some (ups 0 j.toNat) else none) = some es:=h
  by_cases hj:-(2 ^ 62) ≤ j ∧ j < 2 ^ 62
  ·rw [if_pos hj] at h; cases h; exact ⟨j,rfl,hj.1,hj.2,rfl⟩
  ·rw [if_neg hj] at h; cases h
 | _=>cases h
theorem a84 {a:Expr} {fa:DE} {p cpos:Pos} (hp:PassesOwn (model X.prog X.w) X.A X.env X.xe) (hc:X.calm = true) (hgl:Gl X "range") (hm:X.mg "range" = none) (ha:EO X g a fa) (hg:GO X g tg t) (hb:SSO X g body b)
  (hs1:starEach [a] X.env = [(false,eval a X.env)]:=by rfl) (hs:∀ x,foldedSetIterable (.Call (.Name "range" p) [a] [] cpos) X.env x = pure x:=by intro _; rfl) :
  SO X g (.For tg (.Call (.Name "range" p) [a] [] cpos) body [] pos) (a0R (a6 fa a8) t b):=
 SO.w (a5l hp hc (a9D hgl hm (a2C ha i0 hs1).pe hs1) hg.pe hb.pe hs) fun E σ H hQ=>by
  refine hQ.elim fun fa O s fl sf I q k=>?_
  refine v6 q fun ds s1 h1 h2=>?_
  refine L5 h2 fun es h3 h4=>?_
  obtain ⟨d,s2,rs,e1,e2,e3⟩:=a0W h1
  cases e2
  obtain ⟨j,rfl,j1,j2,rfl⟩:=a8U h3 e3
  refine ⟨fa,O,s,ds,s1,I,h1,fun vs H1 f1 O1 a1 I1 r=>?_⟩
  have k1:=k.shift a1.stp
  rw [e3] at r
  simp only [Reps,Rep] at r
  obtain ⟨x,ys,rfl,rfl,rfl⟩:=r
  refine ⟨j,rfl,j1,j2,b3v (lo:=0) (n:=j.toNat) (PvD X.K g f1 O1 H1 t b (ups 0 j.toNat) fl sf) ⟨f1,O1,s1,Stp.refl,I1,h4⟩ ?_ ?_⟩
  ·intro i σ' H' hi h
   exact a3U k1 (a4F hi) (fun fa' O' st=>by simp only [Rep]) h
  ·intro σ' H' h
   exact a3Y k1 (by rw [W5]; exact Nat.le_refl _) h
noncomputable def whN (c:DT) (b:DM):Nat → DS → Option (Fl × DS)
 | 0,_=>none
 | n + 1,s=>(c s).bind fun x=>if x.1 = true then (b x.2).bind fun y=>match y.1 with
   | .next=>whN c b n y.2
   | .cont=>whN c b n y.2
   | .brk=>some (.next,y.2)
   | .ret v=>some (.ret v,y.2)
  else some (.next,x.2)
open Classical in
noncomputable def D8 (c:DT) (b:DM):DM:=fun s=>if h:∃ n r,whN c b n s = some r then whN c b h.choose s else none
theorem a48 {c:DT} {b:DM}:∀ (n:Nat) {s:DS} {r:Fl × DS},whN c b n s = some r → whN c b (n + 1) s = some r
 | 0,s,r,h=>by cases h
 | n + 1,s,r,h=>by
  rw [whN] at h ⊢
  refine v6 h fun x s1 h1 h2=>?_
  refine Option.bind_eq_some_iff.mpr ⟨(x,s1),h1,?_⟩
  cases x with
  | false=>exact h2
  | true=>
   simp only [if_true] at h2 ⊢
   refine v6 h2 fun y s2 h3 h4=>?_
   refine Option.bind_eq_some_iff.mpr ⟨(y,s2),h3,?_⟩
   cases y with
   | next=>exact a48 n h4
   | cont=>exact a48 n h4
   | brk=>exact h4
   | ret v=>exact h4
theorem a62 {c:DT} {b:DM} {n m:Nat} (hnm:n ≤ m) {s:DS} {r:Fl × DS} (h:whN c b n s = some r):whN c b m s = some r:=by
 induction hnm with
 | refl=>exact h
 | step _ ih=>exact a48 _ ih
theorem a9m {c:DT} {b:DM} {n:Nat} {s:DS} {r:Fl × DS} (h:whN c b n s = some r):D8 c b s = some r:=by
 have hx:∃ n r,whN c b n s = some r:=⟨n,r,h⟩
 unfold D8
 rw [dif_pos hx]
 obtain ⟨r',h'⟩:=hx.choose_spec
 have e1:=a62 (Nat.le_max_left n hx.choose) h
 have e2:=a62 (Nat.le_max_right n hx.choose) h'
 rw [e1] at e2
 rw [h',e2]
theorem a8H {c:DT} {b:DM} {s:DS} {r:Fl × DS} (h:D8 c b s = some r):∃ n,whN c b n s = some r:=by
 unfold D8 at h
 by_cases hx:∃ n r,whN c b n s = some r
 ·rw [dif_pos hx] at h; exact ⟨_,h⟩
 ·rw [dif_neg hx] at h; cases h
theorem N6 {c:DT} {b:DM} {s s1 s2:DS} {r:Fl × DS} (h1:c s = some (true,s1)) (h2:b s1 = some (.next,s2)) (h3:D8 c b s2 = some r):D8 c b s = some r:=by
 obtain ⟨n,h⟩:=a8H h3
 refine a9m (n:=n + 1) ?_
 rw [whN,h1]
 simp only [Option.bind_some,if_true,h2]
 exact h
theorem M6 {c:DT} {b:DM} {s s1:DS} (h1:c s = some (false,s1)):D8 c b s = some (.next,s1):=by
 refine a9m (n:=1) ?_
 rw [whN,h1]
 simp
theorem a0m {c:Expr} {fc:DT} (hp:PassesOwn (model X.prog X.w) X.A X.env X.xe) (hc:TO X g c fc) (hb:SSO X g body b):SO X g (.While c body [] pos) (D8 fc b):=SO.w (a91 hp hc.pe hb.pe) fun E σ H hQ=>by
 refine hQ.elim fun fa O s fl sf I q k=>?_
 obtain ⟨n,h⟩:=a8H q
 refine ⟨fun m σ' H'=>∃ fa' O' s',Stp fa O H fa' O' H' ∧ GI X.K g σ' H' fa' O' s' ∧ whN fc b m s' = some (fl,sf),⟨n,fa,O,s,Stp.refl,I,h⟩,?_⟩
 rintro m σ1 H1 ⟨f1,O1,s1,a1,I1,h1⟩
 cases m with
 | zero=>cases h1
 | succ m=>
  rw [whN] at h1
  refine v6 h1 fun x s2 h2 h3=>?_
  refine ⟨f1,O1,s1,x,s2,I1,h2,fun H2 f2 O2 a2 I2=>?_⟩
  cases x with
  | false=>rw [if_neg Bool.false_ne_true] at h3 ⊢; cases h3; exact k σ1 H2 f2 O2 (a1.trans a2.stp) I2
  | true=>
   rw [if_pos rfl] at h3 ⊢
   refine v6 h3 fun y s3 h4 h5=>?_
   refine ⟨fun σ' H'=>∃ fa' O' s',Stp fa O H fa' O' H' ∧ GI X.K g σ' H' fa' O' s' ∧ whN fc b m s' = some (fl,sf),fun σ' H' z=>⟨m,Nat.lt_succ_self m,z⟩,f2,O2,s2,y,s3,I2,h4,?_⟩
   have a12:=a1.trans a2.stp
   cases y with
   | next=>exact fun σ3 H3 f3 O3 a3 I3=>⟨f3,O3,s3,a12.trans a3,I3,h5⟩
   | cont=>exact fun σ3 H3 f3 O3 a3 I3=>⟨f3,O3,s3,a12.trans a3,I3,h5⟩
   | brk=>cases h5; exact fun σ3 H3 f3 O3 a3 I3=>k σ3 H3 f3 O3 (a12.trans a3) I3
   | ret v=>cases h5; exact fun σ3 v H3 f3 O3 a3 I3 r=>k σ3 v H3 f3 O3 (a12.trans a3) I3 r
end
noncomputable abbrev DFn:=List D → Option FS → Option (D × Option FS)
noncomputable def spD (K:PySem.W.Frag) (n:Nat) (m:DFn):Sp:=fun vs H Q _=>∃ (F:Addr → Prop) (fa:Option Addr) (ds:List D) (fs:Option FS) (d:D) (fs':Option FS),
 (∀ b,F b → H b ≠ none) ∧ (∀ a,fa = some a → F a) ∧ Reps K F fa H ds vs ∧ FeedR F H fa fs ∧ m ds fs = some (d,fs') ∧ ds.length = n ∧
  ∀ v H' fa',Stp fa [] H fa' [] H' → FeedR (fun b=>F b ∨ fa' = some b) H' fa' fs' → Rep K (fun b=>F b ∨ fa' = some b) fa' H' d v → Q v H'
noncomputable abbrev FnD (P:Program) (w:World) (K:PySem.W.Frag) (mg:Str → Option Value) (base:Heap) (k:Nat) (f:Addr) (fd:FuncData) (ps:List Str) (m:DFn):Prop:=FnOk P w K mg base CX0 k f fd ps (spD K ps.length m)
noncomputable def mFn (n:Nat) (b:DM):DFn:=fun ds fs=>(b ⟨ds.map .val ++ List.replicate (n - ds.length) .no,fs⟩).bind fun x=>match x.1 with
 | .ret d=>some (d,x.2.fs)
 | .next=>some (.non,x.2.fs)
 | _=>none
theorem a7e {K:PySem.W.Frag} {N:Addr → Prop} {fa:Option Addr} {H:Hp}:∀ n:Nat,SlR K N fa H (List.replicate n .no) (List.replicate n none) []
 | 0=>by simp [SlR]
 | n + 1=>by
  simp only [List.replicate_succ,SlR]
  exact ⟨_,_,rfl,a7e n⟩
theorem a8s {K:PySem.W.Frag} {N:Addr → Prop} {fa:Option Addr} {H:Hp} {n:Nat}:∀ {ds:List D} {vs:List V},Reps K N fa H ds vs → SlR K N fa H (ds.map .val ++ List.replicate n .no) (vs.map some ++ List.replicate n none) []
 | [],vs,h=>by simp only [Reps] at h; subst h; simpa using a7e n
 | d :: r,vs,h=>by
  simp only [Reps] at h
  obtain ⟨x,ys,rfl,h1,h2⟩:=h
  simp only [List.map_cons,List.cons_append,SlR]
  exact ⟨x,_,rfl,h1,a8s h2⟩
section
variable {P:Program} {w:World} {K:PySem.W.Frag} {mg:Str → Option Value} {base:Heap}
theorem a50 {x qual:Str} {st:Stmt} {f:Addr} {fd:FuncData} {N ps:List Str} {k:Nat} {b:DM} (F:Fun K x qual st f fd) (S:FnScope N ps (m9 st))
  (hbody:∀ (cdv:Value) (A:Around) (outer:List Env) (s:Shared) (H:Hp) (E:XK) (g:Gh),Room k (A.deeper (PyProof.Rows.envOfC qual (m9 st) s.heap.objs.size f cdv)) → SSO (R0 CX0 P w K mg base N qual (m9 st) f cdv A outer s H E).nox g (M0 st) b) :
  FnD P w K mg base (k + 1) f fd ps (mFn N.length b):=by
 refine F.ok S (fun vs H Q E h=>?_) (fun cdv A outer s H vs Q E hr h=>?_)
 ·obtain ⟨F,fa,ds,fs,d,fs',_,_,r,_,_,hl,_⟩:=h
  rw [r.length]; exact hl
 obtain ⟨F,fa,ds,fs,d,fs',tr,ff,r,fd,e,hl,q⟩:=h
 refine ⟨_,(hbody cdv A outer s H E ⟨F,H,fa⟩ hr).pe,?_⟩
 refine v6 e fun fl s' h1 h2=>?_
 have hN:∀ b,NN F fa [] b → F b:=fun b z=>by
  rcases z with z | z | z
  ·exact z
  ·cases z
  ·exact ff b z
 have c:Car K F fa H (NN F fa []) fa H:=⟨fun b xs n q=>⟨q,fun z=>n (hN b z)⟩,fun _ _ q=>q,fun _ _ q=>q,fun _ q=>q⟩
 have el:(L2.start N vs) = vs.map some ++ List.replicate (N.length - ds.length) none:=by rw [L2.start,r.length]
 have I:GI K ⟨F,H,fa⟩ (L2.start N vs) H fa [] ⟨ds.map .val ++ List.replicate (N.length - ds.length) .no,fs⟩:=by
  refine ⟨List.nodup_nil,?_,fun b hb=>(by cases hb),Stp.refl,tr,ff,fd.car c fun _ _=>rfl,fun _ _ z=>(by cases z)⟩
  rw [el]
  exact a8s (Reps.go c ds vs r)
 have fin:∀ {fa':Option Addr} {O':List Addr} {H':Hp} {σ':L2.St} {v:V} {dd:D},Stp fa [] H fa' O' H' → GI K ⟨F,H,fa⟩ σ' H' fa' O' s' → Rep K (NN F fa' O') fa' H' dd v → dd = d → s'.fs = fs' → Q v H':=by
  intro fa' O' H' σ' v dd a1 I1 r1 e1 e2
  subst e1; subst e2
  have c1:Car K (NN F fa' O') fa' H' (fun b=>F b ∨ fa' = some b) fa' H':=⟨fun b xs n q=>⟨q,fun z=>n (by
   rcases z with z | z
   ·exact .inl z
   ·exact .inr (.inr z))⟩,fun _ _ q=>q,fun _ _ q=>q,fun _ q=>q⟩
  exact q v H' fa' ⟨fun b hb=>(by cases hb),a1.fe,a1.same,a1.mon⟩ (I1.fd.car c1 fun _ _=>rfl) (Rep.go c1 _ _ r1)
 refine ⟨fa,[],_,fl,s',I,h1,?_⟩
 cases fl with
 | next=>
  simp only [Option.some.injEq,Prod.mk.injEq] at h2
  exact fun σ' H' fa' O' a1 I1=>fin a1 I1 (v:=.non) (dd:=.non) (by simp only [Rep]) h2.1 h2.2
 | ret dd=>
  simp only [Option.some.injEq,Prod.mk.injEq] at h2
  exact fun σ' v H' fa' O' a1 I1 r1=>fin a1 I1 r1 h2.1 h2.2
 | brk=>cases h2
 | cont=>cases h2
end
noncomputable def c7 (m:DFn) (f:DA):DE:=fun s=>(f s).bind fun x=>(m x.1 x.2.fs).map fun y=>(y.1,{ x.2 with fs:=y.2 })
section
variable {X:Cx} {g:Gh} {k:Nat} {f:Addr} {fd:FuncData} {ps:List Str} {m:DFn} {x:Str} {p pos:Pos} {e:Expr} {es:List Expr} {t:DA}
theorem a4Q {n:Nat} (hn:∀ s ds s',t s = some (ds,s') → ds.length = n) (σ:L2.St) (H:Hp) (Q:VK) (h:liftE X.K g (c7 m t) σ H Q):a4z (spD X.K n m) [] E0 (liftA X.K g t) σ H Q:=by
 obtain ⟨fa,O,s,d,s',I,q,k⟩:=h
 refine v6 q fun ds s1 h1 h2=>?_
 refine mapP h2 fun d1 fs1 h3 h4=>?_
 simp only [Prod.mk.injEq] at h4
 obtain ⟨e1,e2⟩:=h4
 subst e1; subst e2
 refine ⟨fa,O,s,ds,s1,I,h1,fun vs H1 f1 O1 a1 I1 r=>?_⟩
 show spD X.K n m (vs ++ []) H1 Q E0
 rw [List.append_nil]
 refine ⟨NN g.F f1 O1,f1,ds,s1.fs,d1,fs1,fun b hb=>I1.nn_tracked hb,fun a ha=>.inr (.inr ha),r,I1.fd,h3,hn s ds s1 h1,fun v H2 f2 a2 fd2 r2=>?_⟩
 have a3:StE f1 O1 H1 f2 O1 H2:=⟨fun b hb=>hb,a2.fe,fun b u e n=>a2.same b u e (by simp) n,a2.mon⟩
 have c:=I1.car a3.stp
 have c2:Car X.K (fun b=>NN g.F f1 O1 b ∨ f2 = some b) f2 H2 (NN g.F f2 O1) f2 H2:=⟨fun b xs n q=>⟨q,fun z=>n (by
   rcases z with z | z | z
   ·exact .inl (.inl z)
   ·exact .inl (.inr (.inl z))
   ·exact .inr z)⟩,fun _ _ q=>q,fun _ _ q=>q,fun _ q=>q⟩
 refine k v H2 f2 O1 (a1.trans a3) ⟨I1.nd,SlR.go c (fun b xs hb e=>?_) I1.sl,I1.fr,I1.st.trans ⟨fun b hb=>(by cases hb),a2.fe,fun b u e n z=>a2.same b u e n z,a2.mon⟩,I1.tr,I1.ff,fd2.car c2 fun _ _=>rfl,I1.nf_step a3.fe⟩ (Rep.go c2 _ _ r2)
 exact a3.same b _ e fun z=>I1.nf b z hb
theorem b0Q (F:FnD X.prog X.w X.K X.mg X.base k f fd ps m) (hr:Room k X.A) (hg:Gl X x) (hm:X.mg x = some (.ref f)) (hk:PySem.W.keepIn X.K (.ref f) = true) (hb:Binds X.K fd ps [])
  (ha:AO X g (e :: es) t) (hn:∀ s ds s',t s = some (ds,s') → ds.length = ps.length) (hdb:(x == ("__debug__" : Str)) = false:=by decide) (he:starEach (e :: es) X.env = (false,eval e X.env) :: starEach es X.env:=by rfl) (hpl:(backTo pos (starEach es X.env)).any (·.1) = false:=by rfl) :
  EO X g (.Call (.Name x p) (e :: es) [] pos) (c7 m t):=EO.w (a9u F hr hg hm hk hb .nil a3x ha.pe hdb he hpl) (a4Q hn)
theorem j4:∀ s ds s',a8 s = some (ds,s') → ds.length = 0:=fun s ds s' h=>by cases h; rfl
theorem c5 {a:DE} {r:DA} {n:Nat} (h:∀ s ds s',r s = some (ds,s') → ds.length = n):∀ s ds s',a6 a r s = some (ds,s') → ds.length = n + 1:=fun s ds s' q=>by
 obtain ⟨d,s1,es,h1,h2,h3⟩:=a0W q
 subst h3
 simp [h _ _ _ h2]
end
noncomputable def ItD (K:PySem.W.Frag) (N:Addr → Prop) (fa:Option Addr) (H1:Hp) (J:It) (ds:List D):Prop:=∀ N' fa' H',Car K N fa H1 N' fa' H' → (∀ b u,H1 b = some u → fa ≠ some b → H' b = some u) → ∀ i:Nat,
 (∀ d,ds[i]? = some d → J.go i H' ∧ ∀ x H'',J.yld i H' x H'' → H'' = H' ∧ Rep K N' fa' H' d x) ∧ (ds.length ≤ i → J.stop i H')
noncomputable def liftI (K:PySem.W.Frag) (g:Gh) (f:DA):TI:=fun σ H R=>∃ fa O s ds s',GI K g σ H fa O s ∧ f s = some (ds,s') ∧ ds.length ≤ sizeLine ∧
 ∀ J H' fa' O',StE fa O H fa' O' H' → GI K g σ H' fa' O' s' → ItD K (NN g.F fa' O') fa' H' J ds → R J H'
section
variable {K:PySem.W.Frag} {g:Gh} {σ:L2.St} {H:Hp} {G:Prop}
theorem liftI.elim {f:DA} {R:It → Hp → Prop} (h:liftI K g f σ H R) (k:∀ fa O s ds s',GI K g σ H fa O s → f s = some (ds,s') → ds.length ≤ sizeLine → (∀ J H' fa' O',StE fa O H fa' O' H' → GI K g σ H' fa' O' s' → ItD K (NN g.F fa' O') fa' H' J ds → R J H') → G):G:=by
 obtain ⟨fa,O,s,d,s',a,r,b,c⟩:=h
 exact k fa O s d s' a r b c
end
structure IO (X:Cx) (g:Gh) (tg iter:Expr) (f:DA):Prop where
 pe:PI X tg iter (liftI X.K g f)
noncomputable def K4 (f:DE):DA:=fun s=>(f s).bind fun x=>match x.1 with
 | .lst ds=>some (ds,x.2)
 | .tup ds=>some (ds,x.2)
 | _=>none
noncomputable def X6 (f:DA):DA:=fun s=>(f s).bind fun x=>(W7 x.1).map fun ds=>(ds,x.2)
section
variable {X:Cx} {g:Gh} {tg iter:Expr} {f:DE}
theorem PIw {t t':TI} (h:PI X tg iter t) (w:∀ σ H R,t' σ H R → t σ H R):PI X tg iter t':=fun pins s σ H R I q=>h pins s σ H R I (w σ H R q)
theorem IO.w {f:DA} {t:TI} (h:PI X tg iter t) (w:∀ σ H R,liftI X.K g f σ H R → t σ H R):IO X g tg iter f:=⟨PIw h w⟩
theorem a0g (h:EO X g iter f):IO X g tg iter (K4 f):=IO.w (a49 h.pe) fun σ H R hQ=>by
 refine hQ.elim fun fa O s ds s' I e hz k=>?_
 refine v6 e fun d s1 h1 h2=>?_
 refine ⟨fa,O,s,d,s1,I,h1,fun v H1 f1 O1 a1 I1 r=>?_⟩
 cases d with
 | lst es=>
  cases h2
  simp only [Rep] at r
  obtain ⟨a,xs,rfl,na,q,w⟩:=r
  refine ⟨a,rfl,.inl ⟨⟨xs,SqL.of q⟩,k _ H1 f1 O1 a1 I1 fun N' fa' H' c _ i=>⟨fun d hd=>?_,fun hl=>?_⟩⟩⟩
  ·obtain ⟨x,hx,rx⟩:=Reps.get w hd
   have q':=(c.ls a xs na q).1
   refine ⟨⟨xs,x,SqL.of q',hx⟩,fun y H'' hy=>?_⟩
   obtain ⟨e1,e2⟩:=hy
   have:=e2 xs (SqL.of q')
   rw [hx] at this; cases this
   exact ⟨e1,Rep.go c d x rx⟩
  ·exact ⟨xs,SqL.of (c.ls a xs na q).1,by rw [w.length]; exact hl⟩
 | tup es=>
  cases h2
  simp only [Rep] at r
  obtain ⟨a,xs,rfl,q,w⟩:=r
  refine ⟨a,rfl,.inr ⟨⟨xs,q⟩,k _ H1 f1 O1 a1 I1 fun N' fa' H' c _ i=>⟨fun d hd=>?_,fun hl=>?_⟩⟩⟩
  ·obtain ⟨x,hx,rx⟩:=Reps.get w hd
   have q':=c.tp a xs q
   refine ⟨⟨xs,x,q',hx⟩,fun y H'' hy=>?_⟩
   obtain ⟨e1,e2⟩:=hy
   have:=e2 xs q'
   rw [hx] at this; cases this
   exact ⟨e1,Rep.go c d x rx⟩
  ·exact ⟨xs,c.tp a xs q,by rw [w.length]; exact hl⟩
 | _=>cases h2
theorem b6f {K:PySem.W.Frag} {N:Addr → Prop} {fa:Option Addr} {H1:Hp} (lo:Int) (n:Nat):ItD K N fa H1 (Itr lo n) (ups lo n):=fun N' fa' H' c _ i=>⟨fun d hd=>by
 have hi:i < n:=by have:=(List.getElem?_eq_some_iff.mp hd).1; rwa [W5] at this
 rw [a4F hi] at hd
 cases hd
 refine ⟨hi,fun x H'' hy=>?_⟩
 obtain ⟨e1,e2⟩:=hy
 subst e2
 exact ⟨e1,by simp only [Rep]⟩,fun hl=>by rw [W5] at hl; exact hl⟩
theorem b1U {a:Expr} {fa:DE} {p cpos:Pos} (hgl:Gl X "range") (hm:X.mg "range" = none) (ha:EO X g a fa) (hs1:starEach [a] X.env = [(false,eval a X.env)]:=by rfl) :
  IO X g tg (.Call (.Name "range" p) [a] [] cpos) (X6 (a6 fa a8)):=IO.w (a9D hgl hm (a2C ha i0 hs1).pe hs1) fun σ H R hQ=>by
 refine hQ.elim fun fa O s es s' I q hz k=>?_
 refine v6 q fun ds s1 h1 h2=>?_
 refine N7 h2 fun es' h3 h4=>?_
 cases h4
 obtain ⟨d,s2,rs,e1,e2,e3⟩:=a0W h1
 cases e2
 obtain ⟨j,rfl,j1,j2,rfl⟩:=a8U h3 e3
 refine ⟨fa,O,s,ds,_,I,h1,fun vs H1 f1 O1 a1 I1 r=>?_⟩
 rw [e3] at r
 simp only [Reps,Rep] at r
 obtain ⟨x,ys,rfl,rfl,rfl⟩:=r
 exact ⟨j,rfl,j1,j2,k _ H1 f1 O1 a1 I1 (b6f 0 j.toNat)⟩
end
noncomputable def X5 (sl:List Sl) (i:Nat):Sl:=match sl[i]? with
 | some (Sl.val d)=>Sl.val d
 | _=>Sl.no
noncomputable def Q0 (idx:List Nat) (sl:List Sl):List Sl:=idx.map (X5 sl)
noncomputable def B6 (mk:D → Option (List Sl)) (fc:DT) (fe:DE):List D → Option FS → Option (List D × Option FS)
 | [],fs=>some ([],fs)
 | d :: r,fs=>(mk d).bind fun sl=>(fc ⟨sl,fs⟩).bind fun c=>if c.1 = true then (fe c.2).bind fun y=>(B6 mk fc fe r y.2.fs).map fun z=>(y.1 :: z.1,z.2) else B6 mk fc fe r c.2.fs
noncomputable def G1 (idx:List Nat) (fi:DA) (fc:DT) (fe:DE):DA:=fun s=>(fi s).bind fun x=>if x.1.length ≤ sizeLine then (B6 (fun d=>some (.val d :: Q0 idx x.2.sl)) fc fe x.1 x.2.fs).map fun y=>(y.1,{ x.2 with fs:=y.2 }) else none
noncomputable def FF (g:Gh) (fa:Option Addr) (O:List Addr) (p:Addr):Addr → Prop:=fun b=>NN g.F fa O b ∨ b = p
structure CI (K:PySem.W.Frag) (g:Gh) (f1:Option Addr) (O1:List Addr) (Hd:Hp) (p:Addr) (fa:Option Addr) (H:Hp) (ys:List V) (res:List D) (fs:Option FS):Prop where
 st:Stp f1 [p] Hd fa [p] H
 ls:H p = some (.lst ys)
 rs:Reps K (FF g fa O1 p) fa H res ys
 fd:FeedR (FF g fa O1 p) H fa fs
 nf:fa ≠ some p
section
variable {K:PySem.W.Frag} {g:Gh} {f1 fa fa':Option Addr} {O1:List Addr} {Hd H H':Hp} {p:Addr} {ys:List V} {res:List D} {fs:Option FS}
theorem CI.nofa (c:CI K g f1 O1 Hd p fa H ys res fs):fa ≠ some p:=c.nf
theorem a97 (h0:∀ xs,fa ≠ none → ∀ a,fa = some a → ¬ Rd H a (.tup xs)) (hfz:∀ a,fa = some a → ∀ o u,¬ H a = some (.frz o u)) (a:StE fa [] H fa' [] H'):Car K (FF g fa O1 p) fa H (FF g fa' O1 p) fa' H':=by
 refine ⟨fun b xs n q=>⟨a.same b _ q fun z=>n (.inl (.inr (.inr z))),fun z=>?_⟩,fun b xs q=>?_,fun b xs q=>?_,fun x e=>a.stp.fa_keep e⟩
 ·rcases z with (z | z | z) | z
  ·exact n (.inl (.inl z))
  ·exact n (.inl (.inr (.inl z)))
  ·rcases a.fe with e | ⟨e,h⟩
   ·exact n (.inl (.inr (.inr (e ▸ z))))
   ·rw [h b z] at q; cases q
  ·exact n (.inr z)
 ·refine SqT.stp' a.stp (fun x e ys=>h0 ys (by rw [e]; simp) x e) (fun x hx=>by cases hx) q
 ·rcases q with ⟨o,q⟩ | q
  ·exact .inl ⟨o,a.same _ _ q fun z=>hfz b z _ _ q⟩
  ·exact .inr q
theorem b4u {N:Addr → Prop} (h:FeedR N H fa fs):∀ xs,fa ≠ none → ∀ a,fa = some a → ¬ Rd H a (.tup xs):=fun xs _ a e z=>h.no_tup e z
theorem CI.step (c:CI K g f1 O1 Hd p fa H ys res fs) (a:StE fa [] H fa' [] H') {g':Gh} {σ:L2.St} {s':DS} (hF:∀ b,FF g fa' O1 p b → NN g'.F fa' [] b) (I:GI K g' σ H' fa' [] s'):CI K g f1 O1 Hd p fa' H' ys res s'.fs:=by
 have cr:Car K (FF g fa O1 p) fa H (FF g fa' O1 p) fa' H':=a97 (b4u c.fd) (fun x e o u=>c.fd.no_frz e) a
 refine ⟨c.st.trans ⟨fun b hb=>.inl hb,a.fe,fun b u e _ n=>a.same b u e n,a.mon⟩,a.same p _ c.ls c.nofa,Reps.go cr _ _ c.rs,I.fd.car (K:=K) ⟨fun b xs n q=>⟨q,fun z=>n (hF b z)⟩,fun _ _ q=>q,fun _ _ q=>q,fun _ q=>q⟩ fun _ _=>rfl,fun z=>?_⟩
 rcases a.fe with y | ⟨_,y⟩
 ·rw [y] at z; exact c.nf z
 ·have:=c.ls; rw [y p z] at this; cases this
theorem CI.app (c:CI K g f1 O1 Hd p fa H ys res fs) {N:Addr → Prop} {d:D} {v:V} (hF:∀ b,FF g fa O1 p b → N b) (r:Rep K N fa H d v):CI K g f1 O1 Hd p fa (upd H p (.lst (ys ++ [v]))) (ys ++ [v]) (res ++ [d]) fs:=by
 have cr:Car K (FF g fa O1 p) fa H (FF g fa O1 p) fa (upd H p (.lst (ys ++ [v]))):=by
  refine ⟨fun b xs n q=>⟨by rw [o8 (fun z=>n (.inr z))]; exact q,n⟩,fun b xs q=>?_,fun b xs q=>?_,fun _ q=>q⟩
  ·rcases q with (q | ⟨o,q⟩) | q
   ·exact .inl (.inl (by rw [o8 (fun z=>by rw [z,c.ls] at q; cases q)]; exact q))
   ·exact .inl (.inr ⟨o,by rw [o8 (fun z=>by rw [z,c.ls] at q; cases q)]; exact q⟩)
   ·exact .inr q
  ·rcases q with ⟨o,q⟩ | q
   ·exact .inl ⟨o,by rw [o8 (fun z=>by rw [z,c.ls] at q; cases q)]; exact q⟩
   ·exact .inr q
 have c0:Car K N fa H (FF g fa O1 p) fa H:=⟨fun b xs n q=>⟨q,fun z=>n (hF b z)⟩,fun _ _ q=>q,fun _ _ q=>q,fun _ q=>q⟩
 refine ⟨c.st.trans ⟨fun b hb=>.inl hb,.inl rfl,fun b u e n _=>by rw [o8 (fun z=>n (by simp [z]))]; exact e,fun b z=>?_⟩,B7,?_,c.fd.car cr fun a e=>o8 fun z=>c.nofa (z ▸ e),c.nf⟩
 ·by_cases hb:b = p
  ·subst hb; rw [B7] at z; cases z
  ·rw [o8 hb] at z; exact z
 ·exact Reps.append (Reps.go cr _ _ c.rs) (Reps.one (Rep.go cr _ _ (Rep.go c0 _ _ r)))
end
section
variable {X:Cx} {g:Gh} {scope:Scope} {cl:List (Str × Addr)} {N':List Str} {idx:List Nat} {iter elt tg:Expr} {ifs:List Expr} {pos:Pos} {fi:DA} {fc:DT} {fe:DE}
noncomputable def Z6 (X:Cx) (g:Gh) (ifs:List Expr) (f:DT):Prop:=Z8 X ifs (liftT X.K g f)
noncomputable def E8:DT:=fun s=>some (true,s)
theorem a0O:Z6 X g [] E8:=fun pins s σ H Q I ⟨fa,O,s0,d,s',G,e,k⟩=>a98 pins s σ H Q I (by cases e; exact k H fa O StE.refl G)
theorem a64 {c:Expr} {f:DT} (h:TO X g c f):Z6 X g [c] f:=b3W h.pe
theorem a7A {K:PySem.W.Frag} {N:Addr → Prop} {fa:Option Addr} {H:Hp} {sl:List Sl} {σ:L2.St} {O:List Addr} (h:SlR K N fa H sl σ O):∀ idx:List Nat,SlR K N fa H (Q0 idx sl) (idx.map fun i=>(σ[i]?).join) []
 | []=>by simp [Q0,SlR]
 | i :: r=>by
  have ih:=a7A h r
  have go:∀ e:sl[i]? = none ∨ (∃ z,sl[i]? = some z ∧ ∀ d,z ≠ .val d),X5 sl i = .no:=fun e=>by
   unfold X5
   rcases e with e | ⟨z,e,n⟩
   ·rw [e]
   ·rw [e]
    cases z with
    | val d=>exact absurd rfl (n d)
    | no=>rfl
    | own ds=>rfl
  show SlR K N fa H (X5 sl i :: Q0 r sl) ((σ[i]?).join :: r.map fun i=>(σ[i]?).join) []
  cases e:sl[i]? with
  | none=>
   rw [go (.inl e)]
   simp only [SlR]
   exact ⟨_,_,rfl,ih⟩
  | some z=>
   cases z with
   | no=>
    rw [go (.inr ⟨_,e,fun d z=>by cases z⟩)]
    simp only [SlR]
    exact ⟨_,_,rfl,ih⟩
   | own ds=>
    rw [go (.inr ⟨_,e,fun d z=>by cases z⟩)]
    simp only [SlR]
    exact ⟨_,_,rfl,ih⟩
   | val d=>
    obtain ⟨u,e1,q⟩:=SlR.val h e
    have ec:X5 sl i = .val d:=by unfold X5; rw [e]
    rw [ec]
    simp only [SlR]
    exact ⟨u,_,by rw [e1]; rfl,q,ih⟩
noncomputable def b0G (mk:List Sl → D → Option (List Sl)) (fi:DA) (fc:DT) (fe:DE):DA:=fun s=>(fi s).bind fun x=>if x.1.length ≤ sizeLine then (B6 (mk x.2.sl) fc fe x.1 x.2.fs).map fun y=>(y.1,{ x.2 with fs:=y.2 }) else none
theorem a8k {n:Nat} {G:TG} {mk:List Sl → D → Option (List Sl)} (hG:∀ (N:Addr → Prop) (fa:Option Addr) (sl:List Sl) (d:D) (sl0:List Sl) (x:V) (σ:L2.St) (H:Hp) (Q:L2.St → Hp → Prop),mk sl d = some sl0 → Rep X.K N fa H d x → SlR X.K N fa H (Q0 idx sl) (idx.map fun i=>(σ[i]?).join) [] →
  (∀ σ':L2.St,(σ'.length = (C7 n idx σ).length ∧ ∀ (j:Nat) (v:V),(C7 n idx σ)[j]? = some (some v) → σ'[j]? = some (some v)) → SlR X.K N fa H sl0 σ' [] → Q σ' H) → G x (C7 n idx σ) H Q):∀ σ H Q,liftF X.K g (b0G mk fi fc fe) σ H Q → Z3 n idx (liftI X.K g fi) G (fun σ H Q=>∃ g',liftT X.K g' fc σ H Q) (fun σ H Q=>∃ g',liftE X.K g' fe σ H Q) σ H Q:=by
 intro σ H Q ⟨fa,O,s,res,s',I,e,kk⟩
 refine v6 e fun ds s1 h1 h2=>?_
 by_cases hz:ds.length ≤ sizeLine
 ·simp only [if_pos hz] at h2
  refine mapP h2 fun out fsf h3 h4=>?_
  simp only [Prod.mk.injEq] at h4
  obtain ⟨e1,e2⟩:=h4
  subst e1; subst e2
  refine ⟨fa,O,s,ds,s1,I,h1,hz,fun J H1 f1 O1 a1 I1 J1 p hp=>?_⟩
  have stE:∀ {fa':Option Addr} {H':Hp},Stp f1 [p] (upd H1 p (.lst [])) fa' [p] H' → StE f1 O1 H1 fa' O1 H':=fun {fa' H'} a=>by
   refine ⟨fun _ h=>h,?_,fun b u e n=>?_,fun b z=>(C1 (fa:=f1) (O:=O1) hp).mon b (a.mon b z)⟩
   ·rcases a.fe with e | ⟨e,h⟩
    ·exact .inl e
    ·exact .inr ⟨e,fun x z=>(C1 (fa:=f1) (O:=O1) hp).mon x (h x z)⟩
   ·have nb:b ≠ p:=M3 e hp
    exact a.same b u (by rw [o8 nb]; exact e) (by simp [nb]) n
  have carP:∀ {fa':Option Addr} {H':Hp},Stp f1 [p] (upd H1 p (.lst [])) fa' [p] H' → Car X.K (NN g.F f1 O1) f1 H1 (FF g fa' O1 p) fa' H':=fun {fa' H'} a=>by
   have c:=I1.car (stE a).stp
   refine ⟨fun b xs n q=>?_,c.tp,c.fz,c.fe⟩
   obtain ⟨q',n'⟩:=c.ls b xs n q
   refine ⟨q',?_⟩
   rintro (z | z)
   ·exact n' z
   ·subst z; rw [hp] at q; cases q
  refine ⟨fun i m H'=>m = ds.length - i ∧ i ≤ ds.length ∧ ∃ fa' ys res' rest fs',CI X.K g f1 O1 (upd H1 p (.lst [])) p fa' H' ys res' fs' ∧ B6 (mk s1.sl) fc fe (ds.drop i) fs' = some (rest,fsf) ∧ res' ++ rest = out ∧ ys.length ≤ i,?_,?_⟩
  ·refine ⟨ds.length,by simp,Nat.zero_le _,f1,[],[],out,s1.fs,⟨Stp.refl,B7,Reps.nil,?_,fun z=>I1.fd.tracked z hp⟩,by simpa using h3,rfl,Nat.le_refl _⟩
   exact I1.fd.car (a1f I1 hp) (I1.fd.same_new hp)
  ·rintro i m H' ⟨rfl,hil,fa',ys,res',rest,fs',c,hd,ho,hy⟩
   have Hcar:=carP c.st
   obtain ⟨jgo,jstop⟩:=J1 _ _ _ Hcar (fun b u e n=>(stE c.st).same b u e n) i
   by_cases hlt:i < ds.length
   ·have hdi:ds[i]? = some ds[i]:=List.getElem?_eq_getElem hlt
    obtain ⟨go,yl⟩:=jgo _ hdi
    refine .inr ⟨go,fun x H'' hx=>?_⟩
    obtain ⟨e1,rx⟩:=yl x H'' hx
    subst e1
    rw [a9G hdi,B6] at hd
    refine L5 hd fun sl0 hm hd=>?_
    refine v6 hd fun b sb h5 h6=>?_
    have hNN:∀ b,NN (FF g fa' O1 p) fa' [] b → FF g fa' O1 p b:=fun b z=>by
     rcases z with z | z | z
     ·exact z
     ·cases z
     ·exact .inl (.inr (.inr z))
    have cN:Car X.K (FF g fa' O1 p) fa' H'' (NN (FF g fa' O1 p) fa' []) fa' H'':=⟨fun b xs n q=>⟨q,fun z=>n (hNN b z)⟩,fun _ _ q=>q,fun _ _ q=>q,fun _ q=>q⟩
    have trk:∀ b,FF g fa' O1 p b → H'' b ≠ none:=fun b z=>by
     rcases z with (z | z | z) | z
     ·exact fun w=>I1.trF z ((stE c.st).mon b w)
     ·obtain ⟨xs,e⟩:=I1.owned z
      exact fun w=>by have:=(stE c.st).mon b w; rw [e] at this; cases this
     ·exact c.fd.tracked z
     ·rw [z,c.ls]; simp
    refine hG (NN (FF g fa' O1 p) fa' []) fa' s1.sl ds[i] sl0 x σ H'' _ hm (Rep.go cN _ _ rx) (SlR.go cN (fun a xs ha=>by cases ha) (a7A (SlR.go Hcar (fun a xs ha e=>(stE c.st).same a _ e fun z=>I1.nf a z ha) I1.sl) idx)) fun σ1 hσ hsl=>⟨hσ,?_⟩
    have G0:GI X.K ⟨FF g fa' O1 p,H'',fa'⟩ σ1 H'' fa' [] ⟨sl0,fs'⟩:=⟨List.nodup_nil,hsl,fun b hb=>(by cases hb),Stp.refl,trk,fun a ha=>.inl (.inr (.inr ha)),c.fd.car cN fun _ _=>rfl,fun _ _ z=>(by cases z)⟩
    refine ⟨⟨FF g fa' O1 p,H'',fa'⟩,fa',[],_,b,sb,G0,h5,fun H3 f3 O3 a3 I3=>?_⟩
    have eO:O3 = []:=List.eq_nil_iff_forall_not_mem.mpr fun z hz=>by have:=a3.sub z hz; cases this
    subst eO
    have hF3:∀ b,FF g f3 O1 p b → NN (FF g fa' O1 p) f3 [] b:=fun b z=>by
     rcases z with (z | z | z) | z
     ·exact .inl (.inl (.inl z))
     ·exact .inl (.inl (.inr (.inl z)))
     ·exact .inr (.inr z)
     ·exact .inl (.inr z)
    have c3:=c.step a3 hF3 I3
    cases b with
    | false=>
     rw [if_neg Bool.false_ne_true] at h6
     refine b3q ?_
     exact ⟨ds.length - (i + 1),by omega,rfl,hlt,f3,ys,res',rest,sb.fs,c3,h6,ho,Nat.le_succ_of_le hy⟩
    | true=>
     rw [if_pos rfl] at h6
     refine b2k ?_
     refine v6 h6 fun dd sd h7 h8=>?_
     refine mapP h8 fun rest2 fs2 h9 h10=>?_
     simp only [Prod.mk.injEq] at h10
     refine ⟨⟨FF g fa' O1 p,H'',fa'⟩,f3,[],sb,dd,sd,I3,h7,fun v H4 f4 O4 a4 I4 r4=>?_⟩
     have eO:O4 = []:=List.eq_nil_iff_forall_not_mem.mpr fun z hz=>by have:=a4.sub z hz; cases this
     subst eO
     have hF4:∀ b,FF g f4 O1 p b → NN (FF g fa' O1 p) f4 [] b:=fun b z=>by
      rcases z with (z | z | z) | z
      ·exact .inl (.inl (.inl z))
      ·exact .inl (.inl (.inr (.inl z)))
      ·exact .inr (.inr z)
      ·exact .inl (.inr z)
     have c4:=c3.step a4 hF4 I4
     refine ⟨ys,c4.ls,by omega,ds.length - (i + 1),by omega,rfl,hlt,f4,ys ++ [v],res' ++ [dd],rest2,sd.fs,c4.app hF4 r4,by rw [h9,h10.2],?_,by simp; omega⟩
     rw [← ho,← h10.1]; simp
   ·refine .inl ⟨jstop (Nat.le_of_not_lt hlt),?_⟩
    rw [List.drop_eq_nil_of_le (Nat.le_of_not_lt hlt),B6] at hd
    simp only [Option.some.injEq,Prod.mk.injEq] at hd
    obtain ⟨hd1,hd2⟩:=hd
    subst hd1; subst hd2
    rw [List.append_nil] at ho
    subst ho
    have aE:=stE c.st
    have car1:=I1.car aE.stp
    have sameO:∀ a xs,a ∈ O1 → H1 a = some (.lst xs) → H' a = some (.lst xs):=fun a xs ha e=>aE.same a _ e fun z=>I1.nf a z ha
    refine kk p ys H' fa' O1 (a1.trans aE) ⟨⟨I1.nd,SlR.go car1 sameO I1.sl,I1.fr,I1.st.trans ⟨fun b hb=>(by cases hb),aE.fe,fun b u e _ n=>aE.same b u e n,aE.mon⟩,I1.tr,I1.ff,?_,I1.nf_step aE.fe⟩,c.ls,SlR.go Hcar sameO I1.sl,c.fd,c.rs,c.nf⟩ (a1.mon p hp)
    exact c.fd.car (K:=X.K) ⟨fun b xs n q=>⟨q,fun z=>n (.inl z)⟩,fun _ _ q=>q,fun _ _ q=>q,fun _ q=>q⟩ fun _ _=>rfl
 ·simp only [if_neg hz] at h2; cases h2
theorem a9h (k:CompOk X scope cl N' 1 idx):∀ σ H Q,liftF X.K g (G1 idx fi fc fe) σ H Q → Z3 1 idx (liftI X.K g fi) (L4 0) (fun σ H Q=>∃ g',liftT X.K g' fc σ H Q) (fun σ H Q=>∃ g',liftE X.K g' fe σ H Q) σ H Q:=
 a8k (mk:=fun sl d=>some (.val d :: Q0 idx sl)) fun N fa sl d sl0 x σ H Q hm rx hc kk=>by
  cases hm
  refine kk _ ⟨by simp,fun j v hj=>?_⟩ ?_
  ·cases j with
   | zero=>simp [C7] at hj
   | succ j=>rw [List.getElem?_set_ne (by simp)]; exact hj
  ·have eb:(C7 1 idx σ).set 0 (some x) = some x :: idx.map fun i=>(σ[i]?).join:=by simp [C7]
   rw [eb]
   simp only [SlR]
   exact ⟨x,_,rfl,rx,hc⟩
theorem a3u (hc:X.calm = true) (k:CompOk X scope cl N' 1 idx) (hi:IO X g tg iter fi) (hg:∀ C s0 H0 ex,PG (blk X N' scope cl C s0 H0 ex) tg (L4 0))
  (ht:∀ C s0 H0 ex g',Z6 (blk X N' scope cl C s0 H0 ex) g' ifs fc) (he:∀ C s0 H0 ex g',EO (blk X N' scope cl C s0 H0 ex) g' elt fe) (hs:∀ x,foldedSetIterable iter X.env x = pure x:=by intro _; rfl) :
  FO X g (.ListComp elt [⟨tg,iter,ifs,0⟩] scope pos) (G1 idx fi fc fe):=by
 exact FO.w (a6y (tc:=fun σ H Q=>∃ g',liftT X.K g' fc σ H Q) (te:=fun σ H Q=>∃ g',liftE X.K g' fe σ H Q) hc k hi.pe hg (fun C s0 H0 ex pins s σ H Q I ⟨g',h⟩=>ht C s0 H0 ex g' pins s σ H Q I h) (fun C s0 H0 ex pins s σ H Q I ⟨g',h⟩=>(he C s0 H0 ex g').pe pins s σ H Q I h) hs) (a9h k)
end
end DL
namespace HT2
open PySem PyProof.Rows
theorem cat_tup0 {prog:Program} {w:World} {A:Around} {E:Value → Shared → Prop} {s:Shared} {t b:Addr} {ws:List Value} {Q:Value → Shared → Prop} (ht:IsTup s.heap t ([]:List Value).toArray) (hb:IsTup s.heap b ws.toArray)
  (h:Q (.ref b) s):wpAny (model prog w) A (binaryOp .Add (.ref t) (.ref b)) Q E s:=by
 obtain ⟨⟨cls,dd,data,sl⟩,ho,hc,n,hd⟩:=id ht
 obtain ⟨⟨cls2,dd2,data2,sl2⟩,ho2,hc2,n2,hd2⟩:=id hb
 simp only at hc hd hc2 hd2
 subst hc hd hc2 hd2
 exact concat_meets ⟨_,ho,rfl⟩ ⟨_,ho2,rfl⟩ noFill_tuple_add seq_tuple_add PySem.F.slot_tuple_add PySem.F.entry_tuple_add (PySem.F.args_tuple_add_2 _ _)
  (tuple_addW0 t b _ ws.toArray n n2 dd dd2 sl sl2 (by simp)) ⟨ho,ho2,h⟩
end HT2
namespace DL
open PySem PySem.Spec L2
noncomputable def A8 (i:Int):Bool:=decide (i.natAbs.log2 < 1000000)
theorem a6r {i:Int} (h:A8 i = true):Builtin.Int.intBits i ≤ 2 ^ 20:=by
 have h1:i.natAbs.log2 < 1000000:=of_decide_eq_true h
 unfold Builtin.Int.intBits
 split
 ·exact Nat.zero_le _
 ·have e:(2:Nat) ^ 20 = 1048576:=by decide
  rw [e]; omega
noncomputable def F8 (j:Int):Bool:=decide (j ≠ 0) && decide (j.natAbs.log2 < 9000)
section
variable {X:Cx}
theorem op_mulB:OpR X (binaryOp .Mult) (rI (fun i j=>A8 i = true ∧ A8 j = true) fun i j=>.int (i * j)):=opI fun _ _ _ _ _ _ _ hc q=>PyProof.Rows.mul_int q (IntMulOk.of_bits (a6r hc.1) (a6r hc.2))
theorem P6:OpR X (binaryOp .FloorDiv) (rI (fun _ j=>F8 j = true) fun i j=>.int (i.fdiv j)):=opI fun i j _ _ _ _ _ hc q=>by
 have hc':F8 j = true:=hc
 unfold F8 at hc'
 rw [Bool.and_eq_true] at hc'
 exact PyProof.Rows.floordiv_int (of_decide_eq_true hc'.1) q (.inl (PyProof.noPylong_of_log2 (of_decide_eq_true hc'.2)))
noncomputable def a9a (K:PySem.W.Frag):R2:=fun x y H Q=>∃ a b ys,x = .ref a ∧ y = .ref b ∧ SqT K H a [] ∧ SqT K H b ys ∧ Q (.ref b) H
theorem op_catT0:OpR X (binaryOp .Add) (a9a X.K):=by
 intro pins s σ H x y v u Q I rx ry h
 obtain ⟨a,b,ys,rfl,rfl,ha,hb,q⟩:=h
 cases rx
 cases ry
 obtain ⟨its,r1,ht,_⟩:=I.tuple ha
 obtain ⟨its2,r2,ht2,_⟩:=I.tuple hb
 cases r1
 exact HT2.cat_tup0 ht ht2 ⟨.ref b,H,I,rfl,q⟩
noncomputable def a7Q (K:PySem.W.Frag):R2:=fun x y H Q=>(rI0 (fun i j=>.int (i + j)) x y H Q ∨ (∃ i j,x = .str i ∧ y = .str j ∧ i.length + j.length ≤ sizeLine ∧ Q (.str (i ++ j)) H)) ∨ ((a9a K x y H Q ∨ a5R K x y H Q) ∨ a33 x y H Q)
theorem G9:OpR X (binaryOp .Add) (a7Q X.K):=(op_add.or a9X).or ((op_catT0.or b2f).or a2T)
noncomputable def a86:R2:=fun x y H Q=>rI (fun i j=>A8 i = true ∧ A8 j = true) (fun i j=>.int (i * j)) x y H Q ∨ a6N x y H Q
theorem o0:OpR X (binaryOp .Mult) a86:=op_mulB.or b3L
end
noncomputable def t6:D → D → Option D
 | .int i,.int j=>some (.int (i + j))
 | .str x,.str y=>if x.length + y.length ≤ sizeLine then some (.str (x ++ y)) else none
 | .tup xs,.tup ys=>if xs.length + ys.length ≤ sizeLine then some (.tup (xs ++ ys)) else none
 | .lst xs,.lst ys=>if xs.length + ys.length ≤ sizeLine then some (.lst (xs ++ ys)) else none
 | _,_=>none
noncomputable def p9:D → D → Option D
 | .int i,.int j=>some (.int (i - j))
 | _,_=>none
noncomputable def k0:D → D → Option D
 | .int i,.int j=>if A8 i && A8 j then some (.int (i * j)) else none
 | .lst xs,.int k=>if -(2 ^ 63) ≤ k ∧ k < 2 ^ 63 ∧ xs.length * k.toNat ≤ sizeLine then some (.lst (List.replicate k.toNat xs).flatten) else none
 | _,_=>none
noncomputable def F2:D → D → Option D
 | .int i,.int j=>if F8 j then some (.int (i.fdiv j)) else none
 | _,_=>none
noncomputable def D0:D → D → Option D
 | .int i,.int j=>if j ≠ 0 then some (.int (i.fmod j)) else none
 | _,_=>none
noncomputable def a0t:D → D → Option D
 | .int i,.int j=>if 0 ≤ j ∧ j ≤ 1000000 ∧ i.natAbs < 2 ^ 64 then some (.int (i ^ j.toNat)) else none
 | _,_=>none
noncomputable def p8:D → Option D
 | .int i=>some (.int (-i))
 | _=>none
noncomputable def j8 (p:Int → Int → Bool):D → D → Option D
 | .int i,.int j=>some (.bl (p i j))
 | _,_=>none
noncomputable def Z0:D → D → Option D
 | .non,.non=>some (.bl true)
 | .feed,.non=>none
 | .scr _,.non=>none
 | .fn _,.non=>none
 | _,.non=>some (.bl false)
 | _,_=>none
theorem a61 {K:PySem.W.Frag} {N:Addr → Prop} {fa:Option Addr} {H:Hp} {ds:List D} {xs:List V} (r:Reps K N fa H ds xs):xs = [] ↔ ds = []:=by
 have:=r.length
 cases xs <;> cases ds <;> simp_all
theorem Reps.flat {K:PySem.W.Frag} {N:Addr → Prop} {fa:Option Addr} {H:Hp} {ds:List D} {xs:List V} (r:Reps K N fa H ds xs):∀ k:Nat,Reps K N fa H (List.replicate k ds).flatten (List.replicate k xs).flatten
 | 0=>by simp [Reps]
 | k + 1=>by
  simp only [List.replicate_succ,List.flatten_cons]
  exact Reps.append r (Reps.flat r k)
section
variable {K:PySem.W.Frag}
theorem J4:R2D K (a7Q K) t6:=by
 intro g σ H fa O s x y d1 d2 d Q I r1 r2 e k
 cases d1 with
 | int i=>
  cases d2 with
  | int j=>
   cases e
   simp only [RepB,Rep] at r1 r2
   exact .inl (.inl ⟨i,j,r1,r2,k _ H StE.refl I (by simp only [Rep])⟩)
  | _=>cases e
 | str a=>
  cases d2 with
  | str b=>
   have e:(if a.length + b.length ≤ sizeLine then some (D.str (a ++ b)) else none) = some d:=e
   by_cases h:a.length + b.length ≤ sizeLine
   ·rw [if_pos h] at e
    cases e
    simp only [RepB,Rep] at r1 r2
    refine .inl (.inr ⟨a,b,r1.1,r2.1,h,k _ H StE.refl I ?_⟩)
    simp only [Rep]
    exact ⟨trivial,by rw [strLen_append]; exact h⟩
   ·rw [if_neg h] at e; cases e
  | _=>cases e
 | tup as=>
  cases d2 with
  | tup bs=>
   have e:(if as.length + bs.length ≤ sizeLine then some (D.tup (as ++ bs)) else none) = some d:=e
   by_cases h:as.length + bs.length ≤ sizeLine
   ·rw [if_pos h] at e
    cases e
    simp only [RepB,Rep] at r1 r2
    obtain ⟨a,xs,rfl,qa,wa⟩:=r1
    obtain ⟨b,ys,rfl,qb,wb⟩:=r2
    by_cases hx:xs = []
    ·have ha:=(a61 wa).mp hx
     subst hx; subst ha
     refine .inr (.inl (.inl ⟨a,b,ys,rfl,rfl,qa,qb,k _ H StE.refl I ?_⟩))
     simp only [Rep,List.nil_append]
     exact ⟨b,ys,rfl,qb,wb⟩
    ·refine .inr (.inl (.inr ⟨a,b,xs,ys,rfl,rfl,qa,qb,hx,by rw [wa.length,wb.length]; exact h,fun hy=>?_,fun hy p hp=>?_⟩))
     ·have hb:=(a61 wb).mp hy
      subst hy; subst hb
      refine k _ H StE.refl I ?_
      simp only [Rep,List.append_nil]
      exact ⟨a,xs,rfl,qa,wa⟩
     ·have a2:StE fa O H fa O (upd H p (.tup (xs ++ ys))):=C1 hp
      refine k _ _ a2 (I.new hp) ?_
      simp only [Rep]
      exact ⟨p,_,rfl,SqT.of B7,Reps.stp I a2.stp (Reps.append wa wb)⟩
   ·rw [if_neg h] at e; cases e
  | _=>cases e
 | lst as=>
  cases d2 with
  | lst bs=>
   have e:(if as.length + bs.length ≤ sizeLine then some (D.lst (as ++ bs)) else none) = some d:=e
   by_cases h:as.length + bs.length ≤ sizeLine
   ·rw [if_pos h] at e
    cases e
    obtain ⟨a,xs,rfl,_,qa,wa⟩:=r1
    obtain ⟨b,ys,rfl,_,qb,wb⟩:=r2
    refine .inr (.inr ⟨a,b,xs,ys,rfl,rfl,qa,qb,by rw [wa.length,wb.length]; exact h,fun p hp=>?_⟩)
    have a2:StE fa O H fa O (upd H p (.lst (xs ++ ys))):=C1 hp
    have L:=R6 I hp (Reps.append wa wb)
    refine k _ _ a2 L.gi ?_
    simp only [Rep]
    exact ⟨p,_,rfl,a13 I a2 L.gi hp L.nf,B7,Reps.stp I a2.stp (Reps.append wa wb)⟩
   ·rw [if_neg h] at e; cases e
  | _=>cases e
 | _=>cases e
noncomputable def a1I:D → D → Option (List D)
 | .lst xs,.lst ys=>if xs.length + ys.length ≤ sizeLine then some (xs ++ ys) else none
 | _,_=>none
theorem a7M:R2F K a33 a1I:=by
 intro g σ H fa O s x y d1 d2 ds Q I r1 r2 e k
 cases d1 with
 | lst as=>
  cases d2 with
  | lst bs=>
   simp only [a1I] at e
   by_cases h:as.length + bs.length ≤ sizeLine
   ·rw [if_pos h] at e
    cases e
    obtain ⟨a,xs,rfl,_,qa,wa⟩:=r1
    obtain ⟨b,ys,rfl,_,qb,wb⟩:=r2
    refine ⟨a,b,xs,ys,rfl,rfl,qa,qb,by rw [wa.length,wb.length]; exact h,fun p hp=>?_⟩
    exact k p _ _ (C1 hp) (R6 I hp (Reps.append wa wb)) hp
   ·rw [if_neg h] at e; cases e
  | _=>cases e
 | _=>cases e
theorem a4Z {C:Int → Int → Prop} {f:Int → Int → D} {f':Int → Int → V} {p:D → D → Option D} (hp:∀ d1 d2 d,p d1 d2 = some d → ∃ i j,d1 = .int i ∧ d2 = .int j ∧ C i j ∧ d = f i j) (hf:∀ N fa H i j,Rep K N fa H (f i j) (f' i j)):R2D K (rI C f') p:=by
 intro g σ H fa O s x y d1 d2 d Q I r1 r2 e k
 obtain ⟨i,j,rfl,rfl,c,rfl⟩:=hp d1 d2 d e
 simp only [RepB,Rep] at r1 r2
 exact ⟨i,j,r1,r2,c,k _ H StE.refl I (hf _ _ _ _ _)⟩
theorem a7y {f:Int → Int → D} {f':Int → Int → V} {p:D → D → Option D} (hp:∀ d1 d2 d,p d1 d2 = some d → ∃ i j,d1 = .int i ∧ d2 = .int j ∧ d = f i j) (hf:∀ N fa H i j,Rep K N fa H (f i j) (f' i j)):R2D K (rI0 f') p:=by
 intro g σ H fa O s x y d1 d2 d Q I r1 r2 e k
 obtain ⟨i,j,rfl,rfl,rfl⟩:=hp d1 d2 d e
 simp only [RepB,Rep] at r1 r2
 exact ⟨i,j,r1,r2,k _ H StE.refl I (hf _ _ _ _ _)⟩
noncomputable def a3K (F:Int → Int → Option D):D → D → Option D
 | .int i,.int j=>F i j
 | _,_=>none
theorem a8i {F:Int → Int → Option D} {d1 d2 d:D} (e:a3K F d1 d2 = some d):∃ i j,d1 = .int i ∧ d2 = .int j ∧ F i j = some d:=by
 cases d1 with
 | int i=>
  cases d2 with
  | int j=>exact ⟨i,j,rfl,rfl,e⟩
  | _=>cases e
 | _=>cases e
theorem a3V {C:Int → Int → Prop} [∀ i j,Decidable (C i j)] {f:Int → Int → D} {d1 d2 d:D} (e:a3K (fun i j=>if C i j then some (f i j) else none) d1 d2 = some d):∃ i j,d1 = .int i ∧ d2 = .int j ∧ C i j ∧ d = f i j:=by
 obtain ⟨i,j,h1,h2,h3⟩:=a8i e
 by_cases h:C i j
 ·have h3:(if C i j then some (f i j) else none) = some d:=h3
  rw [if_pos h] at h3
  exact ⟨i,j,h1,h2,h,(Option.some.inj h3).symm⟩
 ·have h3:(if C i j then some (f i j) else none) = some d:=h3
  rw [if_neg h] at h3
  cases h3
theorem a8e {f:Int → Int → D} {d1 d2 d:D} (e:a3K (fun i j=>some (f i j)) d1 d2 = some d):∃ i j,d1 = .int i ∧ d2 = .int j ∧ d = f i j:=by
 obtain ⟨i,j,h1,h2,h3⟩:=a8i e
 exact ⟨i,j,h1,h2,(Option.some.inj h3).symm⟩
theorem D5:R2D K (rI0 fun i j=>.int (i - j)) p9:=a7y (f:=fun i j=>.int (i - j)) (fun d1 d2 d e=>a8e (f:=fun i j=>.int (i - j)) e) fun _ _ _ _ _=>by simp only [Rep]
theorem B9 (p:Int → Int → Bool):R2D K (rI0 fun i j=>.bl (p i j)) (j8 p):=a7y (f:=fun i j=>.bl (p i j)) (fun d1 d2 d e=>a8e (f:=fun i j=>.bl (p i j)) e) fun _ _ _ _ _=>by simp only [Rep]
theorem o6:R2D K a86 k0:=by
 intro g σ H fa O s x y d1 d2 d Q I r1 r2 e k
 cases d1 with
 | int i=>
  cases d2 with
  | int j=>
   have e:(if A8 i && A8 j then some (D.int (i * j)) else none) = some d:=e
   by_cases h:(A8 i && A8 j) = true
   ·rw [if_pos h] at e
    cases e
    rw [Bool.and_eq_true] at h
    simp only [RepB,Rep] at r1 r2
    exact .inl ⟨i,j,r1,r2,h,k _ H StE.refl I (by simp only [Rep])⟩
   ·rw [if_neg h] at e; cases e
  | _=>cases e
 | lst as=>
  cases d2 with
  | int j=>
   simp only [k0] at e
   by_cases h:-(2 ^ 63) ≤ j ∧ j < 2 ^ 63 ∧ as.length * j.toNat ≤ sizeLine
   ·rw [if_pos h] at e
    cases e
    obtain ⟨a,xs,rfl,_,qa,wa⟩:=r1
    simp only [RepB,Rep] at r2
    subst r2
    refine .inr ⟨a,j,xs,rfl,rfl,qa,h.1,h.2.1,by rw [wa.length]; exact h.2.2,fun p hp=>?_⟩
    have a2:StE fa O H fa O (upd H p (.lst (List.replicate j.toNat xs).flatten)):=C1 hp
    have L:=R6 I hp (wa.flat j.toNat)
    refine k _ _ a2 L.gi ?_
    simp only [Rep]
    exact ⟨p,_,rfl,a13 I a2 L.gi hp L.nf,B7,Reps.stp I a2.stp (wa.flat j.toNat)⟩
   ·rw [if_neg h] at e; cases e
  | _=>cases e
 | _=>cases e
theorem O0:R2D K (rI (fun _ j=>F8 j = true) fun i j=>.int (i.fdiv j)) F2:=a4Z (f:=fun i j=>.int (i.fdiv j)) (fun d1 d2 d e=>a3V (C:=fun _ j=>F8 j = true) (f:=fun i j=>.int (i.fdiv j)) e) fun _ _ _ _ _=>by simp only [Rep]
theorem Q5:R2D K (rI (fun _ j=>j ≠ 0) fun i j=>.int (i.fmod j)) D0:=a4Z (f:=fun i j=>.int (i.fmod j)) (fun d1 d2 d e=>a3V (C:=fun _ j=>j ≠ 0) (f:=fun i j=>.int (i.fmod j)) e) fun _ _ _ _ _=>by simp only [Rep]
theorem b2G:R2D K (rI a7R fun i j=>.int (i ^ j.toNat)) a0t:=a4Z (f:=fun i j=>.int (i ^ j.toNat)) (fun d1 d2 d e=>a3V (C:=fun i j=>0 ≤ j ∧ j ≤ 1000000 ∧ i.natAbs < 2 ^ 64) (f:=fun i j=>.int (i ^ j.toNat)) e) fun _ _ _ _ _=>by simp only [Rep]
theorem L0:R1D K (rU fun i=>.int (-i)) p8:=by
 intro g σ H fa O s x d1 d Q I r1 e k
 cases d1 with
 | int i=>cases e; simp only [RepB,Rep] at r1; exact ⟨i,r1,k _ H StE.refl I (by simp only [Rep])⟩
 | _=>cases e
noncomputable def a7S:D → Bool
 | .non=>true
 | _=>false
theorem b49 {N:Addr → Prop} {fa:Option Addr} {H:Hp} {d:D} {x:V} (r:RepB K N fa H d x):decide (x = .non) = a7S d:=by
 cases d with
 | non=>simp only [RepB,Rep] at r; subst r; rfl
 | bl b=>simp only [RepB,Rep] at r; subst r; rfl
 | int i=>simp only [RepB,Rep] at r; subst r; rfl
 | str x=>simp only [RepB,Rep] at r; obtain ⟨r,_⟩:=r; subst r; rfl
 | tup ds=>simp only [RepB,Rep] at r; obtain ⟨a,xs,rfl,_⟩:=r; rfl
 | lst ds=>obtain ⟨a,xs,rfl,_⟩:=r; rfl
 | feed=>simp only [RepB,Rep] at r; obtain ⟨a,_,rfl⟩:=r; rfl
 | scr ns=>simp only [RepB,Rep] at r; obtain ⟨_,a,rfl,_⟩:=r; rfl
 | fn x=>simp only [RepB,Rep] at r; obtain ⟨a,rfl,_⟩:=r; rfl
theorem a72:R2D K (fun x y H Q=>y = .non ∧ Q (.bl (decide (x = .non))) H) Z0:=by
 intro g σ H fa O s x y d1 d2 d Q I r1 r2 e k
 have h2:d2 = .non:=by cases d1 <;> cases d2 <;> first | rfl | cases e
 subst h2
 simp only [RepB,Rep] at r2
 refine ⟨r2,k _ H StE.refl I ?_⟩
 rw [b49 r1]
 cases d1 <;> first | (cases e; simp [Rep,a7S]; done) | cases e
end
section
variable {X:Cx} {pins:List (Addr × Obj)} {σ:L2.St} {H:Hp} {s:Shared} {N:Addr → Prop} {fa:Option Addr}
mutual
theorem T4 (I:Inv X pins σ H s):∀ (d:D) (v:V) (u:Value),O8 X.K N fa H d v → RelV v u → d.plain = true → ∃ as,Reads s.heap u d.py as
 | .non,v,u,r,ru,_=>by
  simp only [O8,Rep] at r; subst r; cases ru
  simp only [D.py]; exact ⟨[],.none⟩
 | .bl b,v,u,r,ru,_=>by
  simp only [O8,Rep] at r; subst r; cases ru
  simp only [D.py]; exact ⟨[],.bool b⟩
 | .int i,v,u,r,ru,_=>by
  simp only [O8,Rep] at r; subst r
  obtain ⟨t,rfl⟩:=ru
  simp only [D.py]; exact ⟨[],.int i t⟩
 | .str x,v,u,r,ru,_=>by
  simp only [O8,Rep] at r; obtain ⟨r,_⟩:=r; subst r
  obtain ⟨t,rfl⟩:=ru
  simp only [D.py]; exact ⟨[],.str x t⟩
 | .tup ds,v,u,r,ru,hp=>by
  simp only [O8,Rep] at r
  obtain ⟨a,xs,rfl,q,w⟩:=r
  cases ru
  obtain ⟨its,rv,⟨o,h1,h2,n,h3⟩,_⟩:=I.tuple q
  obtain ⟨as,ra⟩:=a5s I ds xs its w rv (by simpa only [D.plain] using hp)
  simp only [D.py]
  exact ⟨as,.tuple h1 h2 h3 (by simpa using ra)⟩
 | .lst ds,v,u,r,ru,hp=>by
  obtain ⟨a,xs,rfl,q,w⟩:=r
  cases ru
  obtain ⟨its,rv,⟨o,n,h1,h2,h3,h4⟩,_⟩:=I.list (SqL.of q)
  obtain ⟨as,ra⟩:=a5s I ds xs its w rv (by simpa only [D.plain] using hp)
  simp only [D.py]
  exact ⟨_,.list h1 h2 h4 (by simpa using ra)⟩
 | .feed,v,u,r,ru,hp=>by simp only [D.plain] at hp; cases hp
 | .scr _,v,u,r,ru,hp=>by simp only [D.plain] at hp; cases hp
 | .fn _,v,u,r,ru,hp=>by simp only [D.plain] at hp; cases hp
theorem a5s (I:Inv X pins σ H s):∀ (ds:List D) (xs:List V) (us:List Value),Reps X.K N fa H ds xs → Vals xs us → D.plains ds = true → ∃ as,ReadsAll s.heap us (D.pys ds) as
 | [],xs,us,r,ru,_=>by
  simp only [Reps] at r; subst r; cases ru
  simp only [D.pys]; exact ⟨[],.nil⟩
 | d :: ds,xs,us,r,ru,hp=>by
  simp only [Reps] at r
  obtain ⟨x,ys,rfl,r1,r2⟩:=r
  cases ru with
  | cons q qs=>
   simp only [D.plains,Bool.and_eq_true] at hp
   obtain ⟨as,h1⟩:=T4 I d x _ r1.o q hp.1
   obtain ⟨bs,h2⟩:=a5s I ds ys _ r2 qs hp.2
   simp only [D.pys]; exact ⟨_,.cons h1 h2⟩
end
end
noncomputable def A1 (d:D):Bool:=d.plain && SeqAt.shaped d.py
noncomputable def pEq (d1 d2:D):Option D:=match d1,d2 with
 | .str x,.str y=>some (.bl (decide (x = y)))
 | d1,d2=>if A1 d1 && A1 d2 then some (.bl (PyData.eqv d1.py d2.py)) else none
noncomputable def pNe (d1 d2:D):Option D:=match d1,d2 with
 | .str x,.str y=>some (.bl (!decide (x = y)))
 | d1,d2=>if A1 d1 && A1 d2 then some (.bl (!PyData.eqv d1.py d2.py)) else none
noncomputable def Y3 (K:PySem.W.Frag) (f:Bool → Bool):R2:=fun x y H Q=>∃ N fa d1 d2,RepB K N fa H d1 x ∧ RepB K N fa H d2 y ∧ A1 d1 = true ∧ A1 d2 = true ∧ Q (.bl (f (PyData.eqv d1.py d2.py))) H
section
variable {X:Cx} {K:PySem.W.Frag}
theorem b0g (hu:X.A.units + 64 < cLine):OpR X (compareOp .Eq) (Y3 X.K id):=by
 intro pins s σ H x y v u Q I rx ry h
 obtain ⟨N,fa,d1,d2,r1,r2,o1,o2,q⟩:=h
 unfold A1 at o1 o2
 rw [Bool.and_eq_true] at o1 o2
 obtain ⟨as,h1⟩:=T4 I d1 x v r1.o rx o1.1
 obtain ⟨bs,h2⟩:=T4 I d2 y u r2.o ry o2.1
 exact PyProof.Rows.eq_dataH h1 h2 o1.2 o2.2 hu ⟨.bl _,H,I,rfl,q⟩
theorem a95 (hu:X.A.units + 64 < cLine):OpR X (compareOp .NotEq) (Y3 X.K not):=by
 intro pins s σ H x y v u Q I rx ry h
 obtain ⟨N,fa,d1,d2,r1,r2,o1,o2,q⟩:=h
 unfold A1 at o1 o2
 rw [Bool.and_eq_true] at o1 o2
 obtain ⟨as,h1⟩:=T4 I d1 x v r1.o rx o1.1
 obtain ⟨bs,h2⟩:=T4 I d2 y u r2.o ry o2.1
 exact PyProof.Rows.ne_dataH h1 h2 o1.2 o2.2 hu ⟨.bl _,H,I,rfl,q⟩
theorem X0 (hu:X.A.units + 64 < cLine):OpR X (compareOp .Eq) (fun x y H Q=>rEq x y H Q ∨ Y3 X.K id x y H Q):=op_eq.or (b0g hu)
theorem L8 (hu:X.A.units + 64 < cLine):OpR X (compareOp .NotEq) (fun x y H Q=>rNe x y H Q ∨ Y3 X.K not x y H Q):=op_ne.or (a95 hu)
theorem b5Z {d1 d2 d:D} (h:pEq d1 d2 = some d):(∃ x y,d1 = .str x ∧ d2 = .str y ∧ d = .bl (decide (x = y))) ∨ (A1 d1 = true ∧ A1 d2 = true ∧ d = .bl (PyData.eqv d1.py d2.py)):=by
 unfold pEq at h
 split at h
 ·cases h; exact .inl ⟨_,_,rfl,rfl,rfl⟩
 ·split at h
  ·rename_i q
   rw [Bool.and_eq_true] at q
   cases h; exact .inr ⟨q.1,q.2,rfl⟩
  ·cases h
theorem b1v {d1 d2 d:D} (h:pNe d1 d2 = some d):(∃ x y,d1 = .str x ∧ d2 = .str y ∧ d = .bl (!decide (x = y))) ∨ (A1 d1 = true ∧ A1 d2 = true ∧ d = .bl (!PyData.eqv d1.py d2.py)):=by
 unfold pNe at h
 split at h
 ·cases h; exact .inl ⟨_,_,rfl,rfl,rfl⟩
 ·split at h
  ·rename_i q
   rw [Bool.and_eq_true] at q
   cases h; exact .inr ⟨q.1,q.2,rfl⟩
  ·cases h
theorem a6B (x y:Str):decide (V.str x = V.str y) = decide (x = y):=by
 by_cases h:x = y
 ·subst h; simp
 ·rw [decide_eq_false h,decide_eq_false fun z=>h (V.str.inj z)]
theorem a0i:R2D K (fun x y H Q=>rEq x y H Q ∨ Y3 K id x y H Q) pEq:=by
 intro g σ H fa O s x y d1 d2 d Q I r1 r2 e k
 rcases b5Z e with ⟨a,b,rfl,rfl,rfl⟩ | ⟨h1,h2,rfl⟩
 ·simp only [RepB,Rep] at r1 r2
  obtain ⟨rfl,_⟩:=r1
  obtain ⟨rfl,_⟩:=r2
  exact .inl ⟨rfl,k _ H StE.refl I (by simp only [Rep,a6B])⟩
 ·exact .inr ⟨_,_,d1,d2,r1,r2,h1,h2,k _ H StE.refl I (by simp only [Rep,id])⟩
theorem M2:R2D K (fun x y H Q=>rNe x y H Q ∨ Y3 K not x y H Q) pNe:=by
 intro g σ H fa O s x y d1 d2 d Q I r1 r2 e k
 rcases b1v e with ⟨a,b,rfl,rfl,rfl⟩ | ⟨h1,h2,rfl⟩
 ·simp only [RepB,Rep] at r1 r2
  obtain ⟨rfl,_⟩:=r1
  obtain ⟨rfl,_⟩:=r2
  exact .inl ⟨rfl,k _ H StE.refl I (by simp only [Rep,a6B])⟩
 ·exact .inr ⟨_,_,d1,d2,r1,r2,h1,h2,k _ H StE.refl I (by simp only [Rep])⟩
noncomputable def pIx:D → D → Option D
 | .tup ds,.int i=>atI ds i
 | .lst ds,.int i=>atI ds i
 | _,_=>none
theorem a8n {N:Addr → Prop} {fa:Option Addr} {H:Hp} {ds:List D} {xs:List V} {i:Int} {d:D} (r:Reps K N fa H ds xs) (h:atI ds i = some d):∃ v,atI xs i = some v ∧ Rep K N fa H d v:=by
 unfold atI at h ⊢
 rw [r.length]
 cases e:ixN ds.length i with
 | none=>rw [e] at h; cases h
 | some j=>
  rw [e] at h
  simp only [Option.bind_some] at h ⊢
  exact Reps.get r h
theorem i6:R2D K (fun x y H Q=>a2X K x y H Q ∨ a3j K x y H Q) pIx:=by
 intro g σ H fa O s x y d1 d2 d Q I r1 r2 e k
 cases d1 with
 | tup ds=>
  cases d2 with
  | int i=>
   simp only [RepB,Rep] at r1 r2
   obtain ⟨a,xs,rfl,q,w⟩:=r1
   obtain ⟨v,hv,rv⟩:=a8n w (show atI ds i = some d from e)
   exact .inr ⟨a,xs,i,v,rfl,r2,q,hv,k v H StE.refl I rv⟩
  | _=>cases e
 | lst ds=>
  cases d2 with
  | int i=>
   obtain ⟨a,xs,rfl,_,q,w⟩:=r1
   simp only [RepB,Rep] at r2
   obtain ⟨v,hv,rv⟩:=a8n w (show atI ds i = some d from e)
   exact .inl ⟨a,xs,i,v,rfl,r2,SqL.of q,hv,k v H StE.refl I rv⟩
  | _=>cases e
 | _=>cases e
theorem i5:IxR X (fun x y H Q=>a2X X.K x y H Q ∨ a3j X.K x y H Q):=ix_list.or b0r
end
noncomputable def dCB (p:List D → Option D) (f:DA):DE:=fun s=>(f s).bind fun x=>(p x.1).map fun d=>(d,x.2)
noncomputable def dCF (p:List D → Option (List D)) (f:DA):DA:=fun s=>(f s).bind fun x=>(p x.1).map fun d=>(d,x.2)
section
variable {X:Cx} {g:Gh} {x:Str} {p pos:Pos} {e:Expr} {es:List Expr} {t:DA} {id T:String} {r:List V → Hp → VK → Prop} {pr:List D → Option D} {pf:List D → Option (List D)}
theorem a6W (hr:RCD X.K r pr) (σ:L2.St) (H:Hp) (Q:VK) (h:liftE X.K g (dCB pr t) σ H Q):tCB r (liftBA X.K g t) σ H Q:=by
 obtain ⟨f0,O,s,d,s',I,e,k⟩:=h
 refine v6 e fun ds s1 h1 h=>?_
 refine N7 h fun d' h3 h=>?_
 simp only [Prod.mk.injEq] at h
 obtain ⟨e1,e2⟩:=h
 subst e1; subst e2
 exact ⟨f0,O,s,ds,s1,I,h1,fun vs H1 f1 O1 a1 I1 r1=>hr g σ H1 f1 O1 s1 vs ds d' Q I1 r1 h3 fun z H3 a3 I3 r3=>k z H3 f1 O1 (a1.trans a3) I3 r3⟩
theorem a4x (hr:RCF X.K r pf) (σ:L2.St) (H:Hp) (Q:VK) (h:liftF X.K g (dCF pf t) σ H Q):tCB r (liftBA X.K g t) σ H Q:=by
 obtain ⟨f0,O,s,d,s',I,e,k⟩:=h
 refine v6 e fun ds s1 h1 h=>?_
 refine N7 h fun d' h3 h=>?_
 simp only [Prod.mk.injEq] at h
 obtain ⟨e1,e2⟩:=h
 subst e1; subst e2
 exact ⟨f0,O,s,ds,s1,I,h1,fun vs H1 f1 O1 a1 I1 r1=>hr g σ H1 f1 O1 s1 vs ds d' Q I1 r1 h3 fun q ys H3 a3 L e3=>k q ys H3 f1 O1 (a1.trans a3) L (a1.mon _ e3)⟩
theorem D2 (hc:CallR X (.builtin id) r) (hr:RCD X.K r pr) (hg:Gl X x) (hm:X.mg x = none) (hv:bootBuiltins x = some (.builtin id)) (ha:BAO X g (e :: es) t) (hn:x ≠ "__name__" := by decide) (hdb:(x == ("__debug__" : Str)) = false:=by decide)
  (he:starEach (e :: es) X.env = (false,eval e X.env) :: starEach es X.env:=by rfl) (hpl:(backTo pos (starEach es X.env)).any (·.1) = false:=by rfl):EO X g (.Call (.Name x p) (e :: es) [] pos) (dCB pr t):=
 EO.w (b1m hc hg hm hv ha.pe hn hdb he hpl) (a6W hr)
theorem a0U (hc:CallR X (.type T) r) (hr:RCD X.K r pr) (hg:Gl X x) (hm:X.mg x = none) (hv:bootBuiltins x = some (.type T)) (ha:BAO X g (e :: es) t) (hn:x ≠ "__name__" := by decide) (hdb:(x == ("__debug__" : Str)) = false:=by decide)
  (he:starEach (e :: es) X.env = (false,eval e X.env) :: starEach es X.env:=by rfl) (hpl:(backTo pos (starEach es X.env)).any (·.1) = false:=by rfl):EO X g (.Call (.Name x p) (e :: es) [] pos) (dCB pr t):=
 EO.w (a8P hc hg hm hv ha.pe hn hdb he hpl) (a6W hr)
theorem a5B (hc:CallR X (.type T) r) (hr:RCF X.K r pf) (hg:Gl X x) (hm:X.mg x = none) (hv:bootBuiltins x = some (.type T)) (ha:BAO X g (e :: es) t) (hn:x ≠ "__name__" := by decide) (hdb:(x == ("__debug__" : Str)) = false:=by decide)
  (he:starEach (e :: es) X.env = (false,eval e X.env) :: starEach es X.env:=by rfl) (hpl:(backTo pos (starEach es X.env)).any (·.1) = false:=by rfl):FO X g (.Call (.Name x p) (e :: es) [] pos) (dCF pf t):=
 FO.w (a8P hc hg hm hv ha.pe hn hdb he hpl) (a4x hr)
end
theorem a6P {K:PySem.W.Frag} {N:Addr → Prop} {fa:Option Addr} {H:Hp} {d:D} {xs:List V} (r:O9 K N fa H [d] xs):∃ x,xs = [x] ∧ RepB K N fa H d x:=by
 obtain ⟨x,ys,rfl,r1,r2⟩:=r
 simp only [O9] at r2; subst r2
 exact ⟨x,rfl,r1⟩
noncomputable def one {α:Type} (p:D → Option α):List D → Option α
 | [d]=>p d
 | _=>none
theorem a78 {α:Type} {p:D → Option α} {ds:List D} {a:α} (h:one p ds = some a):∃ d,ds = [d] ∧ p d = some a:=by
 cases ds with
 | nil=>cases h
 | cons d r=>
  cases r with
  | nil=>exact ⟨d,rfl,h⟩
  | cons _ _=>cases h
noncomputable def k9:D → Option D
 | .tup ds=>some (.int (ds.length:Nat))
 | .lst ds=>some (.int (ds.length:Nat))
 | .str x=>some (.int (x.length:Nat))
 | _=>none
noncomputable def Q8:D → Option D
 | .int i=>some (.int (if i < 0 then -i else i))
 | _=>none
noncomputable def a1g:D → Option D
 | .int i=>some (.int i)
 | .bl b=>some (.int (if b then 1 else 0))
 | _=>none
noncomputable def Y7:D → Option D
 | .tup ds=>some (.tup ds)
 | .lst ds=>some (.tup ds)
 | _=>none
noncomputable def a06:D → Option (List D)
 | .tup ds=>some ds
 | .lst ds=>some ds
 | _=>none
noncomputable def S0 (d:D):Bool:=d.plain && d.py.showable && d.py.canLay0 && decide (d.py.depth ≤ 64) && decide (d.py.shown.length ≤ sizeLine)
noncomputable def Q2 (d:D):Option D:=if S0 d then some (.str d.py.shown) else none
section
variable {X:Cx} {K:PySem.W.Frag}
theorem K0:CallR X (.builtin "len") (fun xs H Q=>(∃ p ys,xs = [.ref p] ∧ (SqL X.K H p ys ∨ SqT X.K H p ys) ∧ Q (.int ys.length) H) ∨ (∃ z,xs = [.str z] ∧ z.length ≤ sizeLine ∧ Q (.int z.length) H)):=call_len_seq.or b4T
theorem rc1 {r:List V → Hp → VK → Prop} {p:D → Option D} (h:∀ (g:Gh) (σ:L2.St) (H:Hp) (fa:Option Addr) (O:List Addr) (s:DS) (x:V) (d1 d:D) (Q:VK),GI K g σ H fa O s → RepB K (NN g.F fa O) fa H d1 x → p d1 = some d →
  (∀ v H',StE fa O H fa O H' → GI K g σ H' fa O s → Rep K (NN g.F fa O) fa H' d v → Q v H') → r [x] H Q):RCD K r (one p):=by
 intro g σ H fa O s xs ds d Q I rs e k
 obtain ⟨d1,rfl,e1⟩:=a78 e
 obtain ⟨x,rfl,rx⟩:=a6P rs
 exact h g σ H fa O s x d1 d Q I rx e1 k
theorem K2:RCD K (fun xs H Q=>(∃ p ys,xs = [.ref p] ∧ (SqL K H p ys ∨ SqT K H p ys) ∧ Q (.int ys.length) H) ∨ (∃ z,xs = [.str z] ∧ z.length ≤ sizeLine ∧ Q (.int z.length) H)) (one k9):=rc1 fun g σ H fa O s x d1 d Q I r e k=>by
 cases d1 with
 | tup es=>
  cases e
  simp only [RepB,Rep] at r
  obtain ⟨a,ys,rfl,q,w⟩:=r
  exact .inl ⟨a,ys,rfl,.inr q,k _ H StE.refl I (by rw [w.length]; simp only [Rep])⟩
 | lst es=>
  cases e
  obtain ⟨a,ys,rfl,_,q,w⟩:=r
  exact .inl ⟨a,ys,rfl,.inl (SqL.of q),k _ H StE.refl I (by rw [w.length]; simp only [Rep])⟩
 | str z=>
  cases e
  simp only [RepB,Rep] at r
  obtain ⟨rfl,l⟩:=r
  exact .inr ⟨z,rfl,l,k _ H StE.refl I (by simp only [Rep])⟩
 | _=>cases e
theorem a1Y:RCD K (fun xs H Q=>∃ i,xs = [.int i] ∧ Q (.int (if i < 0 then -i else i)) H) (one Q8):=rc1 fun g σ H fa O s x d1 d Q I r e k=>by
 cases d1 with
 | int i=>
  cases e
  simp only [RepB,Rep] at r
  subst r
  exact ⟨i,rfl,k _ H StE.refl I (by simp only [Rep])⟩
 | _=>cases e
theorem a60:RCD K (fun xs H Q=>(∃ i,xs = [.int i] ∧ Q (.int i) H) ∨ ∃ k,xs = [.bl k] ∧ Q (.int (if k then 1 else 0)) H) (one a1g):=rc1 fun g σ H fa O s x d1 d Q I r e k=>by
 cases d1 with
 | int i=>
  cases e
  simp only [RepB,Rep] at r
  subst r
  exact .inl ⟨i,rfl,k _ H StE.refl I (by simp only [Rep])⟩
 | bl b=>
  cases e
  simp only [RepB,Rep] at r
  subst r
  exact .inr ⟨b,rfl,k _ H StE.refl I (by simp only [Rep])⟩
 | _=>cases e
theorem a3f:RCD K (fun xs H Q=>∃ p ys,xs = [.ref p] ∧ ((SqL K H p ys ∧ ∀ l,H l = none → Q (.ref l) (upd H l (.tup ys))) ∨ (SqT K H p ys ∧ Q (.ref p) H))) (one Y7):=rc1 fun g σ H fa O s x d1 d Q I r e k=>by
 cases d1 with
 | tup es=>
  cases e
  simp only [RepB,Rep] at r
  obtain ⟨a,ys,rfl,q,w⟩:=r
  exact ⟨a,ys,rfl,.inr ⟨q,k _ H StE.refl I (by simp only [Rep]; exact ⟨a,ys,rfl,q,w⟩)⟩⟩
 | lst es=>
  cases e
  obtain ⟨a,ys,rfl,_,q,w⟩:=r
  refine ⟨a,ys,rfl,.inl ⟨SqL.of q,fun p hp=>?_⟩⟩
  have a2:StE fa O H fa O (upd H p (.tup ys)):=C1 hp
  refine k _ _ a2 (I.new hp) ?_
  simp only [Rep]
  exact ⟨p,ys,rfl,SqT.of B7,Reps.stp I a2.stp w⟩
 | _=>cases e
theorem a7j:RCF K (fun xs H Q=>∃ p ys,xs = [.ref p] ∧ (SqL K H p ys ∨ SqT K H p ys) ∧ ∀ l,H l = none → Q (.ref l) (upd H l (.lst ys))) (one a06):=by
 intro g σ H fa O s xs ds es Q I rs e k
 obtain ⟨d1,rfl,e1⟩:=a78 e
 obtain ⟨x,rfl,r⟩:=a6P rs
 cases d1 with
 | tup es'=>
  cases e1
  simp only [RepB,Rep] at r
  obtain ⟨a,ys,rfl,q,w⟩:=r
  exact ⟨a,ys,rfl,.inr q,fun p hp=>k p ys _ (C1 hp) (R6 I hp w) hp⟩
 | lst es'=>
  cases e1
  obtain ⟨a,ys,rfl,_,q,w⟩:=r
  exact ⟨a,ys,rfl,.inl (SqL.of q),fun p hp=>k p ys _ (C1 hp) (R6 I hp w) hp⟩
 | _=>cases e1
noncomputable def a7V (K:PySem.W.Frag):List V → Hp → VK → Prop:=fun xs H Q=>∃ N fa d x,xs = [x] ∧ RepB K N fa H d x ∧ S0 d = true ∧ Q (.str d.py.shown) H
theorem a09 (hu:X.A.units + 66 < cLine) (hg:X.A.guards = some []):CallR X (.builtin "repr") (a7V X.K):=by
 intro pins s σ H xs us Q I r h
 obtain ⟨N,fa,d,x,rfl,rx,ok,q⟩:=h
 obtain ⟨u,rfl,ru⟩:=P8 r
 unfold S0 at ok
 simp only [Bool.and_eq_true,decide_eq_true_eq] at ok
 obtain ⟨⟨⟨⟨hp,hs⟩,hl⟩,hd⟩,hz⟩:=ok
 obtain ⟨as,ra⟩:=T4 I d x u rx.o ru hp
 have fin:∀ (h':Heap) (tk:Nat) (t:Tok),(∀ b o,s.heap.get? b = some o → h'.get? b = some o) → EP X pins σ Q (.str d.py.shown t) { s with heap:=h',toks:=tk }:=fun h' tk t hk=>⟨.str d.py.shown,H,I.kept hk,⟨t,rfl⟩,q⟩
 cases d with
 | non=>
  simp only [RepB,Rep] at rx; subst rx; cases ru
  exact P.repr_of_none (fin s.heap _ _ fun _ _ e=>e)
 | bl b=>
  simp only [RepB,Rep] at rx; subst rx; cases ru
  have:=fin s.heap (s.toks + 1) s.toks fun _ _ e=>e
  refine P.repr_of_bool ?_
  cases b <;> simpa only [D.py,PyData.shown] using this
 | int i=>
  simp only [RepB,Rep] at rx; subst rx
  obtain ⟨t,rfl⟩:=ru
  have:=fin s.heap (s.toks + 1) s.toks fun _ _ e=>e
  simp only [D.py,PyData.showable,decide_eq_true_eq] at hs
  exact P.repr_of_int hs (by simpa only [D.py,PyData.shown] using this)
 | str z=>
  simp only [RepB,Rep] at rx; obtain ⟨rx,_⟩:=rx; subst rx
  obtain ⟨t,rfl⟩:=ru
  have:=fin s.heap (s.toks + 1) s.toks fun _ _ e=>e
  exact P.repr_of_str (by simpa only [D.py,PyData.shown] using this) (by simpa only [D.py,PyData.shown] using hz)
 | tup ds=>
  simp only [RepB,Rep] at rx
  obtain ⟨a,ys,rfl,_⟩:=rx
  cases ru
  exact repr_of_reads' ra hs (PyData.noDict_hsm (PyData.hasDict_of_canLay _ hl)) hg (by omega) (fun _ _ e=>e) (fun h' t tk hk=>fin h' tk t hk) hz
 | lst ds=>
  obtain ⟨a,ys,rfl,_⟩:=rx
  cases ru
  exact repr_of_reads' ra hs (PyData.noDict_hsm (PyData.hasDict_of_canLay _ hl)) hg (by omega) (fun _ _ e=>e) (fun h' t tk hk=>fin h' tk t hk) hz
 | feed=>cases hp
 | scr _=>cases hp
 | fn _=>cases hp
theorem a1D:RCD K (a7V K) (one Q2):=rc1 fun g σ H fa O s x d1 d Q I r e k=>by
 unfold Q2 at e
 by_cases h:S0 d1 = true
 ·rw [if_pos h] at e
  cases e
  refine ⟨_,_,d1,x,rfl,r,h,k _ H StE.refl I ?_⟩
  simp only [Rep]
  unfold S0 at h
  simp only [Bool.and_eq_true,decide_eq_true_eq] at h
  exact ⟨trivial,h.2⟩
 ·rw [if_neg h] at e; cases e
end
end DL
namespace DL
open PySem PySem.Spec L2
noncomputable def FS.get (key:Str) (f:FS):Option D:=
 if f.kind = 0 then if key = "cells" then some (.lst (f.cells.map .int)) else if key = "at" then some (.int f.pos) else if key = "left" then some (.int f.left) else if key = "turn" then some (.int f.turn) else none else none
noncomputable def FS.put (key:Str) (n:Int) (f:FS):Option FS:=
 if f.kind = 0 then if key = "at" then some { f with pos:=n } else if key = "left" then some { f with left:=n } else if key = "turn" then some { f with turn:=n } else none else none
noncomputable def dFG (i:Nat) (key:Str):DE:=fun s=>match s.sl[i]? with
 | some (.val .feed)=>s.fs.bind fun f=>(f.get key).map fun d=>(d,s)
 | _=>none
noncomputable def dFP (i:Nat) (key:Str) (fe:DE):DM:=fun s=>(fe s).bind fun x=>match x.2.sl[i]?,x.1 with
 | some (.val .feed),.int n=>x.2.fs.bind fun f=>(f.put key n).map fun f'=>(.next,{ x.2 with fs:=some f' })
 | _,_=>none
noncomputable def dFN (i:Nat):DE:=fun s=>match s.sl[i]?,s.fs with
 | some (.val (.scr ns)),none=>some (.feed,{ s with fs:=some ⟨ns,0,0,0,0⟩ })
 | _,_=>none
noncomputable abbrev G3 (c:Addr) (f:FS):List (Key × V):=[(Sum.inr ("cells" : Str),V.ref c),(Sum.inr ("at" : Str),V.int f.pos),(Sum.inr ("left" : Str),V.int f.left),(Sum.inr ("turn" : Str),V.int f.turn)]
theorem a5m:¬ (Sum.inr ("cells" : Str):Key) = Sum.inr ("at" : Str):=by intro h; exact absurd (Sum.inr.inj h) (by decide +kernel)
theorem a2R:¬ (Sum.inr ("cells" : Str):Key) = Sum.inr ("left" : Str):=by intro h; exact absurd (Sum.inr.inj h) (by decide +kernel)
theorem a4R:¬ (Sum.inr ("cells" : Str):Key) = Sum.inr ("turn" : Str):=by intro h; exact absurd (Sum.inr.inj h) (by decide +kernel)
theorem a1c:¬ (Sum.inr ("at" : Str):Key) = Sum.inr ("left" : Str):=by intro h; exact absurd (Sum.inr.inj h) (by decide +kernel)
theorem a1r:¬ (Sum.inr ("at" : Str):Key) = Sum.inr ("turn" : Str):=by intro h; exact absurd (Sum.inr.inj h) (by decide +kernel)
theorem a2b:¬ (Sum.inr ("left" : Str):Key) = Sum.inr ("turn" : Str):=by intro h; exact absurd (Sum.inr.inj h) (by decide +kernel)
theorem b1p (c:Addr) (f:FS):E7 (G3 c f) (Sum.inr ("cells" : Str)) = some (.ref c):=U3 rfl
theorem a9r (c:Addr) (f:FS):E7 (G3 c f) (Sum.inr ("at" : Str)) = some (.int f.pos):=by rw [J0 a5m,U3 rfl]
theorem a8J (c:Addr) (f:FS):E7 (G3 c f) (Sum.inr ("left" : Str)) = some (.int f.left):=by rw [J0 a2R,J0 a1c,U3 rfl]
theorem a7d (c:Addr) (f:FS):E7 (G3 c f) (Sum.inr ("turn" : Str)) = some (.int f.turn):=by rw [J0 a4R,J0 a1r,J0 a2b,U3 rfl]
theorem a4M {kvs:List (Key × V)} {k:Key} {v x:V} (h:E7 kvs k = some x):A7 kvs k v = kvs.map (fun kv=>if kv.1 = k then (kv.1,v) else kv):=by
 unfold A7
 rw [if_pos (by rw [a2k,h]; rfl)]
theorem b5m (c:Addr) (f:FS) (n:Int):A7 (G3 c f) (Sum.inr ("at" : Str)) (.int n) = G3 c { f with pos:=n }:=by
 rw [a4M (a9r c f)]
 simp only [List.map_cons,List.map_nil,if_neg a5m,if_neg (Ne.symm a1c),if_neg (Ne.symm a1r),if_true]
theorem b0I (c:Addr) (f:FS) (n:Int):A7 (G3 c f) (Sum.inr ("left" : Str)) (.int n) = G3 c { f with left:=n }:=by
 rw [a4M (a8J c f)]
 simp only [List.map_cons,List.map_nil,if_neg a2R,if_neg a1c,if_neg (Ne.symm a2b),if_true]
theorem b5h (c:Addr) (f:FS) (n:Int):A7 (G3 c f) (Sum.inr ("turn" : Str)) (.int n) = G3 c { f with turn:=n }:=by
 rw [a4M (a7d c f)]
 simp only [List.map_cons,List.map_nil,if_neg a4R,if_neg a1r,if_neg a2b,if_true]
theorem FS.get_val {key:Str} {f:FS} {d:D} (h:f.get key = some d) (c:Addr):∃ v,E7 (G3 c f) (Sum.inr key) = some v ∧ ((v = .ref c ∧ d = .lst (f.cells.map .int)) ∨ ∃ i,v = .int i ∧ d = .int i) ∧ f.kind = 0:=by
 unfold FS.get at h
 split at h
 case isFalse=>cases h
 rename_i hk
 split at h
 ·rename_i e; subst e; cases h; exact ⟨_,b1p c f,.inl ⟨rfl,rfl⟩,hk⟩
 split at h
 ·rename_i e; subst e; cases h; exact ⟨_,a9r c f,.inr ⟨_,rfl,rfl⟩,hk⟩
 split at h
 ·rename_i e; subst e; cases h; exact ⟨_,a8J c f,.inr ⟨_,rfl,rfl⟩,hk⟩
 split at h
 ·rename_i e; subst e; cases h; exact ⟨_,a7d c f,.inr ⟨_,rfl,rfl⟩,hk⟩
 ·cases h
theorem FS.put_val {key:Str} {f f':FS} {n:Int} (h:f.put key n = some f') (c:Addr):A7 (G3 c f) (Sum.inr key) (.int n) = G3 c f' ∧ f'.cells = f.cells ∧ f.kind = 0 ∧ f'.kind = 0:=by
 unfold FS.put at h
 split at h
 case isFalse=>cases h
 rename_i hk
 split at h
 ·rename_i e; subst e; cases h; exact ⟨b5m c f n,rfl,hk,hk⟩
 split at h
 ·rename_i e; subst e; cases h; exact ⟨b0I c f n,rfl,hk,hk⟩
 split at h
 ·rename_i e; subst e; cases h; exact ⟨b5h c f n,rfl,hk,hk⟩
 ·cases h
section
variable {X:Cx} {g:Gh} {i:Nat} {x key:Str} {p1 p2 pos pos':Pos} {j:Nat}
theorem T6 (hu:X.A.units + 1 < cLine) (hv:PE X (.Name x p1) (G6 i)):EO X g (.Subscript (.Name x p1) (.Constant (.str key) j p2) pos) (dFG i key):=
 EO.w (b5M hu hv a0e (fun _ _=>rfl)) fun σ H Q hQ=>by
  refine hQ.elim fun fa O s d s' I e k=>?_
  unfold dFG at e
  cases q:s.sl[i]? with
  | none=>rw [q] at e; cases e
  | some z=>
   rw [q] at e
   cases z with
   | no=>cases e
   | own _=>cases e
   | val dz=>
    cases dz with
    | feed=>
     refine L5 e fun f h1 h2=>?_
     refine N7 h2 fun d' h3 h4=>?_
     cases h4
     obtain ⟨u,e1,r⟩:=SlR.val I.sl q
     simp only [Rep] at r
     obtain ⟨a,ha,rfl⟩:=r
     have fd:=I.fd
     rw [h1,ha] at fd
     obtain ⟨_,c,hc,nc,lc⟩:=fd
     obtain ⟨v,hval,hd,hk⟩:=FS.get_val h3 c
     rw [a4V hk] at hc
     refine ⟨_,e1,a,v,rfl,?_,k v H fa O StE.refl I ?_⟩
     ·have:=DGet.k (k:=Sum.inr key) hc
      rw [hval] at this
      exact this
     ·rcases hd with ⟨rfl,rfl⟩ | ⟨n,rfl,rfl⟩
      ·simp only [Rep]
       exact ⟨c,_,rfl,by rw [ha]; exact nc,lc,Reps.ints⟩
      ·simp only [Rep]
    | _=>cases e
theorem a1C {e:Expr} {fe:DE} (hu:X.A.units + 1 < cLine) (hv:PE X (.Name x p1) (G6 i)) (he:EO X g e fe) (hs:swapsWith e (some (.Subscript (.Name x p1) (.Constant (.str key) j p2) pos')) pos.line X.env = pure false:=by rfl) :
  SO X g (.Assign [.Subscript (.Name x p1) (.Constant (.str key) j p2) pos'] e pos) (dFP i key fe):=
 SO.w (b4s hu hv a0e he.pe hs) fun E σ H hQ=>by
  refine hQ.elim fun fa O s fl s' I q k=>?_
  refine v6 q fun d s1 h1 h2=>?_
  simp only [] at h2
  cases q1:s1.sl[i]? with
  | none=>rw [q1] at h2; cases h2
  | some z=>
   rw [q1] at h2
   cases z with
   | no=>cases h2
   | own _=>cases h2
   | val dz=>
    cases dz with
    | feed=>
     cases d with
     | int n=>
      simp only [] at h2
      refine L5 h2 fun f h3 h4=>?_
      refine N7 h4 fun f' h5 h6=>?_
      cases h6
      refine ⟨fa,O,s,.int n,s1,I,h1,fun v H1 f1 O1 a1 I1 r=>?_⟩
      simp only [Rep] at r
      subst r
      obtain ⟨u,e1,ru⟩:=SlR.val I1.sl q1
      simp only [Rep] at ru
      obtain ⟨a,ha,rfl⟩:=ru
      have fd:=I1.fd
      rw [h3,ha] at fd
      obtain ⟨lc63,c,hc,nc,lc⟩:=fd
      obtain ⟨hput,hcell,hk,hk'⟩:=FS.put_val h5 c
      rw [a4V hk] at hc
      have hp:=DPut.k (k:=Sum.inr key) (v:=.int n) hc (by show 4 < sizeLine; decide)
      rw [hput] at hp
      refine ⟨_,e1,a,_,rfl,hp,?_⟩
      have a2:StE f1 O1 H1 f1 O1 (upd H1 a (.dK (G3 c f'))):=⟨fun _ h=>h,.inl rfl,fun b w e nb=>by rw [o8 (fun z=>nb (by rw [z]; exact ha))]; exact e,fun b z=>by
       by_cases hb:b = a
       ·subst hb; rw [B7] at z; cases z
       ·rw [o8 hb] at z; exact z⟩
      have cr:=I1.car a2.stp
      refine k σ _ f1 O1 (a1.stp.trans a2.stp) ⟨I1.nd,SlR.go cr (fun b xs hb e=>a2.same b _ e fun z=>I1.nf b z hb) I1.sl,I1.fr,?_,I1.tr,I1.ff,?_,I1.nf⟩
      ·refine ⟨fun b hb=>(by cases hb),I1.st.fe,fun b w e _ nb=>?_,fun b z=>I1.st.mon b (a2.mon b z)⟩
       refine a2.same b w (I1.st.same b w e (by simp) nb) fun z=>?_
       rcases I1.st.fe with y | ⟨y,y2⟩
       ·rw [y] at z; exact nb z
       ·rw [y2 b z] at e; cases e
      ·rw [ha]
       refine ⟨by rw [hcell]; exact lc63,c,by rw [a4V hk',B7],nc,?_⟩
       rw [o8 (fun z=>by rw [z,hc] at lc; cases lc),hcell]
       exact lc
     | _=>cases h2
    | _=>cases h2
theorem b5l (xs:List V) (h:xs.length ≤ 63):M4 xs none (some 63) = xs:=by
 unfold M4
 have e1:HT.sIx xs.length 0 none = 0:=rfl
 have e2:HT.sIx xs.length xs.length (some 63) = xs.length:=by
  have:=HT.sIx_nat xs.length xs.length 63
  rw [show ((63:Nat):Int) = 63 from rfl] at this
  rw [this]; omega
 rw [e1,e2,List.drop_zero,Nat.sub_zero,List.take_length]
theorem b30 (q:Addr):X9 [] [(Sum.inr ("cells" : Str),V.ref q),(Sum.inr ("at" : Str),V.int 0),(Sum.inr ("left" : Str),V.int 0),(Sum.inr ("turn" : Str),V.int 0)] = G3 q ⟨[],0,0,0,0⟩:=by
 show A7 (A7 (A7 (A7 ([]:List (Key × V)) (Sum.inr ("cells" : Str)) (V.ref q)) (Sum.inr ("at" : Str)) (V.int 0)) (Sum.inr ("left" : Str)) (V.int 0)) (Sum.inr ("turn" : Str)) (V.int 0) = _
 have e1:A7 ([]:List (Key × V)) (Sum.inr ("cells" : Str)) (V.ref q) = [(Sum.inr ("cells" : Str),V.ref q)]:=a2m _ a1Q
 have e2:A7 ([(Sum.inr ("cells" : Str),V.ref q)]:List (Key × V)) (Sum.inr ("at" : Str)) (V.int 0) = [(Sum.inr ("cells" : Str),V.ref q),(Sum.inr ("at" : Str),V.int 0)]:=a2m _ (by rw [J0 a5m,a1Q])
 have e3:A7 ([(Sum.inr ("cells" : Str),V.ref q),(Sum.inr ("at" : Str),V.int 0)]:List (Key × V)) (Sum.inr ("left" : Str)) (V.int 0) = [(Sum.inr ("cells" : Str),V.ref q),(Sum.inr ("at" : Str),V.int 0),(Sum.inr ("left" : Str),V.int 0)]:=a2m _ (by rw [J0 a2R,J0 a1c,a1Q])
 rw [e1,e2,e3]
 exact a2m _ (by rw [J0 a4R,J0 a1r,J0 a2b,a1Q])
theorem b0H {k1 k2 k3 k4 j63 j0 j1 j2:Nat} {q1 q2 q3 q4 q5 q6 q7 q8 q9 q10:Pos} (hv:PE X (.Name x p1) (G6 i)) :
  EO X g (.Dict [some (.Constant (.str ("cells" : Str)) k1 q1),some (.Constant (.str ("at" : Str)) k2 q2),some (.Constant (.str ("left" : Str)) k3 q3),some (.Constant (.str ("turn" : Str)) k4 q4)]
   [.Subscript (.Name x p1) (.Slice none (some (.Constant (.int 63) j63 q5)) none q6) q7,.Constant (.int 0) j0 q8,.Constant (.int 0) j1 q9,.Constant (.int 0) j2 q10] pos) (dFN i):=
 EO.w (b6s (a1A a0e (a6Z a9o hv a6v (a7k a0Y)) (a1A a0e a0Y (a1A a0e a0Y (a1A a0e a0Y b3V)))) rfl rfl (by simp) (by show 4 ≤ 15; decide)) fun σ H Q hQ=>by
  refine hQ.elim fun fa O s d s' I e k=>?_
  unfold dFN at e
  cases q:s.sl[i]? with
  | none=>rw [q] at e; cases e
  | some z=>
   rw [q] at e
   cases z with
   | no=>cases e
   | own _=>cases e
   | val dz=>
    cases dz with
    | scr ns=>
     cases hf:s.fs with
     | some f=>rw [hf] at e; cases e
     | none=>
      rw [hf] at e
      cases e
      obtain ⟨u,e1,r⟩:=SlR.val I.sl q
      simp only [Rep] at r
      obtain ⟨l63,a,rfl,sq⟩:=r
      have fd:=I.fd
      rw [hf] at fd
      have fan:fa = none:=by cases fa with | none=>rfl | some _=>exact fd.elim
      subst fan
      intro p hp
      have sq1:SqF X.K (upd H p (.dK [])) a (ns.map V.int):=by
       rcases sq with ⟨o,sq⟩ | sq
       ·exact .inl ⟨o,by rw [o8 (M3 sq hp)]; exact sq⟩
       ·exact .inr sq
      refine ⟨_,e1,63,rfl,a,_,rfl,sq1.sq,fun c hc=>?_⟩
      rw [b5l _ (by rw [List.length_map]; exact l63)]
      have npc:c ≠ p:=fun z=>by rw [z,B7] at hc; cases hc
      have hcH:H c = none:=by rw [o8 npc] at hc; exact hc
      refine ⟨by rw [o8 (Ne.symm npc),B7],[(Sum.inr ("cells" : Str),V.ref c),(Sum.inr ("at" : Str),V.int 0),(Sum.inr ("left" : Str),V.int 0),(Sum.inr ("turn" : Str),V.int 0)],rfl,by show 4 ≤ 15; decide,?_⟩
      rw [b30]
      have fresh:∀ b u,H b = some u → b ≠ p ∧ b ≠ c:=fun b u e=>⟨M3 e hp,M3 e hcH⟩
      have a2:StE none O H (some p) O (upd (upd (upd H p (.dK [])) c (.lst (ns.map V.int))) p (.dK (G3 c ⟨[],0,0,0,0⟩))):=by
       refine ⟨fun _ h=>h,.inr ⟨rfl,fun b z=>by cases z; exact hp⟩,fun b u e _=>?_,fun b z=>?_⟩
       ·obtain ⟨n1,n2⟩:=fresh b u e
        rw [o8 n1,o8 n2,o8 n1]; exact e
       ·by_cases h1:b = p
        ·subst h1; exact hp
        ·by_cases h2:b = c
         ·subst h2; exact hcH
         ·rw [o8 h1,o8 h2,o8 h1] at z; exact z
      have cr:=I.car a2.stp
      refine k _ _ (some p) O a2 ⟨I.nd,SlR.go cr (fun b xs hb e=>a2.same b _ e (by simp)) I.sl,I.fr,I.st.trans ⟨fun b hb=>(by cases hb),a2.fe,fun b u e _ n=>a2.same b u e n,a2.mon⟩,I.tr,I.ff,?_,I.nf_step a2.fe⟩ (by simp only [Rep]; exact ⟨p,rfl,rfl⟩)
      refine ⟨l63,c,B7,?_,?_⟩
      ·rintro (z | z | z)
       ·exact I.trF z hcH
       ·obtain ⟨xs,e⟩:=I.owned z
        rw [hcH] at e; cases e
       ·exact npc (Option.some.inj z).symm
      ·rw [o8 npc,B7]
    | _=>cases e
end
structure Cal (P:Program) (w:World) (K:PySem.W.Frag) (mg:Str → Option Value) (base:Heap) (k:Nat) (x:Str) (ps:List Str) (m:DFn):Prop where
 ex:∃ (f:Addr) (fd:FuncData),FnD P w K mg base k f fd ps m ∧ mg x = some (.ref f) ∧ PySem.W.keepIn K (.ref f) = true ∧ Binds K fd ps []
structure Blt (mg:Str → Option Value):Prop where
 len:mg "len" = none
 range:mg "range" = none
 abs:mg "abs" = none
 tuple:mg "tuple" = none
 list:mg "list" = none
 int:mg "int" = none
 bool:mg "bool" = none
 str:mg "str" = none
 repr:mg "repr" = none
 all:mg "all" = none
 isinstance:mg "isinstance" = none
 zip:mg "zip" = none
 enumerate:mg "enumerate" = none
 min:mg "min" = none
 max:mg "max" = none
 reversed:mg "reversed" = none
 any:mg "any" = none
 sum:mg "sum" = none
 sorted:mg "sorted" = none
section
variable {X:Cx} {g:Gh} {k:Nat} {ps:List Str} {m:DFn} {x:Str} {p pos:Pos} {e:Expr} {es:List Expr} {t:DA}
theorem j6 (C:Cal X.prog X.w X.K X.mg X.base k x ps m) (k':Nat) (hr:Room k' X.A) (hk:k ≤ k') (hg:Gl X x)
  (ha:AO X g (e :: es) t) (hn:∀ s ds s',t s = some (ds,s') → ds.length = ps.length) (hdb:(x == ("__debug__" : Str)) = false:=by decide) (he:starEach (e :: es) X.env = (false,eval e X.env) :: starEach es X.env:=by rfl) (hpl:(backTo pos (starEach es X.env)).any (·.1) = false:=by rfl) :
  EO X g (.Call (.Name x p) (e :: es) [] pos) (c7 m t):=by
 obtain ⟨f,fd,F,hm,hkp,hb⟩:=C.ex
 exact b0Q F (hr.mono hk) hg hm hkp hb ha hn hdb he hpl
end
theorem b6h {P:Program} {w:World} {K:PySem.W.Frag} {mg:Str → Option Value} {base:Heap} {x:Str} {st:Stmt} {f:Addr} {fd:FuncData} {N ps:List Str} {k:Nat} {b:DM} (F:Fun K x x st f fd) (hm:mg x = some (.ref f)) (hb:Binds K fd ps []) (S:FnScope N ps (m9 st))
  (hbody:∀ (cdv:Value) (A:Around) (outer:List Env) (s:Shared) (H:Hp) (E:XK) (g:Gh),Room k (A.deeper (PyProof.Rows.envOfC x (m9 st) s.heap.objs.size f cdv)) → SSO (R0 CX0 P w K mg base N x (m9 st) f cdv A outer s H E).nox g (M0 st) b) :
  Cal P w K mg base (k + 1) x ps (mFn N.length b):=⟨f,fd,a50 F S hbody,hm,F.kp,hb⟩
theorem u64 {A:Around} {k:Nat} (hr:Room k A):A.units + 64 < cLine:=by have:=hr.un; omega
theorem u66 {A:Around} {k:Nat} (hr:Room k A):A.units + 66 < cLine:=by have:=hr.un; omega
theorem J9:bootBuiltins ("len" : Str) = some (.builtin "len"):=by decide +kernel
theorem a1e:bootBuiltins ("abs" : Str) = some (.builtin "abs"):=by decide +kernel
theorem a1S:bootBuiltins ("repr" : Str) = some (.builtin "repr"):=by decide +kernel
theorem a2I:bootBuiltins ("tuple" : Str) = some (.type "tuple"):=by decide +kernel
theorem a8v:bootBuiltins ("list" : Str) = some (.type "list"):=by decide +kernel
theorem a8T:bootBuiltins ("int" : Str) = some (.type "int"):=by decide +kernel
theorem a2o {κ:Type} [BEq κ] [LawfulBEq κ] {β:Type}:∀ {l:List (κ × β)} {x:κ} {v:β},l.lookup x = some v → (x,v) ∈ l
 | [],_,_,h=>by simp at h
 | (a,b) :: r,x,v,h=>by
  rw [List.lookup_cons] at h
  cases e:x == a with
  | true=>
   rw [e] at h
   cases h
   rw [eq_of_beq e]
   exact List.mem_cons_self ..
  | false=>
   rw [e] at h
   exact List.mem_cons_of_mem _ (a2o h)
noncomputable def hasAll (names:List (Str × NameKind)) (cl:List (Str × Addr)):Bool:=names.all fun p=>!(p.2 == .cell || p.2 == .free) || (cl.lookup p.1).isSome
theorem a76 {names:List (Str × NameKind)} {cl:List (Str × Addr)} (h:hasAll names cl = true):∀ x,(names.lookup x = some .cell ∨ names.lookup x = some .free) → ∃ c,cl.lookup x = some c:=fun x hx=>by
 have key:∀ kd,names.lookup x = some kd → (kd == NameKind.cell || kd == NameKind.free) = true → ∃ c,cl.lookup x = some c:=fun kd e q=>by
  have m:=a2o e
  have z:=List.all_eq_true.mp h _ m
  simp only [q,Bool.not_true,Bool.false_or] at z
  exact Option.isSome_iff_exists.mp z
 rcases hx with e | e
 ·exact key _ e rfl
 ·exact key _ e rfl
inductive CapL (X:Cx) (scope:Scope):List Nat → List Str → Prop where
 | nil:CapL X scope [] []
 | cons {i:Nat} {y:Str} {r:List Nat} {ys:List Str} (h1:X.N[i]? = some y) (h2:X.env.scope.names.lookup y = some .cell ∨ X.env.scope.names.lookup y = some .free)
   (h3:(relabel scope X.env).names.lookup y = some .cell ∨ (relabel scope X.env).names.lookup y = some .free) (t:CapL X scope r ys):CapL X scope (i :: r) (y :: ys)
theorem CapL.len {X:Cx} {scope:Scope}:∀ {idx:List Nat} {ys:List Str},CapL X scope idx ys → ys.length = idx.length
:= by
 intro idx ys h
 induction h with
 | nil=>rfl
 | cons _ _ _ t ih=>rw [List.length_cons,List.length_cons,ih]
theorem CapL.at {X:Cx} {scope:Scope}:∀ {idx:List Nat} {ys:List Str},CapL X scope idx ys → ∀ (j i:Nat) (y:Str),idx[j]? = some i → ys[j]? = some y →
  X.N[i]? = some y ∧ (X.env.scope.names.lookup y = some .cell ∨ X.env.scope.names.lookup y = some .free) ∧ ((relabel scope X.env).names.lookup y = some .cell ∨ (relabel scope X.env).names.lookup y = some .free)
:= by
 intro idx ys h
 induction h with
 | nil=>intro j i y h; cases h
 | cons h1 h2 h3 t ih=>
  intro j i y e1 e2
  cases j with
  | zero=>
   cases e1
   cases e2
   exact ⟨h1,h2,h3⟩
  | succ j=>exact ih j i y e1 e2
inductive SubL (cells:List (Str × Addr)):List (Str × Addr) → Prop where
 | nil:SubL cells []
 | cons {x:Str} {c:Addr} {r:List (Str × Addr)} (h:cells.lookup x = some c) (t:SubL cells r):SubL cells ((x,c) :: r)
theorem SubL.mem {cells:List (Str × Addr)}:∀ {cl:List (Str × Addr)},SubL cells cl → ∀ x c,(x,c) ∈ cl → cells.lookup x = some c
:= by
 intro cl h
 induction h with
 | nil=>intro x c h; cases h
 | cons e t ih=>
  intro x c h
  rcases List.mem_cons.mp h with z | z
  ·cases z; exact e
  ·exact ih x c z
theorem Y0 {X:Cx} {scope:Scope} {cl:List (Str × Addr)} {x:Str} {caps:List Str} {idx:List Nat} (clos:closureFor scope X.env = pure cl) (sub:SubL X.env.cells cl) (cell:∀ y ∈ scope.names,y.2 ≠ .cell) (kind:scope.kind = .function)
  (names:∀ y ∈ scope.names,y.2 = .local → scope.names.lookup y.1 = some .local) (has:hasAll (relabel scope X.env).names cl = true) (cap:CapL X scope idx caps):CompOk X scope cl (x :: caps) 1 idx:=
 ⟨clos,fun y c e=>sub.mem y c (a2o e),cell,kind,names,a76 has,by rw [List.length_cons,cap.len,Nat.add_comm],fun j i y e1 e2=>cap.at j i y e1 (by rw [Nat.add_comm] at e2; simpa using e2)⟩
noncomputable def A4 (i j:Nat) (f:DA):DM:=fun s=>(f s).bind fun x=>match x.1 with
 | [a,b]=>some (.next,{ x.2 with sl:=(x.2.sl.set i (.val a)).set j (.val b) })
 | _=>none
section
variable {X:Cx} {g:Gh}
theorem a9k {i j:Nat} {x y:Str} {a b:Expr} {f:DA} {px py pt pos:Pos} {kt k2 pt2} (hc:X.calm = true) (hN:X.N.Nodup) (hi:X.N[i]? = some x) (hj:X.N[j]? = some y) (hij:i ≠ j)
  (hx:X.env.scope.names.lookup x = some .local) (hy:X.env.scope.names.lookup y = some .local) (ha:AO X g [a,b] f)
  (hw:swappedStores [.Tuple [.Name x px,.Name y py] kt pt] (.Tuple [a,b] k2 pt2) X.env = pure (some [x,y]))
  (hs:swapsWithSole [.Tuple [.Name x px,.Name y py] kt pt] (.Tuple [a,b] k2 pt2) pos.line X.env = pure false:=by rfl) :
  SO X g (.Assign [.Tuple [.Name x px,.Name y py] kt pt] (.Tuple [a,b] k2 pt2) pos) (A4 i j f):=SO.w (b0R hc hN hi hj hij hx hy ha.pe hw hs) fun E σ H hQ=>by
 refine hQ.elim fun fa O s fl s' I q k=>?_
 refine v6 q fun ds s1 h1 h2=>?_
 refine ⟨fa,O,s,ds,s1,I,h1,fun vs H1 f1 O1 a1 I1 r=>?_⟩
 match ds,h2,r with
 | [d1,d2],h2,r=>
  simp only [Option.some.injEq,Prod.mk.injEq] at h2
  obtain ⟨e1,e2⟩:=h2
  subst e1; subst e2
  simp only [Reps] at r
  obtain ⟨v,ys,rfl,rv,u,zs,rfl,ru,rfl⟩:=r
  refine ⟨v,u,rfl,?_⟩
  obtain ⟨P,sub,I2⟩:=I1.put i rv
  have a2:StE f1 O1 H1 f1 P H1:=a0Z sub
  obtain ⟨P3,sub3,I3⟩:=I2.put j (Rep.stp I1 a2.stp ru)
  exact k _ H1 f1 P3 (a1.stp.trans (a2.stp.trans (a0Z sub3).stp)) I3
end
theorem walkD {l:PySem.W.OpenLaw} {q:Program} {loose:List Str} {XP:(Str → Option Value) → Heap → Prop} {YP:World → Heap → Prop} {d:DefRec} {K:Params → PySem.W.Frag} {m:DFn} {k:Nat} (hn:l.most = some 63) (hdf:d.params.defaults = []) (hr:Room k callerA)
  (hY:∀ (w:World) (h:Heap),YP w h → (K w.params).In h)
  (F:∀ (w:World) (mg:Str → Option Value) (fa:Addr) (h:Heap),(K w.params).In h → h.Ns mainGlobals mg → mg d.name = some (.ref fa) →
   ∃ fd:FuncData,(∀ (s:Shared) (u:Value),BindsTo s fd ⟨[u],[]⟩ [("_law_script",u)]) ∧ ∀ base:Heap,(K w.params).In base → base.Ns mainGlobals mg → FnOk l.prog w (K w.params) mg base CX0 k fa fd ["_law_script"] (spD (K w.params) 1 m))
  (math:∀ ns:List Int,ns.length ≤ 63 → ∃ fs',m [.scr ns] none = some (.bl true,fs')) :
  PySem.W.WalkO q loose XP YP l.row.toRowW d [] (fun f vs=>PySem.call f vs):=
 L2.walk_of (n:=63) (k:=k) (x := "_law_script") (CX:=fun _=>CX0) (sp:=fun w=>spD (K w.params) 1 m) hn (by decide) hdf hr hY F (fun w H a ns hl hO hS=>by
  obtain ⟨fs',e⟩:=math ns hl
  refine ⟨fun _=>False,none,[.scr ns],none,.bl true,fs',fun b z=>z.elim,fun a z=>(by cases z),?_,trivial,e,rfl,fun v H' fa' _ _ r=>by simpa only [Rep] using r⟩
  simp only [Reps,Rep]
  refine ⟨_,_,rfl,⟨hl,a,rfl,?_⟩,rfl⟩
  rcases hS with (z | ⟨o,z⟩) | z
  ·rcases hO a with y | ⟨o,xs,y⟩ <;> · rw [z] at y; cases y
  ·exact .inl ⟨o,z⟩
  ·exact .inr z) fun _ _ _ _ _ z=>z
section
variable {X:Cx} {g:Gh} {a b c:Expr} {fa fb fc:DE} {pos:Pos}
noncomputable abbrev DO:=DS → Option (Option Int × DS)
noncomputable def liftO (K:PySem.W.Frag) (g:Gh) (f:DO):L2.TO:=fun σ H Q=>∃ fa O s d s',GI K g σ H fa O s ∧ f s = some (d,s') ∧ ∀ H' fa' O',StE fa O H fa' O' H' → GI K g σ H' fa' O' s' → Q d H'
theorem liftO.elim {K:PySem.W.Frag} {g:Gh} {σ:L2.St} {H:Hp} {G:Prop} {f:DO} {Q:Option Int → Hp → Prop} (h:liftO K g f σ H Q) (k:∀ fa O s d s',GI K g σ H fa O s → f s = some (d,s') → (∀ H' fa' O',StE fa O H fa' O' H' → GI K g σ H' fa' O' s' → Q d H') → G):G:=by
 obtain ⟨fa,O,s,d,s',a,b,c⟩:=h
 exact k fa O s d s' a b c
structure OO (X:Cx) (g:Gh) (e:Option Expr) (f:DO):Prop where
 pe:PO X e (liftO X.K g f)
noncomputable def dNo:DO:=fun s=>some (none,s)
noncomputable def dAt (f:DE):DO:=fun s=>(f s).bind fun x=>match x.1 with | .int i=>some (some i,x.2) | _=>none
theorem POw {e:Option Expr} {t t':L2.TO} (h:PO X e t) (w:∀ σ H Q,t' σ H Q → t σ H Q):PO X e t':=fun pins s σ H Q I q=>h pins s σ H Q I (w σ H Q q)
theorem OO.w {e:Option Expr} {f:DO} {t:L2.TO} (h:PO X e t) (w:∀ σ H Q,liftO X.K g f σ H Q → t σ H Q):OO X g e f:=⟨POw h w⟩
theorem S9:OO X g none dNo:=OO.w a6v fun σ H Q hQ=>by
 refine hQ.elim fun f0 O s d s' I e k=>?_
 cases e
 exact k H f0 O StE.refl I
theorem T5 (h:BO X g a fa):OO X g (some a) (dAt fa):=OO.w (a7k h.pe) fun σ H Q hQ=>by
 refine hQ.elim fun f0 O s d s' I e k=>?_
 refine v6 e fun x s1 h1 e=>?_
 cases x with
 | int i=>
  simp only [Option.some.injEq,Prod.mk.injEq] at e
  obtain ⟨e1,e2⟩:=e
  subst e1; subst e2
  exact ⟨f0,O,s,.int i,s1,I,h1,fun v H1 f1 O1 a1 I1 r1=>⟨i,by simpa only [RepB,Rep] using r1,k H1 f1 O1 a1 I1⟩⟩
 | _=>cases e
noncomputable def E5 (xs:List D) (lo hi:Option Int):List D:=(xs.drop (HT.sIx xs.length 0 lo)).take (HT.sIx xs.length xs.length hi - HT.sIx xs.length 0 lo)
theorem a3X {K:PySem.W.Frag} {N:Addr → Prop} {fa:Option Addr} {H:Hp} {ds:List D} {xs:List V} (r:Reps K N fa H ds xs) (lo hi:Option Int):Reps K N fa H (E5 ds lo hi) (M4 xs lo hi):=by
 unfold E5 M4
 rw [r.length]
 exact (r.drop _).take _
end
end DL
namespace HT2
open PySem PyProof.Rows HT
section
variable {prog:Program} {w:World} {A:Around} {E:Value → Shared → Prop} {s:Shared}
theorem getItem_tuple_whole {t sl:Addr} {items:Array Value} {vl vu:Value} {lo hi:Option Int} {Q:Value → Shared → Prop} (ht:IsTup s.heap t items) (hs:s.heap.IsSliceOf sl vl vu .none) (pl:IsPart vl lo) (pu:IsPart vu hi)
  (hw:sIx items.size 0 lo = 0 ∧ sIx items.size items.size hi = items.size) (h:Q (.ref t) s):wpAny (model prog w) A (getItem (.ref t) (.ref sl)) Q E s:=by
 obtain ⟨os,hos,hcs,hds⟩:=id hs
 have hTs:s.TypeIs (.ref sl) "slice" := ⟨os,hos,hcs⟩
 unfold getItem
 try with_reducible refine wpAny_holding ?_
 first | refine wpAny_bind (wpAny_pure ?_) | skip
 refine wpAny_bind (wpAny_sequenceKey ht.typeIs (by decide) ?_)
 refine wpAny_bind (wpAny_callSpecial?_slot (name:=Str.ofString "__getitem__") ht.typeIs PyProof.Rows.slot_tuple_getitem
  (wpAny_call_entry PyProof.Rows.slot_tuple_getitem ht.typeIs entry_tuple_getitem ?_ (args_tuple_getitem _ _)))
 show wpAny _ _ (Builtin.Tuple.tupleItemsOf (.ref t) >>= _) _ _ s
 refine wpAny_bind (tupleItemsOf_ ht ?_)
 refine wpAny_bind (wpAny_typeOf hTs ?_)
 rw [if_pos (by decide)]
 refine wpAny_bind (a7u hs pl pu ?_)
 have hyes:(((sIx items.size 0 lo:Nat):Int) == 0 && (1:Int) == 1 && (sIx items.size items.size hi - sIx items.size 0 lo) == items.size) = true:=by
  rw [hw.1,hw.2]; simp
 show wpAny _ _ (if (((sIx items.size 0 lo:Nat):Int) == 0 && (1:Int) == 1 && (sIx items.size items.size hi - sIx items.size 0 lo) == items.size) = true then _ else _) _ _ s
 rw [if_pos hyes]
 refine wpAny_bind (m:=Builtin.Tuple.tupleIsExact _) (wpAny_bind (wpAny_typeOf ht.typeIs (wpAny_pure ?_)))
 rw [if_pos (by decide)]
 first
  | exact wpAny_bind (wpAny_rule (wpAny_bind (wpAny_pure (wpAny_pure ⟨_,rfl,wpAny_pure h⟩))))
  | exact wpAny_bind (wpAny_rule (wpAny_pure ⟨_,rfl,wpAny_pure h⟩))
  | exact wpAny_bind (wpAny_rule (wpAny_bind (wpAny_pure ⟨_,rfl,wpAny_pure h⟩)))
end
end HT2
namespace DL
open PySem PySem.Spec L2
section
variable {X:Cx} {g:Gh} {a:Expr} {fa:DE} {pos:Pos}
noncomputable def b1H (K:PySem.W.Frag):V → Option Int → Option Int → Hp → VK → Prop:=fun x lo hi H Q=>∃ a xs,x = .ref a ∧ SqT K H a xs ∧ (HT.sIx xs.length 0 lo = 0 ∧ HT.sIx xs.length xs.length hi = xs.length) ∧ Q (.ref a) H
theorem b0p:L2.SlR X (b1H X.K):=by
 intro pins s σ H x v vl vu lo hi sl Q I rx hs pl pu h
 obtain ⟨a,xs,rfl,hx,hw,q⟩:=h
 cases rx
 obtain ⟨its,r,ht,hz⟩:=I.tuple hx
 have hlen:its.toArray.size = xs.length:=by rw [List.size_toArray]; exact r.length.symm
 refine ⟨"tuple",_,PyProof.Rows.slot_tuple_getitem.lookup,ht.typeIs,?_⟩
 exact HT2.getItem_tuple_whole ht hs pl pu (by rw [hlen]; exact hw) ⟨.ref a,H,I,rfl,q⟩
theorem b4M {xs:List D} {lo hi:Option Int} (h:HT.sIx xs.length 0 lo = 0 ∧ HT.sIx xs.length xs.length hi = xs.length):E5 xs lo hi = xs:=by
 unfold E5
 rw [h.1,h.2,List.drop_zero,Nat.sub_zero,List.take_length]
noncomputable def dSl (f:DE) (lo hi:DO):DE:=fun s=>(f s).bind fun x=>(lo x.2).bind fun l=>(hi l.2).bind fun h=>match x.1 with
 | .tup ds=>some (.tup (E5 ds l.1 h.1),h.2)
 | .lst ds=>some (.lst (E5 ds l.1 h.1),h.2)
 | _=>none
theorem b26 {x r:D} {F:List D → List D} {t z:DS} (e:(match x with
 | .tup ds=>some (D.tup (F ds),t)
 | .lst ds=>some (D.lst (F ds),t)
 | _=>none) = some (r,z)):t = z ∧ ((∃ ds,x = .lst ds ∧ r = .lst (F ds)) ∨ ∃ ds,x = .tup ds ∧ r = .tup (F ds)):=by
 cases x with
 | tup ds=>cases e; exact ⟨rfl,.inr ⟨ds,rfl,rfl⟩⟩
 | lst ds=>cases e; exact ⟨rfl,.inl ⟨ds,rfl,rfl⟩⟩
 | _=>cases e
theorem T7 {lo hi:Option Expr} {fl fh:DO} {p2:Pos} (ha:BO X g a fa) (hl:OO X g lo fl) (hh:OO X g hi fh):EO X g (.Subscript a (.Slice lo hi none p2) pos) (dSl fa fl fh):=
 EO.w (a6Z (L2.SlR.or (L2.SlR.or a9U b0p) a9o) ha.pe hl.pe hh.pe) fun σ H Q hQ=>by
  refine hQ.elim fun f0 O s d s' I e k=>?_
  refine v6 e fun x s1 h1 e=>?_
  refine v6 e fun l s2 h2 e=>?_
  refine v6 e fun h s3 h3 e=>?_
  obtain ⟨rfl,c⟩:=b26 (F:=fun ds=>E5 ds l h) e
  refine ⟨f0,O,s,x,s1,I,h1,fun v H1 f1 O1 a1 I1 r1=>⟨f1,O1,s1,l,s2,I1,h2,fun H2 f2 O2 a2 I2=>⟨f2,O2,s2,h,s3,I2,h3,fun H3 f3 O3 a3 I3=>?_⟩⟩⟩
  have r3:=RepB.stp I2 a3 (RepB.stp I1 a2 r1)
  rcases c with ⟨ds,rfl,rfl⟩ | ⟨ds,rfl,rfl⟩
  ·obtain ⟨c,xs,rfl,_,q,w⟩:=r3
   refine .inr ⟨c,xs,rfl,SqL.of q,fun p hp=>?_⟩
   have a4:StE f3 O3 H3 f3 O3 (upd H3 p (.lst (M4 xs l h))):=C1 hp
   have L:=R6 I3 hp (a3X w l h)
   refine k _ _ f3 O3 (a1.trans (a2.trans (a3.trans a4))) L.gi ?_
   simp only [Rep]
   exact ⟨p,_,rfl,a13 I3 a4 L.gi hp L.nf,B7,Reps.stp I3 a4.stp (a3X w l h)⟩
  ·simp only [RepB,Rep] at r3
   obtain ⟨c,xs,rfl,q,w⟩:=r3
   by_cases hw:HT.sIx xs.length 0 l = 0 ∧ HT.sIx xs.length xs.length h = xs.length
   ·refine .inl (.inr ⟨c,xs,rfl,q,hw,k _ H3 f3 O3 (a1.trans (a2.trans a3)) I3 ?_⟩)
    rw [w.length] at hw
    rw [b4M hw]
    simp only [Rep]
    exact ⟨c,xs,rfl,q,w⟩
   ·refine .inl (.inl ⟨c,xs,rfl,q,hw,fun p hp=>?_⟩)
    have a4:StE f3 O3 H3 f3 O3 (upd H3 p (.tup (M4 xs l h))):=C1 hp
    refine k _ _ f3 O3 (a1.trans (a2.trans (a3.trans a4))) (I3.new hp) ?_
    simp only [Rep]
    exact ⟨p,_,rfl,SqT.of B7,Reps.stp I3 a4.stp (a3X w l h)⟩
end
end DL
namespace DL
open PySem PySem.Spec L2 PyProof.Rows
theorem b4x {P:Program} {w:World} {K:PySem.W.Frag} {mg:Str → Option Value} {base:Heap} {k:Nat} {f:Addr} {fd:FuncData} {ps:List Str}:FnD P w K mg base k f fd ps (fun _ _=>none):=by
 refine ⟨fun vs H Q E h=>?_,fun A outer s H args us vs Q E _ _ _ _ h=>?_⟩ <;> (obtain ⟨F,fa,ds,fs,d,fs',_,_,_,_,e,_⟩:=h; cases e)
end DL
namespace DL
open PySem PySem.Spec L2
noncomputable def a4d:Expr → Bool
 | .Starred _ _=>false
 | _=>true
theorem a8O {a:Expr} {es:List Expr} {env:Env} (h:a4d a = true):starEach (a :: es) env = (false,eval a env) :: starEach es env:=by
 cases a <;> first | rfl | (cases h)
section
variable {X:Cx} {g:Gh} {a:Expr} {es:List Expr} {fa:DE} {fr:DA}
theorem ac (ha:EO X g a fa) (hr:AO X g es fr) (hs:a4d a = true:=by rfl):AO X g (a :: es) (a6 fa fr):=a2C ha hr (a8O hs)
theorem bc (ha:BO X g a fa) (hr:BAO X g es fr) (hs:a4d a = true:=by rfl):BAO X g (a :: es) (a6 fa fr):=b12 ha hr (a8O hs)
end
end DL
namespace DL
open PySem PySem.Spec L2 PyProof.Rows
noncomputable def inD (x:D) (ds:List D):Bool:=(D.pys ds).any fun y=>PyData.eqv y x.py
noncomputable def a0C (f:Bool → Bool) (x c:D):Option D:=match c with
 | .lst ds=>if A1 x && A1 (.lst ds) then some (.bl (f (inD x ds))) else none
 | .tup ds=>if A1 x && A1 (.tup ds) then some (.bl (f (inD x ds))) else none
 | _=>none
noncomputable def pIn (x c:D):Option D:=a0C id x c
noncomputable def a2Q (K:PySem.W.Frag) (f:Bool → Bool):R2:=fun x y H Q=>∃ N fa d1 d2 ds,RepB K N fa H d1 x ∧ RepB K N fa H d2 y ∧ (d2 = .lst ds ∨ d2 = .tup ds) ∧ A1 d1 = true ∧ A1 d2 = true ∧ Q (.bl (f (inD d1 ds))) H
section
variable {X:Cx} {K:PySem.W.Frag}
theorem a6z {u a b:Nat} (h:u + 64 < cLine) (ha:a + 1 ≤ 64):u + 1 + min a b < cLine:=by
 have:min a b ≤ a:=Nat.min_le_left _ _
 omega
theorem a24 (hu:X.A.units + 64 < cLine):OpR X (compareOp .In) (a2Q X.K id):=by
 intro pins s σ H x y v u Q I rx ry h
 obtain ⟨N,fa,d1,d2,ds,r1,r2,hd,o1,o2,q⟩:=h
 unfold A1 at o1 o2
 rw [Bool.and_eq_true] at o1 o2
 obtain ⟨as,h1⟩:=T4 I d1 x v r1.o rx o1.1
 obtain ⟨bs,h2⟩:=T4 I d2 y u r2.o ry o2.1
 have l2:=SeqAt.canLay_of_shaped o2.2
 have dp:=SeqAt.depth_of_shaped o2.2
 rcases hd with rfl | rfl
 ·simp only [D.py,PyData.canLay0,PyData.depth] at h2 l2 dp
  exact SeqAt.in_list_reads h2 h1 l2 (SeqAt.canLay_of_shaped o1.2) (a6z hu dp) ⟨.bl _,H,I,rfl,q⟩
 ·simp only [D.py,PyData.canLay0,PyData.depth] at h2 l2 dp
  exact SeqAt.in_tuple_reads h2 h1 l2 (SeqAt.canLay_of_shaped o1.2) (a6z hu dp) ⟨.bl _,H,I,rfl,q⟩
theorem b3c {f:Bool → Bool} {x c d:D} (h:a0C f x c = some d):∃ ds,(c = .lst ds ∨ c = .tup ds) ∧ A1 x = true ∧ A1 c = true ∧ d = .bl (f (inD x ds)):=by
 unfold a0C at h
 cases c with
 | lst ds=>
  simp only at h
  split at h
  ·rename_i q; rw [Bool.and_eq_true] at q; cases h; exact ⟨ds,.inl rfl,q.1,q.2,rfl⟩
  ·cases h
 | tup ds=>
  simp only at h
  split at h
  ·rename_i q; rw [Bool.and_eq_true] at q; cases h; exact ⟨ds,.inr rfl,q.1,q.2,rfl⟩
  ·cases h
 | _=>cases h
theorem b06 (f:Bool → Bool):R2D K (a2Q K f) (a0C f):=by
 intro g σ H fa O s x y d1 d2 d Q I r1 r2 e k
 obtain ⟨ds,hc,o1,o2,rfl⟩:=b3c e
 exact ⟨_,fa,d1,d2,ds,r1,r2,hc,o1,o2,k _ H StE.refl I (by simp only [Rep])⟩
theorem a47:R2D K (a2Q K id) pIn:=b06 id
end
end DL
namespace DL
open PySem PySem.Spec L2
noncomputable def a3S (i:Nat) (s:DS):DS:=match s.sl[i]? with
 | some (.own ds)=>{ s with sl:=s.sl.set i (.val (.lst ds)) }
 | _=>s
noncomputable def a2d:List Nat → DS → DS
 | [],s=>s
 | i :: r,s=>a2d r (a3S i s)
section
variable {K:PySem.W.Frag} {g:Gh} {σ:L2.St} {H:Hp} {fa:Option Addr} {O:List Addr} {s:DS}
theorem b4N (i:Nat) (I:GI K g σ H fa O s):∃ P,StE fa O H fa P H ∧ GI K g σ H fa P (a3S i s):=by
 unfold a3S
 cases q:s.sl[i]? with
 | none=>exact ⟨O,StE.refl,I⟩
 | some z=>
  cases z with
  | no=>exact ⟨O,StE.refl,I⟩
  | val d'=>exact ⟨O,StE.refl,I⟩
  | own ds=>
   simp only
   obtain ⟨a,xs,e1,m,e2,r⟩:=SlR.own I.sl q
   let N1:Addr → Prop:=fun b=>NN g.F fa O b ∧ b ≠ a
   have c1:Car K (NN g.F fa O) fa H N1 fa H:=⟨fun b ys n z=>⟨z,fun y=>n y.1⟩,fun _ _ z=>z,fun _ _ z=>z,fun _ z=>z⟩
   have S1:=SlR.go c1 (fun _ _ _ z=>z) I.sl
   have R1:Rep K N1 fa H (.lst ds) (.ref a):=by
    simp only [Rep]
    exact ⟨a,xs,rfl,fun z=>z.2 rfl,e2,Reps.go c1 ds xs r⟩
   obtain ⟨P,hs,S2,hn⟩:=SlR.put i S1 R1
   have na:a ∉ P:=hn I.nd a (by rw [q]; rfl) ⟨ds,q⟩ e1
   have eσ:σ.set i (some (V.ref a)) = σ:=by
    apply List.ext_getElem?
    intro j
    by_cases hj:j = i
    ·subst hj
     rw [e1,List.getElem?_set_self (List.getElem?_eq_some_iff.mp e1).1]
    ·rw [List.getElem?_set_ne (Ne.symm hj)]
   rw [eσ] at S2
   have sub:∀ b ∈ P,b ∈ O:=fun b hb=>hs.subset hb
   have a1:StE fa O H fa P H:=⟨sub,.inl rfl,fun _ _ z _=>z,fun _ z=>z⟩
   have c2:Car K N1 fa H (NN g.F fa P) fa H:=⟨fun b ys n z=>⟨z,fun y=>n ⟨by
     rcases y with y | y | y
     ·exact .inl y
     ·exact .inr (.inl (sub b y))
     ·exact .inr (.inr y),fun w=>by
     subst w
     rcases y with y | y | y
     ·exact I.tr b y (I.fr b m)
     ·exact na y
     ·exact I.nf b y m⟩⟩,fun _ _ z=>z,fun _ _ z=>z,fun _ z=>z⟩
   exact ⟨P,a1,hs.nodup I.nd,SlR.go c2 (fun _ _ _ z=>z) S2,fun b hb=>I.fr b (sub b hb),I.st,I.tr,I.ff,(I.fd.car c1 fun _ _=>rfl).car c2 fun _ _=>rfl,fun b z y=>I.nf b z (sub b y)⟩
theorem a9x:∀ (is:List Nat) {O:List Addr} {s:DS},GI K g σ H fa O s → ∃ P,StE fa O H fa P H ∧ GI K g σ H fa P (a2d is s)
 | [],O,s,I=>⟨O,StE.refl,I⟩
 | i :: r,O,s,I=>by
  obtain ⟨P,a,I1⟩:=b4N i I
  obtain ⟨P',a',I2⟩:=a9x r I1
  exact ⟨P',a.trans a',I2⟩
end
noncomputable def a4i (is:List Nat) (f:DA):DA:=fun s=>f (a2d is s)
theorem b1J {X:Cx} {g:Gh} {e:Expr} {f:DA} (is:List Nat) (h:FO X g e f):FO X g e (a4i is f):=FO.w h.pe fun σ H Q hQ=>by
 refine hQ.elim fun fa O s d s' I q k=>?_
 obtain ⟨P,a,I1⟩:=a9x is I
 exact ⟨fa,P,a2d is s,d,s',I1,q,fun p xs H' f1 O1 a1 L e1=>k p xs H' f1 O1 (a.trans a1) L e1⟩
noncomputable def mk2 (idx:List Nat) (sl:List Sl):D → Option (List Sl)
 | .tup [a,b]=>some (.val a :: .val b :: Q0 idx sl)
 | _=>none
theorem b4O {idx:List Nat} {sl:List Sl} {d:D} {r:List Sl} (h:mk2 idx sl d = some r):∃ a b,d = .tup [a,b] ∧ r = .val a :: .val b :: Q0 idx sl:=by
 cases d with
 | tup ds=>
  match ds,h with
  | [a,b],h=>cases h; exact ⟨a,b,rfl,rfl⟩
 | _=>cases h
noncomputable def X2 (idx:List Nat) (fi:DA) (fc:DT) (fe:DE):DA:=fun s=>(fi s).bind fun x=>if x.1.length ≤ sizeLine then (B6 (mk2 idx x.2.sl) fc fe x.1 x.2.fs).map fun y=>(y.1,{ x.2 with fs:=y.2 }) else none
section
variable {X:Cx} {g:Gh} {scope:Scope} {cl:List (Str × Addr)} {N':List Str} {idx:List Nat} {iter elt tg:Expr} {ifs:List Expr} {pos:Pos} {fi:DA} {fc:DT} {fe:DE}
theorem b0d {G:TG} (k:CompOk X scope cl N' 2 idx)
  (hG:∀ (a:Addr) (x y:V) (σ:L2.St) (H:Hp) (Q:L2.St → Hp → Prop),SqT X.K H a [x,y] → Q ((σ.set 0 (some x)).set 1 (some y)) H → G (.ref a) σ H Q):∀ σ H Q,liftF X.K g (X2 idx fi fc fe) σ H Q → Z3 2 idx (liftI X.K g fi) G (fun σ H Q=>∃ g',liftT X.K g' fc σ H Q) (fun σ H Q=>∃ g',liftE X.K g' fe σ H Q) σ H Q:=
 a8k (mk:=mk2 idx) fun N fa sl d sl0 x σ H Q hm rx hc kk=>by
  obtain ⟨da,db,rfl,rfl⟩:=b4O hm
  simp only [Rep,Reps] at rx
  obtain ⟨ad,xs0,rfl,hsq,u,ys0,rfl,ru,w,ys1,rfl,rw',rfl⟩:=rx
  refine hG ad u w _ _ _ hsq (kk _ ⟨by simp,fun j v hj=>?_⟩ ?_)
  ·cases j with
   | zero=>simp [C7] at hj
   | succ j=>
    cases j with
    | zero=>simp [C7] at hj
    | succ j=>rw [List.getElem?_set_ne (by simp),List.getElem?_set_ne (by simp)]; exact hj
  ·have eb:((C7 2 idx σ).set 0 (some u)).set 1 (some w) = some u :: some w :: idx.map fun i=>(σ[i]?).join:=by simp [C7]
   rw [eb]
   simp only [SlR]
   exact ⟨u,_,rfl,ru,w,_,rfl,rw',hc⟩
theorem b5y {G:TG} (hc:X.calm = true) (k:CompOk X scope cl N' 2 idx) (hi:IO X g tg iter fi) (hg:∀ C s0 H0 ex,PG (blk X N' scope cl C s0 H0 ex) tg G)
  (hG:∀ (a:Addr) (x y:V) (σ:L2.St) (H:Hp) (Q:L2.St → Hp → Prop),SqT X.K H a [x,y] → Q ((σ.set 0 (some x)).set 1 (some y)) H → G (.ref a) σ H Q)
  (ht:∀ C s0 H0 ex g',Z6 (blk X N' scope cl C s0 H0 ex) g' ifs fc) (he:∀ C s0 H0 ex g',EO (blk X N' scope cl C s0 H0 ex) g' elt fe) (hs:∀ x,foldedSetIterable iter X.env x = pure x:=by intro _; rfl) :
  FO X g (.ListComp elt [⟨tg,iter,ifs,0⟩] scope pos) (X2 idx fi fc fe):=by
 exact FO.w (a6y (tc:=fun σ H Q=>∃ g',liftT X.K g' fc σ H Q) (te:=fun σ H Q=>∃ g',liftE X.K g' fe σ H Q) hc k hi.pe hg (fun C s0 H0 ex pins s σ H Q I ⟨g',h⟩=>ht C s0 H0 ex g' pins s σ H Q I h) (fun C s0 H0 ex pins s σ H Q I ⟨g',h⟩=>(he C s0 H0 ex g').pe pins s σ H Q I h) hs) (b0d k hG)
theorem b3j {X:Cx} {scope:Scope} {cl:List (Str × Addr)} {x y:Str} {caps:List Str} {idx:List Nat} (clos:closureFor scope X.env = pure cl) (sub:SubL X.env.cells cl) (cell:∀ y ∈ scope.names,y.2 ≠ .cell) (kind:scope.kind = .function)
  (names:∀ y ∈ scope.names,y.2 = .local → scope.names.lookup y.1 = some .local) (has:hasAll (relabel scope X.env).names cl = true) (cap:CapL X scope idx caps):CompOk X scope cl (x :: y :: caps) 2 idx:=
 ⟨clos,fun y c e=>sub.mem y c (a2o e),cell,kind,names,a76 has,by rw [List.length_cons,List.length_cons,cap.len]; omega,fun j i y e1 e2=>cap.at j i y e1 (by
  rw [show 2 + j = j + 1 + 1 by omega] at e2; simpa using e2)⟩
end
noncomputable def RwIt (h:Heap) (i l:Addr) (xs:Array Value) (k:Nat):Prop:=(h.IsListIter i l k ∧ h.IsList l xs) ∨ (h.IsTupleIter i l k ∧ h.IsTuple l xs)
section
variable {h h':Heap} {i l:Addr} {xs:Array Value} {k:Nat}
theorem RwIt.at (x:RwIt h i l xs k) (ei:∀ o,h.get? i = some o → h'.get? i = some o) (el:∀ o,h.get? l = some o → h'.get? l = some o):RwIt h' i l xs k:=by
 rcases x with ⟨⟨o,q,r⟩,⟨p,u,v⟩⟩ | ⟨⟨o,q,r⟩,⟨p,u,v⟩⟩
 ·exact .inl ⟨⟨o,ei o q,r⟩,⟨p,el p u,v⟩⟩
 ·exact .inr ⟨⟨o,ei o q,r⟩,⟨p,el p u,v⟩⟩
theorem RwIt.lt (x:RwIt h i l xs k):i < h.objs.size:=by
 rcases x with ⟨⟨o,q,r⟩,_⟩ | ⟨⟨o,q,r⟩,_⟩ <;> exact Heap.lt_size q
end
section
variable {prog:Program} {w:World} {A:Around} {E:Value → Shared → Prop} {s:Shared}
theorem b2d {it t:Addr} {i:Nat} {items:Array Value} {x:Value} {Q:Value → Shared → Prop} (hit:s.heap.IsTupleIter it t i) (ht:s.heap.IsTuple t items) (hx:items[i]? = some x)
  (hQ:∀ h',h'.IsTupleIter it t (i + 1) → Heap.SameBut it s.heap h' → Q x { s with heap:=h' }):wpAny (model prog w) A (Builtin.SmallTypes.nextOf (.ref it)) Q E s:=by
 obtain ⟨o,ho,hc,hd⟩:=id hit
 obtain ⟨ol,hol,_,nl,hdl⟩:=ht
 unfold Builtin.SmallTypes.nextOf
 refine wpAny_bind (wpAny_callSpecial?_slot (name:=Str.ofString "__next__") hit.typeIs PySem.F.slot_tuple_iterator_next (wpAny_call_entry PySem.F.slot_tuple_iterator_next hit.typeIs PySem.F.entry_tuple_iterator_next ?_ (PySem.F.args_tuple_iterator_next_1 _)))
 show wpAny _ _ (field (.ref it) 0 >>= _) _ _ s
 refine wpAny_bind (wpAny_field ho hd (x:=.ref t) rfl ?_)
 show wpAny _ _ (if (Value.ref t == Value.none) = true then _ else _) _ _ s
 rw [if_neg (show ¬ ((Value.ref t == Value.none) = true) from Bool.false_ne_true)]
 show wpAny _ _ (field (.ref it) 1 >>= _) _ _ s
 refine wpAny_bind (wpAny_field ho hd (x:=.int i 0) rfl ?_)
 show wpAny _ _ (seqItems? (.ref t) >>= _) _ _ s
 refine wpAny_bind (wpAny_seqItems hol hdl ?_)
 simp only [Int.toNat_natCast,hx]
 refine wpAny_bind (wpAny_setField ho hd (by simp) (wpAny_pure ⟨x,rfl,wpAny_pure (hQ _ ?_ (Heap.SameBut.update ..))⟩))
 exact ⟨_,Heap.get?_update_self _ ho (Obj.isFreed_of_fields (Obj.data_mapFields hd _)),(Obj.cls_mapFields ..).trans hc,by rw [Obj.data_mapFields hd]; simp [rawInt]⟩
theorem b1x {it t:Addr} {i:Nat} {items:Array Value} {Q:Value → Shared → Prop} (hh:A.handled = none) (hit:s.heap.IsTupleIter it t i) (ht:s.heap.IsTuple t items) (hx:items[i]? = none)
  (hE:∀ h' e,Heap.ExtBut it s.heap h' → (∃ o,h'.get? e = some o ∧ o.cls = .type "StopIteration") → E (.ref e) { s with heap:=h' }):wpAny (model prog w) A (Builtin.SmallTypes.nextOf (.ref it)) Q E s:=by
 obtain ⟨o,ho,hc,hd⟩:=id hit
 obtain ⟨ol,hol,_,nl,hdl⟩:=ht
 unfold Builtin.SmallTypes.nextOf
 refine wpAny_bind (wpAny_callSpecial?_slot (name:=Str.ofString "__next__") hit.typeIs PySem.F.slot_tuple_iterator_next (wpAny_call_entry PySem.F.slot_tuple_iterator_next hit.typeIs PySem.F.entry_tuple_iterator_next ?_ (PySem.F.args_tuple_iterator_next_1 _)))
 show wpAny _ _ (field (.ref it) 0 >>= _) _ _ s
 refine wpAny_bind (wpAny_field ho hd (x:=.ref t) rfl ?_)
 show wpAny _ _ (if (Value.ref t == Value.none) = true then _ else _) _ _ s
 rw [if_neg (show ¬ ((Value.ref t == Value.none) = true) from Bool.false_ne_true)]
 show wpAny _ _ (field (.ref it) 1 >>= _) _ _ s
 refine wpAny_bind (wpAny_field ho hd (x:=.int i 0) rfl ?_)
 show wpAny _ _ (seqItems? (.ref t) >>= _) _ _ s
 refine wpAny_bind (wpAny_seqItems hol hdl ?_)
 simp only [Int.toNat_natCast,hx]
 refine wpAny_bind (wpAny_rule (wpAny_bind (wpAny_setField ho hd (by simp) ?_)))
 show wpAny _ _ (newExc (.type "StopIteration") [] >>= _) _ _ _
 refine wpAny_bind ?_
 simp only [newExc,newTuple]
 refine wpAny_bind (wpAny_newObj_type ?_ (by size_fits))
 refine wpAny_bind (m:=firstArgMember _ _) (wpAny_of_eq (a:=Value.none) (by first | rfl | (simp only [firstArgMember]; rfl)) ?_)
 refine wpAny_newObj_type ?_ (by size_fits)
 simp only [raiseNew]
 refine wpAny_bind (wpAny_handled ?_)
 first | rw [show A.in1.handled = none from hh] | rw [hh]
 refine wpAny_bind (wpAny_pure (wpAny_throw ?_))
 exact hE _ _ (((Heap.SameBut.update ..).extBut.push _).push _) ⟨_,Heap.get?_push_size _ rfl,rfl⟩
theorem a0b {it l:Addr} {i:Nat} {xs:Array Value} {x:Value} {Q:Value → Shared → Prop} (r:RwIt s.heap it l xs i) (hl:l ≠ it) (hx:xs[i]? = some x)
  (hQ:∀ h',RwIt h' it l xs (i + 1) → Heap.SameBut it s.heap h' → Q x { s with heap:=h' }):wpAny (model prog w) A (Builtin.SmallTypes.nextOf (.ref it)) Q E s:=by
 rcases r with ⟨a,b⟩ | ⟨a,b⟩
 ·exact wpAny_nextOf_list_item a b hx fun h' a' hs=>hQ h' (.inl ⟨a',b.extBut hs.extBut hl⟩) hs
 ·exact b2d a b hx fun h' a' hs=>hQ h' (.inr ⟨a',b.extBut hs.extBut hl⟩) hs
theorem a08 {it l:Addr} {i:Nat} {xs:Array Value} {Q:Value → Shared → Prop} (hh:A.handled = none) (r:RwIt s.heap it l xs i) (hx:xs[i]? = none)
  (hE:∀ h' e,Heap.ExtBut it s.heap h' → (∃ o,h'.get? e = some o ∧ o.cls = .type "StopIteration") → E (.ref e) { s with heap:=h' }):wpAny (model prog w) A (Builtin.SmallTypes.nextOf (.ref it)) Q E s:=by
 rcases r with ⟨a,b⟩ | ⟨a,b⟩
 ·exact wpAny_nextOf_list_end hh a b hx hE
 ·exact b1x hh a b hx hE
noncomputable abbrev E9 (h:Heap) (z TI TO:Addr) (f0 f1:Value):Prop:=h.get? z = some { cls:=.type "zip",dict:=none,data:=.fields #[f0,f1,.bool false,.ref TI,.ref TO],slots:=#[] }
variable {z TI TO i1 i2 l1 l2:Addr} {xs ys:Array Value} {k:Nat}
theorem a9Y {x y a b:Value} {Q:Value → Shared → Prop} (D:ZipApart z TI TO i1 i2 l1 l2)
  (hz:E9 s.heap z TI TO .none (.bool false)) (hTI:IsPair s.heap TI (.ref i1) (.ref i2)) (hTO:IsPair s.heap TO a b) (h1:RwIt s.heap i1 l1 xs k) (h2:RwIt s.heap i2 l2 ys k) (hx:xs[k]? = some x) (hy:ys[k]? = some y)
  (hQ:∀ h',E9 h' z TI TO (rawInt s.heap.objs.size) (.bool false) → RwIt h' i1 l1 xs (k + 1) → RwIt h' i2 l2 ys (k + 1) → IsPair h' s.heap.objs.size x y →
   (∀ c o,c ≠ z → c ≠ TO → c ≠ i1 → c ≠ i2 → s.heap.get? c = some o → h'.get? c = some o) → IsPair h' TO x y → Q (.ref s.heap.objs.size) { s with heap:=h' }) :
  wpAny (model prog w) A (Builtin.«zip.__next__» ⟨[.ref z],[]⟩) (fun fin s'=>∃ v,fin = .done (.ret v) ∧ Q v s') E s:=by
 show wpAny _ _ (field (.ref z) 2 >>= _) _ _ _
 refine wpAny_bind (wpAny_field hz rfl (x:=.bool false) rfl ?_)
 show wpAny _ _ (field (.ref z) 3 >>= _) _ _ _
 refine wpAny_bind (wpAny_field hz rfl (x:=.ref TI) rfl ?_)
 refine wpAny_bind (wpAny_seqItems hTI rfl ?_)
 show wpAny _ _ (Builtin.SmallTypes.ownedTupleIsFree (.ref z) >>= _) _ _ _
 refine wpAny_bind ?_
 unfold Builtin.SmallTypes.ownedTupleIsFree
 refine wpAny_bind (wpAny_field hz rfl (x:=.none) rfl (wpAny_pure ?_))
 simp only [if_true]
 refine wpAny_bind (wpAny_rule ?_)
 refine wpAny_bind (wpAny_field hz rfl (x:=.ref TO) rfl ?_)
 refine wpAny_bind (wpAny_setField_rec hz (by simp) fun g1 z1 k1=>?_)
 replace z1:E9 g1 z TI TO .ellipsis (.bool false):=z1
 refine wpAny_bind ?_
 simp only [List.zipIdx_cons,List.zipIdx_nil,List.forIn_cons,List.forIn_nil]
 refine wpAny_bind (wpAny_bind (wpAny_onRaise ?_))
 show wpAny _ _ (Builtin.SmallTypes.nextOf (.ref i1) >>= _) _ _ _
 refine wpAny_bind (a0b (h1.at (fun o e=>k1.extBut _ o D.i1z e) fun o e=>k1.extBut _ o D.l1z e) D.l1i1 hx fun g2 r2 k2=>wpAny_pure ?_)
 have o2:IsPair g2 TO a b:=k2.extBut _ _ D.TOi1 (k1.extBut _ _ D.TOz hTO)
 refine wpAny_bind (wpAny_seqItems o2 rfl ?_)
 refine wpAny_bind (wpAny_updateSeq_pair o2 fun g3 o3 k3=>?_)
 replace o3:IsPair g3 TO x b:=o3
 refine wpAny_bind (wpAny_letGo (wpAny_pure ?_))
 refine wpAny_bind (wpAny_bind (wpAny_onRaise ?_))
 show wpAny _ _ (Builtin.SmallTypes.nextOf (.ref i2) >>= _) _ _ _
 refine wpAny_bind (a0b (h2.at (fun o e=>k3.extBut _ o D.TOi2.symm (k2.extBut _ o D.i12.symm (k1.extBut _ o D.i2z e))) fun o e=>k3.extBut _ o D.l2TO (k2.extBut _ o D.l2i1 (k1.extBut _ o D.l2z e))) D.l2i2 hy fun g4 r4 k4=>wpAny_pure ?_)
 have o4:IsPair g4 TO x b:=k4.extBut _ _ D.TOi2 o3
 refine wpAny_bind (wpAny_seqItems o4 rfl ?_)
 refine wpAny_bind (wpAny_updateSeq_pair o4 fun g5 o5 k5=>?_)
 replace o5:IsPair g5 TO x y:=o5
 refine wpAny_bind (wpAny_letGo (wpAny_pure (wpAny_pure ?_)))
 refine wpAny_bind (wpAny_seqItems o5 rfl ?_)
 refine wpAny_bind (wpAny_newTuple ?_)
 have sz:g5.objs.size = s.heap.objs.size:=by rw [k5.1,k4.1,k3.1,k2.1,k1.1]
 have z5:E9 g5 z TI TO .ellipsis (.bool false):=k5.extBut _ _ D.TOz.symm (k4.extBut _ _ D.i2z.symm (k3.extBut _ _ D.TOz.symm (k2.extBut _ _ D.i1z.symm z1)))
 have q5:∀ c o,c ≠ z → c ≠ TO → c ≠ i1 → c ≠ i2 → s.heap.get? c = some o → g5.get? c = some o:=fun c o c1 c2 c3 c4 e=>
  k5.extBut _ _ c2 (k4.extBut _ _ c4 (k3.extBut _ _ c2 (k2.extBut _ _ c3 (k1.extBut _ _ c1 e))))
 have p1:RwIt g5 i1 l1 xs (k + 1):=r2.at (fun o e=>k5.extBut _ o D.TOi1.symm (k4.extBut _ o D.i12 (k3.extBut _ o D.TOi1.symm e))) fun o e=>k5.extBut _ o D.l1TO (k4.extBut _ o D.l1i2 (k3.extBut _ o D.l1TO e))
 have p2:RwIt g5 i2 l2 ys (k + 1):=r4.at (fun o e=>k5.extBut _ o D.TOi2.symm e) fun o e=>k5.extBut _ o D.l2TO e
 have zl:z < g5.objs.size:=Heap.lt_size z5
 show wpAny _ _ (Builtin.SmallTypes.ownedTupleHandOut (.ref z) (.ref g5.objs.size) >>= _) _ _ _
 refine wpAny_bind ?_
 unfold Builtin.SmallTypes.ownedTupleHandOut
 have z6:E9 (g5.push { cls:=.type "tuple",data:=.seq #[x,y] }) z TI TO .ellipsis (.bool false):=Heap.get?_push_of_some _ z5
 refine wpAny_bind (wpAny_setField_rec z6 (by simp) fun g7 z7 k7=>?_)
 replace z7:E9 g7 z TI TO (rawInt g5.objs.size) (.bool false):=z7
 refine wpAny_setField_rec z7 (by simp) fun g8 z8 k8=>?_
 replace z8:E9 g8 z TI TO (rawInt g5.objs.size) (.bool false):=z8
 have up:∀ c o,c ≠ z → g5.get? c = some o → g8.get? c = some o:=fun c o c1 e=>k8.extBut _ _ c1 (k7.extBut _ _ c1 (Heap.get?_push_of_some _ e))
 have t8:IsPair g8 g5.objs.size x y:=k8.extBut _ _ (Nat.ne_of_gt zl) (k7.extBut _ _ (Nat.ne_of_gt zl) (Heap.get?_push_size _ rfl))
 rw [sz] at z8 t8
 refine wpAny_pure ⟨_,rfl,?_⟩
 show Q (.ref g5.objs.size) _
 rw [sz]
 exact hQ g8 z8 (p1.at (fun o e=>up _ o D.i1z e) fun o e=>up _ o D.l1z e) (p2.at (fun o e=>up _ o D.i2z e) fun o e=>up _ o D.l2z e) t8 (fun c o c1 c2 c3 c4 e=>up c o c1 (q5 c o c1 c2 c3 c4 e)) (up _ _ D.TOz o5)
theorem b0u {a b:Value} {Q:Fin → Shared → Prop} (hh:A.handled = none) (D:ZipApart z TI TO i1 i2 l1 l2)
  (hz:E9 s.heap z TI TO .none (.bool false)) (hTI:IsPair s.heap TI (.ref i1) (.ref i2)) (hTO:IsPair s.heap TO a b) (h1:RwIt s.heap i1 l1 xs k) (h2:RwIt s.heap i2 l2 ys k) (hend:xs[k]? = none ∨ ys[k]? = none)
  (hE:∀ h' e,(∀ c o,c ≠ z → c ≠ TO → c ≠ i1 → c ≠ i2 → s.heap.get? c = some o → h'.get? c = some o) → (∃ o,h'.get? e = some o ∧ o.cls = .type "StopIteration") → E (.ref e) { s with heap:=h' }) :
  wpAny (model prog w) A (Builtin.«zip.__next__» ⟨[.ref z],[]⟩) Q E s:=by
 show wpAny _ _ (field (.ref z) 2 >>= _) _ _ _
 refine wpAny_bind (wpAny_field hz rfl (x:=.bool false) rfl ?_)
 show wpAny _ _ (field (.ref z) 3 >>= _) _ _ _
 refine wpAny_bind (wpAny_field hz rfl (x:=.ref TI) rfl ?_)
 refine wpAny_bind (wpAny_seqItems hTI rfl ?_)
 show wpAny _ _ (Builtin.SmallTypes.ownedTupleIsFree (.ref z) >>= _) _ _ _
 refine wpAny_bind ?_
 unfold Builtin.SmallTypes.ownedTupleIsFree
 refine wpAny_bind (wpAny_field hz rfl (x:=.none) rfl (wpAny_pure ?_))
 simp only [if_true]
 refine wpAny_bind (wpAny_rule ?_)
 refine wpAny_bind (wpAny_field hz rfl (x:=.ref TO) rfl ?_)
 refine wpAny_bind (wpAny_setField_rec hz (by simp) fun g1 z1 k1=>?_)
 replace z1:E9 g1 z TI TO .ellipsis (.bool false):=z1
 refine wpAny_bind ?_
 simp only [List.zipIdx_cons,List.zipIdx_nil,List.forIn_cons,List.forIn_nil]
 refine wpAny_bind (wpAny_bind (wpAny_onRaise ?_))
 show wpAny _ _ (Builtin.SmallTypes.nextOf (.ref i1) >>= _) _ _ _
 cases hx:xs[k]? with
 | none=>
  refine wpAny_bind (a08 hh (h1.at (fun o e=>k1.extBut _ o D.i1z e) fun o e=>k1.extBut _ o D.l1z e) hx fun g2 e k2 he=>?_)
  obtain ⟨oe,hoe,hce⟩:=he
  have z2:E9 g2 z TI TO .ellipsis (.bool false):=k2 _ _ D.i1z.symm z1
  have hez:e ≠ z:=fun x=>by subst x; rw [z2] at hoe; cases hoe; simp at hce
  exact wpAny_setField_rec z2 (by simp) fun g3 _ k3=>hE g3 e (fun c o c1 _ c3 _ x=>k3.extBut _ _ c1 (k2 _ _ c3 (k1.extBut _ _ c1 x))) ⟨oe,k3.extBut _ _ hez hoe,hce⟩
 | some x=>
  have hy:ys[k]? = none:=by
   rcases hend with h | h
   ·rw [hx] at h; cases h
   ·exact h
  refine wpAny_bind (a0b (h1.at (fun o e=>k1.extBut _ o D.i1z e) fun o e=>k1.extBut _ o D.l1z e) D.l1i1 hx fun g2 r2 k2=>wpAny_pure ?_)
  have o2:IsPair g2 TO a b:=k2.extBut _ _ D.TOi1 (k1.extBut _ _ D.TOz hTO)
  refine wpAny_bind (wpAny_seqItems o2 rfl ?_)
  refine wpAny_bind (wpAny_updateSeq_pair o2 fun g3 o3 k3=>?_)
  refine wpAny_bind (wpAny_letGo (wpAny_pure ?_))
  refine wpAny_bind (wpAny_bind (wpAny_onRaise ?_))
  show wpAny _ _ (Builtin.SmallTypes.nextOf (.ref i2) >>= _) _ _ _
  refine wpAny_bind (a08 hh (h2.at (fun o e=>k3.extBut _ o D.TOi2.symm (k2.extBut _ o D.i12.symm (k1.extBut _ o D.i2z e))) fun o e=>k3.extBut _ o D.l2TO (k2.extBut _ o D.l2i1 (k1.extBut _ o D.l2z e))) hy fun g4 e k4 he=>?_)
  obtain ⟨oe,hoe,hce⟩:=he
  have z4:E9 g4 z TI TO .ellipsis (.bool false):=k4 _ _ D.i2z.symm (k3.extBut _ _ D.TOz.symm (k2.extBut _ _ D.i1z.symm z1))
  have hez:e ≠ z:=fun x=>by subst x; rw [z4] at hoe; cases hoe; simp at hce
  exact wpAny_setField_rec z4 (by simp) fun g5 _ k5=>hE g5 e (fun c o c1 c2 c3 c4 x=>k5.extBut _ _ c1 (k4 _ _ c4 (k3.extBut _ _ c2 (k2.extBut _ _ c3 (k1.extBut _ _ c1 x))))) ⟨oe,k5.extBut _ _ hez hoe,hce⟩
end
section
variable {prog:Program} {w:World} {A:Around} {E:Value → Shared → Prop} {s:Shared}
variable {z TI TO i1 i2 l1 l2:Addr} {xs ys:Array Value} {k:Nat}
theorem b59 {a:Addr} {o:Obj} {Q:Option Obj → Shared → Prop} (ho:s.heap.get? a = some o) (h:Q (some o) s):wpAny (model prog w) A (loadIfAlive a) Q E s:=by
 have h':Q (s.heap.get? a) s:=by rw [ho]; exact h
 exact fun _ _ _=>h'
theorem a9p {T:Addr} {f:Bool} {oT:Obj} {Q:Bool → Shared → Prop} (hz:E9 s.heap z TI TO (rawInt T) (.bool f)) (hT:s.heap.get? T = some oT)
  (hQ:∀ h',E9 h' z TI TO (rawInt T) (.bool true) → Heap.SameBut z s.heap h' → Q false { s with heap:=h' }):wpAny (model prog w) A (Builtin.SmallTypes.ownedTupleIsFree (.ref z)) Q E s:=by
 unfold Builtin.SmallTypes.ownedTupleIsFree
 refine wpAny_bind (wpAny_field hz rfl (x:=rawInt T) rfl ?_)
 show wpAny _ _ (loadIfAlive ((T:Int).toNat) >>= _) _ _ _
 rw [Int.toNat_natCast]
 refine wpAny_bind (b59 hT ?_)
 simp only [Option.isNone_some,Bool.false_eq_true,if_false]
 refine wpAny_bind (wpAny_field hz rfl (x:=.bool f) rfl ?_)
 cases f with
 | true=>
  rw [if_neg (show ¬ ((Value.bool true != Value.bool true) = true) from Bool.false_ne_true)]
  exact wpAny_pure (hQ s.heap hz (Heap.SameBut.refl _ _))
 | false=>
  rw [if_pos (show (Value.bool false != Value.bool true) = true from rfl)]
  exact wpAny_bind (wpAny_setField_rec hz (by simp) fun g gz gk=>wpAny_pure (hQ g gz gk))
theorem b42 {x y:Value} {T:Addr} {f:Bool} {oT:Obj} {Q:Value → Shared → Prop} (D:ZipApart z TI TO i1 i2 l1 l2)
  (hz:E9 s.heap z TI TO (rawInt T) (.bool f)) (hT:s.heap.get? T = some oT) (hTI:IsPair s.heap TI (.ref i1) (.ref i2)) (h1:RwIt s.heap i1 l1 xs k) (h2:RwIt s.heap i2 l2 ys k) (hx:xs[k]? = some x) (hy:ys[k]? = some y)
  (hQ:∀ h',E9 h' z TI TO (rawInt T) (.bool true) → RwIt h' i1 l1 xs (k + 1) → RwIt h' i2 l2 ys (k + 1) → IsPair h' s.heap.objs.size x y →
   (∀ c o,c ≠ z → c ≠ TO → c ≠ i1 → c ≠ i2 → s.heap.get? c = some o → h'.get? c = some o) → Q (.ref s.heap.objs.size) { s with heap:=h' }) :
  wpAny (model prog w) A (Builtin.«zip.__next__» ⟨[.ref z],[]⟩) (fun fin s'=>∃ v,fin = .done (.ret v) ∧ Q v s') E s:=by
 show wpAny _ _ (field (.ref z) 2 >>= _) _ _ _
 refine wpAny_bind (wpAny_field hz rfl (x:=.bool false) rfl ?_)
 show wpAny _ _ (field (.ref z) 3 >>= _) _ _ _
 refine wpAny_bind (wpAny_field hz rfl (x:=.ref TI) rfl ?_)
 refine wpAny_bind (wpAny_seqItems hTI rfl ?_)
 show wpAny _ _ (Builtin.SmallTypes.ownedTupleIsFree (.ref z) >>= _) _ _ _
 refine wpAny_bind (a9p hz hT fun g1 z1 k1=>?_)
 simp only [Bool.false_eq_true,if_false]
 simp only [List.forIn_toArray,List.forIn_cons,List.forIn_nil]
 refine wpAny_bind (wpAny_bind (wpAny_bind (wpAny_holding ?_)))
 show wpAny _ _ (Builtin.SmallTypes.nextOf (.ref i1) >>= _) _ _ _
 refine wpAny_bind (a0b (h1.at (fun o e=>k1.extBut _ o D.i1z e) fun o e=>k1.extBut _ o D.l1z e) D.l1i1 hx fun g2 r2 k2=>wpAny_pure ?_)
 refine wpAny_pure ?_
 refine wpAny_bind (wpAny_bind (wpAny_holding ?_))
 show wpAny _ _ (Builtin.SmallTypes.nextOf (.ref i2) >>= _) _ _ _
 refine wpAny_bind (a0b (h2.at (fun o e=>k2.extBut _ o D.i12.symm (k1.extBut _ o D.i2z e)) fun o e=>k2.extBut _ o D.l2i1 (k1.extBut _ o D.l2z e)) D.l2i2 hy fun g4 r4 k4=>wpAny_pure ?_)
 refine wpAny_pure (wpAny_pure ?_)
 show wpAny _ _ (newTuple [x,y] >>= _) _ _ _
 refine wpAny_bind (wpAny_newTuple (items:=[x,y]) ?_ (show 2 ≤ sizeLine by decide))
 have sz:g4.objs.size = s.heap.objs.size:=by rw [k4.1,k2.1,k1.1]
 have q4:∀ c o,c ≠ z → c ≠ i1 → c ≠ i2 → s.heap.get? c = some o → g4.get? c = some o:=fun c o c1 c3 c4 e=>k4.extBut _ _ c4 (k2.extBut _ _ c3 (k1.extBut _ _ c1 e))
 refine wpAny_pure ⟨_,rfl,?_⟩
 show Q (.ref g4.objs.size) _
 rw [sz]
 refine hQ _ (Heap.get?_push_of_some _ (k4.extBut _ _ D.i2z.symm (k2.extBut _ _ D.i1z.symm z1)))
  (r2.at (fun o e=>Heap.get?_push_of_some _ (k4.extBut _ o D.i12 e)) fun o e=>Heap.get?_push_of_some _ (k4.extBut _ o D.l1i2 e))
  (r4.at (fun o e=>Heap.get?_push_of_some _ e) fun o e=>Heap.get?_push_of_some _ e) ?_ fun c o c1 c2 c3 c4 e=>Heap.get?_push_of_some _ (q4 c o c1 c3 c4 e)
 rw [← sz]
 exact Heap.get?_push_size _ rfl
theorem b1N {T:Addr} {f:Bool} {oT:Obj} {Q:Fin → Shared → Prop} (hh:A.handled = none) (D:ZipApart z TI TO i1 i2 l1 l2)
  (hz:E9 s.heap z TI TO (rawInt T) (.bool f)) (hT:s.heap.get? T = some oT) (hTI:IsPair s.heap TI (.ref i1) (.ref i2)) (h1:RwIt s.heap i1 l1 xs k) (h2:RwIt s.heap i2 l2 ys k) (hend:xs[k]? = none ∨ ys[k]? = none)
  (hE:∀ h' e,(∀ c o,c ≠ z → c ≠ TO → c ≠ i1 → c ≠ i2 → s.heap.get? c = some o → h'.get? c = some o) → (∃ o,h'.get? e = some o ∧ o.cls = .type "StopIteration") → E (.ref e) { s with heap:=h' }) :
  wpAny (model prog w) A (Builtin.«zip.__next__» ⟨[.ref z],[]⟩) Q E s:=by
 show wpAny _ _ (field (.ref z) 2 >>= _) _ _ _
 refine wpAny_bind (wpAny_field hz rfl (x:=.bool false) rfl ?_)
 show wpAny _ _ (field (.ref z) 3 >>= _) _ _ _
 refine wpAny_bind (wpAny_field hz rfl (x:=.ref TI) rfl ?_)
 refine wpAny_bind (wpAny_seqItems hTI rfl ?_)
 show wpAny _ _ (Builtin.SmallTypes.ownedTupleIsFree (.ref z) >>= _) _ _ _
 refine wpAny_bind (a9p hz hT fun g1 z1 k1=>?_)
 simp only [Bool.false_eq_true,if_false]
 simp only [List.forIn_toArray,List.forIn_cons,List.forIn_nil]
 refine wpAny_bind (wpAny_bind (wpAny_bind (wpAny_holding ?_)))
 show wpAny _ _ (Builtin.SmallTypes.nextOf (.ref i1) >>= _) _ _ _
 cases hx:xs[k]? with
 | none=>
  refine wpAny_bind (a08 hh (h1.at (fun o e=>k1.extBut _ o D.i1z e) fun o e=>k1.extBut _ o D.l1z e) hx fun g2 e k2 he=>?_)
  exact hE g2 e (fun c o c1 _ c3 _ x=>k2 _ _ c3 (k1.extBut _ _ c1 x)) he
 | some x=>
  have hy:ys[k]? = none:=by
   rcases hend with h | h
   ·rw [hx] at h; cases h
   ·exact h
  refine wpAny_bind (a0b (h1.at (fun o e=>k1.extBut _ o D.i1z e) fun o e=>k1.extBut _ o D.l1z e) D.l1i1 hx fun g2 r2 k2=>wpAny_pure ?_)
  refine wpAny_pure ?_
  refine wpAny_bind (wpAny_bind (wpAny_holding ?_))
  show wpAny _ _ (Builtin.SmallTypes.nextOf (.ref i2) >>= _) _ _ _
  refine wpAny_bind (a08 hh (h2.at (fun o e=>k2.extBut _ o D.i12.symm (k1.extBut _ o D.i2z e)) fun o e=>k2.extBut _ o D.l2i1 (k1.extBut _ o D.l2z e)) hy fun g4 e k4 he=>?_)
  exact hE g4 e (fun c o c1 c2 c3 c4 x=>k4 _ _ c4 (k2.extBut _ _ c3 (k1.extBut _ _ c1 x))) he
structure ZSt (h:Heap) (z TI TO i1 i2 l1 l2 S:Addr) (xs ys:Array Value) (k:Nat):Prop where
 ti:IsPair h TI (.ref i1) (.ref i2)
 r1:RwIt h i1 l1 xs k
 r2:RwIt h i2 l2 ys k
 zz:(E9 h z TI TO .none (.bool false) ∧ ∃ a b,IsPair h TO a b) ∨ ∃ (T:Addr) (f:Bool) (oT:Obj),E9 h z TI TO (rawInt T) (.bool f) ∧ h.get? T = some oT ∧ T ≠ z ∧ T ≠ TO ∧ T ≠ i1 ∧ T ≠ i2 ∧ T ≠ S
theorem b2q {S:Addr} {x y:Value} {Q:Option Value → Shared → Prop} (D:ZipApart z TI TO i1 i2 l1 l2) (st:ZSt s.heap z TI TO i1 i2 l1 l2 S xs ys k) (hS:S < s.heap.objs.size) (hTO:TO < s.heap.objs.size) (hx:xs[k]? = some x) (hy:ys[k]? = some y)
  (hQ:∀ h',ZSt h' z TI TO i1 i2 l1 l2 S xs ys (k + 1) → IsPair h' s.heap.objs.size x y → (∀ c o,c ∉ [z,TO,i1,i2] → s.heap.get? c = some o → h'.get? c = some o) → Q (some (.ref s.heap.objs.size)) { s with heap:=h' }) :
  wpAny (model prog w) A (pyNext (.ref z)) Q E s:=by
 obtain ⟨ti,r1,r2,zz⟩:=st
 have K:∀ {h':Heap},(∀ c o,c ≠ z → c ≠ TO → c ≠ i1 → c ≠ i2 → s.heap.get? c = some o → h'.get? c = some o) → ∀ c o,c ∉ [z,TO,i1,i2] → s.heap.get? c = some o → h'.get? c = some o:=fun k c o hc e=>by
  simp only [List.mem_cons,List.not_mem_nil,or_false,not_or] at hc
  exact k c o hc.1 hc.2.1 hc.2.2.1 hc.2.2.2 e
 unfold pyNext
 rcases zz with ⟨hz,a,b,ho⟩ | ⟨T,f,oT,hz,hT,t1,t2,t3,t4,t5⟩
 ·have tz:s.TypeIs (.ref z) "zip" := ⟨_,hz,rfl⟩
  exact wpAny_bind (wpAny_attempt (wpAny_callSpecial?_slot (name:=Str.ofString "__next__") tz PySem.F.slot_zip_next (wpAny_call_entry PySem.F.slot_zip_next tz PySem.F.entry_zip_next
   (a9Y D hz ti ho r1 r2 hx hy fun h' a1 a2 a3 a4 a5 _=>wpAny_pure (hQ h' ⟨a5 _ _ D.TIz D.TITO D.TIi1 D.TIi2 ti,a2,a3,.inr ⟨_,_,_,a1,a4,Nat.ne_of_gt (Heap.lt_size hz),Nat.ne_of_gt hTO,Nat.ne_of_gt r1.lt,Nat.ne_of_gt r2.lt,Nat.ne_of_gt hS⟩⟩ a4 (K a5))) (PySem.F.args_zip_next_1 _))))
 ·have tz:s.TypeIs (.ref z) "zip" := ⟨_,hz,rfl⟩
  exact wpAny_bind (wpAny_attempt (wpAny_callSpecial?_slot (name:=Str.ofString "__next__") tz PySem.F.slot_zip_next (wpAny_call_entry PySem.F.slot_zip_next tz PySem.F.entry_zip_next
   (b42 D hz hT ti r1 r2 hx hy fun h' a1 a2 a3 a4 a5=>wpAny_pure (hQ h' ⟨a5 _ _ D.TIz D.TITO D.TIi1 D.TIi2 ti,a2,a3,.inr ⟨T,true,oT,a1,a5 _ _ t1 t2 t3 t4 hT,t1,t2,t3,t4,t5⟩⟩ a4 (K a5))) (PySem.F.args_zip_next_1 _))))
theorem b0h {S:Addr} {Q:Option Value → Shared → Prop} (hh:A.handled = none) (D:ZipApart z TI TO i1 i2 l1 l2) (st:ZSt s.heap z TI TO i1 i2 l1 l2 S xs ys k) (hend:xs[k]? = none ∨ ys[k]? = none)
  (hQ:∀ h',(∀ c o,c ∉ [z,TO,i1,i2] → s.heap.get? c = some o → h'.get? c = some o) → Q none { s with heap:=h' }):wpAny (model prog w) A (pyNext (.ref z)) Q E s:=by
 obtain ⟨ti,r1,r2,zz⟩:=st
 have K:∀ {h':Heap},(∀ c o,c ≠ z → c ≠ TO → c ≠ i1 → c ≠ i2 → s.heap.get? c = some o → h'.get? c = some o) → ∀ c o,c ∉ [z,TO,i1,i2] → s.heap.get? c = some o → h'.get? c = some o:=fun k c o hc e=>by
  simp only [List.mem_cons,List.not_mem_nil,or_false,not_or] at hc
  exact k c o hc.1 hc.2.1 hc.2.2.1 hc.2.2.2 e
 unfold pyNext
 rcases zz with ⟨hz,a,b,ho⟩ | ⟨T,f,oT,hz,hT,t1,t2,t3,t4,t5⟩
 ·have tz:s.TypeIs (.ref z) "zip" := ⟨_,hz,rfl⟩
  refine wpAny_bind (wpAny_attempt (wpAny_callSpecial?_slot (name:=Str.ofString "__next__") tz PySem.F.slot_zip_next (wpAny_call_entry PySem.F.slot_zip_next tz PySem.F.entry_zip_next (b0u hh D hz ti ho r1 r2 hend fun h' e hk he=>?_) (PySem.F.args_zip_next_1 _))))
  obtain ⟨o,ho,hc⟩:=he
  refine wpAny_bind (wpAny_isInstance (T := "StopIteration") (b:=true) ⟨o,ho,hc⟩ isSubtype_stop ?_)
  exact wpAny_pure (hQ _ (K hk))
 ·have tz:s.TypeIs (.ref z) "zip" := ⟨_,hz,rfl⟩
  refine wpAny_bind (wpAny_attempt (wpAny_callSpecial?_slot (name:=Str.ofString "__next__") tz PySem.F.slot_zip_next (wpAny_call_entry PySem.F.slot_zip_next tz PySem.F.entry_zip_next (b1N hh D hz hT ti r1 r2 hend fun h' e hk he=>?_) (PySem.F.args_zip_next_1 _))))
  obtain ⟨o,ho,hc⟩:=he
  refine wpAny_bind (wpAny_isInstance (T := "StopIteration") (b:=true) ⟨o,ho,hc⟩ isSubtype_stop ?_)
  exact wpAny_pure (hQ _ (K hk))
end
structure LW (prog:Program) (w:World) (A:Around) (I S:Addr) (wr:List Addr) (n:Nat) (P:Nat → Value → Heap → Prop) (St:Nat → Heap → Prop):Prop where
 item:∀ (i:Nat) (s:Shared) (Q:Option Value → Shared → Prop) (E:Value → Shared → Prop),i < n → St i s.heap → S < s.heap.objs.size →
  (∀ v h',P i v h' → St (i + 1) h' → (∀ j u,P j u s.heap → u ≠ v) → (∀ b o,b ∉ wr → s.heap.get? b = some o → h'.get? b = some o) → Q (some v) { s with heap:=h' }) → wpAny (model prog w) A (pyNext (.ref I)) Q E s
 done:∀ (s:Shared) (Q:Option Value → Shared → Prop) (E:Value → Shared → Prop),St n s.heap → (∀ h',(∀ b o,b ∉ wr → s.heap.get? b = some o → h'.get? b = some o) → Q none { s with heap:=h' }) → wpAny (model prog w) A (pyNext (.ref I)) Q E s
 stay:∀ i h h',St i h → (∀ b o,b ≠ S → h.get? b = some o → h'.get? b = some o) → St i h'
 pay:∀ i v h h',P i v h → (∀ b o,b ≠ S → b ∉ wr → h.get? b = some o → h'.get? b = some o) → P i v h'
 self:∀ (A:Around) (s:Shared) (Q:Value → Shared → Prop) (E:Value → Shared → Prop),St 0 s.heap → Q (.ref I) s → wpAny (model prog w) A (pyIter (.ref I)) Q E s
 out:S ∉ wr
section
variable {prog:Program} {w:World} {A:Around} {I S:Addr} {wr:List Addr} {n:Nat} {P:Nat → Value → Heap → Prop} {St:Nat → Heap → Prop} {s:Shared} {R:Result → Shared → Prop}
noncomputable def Got (P:Nat → Value → Heap → Prop) (h:Heap) (acc:Array Value) (i:Nat):Prop:=acc.size = i ∧ (∀ j v,acc[j]? = some v → P j v h) ∧ acc.toList.Nodup
noncomputable abbrev J3 (h:Heap) (S:Addr) (acc:Array Value) (c:Nat):Prop:=h.get? S = some { cls:=.type "list",dict:=none,data:=.seq acc c,slots:=#[] }
theorem b38 (W:LW prog w A.in1 I S wr n P St) (hn:n ≤ sizeLine) (res:Value) {h₁:Heap}
  (hR:∀ h' acc c,(∀ b o,b ≠ S → b ∉ wr → h₁.get? b = some o → h'.get? b = some o) → J3 h' S acc c → Got P h' acc n → R (.ok (.ret res)) { s with heap:=h' }) :
  ∀ (k i:Nat) (h:Heap) (c:Nat) (acc:Array Value),n - i = k → i ≤ n → St i h → (∀ b o,b ≠ S → b ∉ wr → h₁.get? b = some o → h.get? b = some o) → J3 h S acc c → Got P h acc i →
   codeAny (model prog w) A (.builtin "list.extend.loop" ⟨[.ref S,.ref I,res],[]⟩) R { s with heap:=h }:=by
 intro k
 induction k with
 | zero=>
  intro i h c acc hk hi hst kp hS hG
  have e:i = n:=by omega
  subst e
  refine codeAny_builtin PySem.F.entry_extend_loop ?_
  rw [Around.under_plainId PySem.F.plain_extend_loop _]
  show wpAny _ A.in1 (pyNext (.ref I) >>= _) _ _ _
  refine wpAny_bind (W.done { s with heap:=h } _ _ hst fun h' he=>?_)
  exact wpAny_pure (hR h' acc c (fun b o h1 h2 e=>he b o h2 (kp b o h1 h2 e)) (he S _ W.out hS) ⟨hG.1,fun j v e=>W.pay j v h h' (hG.2.1 j v e) fun b o _ h2 e=>he b o h2 e,hG.2.2⟩)
 | succ k ih=>
  intro i h c acc hk hi hst kp hS hG
  have hlt:i < n:=by omega
  refine codeAny_builtin PySem.F.entry_extend_loop ?_
  rw [Around.under_plainId PySem.F.plain_extend_loop _]
  show wpAny _ A.in1 (pyNext (.ref I) >>= _) _ _ _
  refine wpAny_bind (W.item i { s with heap:=h } _ _ hlt hst (Heap.lt_size hS) fun v h' hP hst' hne he=>?_)
  dsimp only at he hne ⊢
  have hS':J3 h' S acc c:=he S _ W.out hS
  have up:∀ b o,b ≠ S → h'.get? b = some o → (h'.update S (Obj.mapSeq (·.push v))).get? b = some o:=fun b o hb e=>(Heap.get?_update_other _ _ (Ne.symm hb)).trans e
  show wpAny _ A.in1 (updateSeq S (·.push v) >>= _) _ _ _
  refine wpAny_bind ?_
  have hsz:=hG.1
  refine wpAny_updateSeq hS' rfl (wpAny_pure ⟨plainId_quiet PySem.F.plain_extend_loop _,ih (i + 1) _ _ (acc.push v) (by omega) hlt (W.stay _ h' _ hst' up)
   (fun b o h1 h2 e=>up b o h1 (he b o h2 (kp b o h1 h2 e))) (Heap.get?_update_self _ hS' rfl) ⟨by rw [Array.size_push,hsz],fun j x hj=>?_,?_⟩⟩) (by rw [hsz]; omega) (by show (acc.push v).size ≤ sizeLine + 1; rw [Array.size_push,hsz]; omega)
  ·rw [Array.getElem?_push] at hj
   split at hj
   ·rename_i e
    cases hj
    rw [e,hsz]
    exact W.pay i v h' _ hP fun b o h1 _ e=>up b o h1 e
   ·exact W.pay j x h _ (hG.2.1 j x hj) fun b o h1 h2 e=>up b o h1 (he b o h2 e)
  ·rw [Array.toList_push]
   refine List.nodup_append.mpr ⟨hG.2.2,by simp,fun a ha b hb=>?_⟩
   have e:b = v:=by simpa using hb
   subst e
   obtain ⟨j,hj⟩:=List.mem_iff_getElem?.mp ha
   exact hne j a (hG.2.1 j a (by simpa using hj))
theorem b57 {T:String} (W:LW prog w A.in1 I S wr n P St) (hn:n ≤ sizeLine) (hT:s.TypeIs (.ref I) T) (hl:(Value.type T == Value.type "list") = false) (ht:(Value.type T == Value.type "tuple") = false)
  (nl:typeLookup (.type T) "__len__" = pure none) (nh:typeLookup (.type T) "__length_hint__" = pure none) (hst:St 0 s.heap) (hSI:S ≠ I) (res:Value) (c₀:Nat) (hS:J3 s.heap S #[] c₀)
  (hR:∀ h' acc c,(∀ b o,b ≠ S → b ∉ wr → s.heap.get? b = some o → h'.get? b = some o) → J3 h' S acc c → Got P h' acc n → R (.ok (.ret res)) { s with heap:=h' }) :
  wpAny (model prog w) A.in1 (Builtin.List.listExtendWith (.ref S) (.ref I) res)
   (fun fin s'=>match fin with | .done f=>R (.ok f) s' | .again c'=>c'.quiet = true ∧ codeAny (model prog w) A c' R s') (fun e s'=>R (.error e) s') s:=by
 have key:∀ (h:Heap) (c₁:Nat),(∀ b o,b ≠ S → s.heap.get? b = some o → h.get? b = some o) → J3 h S #[] c₁ →
   codeAny (model prog w) A (.builtin "list.extend.loop" ⟨[.ref S,.ref I,res],[]⟩) R { s with heap:=h }:=fun h c₁ hk hS₁=>
  b38 (h₁:=s.heap) W hn res hR n 0 h c₁ #[] (Nat.sub_zero _) (Nat.zero_le _) (W.stay 0 _ h hst hk) (fun b o h1 _ e=>hk b o h1 e) hS₁ ⟨rfl,fun j v e=>by simp at e,by simp⟩
 unfold Builtin.List.listExtendWith
 refine wpAny_bind (wpAny_typeOf hT ?_)
 have h1:Builtin.List.listSameRef (.ref S) (.ref I) = false:=by simp [Builtin.List.listSameRef,hSI]
 simp only [h1,hl,ht,Bool.or_false,Bool.false_eq_true,if_false]
 refine wpAny_bind (W.self _ _ _ _ hst ?_)
 refine wpAny_bind (wpAny_holding ?_)
 unfold Builtin.List.listLengthHint
 refine wpAny_bind (wpAny_specialOf hT nl ?_)
 show wpAny _ A.in1 (specialOf (Value.ref I) (Str.ofString "__length_hint__") >>= _) _ _ _
 refine wpAny_bind (wpAny_specialOf hT nh ?_)
 refine wpAny_pure ?_
 show wpAny _ A.in1 (rule "list.extend.makes-room" >>= fun _=>Builtin.List.listTouch (.ref S) >>= fun _=>
  again (.builtin "list.extend.loop" ⟨[.ref S,.ref I,res],[]⟩)) _ _ _
 refine wpAny_bind (wpAny_rule ?_)
 refine wpAny_bind ?_
 show wpAny _ A.in1 (updateSeq S (·.push .none) >>= fun _=>updateSeq S (·.pop)) _ _ _
 refine wpAny_bind (wpAny_updateSeq hS rfl ?_)
 have hS₂:=Heap.get?_update_self (Obj.mapSeq (·.push Value.none)) hS rfl
 refine wpAny_updateSeq (hz:=by seq_fits) hS₂ rfl ?_
 have hS₃:=Heap.get?_update_self (Obj.mapSeq (·.pop)) hS₂ rfl
 refine wpAny_pure ⟨plainId_quiet PySem.F.plain_extend_loop _,key _ _ (fun b o hb e=>?_) hS₃⟩
 exact (Heap.get?_update_other _ _ (Ne.symm hb)).trans ((Heap.get?_update_other _ _ (Ne.symm hb)).trans e)
theorem b4Z {T:String} {E:Value → Shared → Prop} {Q:Value → Shared → Prop} (W:LW prog w A.in1.in1 I s.heap.objs.size wr n P St) (hn:n ≤ sizeLine) (hT:s.TypeIs (.ref I) T) (hl:(Value.type T == Value.type "list") = false) (ht:(Value.type T == Value.type "tuple") = false)
  (nl:typeLookup (.type T) "__len__" = pure none) (nh:typeLookup (.type T) "__length_hint__" = pure none) (hst:St 0 s.heap)
  (hQ:∀ h' acc c,(∀ b o,b ∉ wr → s.heap.get? b = some o → h'.get? b = some o) → J3 h' s.heap.objs.size acc c → Got P h' acc n → Q (.ref s.heap.objs.size) { s with heap:=h' }) :
  wpAny (model prog w) A (call (.type "list") [.ref I]) Q E s:=by
 refine callType_codes (Q₁:=fun obj s₁=>obj = .ref s.heap.objs.size ∧ s₁ = { s with heap:=s.heap.push { cls:=.type "list",data:=.seq #[] } }) PySem.F.called_list (PySem.F.typeCall_list_1 _) PySem.F.entry_list_init
  (code_list_new _ ⟨rfl,rfl⟩) fun obj s₁ h₁=>?_
 obtain ⟨rfl,rfl⟩:=h₁
 have hS:(s.heap.push { cls:=.type "list",data:=.seq #[] }).get? s.heap.objs.size = some { cls:=.type "list",data:=.seq #[] }:=Heap.get?_push_size _ rfl
 obtain ⟨oI,hoI,hcI⟩:=id hT
 have hI:I < s.heap.objs.size:=Heap.lt_size hoI
 refine ⟨⟨_,hS,rfl⟩,PySem.F.args_list_init_2 _ _,?_⟩
 show wpAny _ _ (do let old ← Builtin.List.listItems (.ref s.heap.objs.size); Builtin.List.listUpdate (.ref s.heap.objs.size) (fun _=>#[]); letGo old.toList.reverse; Builtin.List.listExtendWith (.ref s.heap.objs.size) (.ref I) .none) _ _ _
 refine wpAny_bind ?_
 unfold Builtin.List.listItems
 refine wpAny_bind (wpAny_seqItems hS rfl (wpAny_pure ?_))
 show wpAny _ _ (updateSeq s.heap.objs.size (fun _=>#[]) >>= fun _=>letGo (#[]:Array Value).toList.reverse >>= fun _=>Builtin.List.listExtendWith (.ref s.heap.objs.size) (.ref I) .none) _ _ _
 refine wpAny_bind (wpAny_updateSeq hS rfl ?_)
 have hS₂:=Heap.get?_update_self (Obj.mapSeq (fun _=>(#[]:Array Value))) hS rfl
 have oth:∀ b o,b ≠ s.heap.objs.size → s.heap.get? b = some o → ((s.heap.push { cls:=.type "list",data:=.seq #[] }).update s.heap.objs.size (Obj.mapSeq (fun _=>(#[]:Array Value)))).get? b = some o:=
  fun b o hb e=>(Heap.get?_update_other _ _ (Ne.symm hb)).trans (Heap.get?_push_of_some _ e)
 refine wpAny_bind (wpAny_letGo ?_)
 refine b57 (A:=A.in1) W hn ⟨oI,oth I _ (Nat.ne_of_lt hI) hoI,hcI⟩ hl ht nl nh (W.stay 0 s.heap _ hst oth) (Nat.ne_of_gt hI) .none _ hS₂ fun h' acc c hk hS' hG=>?_
 exact ⟨rfl,hQ h' acc c (fun b o h2 e=>hk b o (Nat.ne_of_lt (Heap.lt_size e)) h2 (oth b o (Nat.ne_of_lt (Heap.lt_size e)) e)) hS' hG⟩
end
theorem b5K:typeLookup (.type "zip") "__len__" = pure none:=by rw [typeLookup_type,builtinLookup_eq_fast]; kernel_rfl
theorem b5j:typeLookup (.type "zip") "__length_hint__" = pure none:=by rw [typeLookup_type,builtinLookup_eq_fast]; kernel_rfl
theorem b2P {prog:Program} {w:World} {A:Around} {z TI TO i1 i2 l1 l2 S:Addr} {xs ys:Array Value} (hh:A.handled = none) (D:ZipApart z TI TO i1 i2 l1 l2) (hTO:TO < S) (hS:S ∉ [z,TI,TO,i1,i2,l1,l2]) (top:∀ b ∈ [z,TO,i1,i2],b < S) :
  LW prog w A z S [z,TO,i1,i2] (min xs.size ys.size) (fun j v h=>∃ a x y,v = .ref a ∧ S ≤ a ∧ a ≠ S ∧ xs[j]? = some x ∧ ys[j]? = some y ∧ IsPair h a x y) (fun k h=>ZSt h z TI TO i1 i2 l1 l2 S xs ys k) where
 item:=fun i s Q E hi st hs hQ=>by
  have hix:i < xs.size:=Nat.lt_of_lt_of_le hi (Nat.min_le_left ..)
  have hiy:i < ys.size:=Nat.lt_of_lt_of_le hi (Nat.min_le_right ..)
  exact b2q D st hs (Nat.lt_trans hTO hs) (Array.getElem?_eq_getElem hix) (Array.getElem?_eq_getElem hiy) fun h' a1 a2 a3=>hQ _ h' ⟨_,_,_,rfl,Nat.le_of_lt hs,Nat.ne_of_gt hs,Array.getElem?_eq_getElem hix,Array.getElem?_eq_getElem hiy,a2⟩ a1 (fun j u ⟨a,x,y,e,_,_,_,_,q⟩ z=>by
   rw [e] at z; cases z; exact absurd (Heap.lt_size q) (Nat.lt_irrefl _)) a3
 done:=fun s Q E st hQ=>by
  have hend:xs[min xs.size ys.size]? = none ∨ ys[min xs.size ys.size]? = none:=by
   rcases Nat.le_total xs.size ys.size with h | h
   ·exact .inl (by rw [Nat.min_eq_left h]; exact Array.getElem?_eq_none (Nat.le_refl _))
   ·exact .inr (by rw [Nat.min_eq_right h]; exact Array.getElem?_eq_none (Nat.le_refl _))
  exact b0h hh D st hend hQ
 stay:=fun i h h' st k=>by
  simp only [List.mem_cons,List.not_mem_nil,or_false,not_or] at hS
  obtain ⟨n1,n2,n3,n4,n5,n6,n7⟩:=hS
  obtain ⟨ti,r1,r2,zz⟩:=st
  refine ⟨k _ _ (Ne.symm n2) ti,r1.at (fun o e=>k _ o (Ne.symm n4) e) (fun o e=>k _ o (Ne.symm n6) e),r2.at (fun o e=>k _ o (Ne.symm n5) e) (fun o e=>k _ o (Ne.symm n7) e),?_⟩
  rcases zz with ⟨hz,a,b,ho⟩ | ⟨T,f,oT,hz,hT,t1,t2,t3,t4,t5⟩
  ·exact .inl ⟨k _ _ (Ne.symm n1) hz,a,b,k _ _ (Ne.symm n3) ho⟩
  ·exact .inr ⟨T,f,oT,k _ _ (Ne.symm n1) hz,k _ _ t5 hT,t1,t2,t3,t4,t5⟩
 pay:=fun i v h h' p k=>by
  obtain ⟨a,x,y,e,ha,na,hx,hy,q⟩:=p
  refine ⟨a,x,y,e,ha,na,hx,hy,k _ _ na (fun hb=>?_) q⟩
  exact absurd (Nat.lt_of_lt_of_le (top a hb) ha) (Nat.lt_irrefl _)
 self:=fun A s Q E st hQ=>by
  have tz:s.TypeIs (.ref z) "zip":= by
   rcases st.zz with ⟨hz,_⟩ | ⟨T,f,oT,hz,_⟩ <;> exact ⟨_,hz,rfl⟩
  refine wpAny_pyIter_slot tz PySem.F.slot_zip_iter (wpAny_call_entry PySem.F.slot_zip_iter tz PySem.F.entry_zip_iter ?_ (PySem.F.args_zip_iter_1 _))
  show wpAny _ _ (ret (.ref z)) _ _ s
  exact wpAny_pure ⟨_,rfl, "zip",_,tz,PySem.F.slot_zip_next.lookup,hQ⟩
 out:=fun h=>hS (by
  simp only [List.mem_cons,List.not_mem_nil,or_false] at h ⊢
  rcases h with h | h | h | h <;> simp [h])
noncomputable def P2 (t:Bool) (l:Addr):Obj:={ cls:=.type (if t then "tuple_iterator" else "list_iterator"),data:=.fields #[.ref l,.int 0 0] }
noncomputable def RwB (t:Bool) (h:Heap) (l:Addr) (xs:Array Value):Prop:=if t then h.IsTuple l xs else h.IsList l xs
section
variable {prog:Program} {w:World} {A:Around} {E:Value → Shared → Prop} {s:Shared}
theorem a8y {t:Bool} {l:Addr} {xs:Array Value} {Q:Value → Shared → Prop} (h:RwB t s.heap l xs) (hQ:Q (.ref s.heap.objs.size) { s with heap:=s.heap.push (P2 t l) }):wpAny (model prog w) A (pyIter (.ref l)) Q E s:=by
 cases t with
 | true=>exact wpAny_pyIter_tuple h hQ
 | false=>exact wpAny_pyIter_list h hQ
end
noncomputable abbrev zq1 (h:Heap) (t1:Bool) (l1:Addr):Heap:=h.push (P2 t1 l1)
noncomputable abbrev zq2 (h:Heap) (t1 t2:Bool) (l1 l2:Addr):Heap:=(zq1 h t1 l1).push (P2 t2 l2)
noncomputable abbrev zq3 (h:Heap) (t1 t2:Bool) (l1 l2:Addr):Heap:=(zq2 h t1 t2 l1 l2).push { cls:=.type "tuple",data:=.seq #[.ref h.objs.size,.ref (zq1 h t1 l1).objs.size] }
noncomputable abbrev zq4 (h:Heap) (t1 t2:Bool) (l1 l2:Addr):Heap:=(zq3 h t1 t2 l1 l2).push { cls:=.type "tuple",data:=.seq #[.none,.none] }
noncomputable abbrev zq5 (h:Heap) (t1 t2:Bool) (l1 l2:Addr):Heap:=(zq4 h t1 t2 l1 l2).push { cls:=.type "zip",data:=.fields #[.none,.bool false,.bool false,.ref (zq2 h t1 t2 l1 l2).objs.size,.ref (zq3 h t1 t2 l1 l2).objs.size] }
theorem RwB.push {t:Bool} {h:Heap} {l:Addr} {xs:Array Value} (x:RwB t h l xs) (o:Obj):RwB t (h.push o) l xs:=by
 cases t with
 | true=>exact Heap.IsTuple.push x o
 | false=>exact Heap.IsList.push x o
theorem b3t (t1 t2:Bool) (l1 l2:Addr) (xs ys:Array Value) :
  Meets (Builtin.«zip.__new__» ⟨[.type "zip",.ref l1,.ref l2],[]⟩) (fun _ R s=>RwB t1 s.heap l1 xs ∧ RwB t2 s.heap l2 ys ∧
   R (.ok (.ret (.ref (zq4 s.heap t1 t2 l1 l2).objs.size))) { s with heap:=zq5 s.heap t1 t2 l1 l2 }):=
 .of_wp fun prog w A R s h=>by
  obtain ⟨hp,g,d,tk,os⟩:=s; obtain ⟨hl1,hl2,h⟩:=h
  have hsub:=sub_zip
  have hL1:RwB t1 (Shared.heap ⟨hp,g,d,tk,os⟩) l1 xs:=hl1
  have hL2:RwB t2 (Shared.heap ⟨hp.push (P2 t1 l1),g,d,tk,os⟩) l2 ys:=RwB.push hl2 _
  wp_walk using a8y hL1,a8y hL2
  exact ⟨_,rfl,h⟩
section
variable {prog:Program} {w:World} {A:Around} {E:Value → Shared → Prop} {s:Shared}
theorem RwB.it {t:Bool} {h:Heap} {i l:Addr} {xs:Array Value} (x:RwB t h l xs) (e:h.get? i = some (P2 t l)):RwIt h i l xs 0:=by
 cases t with
 | true=>exact .inr ⟨⟨_,e,rfl,rfl⟩,x⟩
 | false=>exact .inl ⟨⟨_,e,rfl,rfl⟩,x⟩
theorem RwB.at {t:Bool} {h h':Heap} {l:Addr} {xs:Array Value} (x:RwB t h l xs) (e:∀ o,h.get? l = some o → h'.get? l = some o):RwB t h' l xs:=by
 cases t with
 | true=>obtain ⟨o,q,r⟩:=x; exact ⟨o,e o q,r⟩
 | false=>obtain ⟨o,q,r⟩:=x; exact ⟨o,e o q,r⟩
theorem RwB.lt {t:Bool} {h:Heap} {l:Addr} {xs:Array Value} (x:RwB t h l xs):l < h.objs.size:=by
 cases t with
 | true=>obtain ⟨o,q,r⟩:=x; exact Heap.lt_size q
 | false=>obtain ⟨o,q,r⟩:=x; exact Heap.lt_size q
noncomputable def a8F (h:Heap) (m:Nat) (xs ys:Array Value):Prop:=∃ l1 l2,ZipApart (m + 4) (m + 2) (m + 3) m (m + 1) l1 l2 ∧ l1 < m ∧ l2 < m ∧ h.objs.size = m + 5 ∧ ∀ S,m + 5 ≤ S → ZSt h (m + 4) (m + 2) (m + 3) m (m + 1) l1 l2 S xs ys 0
noncomputable def b4w (h:Heap) (m:Nat) (t1 t2:Bool) (l1 l2:Addr):Prop:=ZipApart (m + 4) (m + 2) (m + 3) m (m + 1) l1 l2 ∧ h.get? m = some (P2 t1 l1) ∧ h.get? (m + 1) = some (P2 t2 l2) ∧ IsPair h (m + 2) (.ref m) (.ref (m + 1)) ∧ E9 h (m + 4) (m + 2) (m + 3) .none (.bool false) ∧ ∃ a b,IsPair h (m + 3) a b
theorem b2t {t1 t2:Bool} {l1 l2:Addr} {xs ys:Array Value} {Q:Value → Shared → Prop} (h1:RwB t1 s.heap l1 xs) (h2:RwB t2 s.heap l2 ys)
  (h:∀ h',a8F h' s.heap.objs.size xs ys → (∀ c o,s.heap.get? c = some o → h'.get? c = some o) → b4w h' s.heap.objs.size t1 t2 l1 l2 → Q (.ref (s.heap.objs.size + 4)) { s with heap:=h' }) :
  wpAny (model prog w) A (call (.type "zip") [.ref l1,.ref l2]) Q E s:=by
 refine callType_new PySem.F.called_zip (by decide) (PySem.F.typeCall_zip_2 _ _) (PySem.F.newCall_zip_2 _ _) (fun obj=>PySem.F.args_object_init_3 obj _ _) PySem.F.entry_zip_new
  (b3t t1 t2 l1 l2 xs ys) ⟨h1,h2,?_⟩
 have z1:(zq1 s.heap t1 l1).objs.size = s.heap.objs.size + 1:=Heap.size_push ..
 have z2:(zq2 s.heap t1 t2 l1 l2).objs.size = s.heap.objs.size + 2:=by rw [Heap.size_push,z1]
 have z3:(zq3 s.heap t1 t2 l1 l2).objs.size = s.heap.objs.size + 3:=by rw [Heap.size_push,z2]
 have z4:(zq4 s.heap t1 t2 l1 l2).objs.size = s.heap.objs.size + 4:=by rw [Heap.size_push,z3]
 have z5:(zq5 s.heap t1 t2 l1 l2).objs.size = s.heap.objs.size + 5:=by rw [Heap.size_push,z4]
 have fr:∀ t l,(P2 t l).isFreed = false:=fun t l=>rfl
 have g5:(zq5 s.heap t1 t2 l1 l2).get? (zq4 s.heap t1 t2 l1 l2).objs.size = some _:=Heap.get?_push_size _ rfl
 have g4:(zq5 s.heap t1 t2 l1 l2).get? (zq3 s.heap t1 t2 l1 l2).objs.size = some _:=Heap.get?_push_of_some _ (Heap.get?_push_size _ rfl)
 have g3:(zq5 s.heap t1 t2 l1 l2).get? (zq2 s.heap t1 t2 l1 l2).objs.size = some _:=Heap.get?_push_of_some _ (Heap.get?_push_of_some _ (Heap.get?_push_size _ rfl))
 have g2:(zq5 s.heap t1 t2 l1 l2).get? (zq1 s.heap t1 l1).objs.size = some (P2 t2 l2):=Heap.get?_push_of_some _ (Heap.get?_push_of_some _ (Heap.get?_push_of_some _ (Heap.get?_push_size _ (fr _ _))))
 have g1:(zq5 s.heap t1 t2 l1 l2).get? s.heap.objs.size = some (P2 t1 l1):=Heap.get?_push_of_some _ (Heap.get?_push_of_some _ (Heap.get?_push_of_some _ (Heap.get?_push_of_some _ (Heap.get?_push_size _ (fr _ _)))))
 show _ ∧ _
 rw [z2,z3,z4] at g5
 rw [z1,z2] at g3
 rw [z3] at g4
 rw [z1] at g2
 rw [z4]
 have up:∀ c o,s.heap.get? c = some o → (zq5 s.heap t1 t2 l1 l2).get? c = some o:=fun c o x=>
  Heap.get?_push_of_some _ (Heap.get?_push_of_some _ (Heap.get?_push_of_some _ (Heap.get?_push_of_some _ (Heap.get?_push_of_some _ x))))
 refine ⟨⟨_,g5,rfl⟩,h _ ⟨l1,l2,PyProof.Rows.zipApart_new h1.lt h2.lt,h1.lt,h2.lt,z5,fun S hS=>⟨g3,(h1.at fun o e=>up _ o e).it g1,(h2.at fun o e=>up _ o e).it g2,.inl ⟨g5,_,_,g4⟩⟩⟩ up ⟨PyProof.Rows.zipApart_new h1.lt h2.lt,g1,g2,g3,g5,_,_,g4⟩⟩
structure LZ (h h':Heap) (S:Addr) (xs ys:Array Value) (as:List Addr) (c:Nat):Prop where
 keep:∀ b o,h.get? b = some o → h'.get? b = some o
 low:h.objs.size ≤ S
 lst:J3 h' S (as.map Value.ref).toArray c
 len:as.length = min xs.size ys.size
 new:∀ a ∈ as,h.objs.size ≤ a ∧ a ≠ S
 nd:as.Nodup
 at':∀ (j:Nat) a,as[j]? = some a → ∃ x y,xs[j]? = some x ∧ ys[j]? = some y ∧ IsPair h' a x y
theorem b0a {P:Nat → Value → Heap → Prop} {h:Heap} {acc:Array Value} {n:Nat} (g:Got P h acc n) (hp:∀ j v,P j v h → ∃ a,v = .ref a):∃ as:List Addr,acc = (as.map Value.ref).toArray:=by
 have:∀ l:List Value,(∀ v ∈ l,∃ a,v = Value.ref a) → ∃ as:List Addr,l = as.map Value.ref:=by
  intro l
  induction l with
  | nil=>exact fun _=>⟨[],rfl⟩
  | cons v r ih=>
   intro hv
   obtain ⟨a,e⟩:=hv v (.head _)
   obtain ⟨as,e'⟩:=ih fun u hu=>hv u (.tail _ hu)
   exact ⟨a :: as,by rw [e,e']; rfl⟩
 obtain ⟨as,e⟩:=this acc.toList fun v hv=>by
  obtain ⟨j,hj⟩:=List.mem_iff_getElem?.mp hv
  exact hp j v (g.2.1 j v (by simpa using hj))
 exact ⟨as,by rw [← e,Array.toArray_toList]⟩
theorem b13 {m:Nat} {h₀:Heap} {xs ys:Array Value} {Q:Value → Shared → Prop} (hh:A.handled = none) (Z:a8F s.heap m xs ys) (k₀:∀ c o,h₀.get? c = some o → s.heap.get? c = some o) (hm:h₀.objs.size = m) (hn:xs.size ≤ sizeLine)
  (hQ:∀ S h' as c,LZ h₀ h' S xs ys as c → Q (.ref S) { s with heap:=h' }):wpAny (model prog w) A (call (.type "list") [.ref (m + 4)]) Q E s:=by
 obtain ⟨l1,l2,D,b1,b2,sz,st⟩:=Z
 have st0:=st s.heap.objs.size (by omega)
 have tz:s.TypeIs (.ref (m + 4)) "zip":= by
  rcases st0.zz with ⟨hz,_⟩ | ⟨T,f,oT,hz,_⟩ <;> exact ⟨_,hz,rfl⟩
 refine b4Z (T := "zip") (b2P (A:=A.in1.in1) hh D (show (m + 3:Nat) < s.heap.objs.size by omega) (by
  simp only [List.mem_cons,List.not_mem_nil,or_false,not_or]
  have ms:m ≤ s.heap.objs.size:=by omega
  exact ⟨show (s.heap.objs.size:Nat) ≠ m + 4 by omega,show (s.heap.objs.size:Nat) ≠ m + 2 by omega,show (s.heap.objs.size:Nat) ≠ m + 3 by omega,show (s.heap.objs.size:Nat) ≠ m by omega,show (s.heap.objs.size:Nat) ≠ m + 1 by omega,
   Nat.ne_of_gt (Nat.lt_of_lt_of_le b1 ms),Nat.ne_of_gt (Nat.lt_of_lt_of_le b2 ms)⟩) (by
  simp only [List.mem_cons,List.not_mem_nil,or_false]
  intro b hb
  have ml:∀ j,j ≤ 4 → m + j < s.heap.objs.size:=fun j _=>by omega
  rcases hb with e | e | e | e
  ·rw [e]; exact ml 4 (by omega)
  ·rw [e]; exact ml 3 (by omega)
  ·rw [e]; exact ml 0 (by omega)
  ·rw [e]; exact ml 1 (by omega))) (Nat.le_trans (Nat.min_le_left ..) hn) tz (by decide) (by decide) b5K b5j st0 fun h' acc c k l g=>?_
 obtain ⟨as,ea⟩:=b0a g fun j v ⟨a,_,_,e,_⟩=>⟨a,e⟩
 subst ea
 refine hQ _ h' as c ⟨fun b o e=>k b o (fun hb=>?_) (k₀ b o e),by omega,l,by simpa using g.1,fun a ha=>?_,?_,fun j a e=>?_⟩
 ·have hl:b < m:=hm ▸ Heap.lt_size e
  simp only [List.mem_cons,List.not_mem_nil,or_false] at hb
  have up:∀ j:Nat,¬ (m + j < m):=fun j=>by omega
  rcases hb with e | e | e | e
  ·exact up 4 (e ▸ hl)
  ·exact up 3 (e ▸ hl)
  ·exact up 0 (e ▸ hl)
  ·exact up 1 (e ▸ hl)
 ·obtain ⟨j,hj⟩:=List.mem_iff_getElem?.mp ha
  obtain ⟨a',x,y,e,q1,q2,_⟩:=g.2.1 j (.ref a) (by simp [hj])
  cases e
  exact ⟨Nat.le_trans (show (h₀.objs.size:Nat) ≤ s.heap.objs.size by omega) q1,q2⟩
 ·have nd:=g.2.2
  simp only [List.toList_toArray] at nd
  exact (List.pairwise_map.mp nd).imp fun h e=>h (by rw [e])
 ·obtain ⟨a',x,y,e',q1,q2,q3,q4,q5⟩:=g.2.1 j (.ref a) (by simp [e])
  cases e'
  exact ⟨x,y,q3,q4,q5⟩
end
noncomputable def K3 (H:Hp):List (Addr × List V) → Hp
 | []=>H
 | (a,p) :: r=>upd (K3 H r) a (.tup p)
section
variable {H:Hp}
theorem a0T:∀ {ps:List (Addr × List V)} {b:Addr},(∀ q ∈ ps,q.1 ≠ b) → K3 H ps b = H b
 | [],b,h=>rfl
 | (a,p) :: r,b,h=>by
  show upd (K3 H r) a (.tup p) b = H b
  rw [o8 (Ne.symm (h _ (.head _)))]
  exact a0T fun q hq=>h q (.tail _ hq)
theorem a53:∀ {ps:List (Addr × List V)} {b:Addr} {u:HO},K3 H ps b = some u → (∃ p,(b,p) ∈ ps ∧ u = .tup p) ∨ H b = some u
 | [],b,u,h=>.inr h
 | (a,p) :: r,b,u,h=>by
  replace h:upd (K3 H r) a (.tup p) b = some u:=h
  by_cases hb:b = a
  ·subst hb; rw [B7] at h; cases h; exact .inl ⟨p,.head _,rfl⟩
  ·rw [o8 hb] at h
   rcases a53 h with ⟨p',q,e⟩ | e
   ·exact .inl ⟨p',.tail _ q,e⟩
   ·exact .inr e
theorem a69:∀ {ps:List (Addr × List V)} {b:Addr} {p:List V},(ps.map (·.1)).Nodup → (b,p) ∈ ps → K3 H ps b = some (.tup p)
 | (a,p') :: r,b,p,nd,h=>by
  show upd (K3 H r) a (.tup p') b = _
  rcases List.mem_cons.mp h with e | h
  ·cases e; exact B7
  ·have nd':=List.nodup_cons.mp nd
   have hb:b ≠ a:=fun e=>nd'.1 (e ▸ List.mem_map.mpr ⟨(b,p),h,rfl⟩)
   rw [o8 hb]
   exact a69 nd'.2 h
end
theorem b2T {fs ex:List Addr} {H H':Hp} {h h':Heap} (k:∀ b u,h.get? b = some u → h'.get? b = some u) (hn:∀ b,b < h.objs.size → H' b = H b) (hs:∀ b u,H b = some u → H' b = some u):Un fs ex H H' h h' where
 keep:=fun b u q _ _ _=>k b u q
 slot:=fun b u q _ _ _=>⟨u.slots,k b u q⟩
 free:=fun b u q n _=>by rw [hn b (Heap.lt_size q)]; exact n
 there:=fun b u q _=>⟨u,k b u q⟩
 tups:=fun b xs q=>hs b _ q
 frzs:=fun b u xs q=>hs b _ q
 tbls:=fun b ps q=>⟨#[],by rw [hs b _ q]; simp⟩
noncomputable def prs (xs ys:List V):List (List V):=List.zipWith (fun x y=>[x,y]) xs ys
theorem b3T {xs ys:List V} {j:Nat} {p:List V} (e:(prs xs ys)[j]? = some p):∃ x y,xs[j]? = some x ∧ ys[j]? = some y ∧ p = [x,y]:=by
 unfold prs at e
 rw [List.getElem?_zipWith] at e
 cases hx:xs[j]? with
 | none=>rw [hx] at e; simp at e
 | some x=>
  cases hy:ys[j]? with
  | none=>rw [hx,hy] at e; simp at e
  | some y=>rw [hx,hy] at e; simp at e; exact ⟨x,y,rfl,rfl,e.symm⟩
noncomputable def Sq (K:PySem.W.Frag) (H:Hp) (a:Addr) (xs:List V):Prop:=SqL K H a xs ∨ SqT K H a xs
noncomputable def rLZ (K:PySem.W.Frag):List V → Hp → VK → Prop:=fun vs H Q=>∃ p q xs ys,vs = [.ref p,.ref q] ∧ Sq K H p xs ∧ Sq K H q ys ∧
 ∀ S as,(S :: as).Nodup → (∀ a ∈ S :: as,H a = none) → as.length = (prs xs ys).length → Q (.ref S) (upd (K3 H (as.zip (prs xs ys))) S (.lst (as.map V.ref)))
section
variable {X:Cx} {pins:List (Addr × Obj)} {σ:St} {H:Hp} {s:Shared}
theorem a6a (I:Inv X pins σ H s) {p:Addr} {xs:List V} (h:Sq X.K H p xs):∃ (t:Bool) (its:List Value),Vals xs its ∧ RwB t s.heap p its.toArray ∧ xs.length ≤ sizeLine:=by
 rcases h with h | h
 ·obtain ⟨its,r,⟨o,n,e,c,_,d⟩,z⟩:=I.list h
  exact ⟨false,its,r,⟨o,e,c,n,d⟩,z⟩
 ·obtain ⟨its,r,⟨o,e,c,n,d⟩,z⟩:=I.tuple h
  exact ⟨true,its,r,⟨o,e,c,n,d⟩,z⟩
theorem a58 {as:List Addr} {ps:List (List V)} (h:as.length = ps.length):(as.zip ps).map (·.1) = as:=by
 rw [List.map_fst_zip (by omega)]
theorem Inv.lz {xs ys:List V} {it jt:List Value} {S:Addr} {h':Heap} {as:List Addr} {c:Nat} (I:Inv X pins σ H s) (rx:Vals xs it) (ry:Vals ys jt) (zx:xs.length ≤ sizeLine) (Z:LZ s.heap h' S it.toArray jt.toArray as c) :
  (S :: as).Nodup ∧ (∀ a ∈ S :: as,H a = none) ∧ as.length = (prs xs ys).length ∧ Inv X pins σ (upd (K3 H (as.zip (prs xs ys))) S (.lst (as.map V.ref))) { s with heap:=h' }:=by
 have hl:as.length = (prs xs ys).length:=by
  have e:=Z.len
  simp only [List.size_toArray] at e
  rw [e,prs,List.length_zipWith,rx.length,ry.length]
 have fr:∀ a ∈ S :: as,s.heap.objs.size ≤ a:=fun a ha=>by
  rcases List.mem_cons.mp ha with e | e
  ·rw [e]; exact Z.low
  ·exact (Z.new a e).1
 have nn:∀ a ∈ S :: as,H a = none:=fun a ha=>I.hok.fresh (fr a ha)
 have nd:(S :: as).Nodup:=List.nodup_cons.mpr ⟨fun h=>(Z.new S h).2 rfl,Z.nd⟩
 have ky:=a58 hl
 have ndz:((as.zip (prs xs ys)).map (·.1)).Nodup:=by rw [ky]; exact Z.nd
 have kin:∀ q ∈ as.zip (prs xs ys),q.1 ∈ as:=fun q hq=>(List.of_mem_zip hq).1
 refine ⟨nd,nn,hl,?_⟩
 have hs:∀ b u,H b = some u → upd (K3 H (as.zip (prs xs ys))) S (.lst (as.map V.ref)) b = some u:=fun b u e=>by
  have n:∀ a ∈ S :: as,a ≠ b:=fun a ha z=>by rw [z] at ha; rw [nn b ha] at e; cases e
  rw [o8 (Ne.symm (n S (.head _))),a0T fun q hq=>n _ (.tail _ (kin q hq))]
  exact e
 refine I.un (t':=s.toks) (b2T Z.keep (fun b hb=>?_) hs) fun b u e=>?_
 ·have n:∀ a ∈ S :: as,a ≠ b:=fun a ha z=>absurd (Nat.lt_of_lt_of_le hb (z ▸ fr a ha)) (Nat.lt_irrefl _)
  rw [o8 (Ne.symm (n S (.head _))),a0T fun q hq=>n _ (.tail _ (kin q hq))]
 ·by_cases hb:b = S
  ·subst hb
   rw [B7] at e; cases e
   refine ⟨?_,as.map Value.ref,c,?_,Z.lst⟩
   ·rw [List.length_map,hl,prs,List.length_zipWith]
    exact Nat.le_trans (Nat.min_le_left ..) zx
   ·have:∀ l:List Addr,Vals (l.map V.ref) (l.map Value.ref):=fun l=>by
     induction l with
     | nil=>exact .nil
     | cons a r ih=>exact .cons rfl ih
    exact this as
  ·rw [o8 hb] at e
   rcases a53 e with ⟨p,hp,rfl⟩ | e0
   ·obtain ⟨j,hj⟩:=List.mem_iff_getElem?.mp hp
    obtain ⟨ha,hpj⟩:=List.getElem?_zip_eq_some.mp hj
    obtain ⟨x,y,ex,ey,rfl⟩:=b3T hpj
    obtain ⟨x',y',ex',ey',q⟩:=Z.at' j b ha
    obtain ⟨u1,f1,g1⟩:=rx.get ex
    obtain ⟨u2,f2,g2⟩:=ry.get ey
    have e1:u1 = x':=by simpa [f1] using ex'
    have e2:u2 = y':=by simpa [f2] using ey'
    subst e1; subst e2
    exact ⟨show 2 ≤ sizeLine by decide,[u1,u2],.cons g1 (.cons g2 .nil),⟨_,q,rfl,_,rfl⟩⟩
   ·exact (I.hok b u e0).stay (fun c v _ q=>Z.keep c v q) (fun c q=>hs c _ q) fun c xs q=>hs c _ q
end
section
variable {X:Cx} {p p' pos pos':Pos} {e:Expr} {es:List Expr} {t:TA}
theorem b0o (hc:X.calm = true) (hgl:Gl X "list") (hml:X.mg "list" = none) (hgz:Gl X "zip") (hmz:X.mg "zip" = none) (ha:PA X (e :: es) t)
  (he:starEach (e :: es) X.env = (false,eval e X.env) :: starEach es X.env:=by rfl) (hpl:(backTo pos' (starEach es X.env)).any (·.1) = false:=by rfl)
  (he2:starEach [.Call (.Name "zip" p') (e :: es) [] pos'] X.env = [(false,eval (.Call (.Name "zip" p') (e :: es) [] pos') X.env)]:=by rfl) :
  PE X (.Call (.Name "list" p) [.Call (.Name "zip" p') (e :: es) [] pos'] [] pos) (tCB (rLZ X.K) t):=by
 intro pins s σ H Q I h
 refine wpAny_Call_Name_kw (S4 I hgl hml (show bootBuiltins ("list" : Str) = some (.type "list") by decide +kernel) ?_ (by decide) (by decide))
 refine PyProof.Rows.callWith_type1 ?_ he2 rfl
 rw [he2]
 show wpAny _ _ (spliced [(false,eval (.Call (.Name "zip" p') (e :: es) [] pos') X.env)]) _ _ s
 refine Calls.spliced_cons ?_
 refine wpAny_Call_Name_kw (S4 I hgz hmz (show bootBuiltins ("zip" : Str) = some (.type "zip") by decide +kernel) ?_ (by decide) (by decide))
 refine PyProof.Rows.callWith_type1 (thn (ha pos' pins s σ H _ I h) fun us s1 ⟨vs,H1,I1,r1,q1⟩=>?_) he hpl
 obtain ⟨a,b,xs,ys,rfl,qa,qb,k⟩:=q1
 obtain ⟨u1,u2,rfl,e1,e2⟩:∃ u1 u2,us = [u1,u2] ∧ u1 = Value.ref a ∧ u2 = Value.ref b:=by
  cases r1 with
  | cons h1 r1=>
   cases r1 with
   | cons h2 r1=>cases r1; exact ⟨_,_,rfl,h1,h2⟩
 subst e1; subst e2
 obtain ⟨ta,it,rx,wa,za⟩:=a6a I1 qa
 obtain ⟨tb,jt,ry,wb,zb⟩:=a6a I1 qb
 refine b2t wa wb fun h1 Z1 k1 _=>?_
 refine Calls.spliced_nil ?_
 refine b13 (h₀:=s1.heap) (I.ok.hd hc) Z1 k1 rfl (by simpa [← rx.length] using za) fun S h2 as c Z=>?_
 obtain ⟨nd,nn,hl,I2⟩:=Inv.lz I1 rx ry za Z
 exact ⟨.ref S,_,I2,rfl,k S as nd nn hl⟩
end
noncomputable def V2:D → Option (List D)
 | .tup ds=>some ds
 | .lst ds=>some ds
 | _=>none
noncomputable def a0I (x y:D):D:=.tup [x,y]
noncomputable def Z5:List D → Option (List D)
 | [a,b]=>(V2 a).bind fun xs=>(V2 b).map fun ys=>List.zipWith a0I xs ys
 | _=>none
theorem a5P {g:Gh} {K:PySem.W.Frag} {σ:L2.St} {H:Hp} {fa:Option Addr} {O:List Addr} {s:DS} (I:GI K g σ H fa O s):∀ (ps:List (Addr × List V)),(ps.map (·.1)).Nodup → (∀ q ∈ ps,H q.1 = none) → GI K g σ (K3 H ps) fa O s ∧ StE fa O H fa O (K3 H ps)
 | [],_,_=>⟨I,StE.refl⟩
 | (a,p) :: r,nd,h=>by
  have nd':=List.nodup_cons.mp nd
  obtain ⟨I1,s1⟩:=a5P I r nd'.2 fun q hq=>h q (.tail _ hq)
  have hn:K3 H r a = none:=by
   rw [a0T fun q hq z=>nd'.1 (List.mem_map.mpr ⟨q,hq,z⟩)]
   exact h _ (.head _)
  exact ⟨I1.new hn,s1.trans (C1 hn)⟩
theorem a7Z {K:PySem.W.Frag} {N:Addr → Prop} {fa:Option Addr} {H:Hp}:∀ {ds es:List D} {xs ys:List V} {as:List Addr},Reps K N fa H ds xs → Reps K N fa H es ys → as.length = (prs xs ys).length → (∀ q ∈ as.zip (prs xs ys),H q.1 = some (.tup q.2)) →
  Reps K N fa H (List.zipWith a0I ds es) (as.map V.ref)
 | [],es,xs,ys,as,h,q,l,k=>by
  simp only [Reps] at h; subst h
  simp only [prs,List.zipWith_nil_left,List.length_nil] at l
  rw [List.eq_nil_of_length_eq_zero l]
  simp only [List.zipWith_nil_left,List.map_nil,Reps]
 | d :: r,[],xs,ys,as,h,q,l,k=>by
  simp only [Reps] at q; subst q
  simp only [prs,List.zipWith_nil_right,List.length_nil] at l
  rw [List.eq_nil_of_length_eq_zero l]
  simp only [List.zipWith_nil_right,List.map_nil,Reps]
 | d :: r,e :: f,xs,ys,as,h,q,l,k=>by
  simp only [Reps] at h q
  obtain ⟨x,xs',rfl,h1,h2⟩:=h
  obtain ⟨y,ys',rfl,q1,q2⟩:=q
  cases as with
  | nil=>simp [prs] at l
  | cons a as=>
   have hz:(a :: as).zip (prs (x :: xs') (y :: ys')) = (a,[x,y]) :: as.zip (prs xs' ys'):=rfl
   rw [hz] at k
   simp only [List.zipWith_cons_cons,List.map_cons,Reps]
   refine ⟨_,_,rfl,?_,a7Z h2 q2 (by simpa [prs] using l) fun q hq=>k q (.tail _ hq)⟩
   simp only [a0I,Rep,Reps]
   exact ⟨a,[x,y],rfl,SqT.of (k _ (.head _)),x,[y],rfl,h1,y,[],rfl,q1,rfl⟩
theorem a5K {K:PySem.W.Frag} {N:Addr → Prop} {fa:Option Addr} {H:Hp} {d:D} {v:V} {ds:List D} (r:RepB K N fa H d v) (e:V2 d = some ds):∃ a xs,v = .ref a ∧ Sq K H a xs ∧ Reps K N fa H ds xs:=by
 cases d with
 | tup es=>
  cases e
  simp only [RepB,Rep] at r
  obtain ⟨a,ys,rfl,q,w⟩:=r
  exact ⟨a,ys,rfl,.inr q,w⟩
 | lst es=>
  cases e
  obtain ⟨a,ys,rfl,_,q,w⟩:=r
  exact ⟨a,ys,rfl,.inl (SqL.of q),w⟩
 | _=>cases e
theorem b1l {K:PySem.W.Frag}:RCF K (rLZ K) Z5:=by
 intro g σ H fa O s xs ds es Q I rs e k
 match ds,e with
 | [d1,d2],e=>
  refine L5 (show (V2 d1).bind (fun xs=>(V2 d2).map fun ys=>List.zipWith a0I xs ys) = some es from e) fun xs1 e1 e=>?_
  refine N7 e fun ys1 e2 e=>?_
  subst e
  simp only [O9] at rs
  obtain ⟨x,zs,rfl,r1,y,zs',rfl,r2,rfl⟩:=rs
  obtain ⟨a,vs,rfl,q1,w1⟩:=a5K r1 e1
  obtain ⟨b,us,rfl,q2,w2⟩:=a5K r2 e2
  refine ⟨a,b,vs,us,rfl,q1,q2,fun S as nd nn hl=>?_⟩
  have nd':=List.nodup_cons.mp nd
  have ky:=a58 hl
  have kin:∀ q ∈ as.zip (prs vs us),q.1 ∈ as:=fun q hq=>(List.of_mem_zip hq).1
  have ndz:((as.zip (prs vs us)).map (·.1)).Nodup:=by rw [ky]; exact nd'.2
  obtain ⟨I1,s1⟩:=a5P I (as.zip (prs vs us)) ndz fun q hq=>nn _ (.tail _ (kin q hq))
  have hS:K3 H (as.zip (prs vs us)) S = none:=by
   rw [a0T fun q hq (z:q.1 = S)=>nd'.1 (by rw [← z]; exact kin q hq)]
   exact nn S (.head _)
  have rp:=a7Z (Reps.stp I s1.stp w1) (Reps.stp I s1.stp w2) hl fun q hq=>a69 (b:=q.1) (p:=q.2) ndz hq
  exact k S (as.map V.ref) _ (s1.trans (C1 hS)) (R6 I1 hS rp) (nn S (.head _))
section
variable {X:Cx} {g:Gh} {p p' pos pos':Pos} {e:Expr} {es:List Expr} {t:DA}
theorem a57 (hc:X.calm = true) (hgl:Gl X "list") (hml:X.mg "list" = none) (hgz:Gl X "zip") (hmz:X.mg "zip" = none) (ha:BAO X g (e :: es) t)
  (he:starEach (e :: es) X.env = (false,eval e X.env) :: starEach es X.env:=by rfl) (hpl:(backTo pos' (starEach es X.env)).any (·.1) = false:=by rfl)
  (he2:starEach [.Call (.Name "zip" p') (e :: es) [] pos'] X.env = [(false,eval (.Call (.Name "zip" p') (e :: es) [] pos') X.env)]:=by rfl) :
  FO X g (.Call (.Name "list" p) [.Call (.Name "zip" p') (e :: es) [] pos'] [] pos) (dCF Z5 t):=
 FO.w (b0o hc hgl hml hgz hmz ha.pe he hpl he2) (a4x b1l)
end
section
variable {X:Cx} {g:Gh} {scope:Scope} {cl:List (Str × Addr)} {idx:List Nat} {iter elt:Expr} {ifs:List Expr} {pos:Pos} {fi:DA} {fc:DT} {fe:DE} {x y:Str} {px py pp:Pos} {kt:Nat} {caps:List Str}
theorem b1G (hc:X.calm = true) (k:CompOk X scope cl (x :: y :: caps) 2 idx) (hi:IO X g (.Tuple [.Name x px,.Name y py] kt pp) iter fi) (nd:(x :: y :: caps).Nodup)
  (hx:∀ C s0 H0 ex,(blk X (x :: y :: caps) scope cl C s0 H0 ex).env.scope.names.lookup x = some .local) (hy:∀ C s0 H0 ex,(blk X (x :: y :: caps) scope cl C s0 H0 ex).env.scope.names.lookup y = some .local)
  (ht:∀ C s0 H0 ex g',Z6 (blk X (x :: y :: caps) scope cl C s0 H0 ex) g' ifs fc) (he:∀ C s0 H0 ex g',EO (blk X (x :: y :: caps) scope cl C s0 H0 ex) g' elt fe) (hs:∀ x,foldedSetIterable iter X.env x = pure x:=by intro _; rfl) :
  FO X g (.ListComp elt [⟨.Tuple [.Name x px,.Name y py] kt pp,iter,ifs,0⟩] scope pos) (X2 idx fi fc fe):=
 b5y (G:=a9t X.K 2 (a4B (L4 0) (a4B (L4 1) a6T))) hc k hi (fun C s0 H0 ex=>a6i (X:=blk X (x :: y :: caps) scope cl C s0 H0 ex) (n:=2) hc (a4w (X:=blk X (x :: y :: caps) scope cl C s0 H0 ex) (A3 (X:=blk X (x :: y :: caps) scope cl C s0 H0 ex) (i:=0) nd rfl (Or.inl (hx C s0 H0 ex)) (Or.inr (hx C s0 H0 ex))) (a4w (X:=blk X (x :: y :: caps) scope cl C s0 H0 ex) (A3 (X:=blk X (x :: y :: caps) scope cl C s0 H0 ex) (i:=1) nd rfl (Or.inl (hy C s0 H0 ex)) (Or.inr (hy C s0 H0 ex))) a7P)))
  (fun a x y σ H Q h q=>⟨a,[x,y],rfl,h,rfl,x,[y],rfl,y,[],rfl,rfl,q⟩) ht he hs
end
noncomputable def PC (X:Cx) (e:Expr) (te:TE):Prop:=∀ (i:Nat) (y:Str) (py spos:Pos),X.N.Nodup → X.N[i]? = some y → Loc X.env.scope y → swapsWith e (some (.Name y py)) spos.line X.env = pure true → (X.fn y = true ∨ X.env.scope.names.lookup y = some .local) → PS X (.Assign [.Name y py] e spos) (a0d te (L4 i))
structure CO (X:Cx) (g:Gh) (e:Expr) (f:DA):Prop where
 pe:PC X e (liftF X.K g f)
theorem CO.w {X:Cx} {g:Gh} {e:Expr} {f:DA} {t:TE} (h:PC X e t) (w:∀ σ H Q,liftF X.K g f σ H Q → t σ H Q):CO X g e f:=
 ⟨fun i y py spos h1 h2 h3 h4 h5 pins s σ H D I q=>h i y py spos h1 h2 h3 h4 h5 pins s σ H D I (w σ H _ q)⟩
section
variable {X:Cx} {g:Gh} {scope:Scope} {cl:List (Str × Addr)} {N':List Str} {idx:List Nat} {iter elt tg:Expr} {ifs:List Expr} {pos:Pos} {fi:DA} {fc:DT} {fe:DE}
theorem a3A (hc:X.calm = true) (k:CompOk X scope cl N' 1 idx) (hi:IO X g tg iter fi) (hg:∀ C s0 H0 ex,PG (blk X N' scope cl C s0 H0 ex) tg (L4 0))
  (ht:∀ C s0 H0 ex g',Z6 (blk X N' scope cl C s0 H0 ex) g' ifs fc) (he:∀ C s0 H0 ex g',EO (blk X N' scope cl C s0 H0 ex) g' elt fe) (hs:∀ x,foldedSetIterable iter X.env x = pure x:=by intro _; rfl) :
  CO X g (.ListComp elt [⟨tg,iter,ifs,0⟩] scope pos) (G1 idx fi fc fe):=
 CO.w (fun i y py spos h1 h2 h3 h4 h5=>b0y (tc:=fun σ H Q=>∃ g',liftT X.K g' fc σ H Q) (te:=fun σ H Q=>∃ g',liftE X.K g' fe σ H Q) h1 h2 h3 hc k hi.pe hg (fun C s0 H0 ex pins s σ H Q I ⟨g',h⟩=>ht C s0 H0 ex g' pins s σ H Q I h) (fun C s0 H0 ex pins s σ H Q I ⟨g',h⟩=>(he C s0 H0 ex g').pe pins s σ H Q I h) hs h4 h5) (a9h k)
theorem a3T {e:Expr} {i:Nat} {x:Str} {f:DA} {pos':Pos} (hN:X.N.Nodup) (hi:X.N[i]? = some x) (hx:Loc X.env.scope x) (he:CO X g e f) (hs:swapsWith e (some (.Name x pos')) pos.line X.env = pure true:=by rfl) (hf:X.fn x = true ∨ X.env.scope.names.lookup x = some .local:=by first | exact .inl rfl | exact .inr rfl | assumption) :
  SO X g (.Assign [.Name x pos'] e pos) (E4 i f):=SO.w (he.pe i x pos' pos hN hi hx hs hf) fun E σ H hQ=>by
 refine hQ.elim fun fa O s fl s' I q k=>?_
 refine v6 q fun ds s1 h1 h2=>?_
 by_cases hl:i < s1.sl.length
 ·simp only [] at h2
  rw [if_pos hl] at h2
  cases h2
  refine ⟨fa,O,s,ds,s1,I,h1,fun p xs H1 f1 O1 a1 L hp=>?_⟩
  have np:p ∉ O1:=fun z=>by
   obtain ⟨ys,e⟩:=I.owned (a1.sub p z)
   rw [hp] at e; cases e
  obtain ⟨P,sub,I'⟩:=L.put i hl (I.st.mon p hp) np
  refine k _ H1 f1 P ⟨fun b hb=>?_,a1.fe,fun b u e _ n=>a1.same b u e n,a1.mon⟩ I'
  rcases sub b hb with y | y
  ·exact .inr (by rw [y]; exact hp)
  ·exact .inl (a1.sub b y)
 ·simp only [] at h2
  rw [if_neg hl] at h2; cases h2
end
end DL
namespace DL
open PySem PySem.Spec L2 PyProof.Rows
noncomputable def a5f (s:DS) (i:Nat):Option (List D):=match s.sl[i]? with
 | some (.own ds)=>some ds
 | _=>none
theorem b17 {s:DS} {i:Nat} {ds:List D} (h:a5f s i = some ds):s.sl[i]? = some (.own ds):=by
 unfold a5f at h
 cases q:s.sl[i]? with
 | none=>rw [q] at h; cases h
 | some z=>
  rw [q] at h
  cases z with
  | own ds=>cases h; rfl
  | no=>cases h
  | val _=>cases h
end DL
namespace DL
open PySem PySem.Spec L2
theorem on1 {α:Type _} {P:List α → Prop} (h:∀ a1:α,P [a1]):∀ us:List α,us.length = 1 → P us:=by
 intro us e
 match us,e with | [a1],_=>exact h a1
theorem on2 {α:Type _} {P:List α → Prop} (h:∀ a1 a2:α,P [a1,a2]):∀ us:List α,us.length = 2 → P us:=by
 intro us e
 match us,e with | [a1,a2],_=>exact h a1 a2
theorem on3 {α:Type _} {P:List α → Prop} (h:∀ a1 a2 a3:α,P [a1,a2,a3]):∀ us:List α,us.length = 3 → P us:=by
 intro us e
 match us,e with | [a1,a2,a3],_=>exact h a1 a2 a3
theorem on4 {α:Type _} {P:List α → Prop} (h:∀ a1 a2 a3 a4:α,P [a1,a2,a3,a4]):∀ us:List α,us.length = 4 → P us:=by
 intro us e
 match us,e with | [a1,a2,a3,a4],_=>exact h a1 a2 a3 a4
structure GF (K:PySem.W.Frag) (mg:Str → Option Value) (n:Str) (st:Stmt) (f:Addr) (fd:FuncData):Prop where
 F:Fun K n n st f fd
 m:mg n = some (.ref f)
section
variable {K:PySem.W.Frag} {h:Heap} {mg:Str → Option Value} {n:Str} {st:Stmt} {f:Addr} {fd:FuncData}
theorem gf_mk (X:K.In h) (G:h.Ns mainGlobals mg) {oc:Value} {od an:Option Addr} {osl:Array (Option Value)} {kV doc pm cdv ct:Value} (a:PySem.W.nsIn K mainGlobals n = some (some (.ref f))) (l:K.lookup f = some ⟨oc,od,.func (PySem.W.fnOf n n (S3 st) (M0 st) (m9 st) .none kV doc pm an cdv ct),osl⟩)
  (c:PySem.W.codeIn K cdv n = true) (k:PySem.W.keepIn K (.ref f) = true):GF K mg n st f (PySem.W.fnOf n n (S3 st) (M0 st) (m9 st) .none kV doc pm an cdv ct):=⟨b5g l c k,PySem.W.mg_of X G a⟩
theorem b0n {x:Str} (F:Fun K n n st f fd) (q:∀ (kV doc pm:Value) (an:Option Addr) (cdv ct:Value) (s:Shared) (v:Value),BindsTo s (PySem.W.fnOf n n (S3 st) (M0 st) (m9 st) .none kV doc pm an cdv ct) ⟨[v],[]⟩ [(x,v)]):∀ (s:Shared) (v:Value),BindsTo s fd ⟨[v],[]⟩ [(x,v)]:=by
 obtain ⟨oc,od,kV,doc,pm,an,cdv,ct,osl,rfl,lk,hcd⟩:=F.ex
 exact fun s v=>q kV doc pm an cdv ct s v
theorem blt_mk (X:K.In h) (G:h.Ns mainGlobals mg) (z0:PySem.W.nsIn K mainGlobals "len" = some none) (z1:PySem.W.nsIn K mainGlobals "range" = some none) (z2:PySem.W.nsIn K mainGlobals "abs" = some none) (z3:PySem.W.nsIn K mainGlobals "tuple" = some none) (z4:PySem.W.nsIn K mainGlobals "list" = some none) (z5:PySem.W.nsIn K mainGlobals "int" = some none) (z6:PySem.W.nsIn K mainGlobals "bool" = some none) (z7:PySem.W.nsIn K mainGlobals "str" = some none) (z8:PySem.W.nsIn K mainGlobals "repr" = some none) (z9:PySem.W.nsIn K mainGlobals "all" = some none) (z10:PySem.W.nsIn K mainGlobals "isinstance" = some none) (z11:PySem.W.nsIn K mainGlobals "zip" = some none) (z12:PySem.W.nsIn K mainGlobals "enumerate" = some none) (z13:PySem.W.nsIn K mainGlobals "min" = some none) (z14:PySem.W.nsIn K mainGlobals "max" = some none) (z15:PySem.W.nsIn K mainGlobals "reversed" = some none) (z16:PySem.W.nsIn K mainGlobals "any" = some none) (z17:PySem.W.nsIn K mainGlobals "sum" = some none) (z18:PySem.W.nsIn K mainGlobals "sorted" = some none):Blt mg:=⟨PySem.W.mg_none_of X G z0,PySem.W.mg_none_of X G z1,PySem.W.mg_none_of X G z2,PySem.W.mg_none_of X G z3,PySem.W.mg_none_of X G z4,PySem.W.mg_none_of X G z5,PySem.W.mg_none_of X G z6,PySem.W.mg_none_of X G z7,PySem.W.mg_none_of X G z8,PySem.W.mg_none_of X G z9,PySem.W.mg_none_of X G z10,PySem.W.mg_none_of X G z11,PySem.W.mg_none_of X G z12,PySem.W.mg_none_of X G z13,PySem.W.mg_none_of X G z14,PySem.W.mg_none_of X G z15,PySem.W.mg_none_of X G z16,PySem.W.mg_none_of X G z17,PySem.W.mg_none_of X G z18⟩
theorem w4 {P:Program} {w:World} {base:Heap} {N ps:List Str} {k:Nat} {b:DM} (F:GF K mg n st f fd) (q:∀ (kV doc pm:Value) (an:Option Addr) (cdv ct:Value) (us:List Value),us.length = ps.length → bindArgs (PySem.W.fnOf n n (S3 st) (M0 st) (m9 st) .none kV doc pm an cdv ct) ⟨us,[]⟩ = pure (ps.zip us)) (S:FnScope N ps (m9 st))
  (hbody:∀ (cdv:Value) (A:Around) (outer:List Env) (s:Shared) (H:Hp) (E:XK) (g:Gh),Room k (A.deeper (PyProof.Rows.envOfC n (m9 st) s.heap.objs.size f cdv)) → SSO (R0 CX0 P w K mg base N n (m9 st) f cdv A outer s H E).nox g (M0 st) b) :
  Cal P w K mg base (k + 1) n ps (mFn N.length b):=b6h F.F F.m (F.F.binds q) S hbody
end
end DL
namespace DL
open PySem PySem.Spec L2 PyProof.Rows
noncomputable def a0u (i:Nat):DM:=fun s=>(a5f s i).bind fun ds=>if 0 < ds.length then some (.next,{ s with sl:=s.sl.set i (.own ds.dropLast) }) else none
theorem b1T {i:Nat} {s:DS} {r:Fl × DS} (q:a0u i s = some r):∃ ds,s.sl[i]? = some (.own ds) ∧ 0 < ds.length ∧ (Fl.next,{ s with sl:=s.sl.set i (.own ds.dropLast) }) = r:=by
 refine L5 q fun ds h2 q=>?_
 by_cases hl:0 < ds.length
 ·exact ⟨ds,b17 h2,hl,Option.some.inj ((if_pos hl).symm.trans q)⟩
 ·cases (if_neg hl).symm.trans q
section
variable {X:Cx} {g:Gh} {i:Nat} {x:Str} {p1 p2 p3 p4:Pos}
theorem b2m (hv:PE X (.Name x p1) (G6 i)) (hbase:attributeBase (.Name x p1) ("pop" : Str) X.env (eval (.Name x p1) X.env) = eval (.Name x p1) X.env:=by rfl)
  (hline:(p2.endLine == p3.line) = true:=by rfl) (hsw:swapsWith (.Call (.Attribute (.Name x p1) ("pop" : Str) p2) [] [] p3) none p4.line X.env = pure false:=by rfl) :
  SO X g (.Expr (.Call (.Attribute (.Name x p1) ("pop" : Str) p2) [] [] p3) p4) (a0u i):=
 SO.w (a7n (b5B PySem.F.plainAttrs_list PySem.F.slot_list_pop PySem.F.type_list_pop a9O hv hbase hline) hsw) fun E σ H hQ=>by
  refine hQ.elim fun fa O s fl s' I q k=>?_
  obtain ⟨ds,h2,hl,e⟩:=b1T q
  cases e
  obtain ⟨b,xs,e3,m1,e4,r1⟩:=SlR.own I.sl h2
  have rl:=r1.length
  have rd:Reps X.K (NN g.F fa O) fa H ds.dropLast xs.dropLast:=by
   rw [List.dropLast_eq_take,List.dropLast_eq_take,rl]
   exact r1.take _
  obtain ⟨I2,a2⟩:=I.rew h2 e3 m1 e4 rd
  have hx:xs.length - 1 < xs.length:=by omega
  exact ⟨_,e3,.inl ⟨rfl,xs,SqL.of e4⟩,b,xs,xs[xs.length - 1],rfl,rfl,e4,List.getElem?_eq_getElem hx,k σ _ fa O a2 I2⟩
end
structure FnV (K:PySem.W.Frag) (mg:Str → Option Value) (x:Str):Prop where
 ex:∃ a:Addr,mg x = some (.ref a) ∧ PySem.W.nsIn K mainGlobals x = some (some (.ref a))
structure CalT (P:Program) (w:World) (K:PySem.W.Frag) (mg:Str → Option Value) (base:Heap) (k:Nat) (ps:Nat) (tab:List (Str × DFn)):Prop where
 ex:∀ x m,(x,m) ∈ tab → ∃ (j:Nat) (qs:List Str),j ≤ k ∧ qs.length = ps ∧ Cal P w K mg base j x qs m
noncomputable def U1 (i:Nat) (tab:List (Str × DFn)) (t:DA):DE:=fun s=>match s.sl[i]? with
 | some (.val (.fn x))=>(tab.find? fun p=>decide (p.1 = x)).bind fun p=>c7 p.2 t s
 | _=>none
theorem b4D {i:Nat} {tab:List (Str × DFn)} {t:DA} {s:DS} {r:D × DS} (h:U1 i tab t s = some r):∃ x m,s.sl[i]? = some (.val (.fn x)) ∧ (x,m) ∈ tab ∧ c7 m t s = some r:=by
 unfold U1 at h
 cases q:s.sl[i]? with
 | none=>rw [q] at h; cases h
 | some z=>
  rw [q] at h
  cases z with
  | no=>cases h
  | own _=>cases h
  | val d=>
   cases d with
   | fn x=>
    refine L5 h fun p h1 h2=>?_
    have e:=List.find?_some h1
    have m:=List.mem_of_find?_eq_some h1
    have e:p.1 = x:=of_decide_eq_true e
    subst e
    exact ⟨p.1,p.2,rfl,m,h2⟩
   | _=>cases h
section
variable {X:Cx} {g:Gh} {x:Str} {p pos:Pos} {e:Expr} {es:List Expr} {t:DA} {i k n:Nat} {tab:List (Str × DFn)}
theorem b1y (C:CalT X.prog X.w X.K X.mg X.base k n tab) (hr:Room k X.A) (hv:PE X (.Name x p) (G6 i)) (ha:AO X g (e :: es) t) (hn:∀ s ds s',t s = some (ds,s') → ds.length = n)
  (he:starEach (e :: es) X.env = (false,eval e X.env) :: starEach es X.env:=by rfl) (hpl:(backTo pos (starEach es X.env)).any (·.1) = false:=by rfl) :
  EO X g (.Call (.Name x p) (e :: es) [] pos) (U1 i tab t):=⟨fun pins s σ H Q I h=>by
 obtain ⟨fa,O,s0,d,s',I0,q,kk⟩:=h
 obtain ⟨y,m,q1,q2,q3⟩:=b4D q
 obtain ⟨j,qs,hj,hl,c⟩:=C.ex y m q2
 obtain ⟨f,fd,F,hm,hk,hb⟩:=c.ex
 obtain ⟨u,e1,r1⟩:=SlR.val I0.sl q1
 simp only [Rep] at r1
 obtain ⟨a,rfl,hns⟩:=r1
 have ma:X.mg y = some (.ref a):=PySem.W.mg_of I.kIn (I.mod.glob.keeps I.bk) hns
 rw [hm] at ma
 obtain rfl:f = a:=by injection ma with z; injection z
 have tc:=a4Q (X:=X) (g:=g) (m:=m) hn σ H Q ⟨fa,O,s0,d,s',I0,q3,kk⟩
 subst hl
 refine wpAny_Call_Name_kw (thn (hv pins s σ H (fun v H'=>v = .ref f ∧ H' = H) I ⟨_,e1,rfl,rfl⟩) fun uv s1 ⟨v,H1,I1,r,ev,eh⟩=>?_)
 subst ev
 subst eh
 cases r
 exact PySem.W.callWith_K (h₀:=X.base) I.ok.mod.kin hk (thn (ha.pe pos pins s1 σ _ _ I1 tc) fun us s2 ⟨vs,H2,I2,r2,q2⟩=>⟨I2.kIn,a59 F (hr.mono hj) hb .nil a3x I2 r2 q2⟩) he hpl⟩
end
section
variable {P:Program} {w:World} {K:PySem.W.Frag} {mg:Str → Option Value} {base:Heap} {k n:Nat}
theorem b6t:CalT P w K mg base k n []:=⟨fun _ _ h=>by cases h⟩
theorem b0e {j:Nat} {x:Str} {qs:List Str} {m:DFn} {tab:List (Str × DFn)} (C:Cal P w K mg base j x qs m) (hj:j ≤ k) (hq:qs.length = n) (T:CalT P w K mg base k n tab):CalT P w K mg base k n ((x,m) :: tab):=⟨fun y m' h=>by
 rcases List.mem_cons.mp h with e | e
 ·cases e
  exact ⟨j,qs,hj,hq,C⟩
 ·exact T.ex y m' e⟩
end
theorem b0w:typeLookup (.type "list_reverseiterator") "__len__" = pure none:=by rw [typeLookup_type,builtinLookup_eq_fast]; kernel_rfl
theorem b2Q:typeLookup (.type "list_reverseiterator") "__length_hint__" = pure (some (.builtin "list_reverseiterator.__length_hint__")):=by rw [typeLookup_type,builtinLookup_eq_fast]; kernel_rfl
section
variable {prog:Program} {w:World} {A:Around} {E:Value → Shared → Prop} {s:Shared}
theorem b0L {r:Addr} {Q:Bool → Shared → Prop} (hT:s.TypeIs (.ref r) "list_reverseiterator") (h:Q false s):wpAny (model prog w) A (Builtin.List.listLengthHint (.ref r)) Q E s:=by
 unfold Builtin.List.listLengthHint
 refine wpAny_bind (wpAny_specialOf hT b0w ?_)
 show wpAny _ A (specialOf (Value.ref r) (Str.ofString "__length_hint__") >>= _) _ _ _
 refine wpAny_bind (wpAny_specialOf hT b2Q ?_)
 generalize hid:("list_reverseiterator.__length_hint__" : String) = id0
 wp_delta
 rw [show splitId id0 = some ("list_reverseiterator", "__length_hint__") from by subst hid; decide +kernel]
 subst hid
 refine wpAny_bind (wpAny_isInstance (T := "list_reverseiterator") (b:=true) hT (by rw [isSubtype_type]; kernel_rfl) ?_)
 refine wpAny_ite_split (fun hab=>absurd hab (by decide)) (fun _=>?_)
 refine wpAny_ite_split (fun _=>?_) (fun hab=>absurd (by decide +kernel) hab)
 refine wpAny_ite_split (fun hab=>absurd hab (by decide +kernel)) (fun _=>?_)
 exact wpAny_pure h
theorem b2x {R:Result → Shared → Prop} {I l S:Addr} {items:Array Value} {c₀:Nat} (hh:A.handled = none) (hit:s.heap.IsRevIter I l ((items.size:Int) - 1)) (hl:s.heap.IsList l items) (hne:l ≠ I) (hSI:S ≠ I) (hSl:S ≠ l) (hn:items.size ≤ sizeLine) (hS:J3 s.heap S #[] c₀)
  (hR:∀ s' acc c,Moved (S :: [I]) (fun a b=>b = a) s s' → J3 s'.heap S acc c → ItemsOf (fun i v=>items[items.size - 1 - i]? = some v) acc items.size → R (.ok (.ret .none)) s') :
  wpAny (model prog w) A.in1 (Builtin.List.listExtendWith (.ref S) (.ref I) .none)
   (fun fin s'=>match fin with | .done f=>R (.ok f) s' | .again c'=>c'.quiet = true ∧ codeAny (model prog w) A c' R s') (fun e s'=>R (.error e) s') s:=by
 have hT:=hit.typeIs
 unfold Builtin.List.listExtendWith
 refine wpAny_bind (wpAny_typeOf hT ?_)
 have h1:Builtin.List.listSameRef (.ref S) (.ref I) = false:=by simp [Builtin.List.listSameRef,hSI]
 have h2:(Value.type "list_reverseiterator" == Value.type "list") = false:=by decide
 have h3:(Value.type "list_reverseiterator" == Value.type "tuple") = false:=by decide
 simp only [h1,h2,h3,Bool.or_false,Bool.false_eq_true,if_false]
 refine wpAny_bind (wpAny_pyIter_revIter hit ?_)
 refine wpAny_bind (wpAny_holding (b0L hT ?_))
 refine wpAny_ite_split (fun hab=>absurd hab (by decide +kernel)) (fun _=>?_)
 have hin:A.in1.handled = none:=hh
 exact wpAny_pure ⟨plainId_quiet PySem.F.plain_extend_loop _,codeAny_extend_loopS (Walks.listRev (w:=w) hin I l hne items).toS hn S (by simp [hSI,hSl]) .none items.size 0 s #[] c₀ (Nat.sub_zero _) (Nat.zero_le _) ⟨Nat.zero_le _,by simpa using hit,hl⟩ hS (ItemsOf.nil _) hR⟩
theorem b2z {Q:Value → Shared → Prop} {I l:Addr} {items:Array Value} (hh:A.handled = none) (hit:s.heap.IsRevIter I l ((items.size:Int) - 1)) (hl:s.heap.IsList l items) (hne:l ≠ I) (hn:items.size ≤ sizeLine)
  (hQ:∀ h' tk c,(∀ b o,b ≠ I → s.heap.get? b = some o → h'.get? b = some o) → J3 h' s.heap.objs.size items.toList.reverse.toArray c → Q (.ref s.heap.objs.size) { s with heap:=h',toks:=tk }) :
  wpAny (model prog w) A (call (.type "list") [.ref I]) Q E s:=by
 refine callType_codes (Q₁:=fun obj s₁=>obj = .ref s.heap.objs.size ∧ s₁ = { s with heap:=s.heap.push { cls:=.type "list",data:=.seq #[] } }) PySem.F.called_list (PySem.F.typeCall_list_1 _) PySem.F.entry_list_init
  (code_list_new _ ⟨rfl,rfl⟩) fun obj s₁ h₁=>?_
 obtain ⟨rfl,rfl⟩:=h₁
 have hS:(s.heap.push { cls:=.type "list",data:=.seq #[] }).get? s.heap.objs.size = some { cls:=.type "list",data:=.seq #[] }:=Heap.get?_push_size _ rfl
 obtain ⟨oI,hoI,hcI,hdI⟩:=id hit
 obtain ⟨ol,hol,hcl⟩:=id hl
 have hI:I < s.heap.objs.size:=Heap.lt_size hoI
 have hll:l < s.heap.objs.size:=Heap.lt_size hol
 refine ⟨⟨_,hS,rfl⟩,PySem.F.args_list_init_2 _ _,?_⟩
 show wpAny _ _ (do let old ← Builtin.List.listItems (.ref s.heap.objs.size); Builtin.List.listUpdate (.ref s.heap.objs.size) (fun _=>#[]); letGo old.toList.reverse; Builtin.List.listExtendWith (.ref s.heap.objs.size) (.ref I) .none) _ _ _
 refine wpAny_bind ?_
 unfold Builtin.List.listItems
 refine wpAny_bind (wpAny_seqItems hS rfl (wpAny_pure ?_))
 show wpAny _ _ (updateSeq s.heap.objs.size (fun _=>#[]) >>= fun _=>letGo (#[]:Array Value).toList.reverse >>= fun _=>Builtin.List.listExtendWith (.ref s.heap.objs.size) (.ref I) .none) _ _ _
 refine wpAny_bind (wpAny_updateSeq hS rfl ?_)
 have hS₂:=Heap.get?_update_self (Obj.mapSeq (fun _=>(#[]:Array Value))) hS rfl
 have oth:∀ b o,b ≠ s.heap.objs.size → s.heap.get? b = some o → ((s.heap.push { cls:=.type "list",data:=.seq #[] }).update s.heap.objs.size (Obj.mapSeq (fun _=>(#[]:Array Value)))).get? b = some o:=
  fun b o hb e=>(Heap.get?_update_other _ _ (Ne.symm hb)).trans (Heap.get?_push_of_some _ e)
 refine wpAny_bind (wpAny_letGo ?_)
 refine b2x (A:=A.in1) (l:=l) (items:=items) hh ⟨oI,oth I _ (Nat.ne_of_lt hI) hoI,hcI,hdI⟩ ⟨ol,oth l _ (Nat.ne_of_lt hll) hol,hcl⟩ hne (Nat.ne_of_gt hI) (Nat.ne_of_gt hll) hn hS₂ fun s' acc c hm hS' hG=>?_
 have ea:acc = items.toList.reverse.toArray:=by
  refine Array.ext_getElem? fun i=>?_
  by_cases hi:i < items.size
  ·have:i < acc.size:=by rw [hG.1]; exact hi
   rw [Array.getElem?_eq_getElem this]
   have e:=hG.2 i _ (Array.getElem?_eq_getElem this)
   refine e.symm.trans ?_
   have e2:items.toList.reverse.toArray[i]? = items.toList.reverse[i]?:=by simp
   rw [e2,List.getElem?_reverse (by simpa using hi)]
   simp
  ·rw [Array.getElem?_eq_none (by rw [hG.1]; omega),Array.getElem?_eq_none (by simpa using hi)]
 rw [ea] at hS'
 obtain ⟨h',g,d,tk,os'⟩:=s'
 obtain rfl:g = s.gens:=hm.gens
 obtain rfl:d = s.drawn:=hm.drawn
 obtain rfl:os' = s.os:=hm.os
 exact ⟨rfl,hQ h' tk c (fun b o hb e=>hm.heap b o (by
  intro z
  rcases List.mem_cons.mp z with z | z
  ·exact absurd z (Nat.ne_of_lt (Heap.lt_size e))
  ·exact hb (List.mem_singleton.mp z)) (oth b o (Nat.ne_of_lt (Heap.lt_size e)) e)) hS'⟩
end
noncomputable def rLR (K:PySem.W.Frag):List V → Hp → VK → Prop:=fun xs H Q=>∃ a vs,xs = [V.ref a] ∧ SqL K H a vs ∧ ∀ S,H S = none → Q (.ref S) (upd H S (.lst vs.reverse))
section
variable {X:Cx} {p p' pos pos':Pos} {e:Expr} {t:TA}
theorem b0N (hc:X.calm = true) (hgl:Gl X "list") (hml:X.mg "list" = none) (hgr:Gl X "reversed") (hmr:X.mg "reversed" = none) (ha:PA X [e] t)
  (he:starEach [e] X.env = (false,eval e X.env) :: starEach [] X.env:=by rfl)
  (he2:starEach [.Call (.Name "reversed" p') [e] [] pos'] X.env = [(false,eval (.Call (.Name "reversed" p') [e] [] pos') X.env)]:=by rfl) :
  PE X (.Call (.Name "list" p) [.Call (.Name "reversed" p') [e] [] pos'] [] pos) (tCB (rLR X.K) t):=by
 intro pins s σ H Q I h
 refine wpAny_Call_Name_kw (S4 I hgl hml (show bootBuiltins ("list" : Str) = some (.type "list") by decide +kernel) ?_ (by decide) (by decide))
 refine PyProof.Rows.callWith_type1 ?_ he2 rfl
 rw [he2]
 show wpAny _ _ (spliced [(false,eval (.Call (.Name "reversed" p') [e] [] pos') X.env)]) _ _ s
 refine Calls.spliced_cons ?_
 refine wpAny_Call_Name_kw (S4 I hgr hmr (show bootBuiltins ("reversed" : Str) = some (.type "reversed") by decide +kernel) ?_ (by decide) (by decide))
 refine PyProof.Rows.callWith_type1 (thn (ha pos' pins s σ H _ I h) fun us s1 ⟨vs,H1,I1,r1,q1⟩=>?_) he rfl
 obtain ⟨a,xs,rfl,qa,k⟩:=q1
 obtain ⟨u,rfl,ru⟩:=P8 r1
 cases ru
 obtain ⟨its,rv,hl,hz⟩:=I1.list qa
 have hlen:=rv.length
 refine call_reversed_list hl.isList ?_
 refine Calls.spliced_nil ?_
 obtain ⟨oa,ha1,ha2⟩:=id hl.isList
 have lt:a < s1.heap.objs.size:=Heap.lt_size ha1
 refine b2z (l:=a) (items:=its.toArray) (I.ok.hd hc) ⟨_,Heap.get?_push_size _ rfl,rfl,rfl⟩ ⟨oa,Heap.get?_push_of_some _ ha1,ha2⟩ (Nat.ne_of_lt lt) (by rw [List.size_toArray,← hlen]; exact hz) fun h' tk c hk hS=>?_
 have big:s1.heap.objs.size ≤ (s1.heap.push (revObj a ((its.toArray.size:Int) - 1))).objs.size:=by rw [Heap.size_push]; exact Nat.le_succ _
 refine ⟨.ref (s1.heap.push (revObj a ((its.toArray.size:Int) - 1))).objs.size,_,I1.laid (t':=tk) (o:=.lst xs.reverse) (h':=h') (fun b ob q=>hk b ob (Nat.ne_of_lt (Heap.lt_size q)) (Heap.get?_push_of_some _ q)) big ?_,rfl,k _ (I1.hok.fresh big)⟩
 refine ⟨by rw [List.length_reverse]; exact hz,its.reverse,c,rv.reverse,?_⟩
 simpa using hS
end
noncomputable def a00:List D → Option (List D)
 | [.lst ds]=>some ds.reverse
 | _=>none
theorem b1u {ds es:List D} (h:a00 ds = some es):∃ cs,ds = [.lst cs] ∧ es = cs.reverse:=by
 cases ds with
 | nil=>cases h
 | cons d r=>
  cases r with
  | cons _ _=>cases d <;> cases h
  | nil=>
   cases d with
   | lst cs=>cases h; exact ⟨cs,rfl,rfl⟩
   | _=>cases h
theorem b46 {K:PySem.W.Frag}:RCF K (rLR K) a00:=by
 intro g σ H fa O s xs ds es Q I rs e k
 obtain ⟨cs,rfl,rfl⟩:=b1u e
 simp only [O9] at rs
 obtain ⟨x,zs,rfl,r1,rfl⟩:=rs
 obtain ⟨a,ys,rfl,_,q,w⟩:=r1
 refine ⟨a,ys,rfl,SqL.of q,fun S hS=>?_⟩
 exact k S ys.reverse _ (C1 hS) (R6 I hS (Reps.reverse w)) hS
section
variable {X:Cx} {g:Gh} {p p' pos pos':Pos} {e:Expr} {t:DA}
theorem b0s (hc:X.calm = true) (hgl:Gl X "list") (hml:X.mg "list" = none) (hgr:Gl X "reversed") (hmr:X.mg "reversed" = none) (ha:BAO X g [e] t)
  (he:starEach [e] X.env = (false,eval e X.env) :: starEach [] X.env:=by rfl)
  (he2:starEach [.Call (.Name "reversed" p') [e] [] pos'] X.env = [(false,eval (.Call (.Name "reversed" p') [e] [] pos') X.env)]:=by rfl) :
  FO X g (.Call (.Name "list" p) [.Call (.Name "reversed" p') [e] [] pos'] [] pos) (dCF a00 t):=
 FO.w (b0N hc hgl hml hgr hmr ha.pe he he2) (a4x b46)
end
noncomputable def RawD (h:Heap) (d:Addr) (es:Array DictEntry) (ep:Nat):Prop:=∃ o,h.get? d = some o ∧ o.ExactDict ∧ o.data = .dict es ep
section
variable {prog:Program} {w:World} {A:Around} {E:Value → Shared → Prop} {s:Shared} {d it:Addr} {es:Array DictEntry} {ep i:Nat}
theorem RawD.ty (x:RawD s.heap d es ep):s.TypeIs (.ref d) "dict" := let ⟨o,a,b,_⟩:=x; ⟨o,a,b.1⟩
theorem b27 {Q:Value → Shared → Prop} (lo:(d == sysModules) = false) (x:RawD s.heap d es ep)
  (k:Q (.ref s.heap.objs.size) { s with heap:=s.heap.push { cls:=.type "dict_keyiterator",data:=.fields #[.ref d,.int 0 0,.int es.size 0,.int ep 0] } }) :
  wpAny (model prog w) A (pyIter (.ref d)) Q E s:=by
 have ty:=x.ty
 obtain ⟨o,g1,g2,g3⟩:=x
 refine wpAny_pyIter_slot ty PySem.F.slot_dict_iter (wpAny_call_entry PySem.F.slot_dict_iter ty PySem.F.entry_dict_iter ?_ (PySem.F.args_dict_iter_1 _))
 unfold Builtin.«dict.__iter__»
 refine wpAny_bind ?_
 unfold Builtin.Dict.dictSlotNone
 refine wpAny_bind (wpAny_notOrdered_dict ty ?_)
 show wpAny _ _ (pure (Value.ref d)) _ _ s
 refine wpAny_pure ?_
 show wpAny _ _ (Builtin.Dict.showsAll d >>= _) _ _ s
 unfold Builtin.Dict.showsAll
 rw [if_neg (fun z=>by rw [lo] at z; cases z)]
 refine wpAny_bind (wpAny_pure ?_)
 refine wpAny_bind (wpAny_dictEntries g1 g3 ?_)
 refine wpAny_bind (wpAny_dictEpoch g1 g3 ?_)
 refine wpAny_bind (wpAny_newObj_type (wpAny_pure ⟨_,rfl, "dict_keyiterator",_,⟨_,Heap.get?_push_size _ rfl,rfl⟩,PySem.F.slot_dict_keyiterator_next.lookup,?_⟩))
 simpa [rawInt] using k
theorem b2l {e:DictEntry} {Q:Option Value → Shared → Prop} (y:s.heap.IsKeyIter it d i es.size ep) (x:RawD s.heap d es ep) (hx:es[i]? = some e)
  (k:∀ h',h'.IsKeyIter it d (i + 1) es.size ep → Heap.SameBut it s.heap h' → Q (some e.key) { s with heap:=h' }) :
  wpAny (model prog w) A (pyNext (.ref it)) Q E s:=by
 have ty:=y.typeIs
 obtain ⟨o,a1,a2,a3⟩:=id y
 obtain ⟨od,g1,g2,g3⟩:=x
 unfold pyNext
 refine wpAny_bind (wpAny_attempt (wpAny_callSpecial?_slot (name:=Str.ofString "__next__") ty PySem.F.slot_dict_keyiterator_next
  (wpAny_call_entry PySem.F.slot_dict_keyiterator_next ty PySem.F.entry_dict_keyiterator_next ?_ (PySem.F.args_dict_keyiterator_next_1 _))))
 refine wpAny_bind (wpAny_pure ?_)
 refine wpAny_bind ?_
 refine wpAny_bind ?_
 first | refine wpAny_bind (wpAny_typeNameOfWhole_keyiter ty (wpAny_pure ?_)) | refine wpAny_bind (wpAny_typeNameOf_keyiter ty (wpAny_pure ?_))
 refine wpAny_bind (wpAny_fieldsOf a1 a3 ?_)
 have ow:Builtin.Dict_items.ownsTuple "dict_keyiterator" = false:=by decide
 simp only [ow,Bool.false_eq_true,if_false]
 show wpAny _ _ (if (Value.ref d == Value.none) = true then _ else _) _ _ s
 have nn:¬ ((Value.ref d == Value.none) = true):=Bool.false_ne_true
 rw [if_neg nn]
 refine wpAny_bind (wpAny_pure ?_)
 refine wpAny_bind (wpAny_dictEntries g1 g3 ?_)
 rw [if_neg (by simp)]
 refine wpAny_bind (wpAny_pure ?_)
 refine wpAny_bind (wpAny_dictEpoch g1 g3 ?_)
 rw [if_neg (by simp)]
 refine wpAny_pure ?_
 obtain ⟨hlt,he⟩:=Array.getElem?_eq_some_iff.mp hx
 simp only [show ¬ ((i:Int) < 0) from by omega,if_false,Int.toNat_natCast,hx]
 refine wpAny_bind ?_
 first | refine wpAny_bind (wpAny_typeNameOfWhole_keyiter ty (wpAny_pure ?_)) | refine wpAny_bind (wpAny_typeNameOf_keyiter ty (wpAny_pure ?_))
 refine wpAny_bind (wpAny_isOneOf_keyiter ty ?_)
 show wpAny _ _ (setField (.ref it) 1 (rawInt ((i:Int) + 1)) >>= _) _ _ s
 refine wpAny_bind (wpAny_setField a1 a3 (by simp) ?_)
 have y':(s.heap.update it (Obj.mapFields (·.setIfInBounds 1 (rawInt ((i:Int) + 1))))).IsKeyIter it d (i + 1) es.size ep:=
  ⟨_,Heap.get?_update_self _ a1 (Obj.isFreed_of_fields (Obj.data_mapFields a3 _)),(Obj.cls_mapFields ..).trans a2,by rw [Obj.data_mapFields a3]; simp [rawInt]⟩
 refine wpAny_bind (wpAny_holding ?_)
 refine wpAny_bind (wpAny_isOneOf_keyiter (s:={ s with heap:=s.heap.update it (Obj.mapFields (·.setIfInBounds 1 (rawInt ((i:Int) + 1)))) }) y'.typeIs ?_)
 show wpAny _ _ (pure e.key) _ _ _
 exact wpAny_pure (wpAny_pure ⟨_,rfl,wpAny_pure (k _ y' (Heap.SameBut.update ..))⟩)
theorem b58 {Q:Option Value → Shared → Prop} (hh:A.handled = none) (y:s.heap.IsKeyIter it d i es.size ep) (x:RawD s.heap d es ep) (hx:es.size ≤ i)
  (k:∀ h',Heap.ExtBut it s.heap h' → Q none { s with heap:=h' }):wpAny (model prog w) A (pyNext (.ref it)) Q E s:=by
 have ty:=y.typeIs
 obtain ⟨o,a1,a2,a3⟩:=id y
 obtain ⟨od,g1,g2,g3⟩:=x
 unfold pyNext
 refine wpAny_bind (wpAny_attempt (wpAny_callSpecial?_slot (name:=Str.ofString "__next__") ty PySem.F.slot_dict_keyiterator_next
  (wpAny_call_entry PySem.F.slot_dict_keyiterator_next ty PySem.F.entry_dict_keyiterator_next ?_ (PySem.F.args_dict_keyiterator_next_1 _))))
 refine wpAny_bind (wpAny_pure ?_)
 refine wpAny_bind ?_
 refine wpAny_bind ?_
 first | refine wpAny_bind (wpAny_typeNameOfWhole_keyiter ty (wpAny_pure ?_)) | refine wpAny_bind (wpAny_typeNameOf_keyiter ty (wpAny_pure ?_))
 refine wpAny_bind (wpAny_fieldsOf a1 a3 ?_)
 have ow:Builtin.Dict_items.ownsTuple "dict_keyiterator" = false:=by decide
 simp only [ow,Bool.false_eq_true,if_false]
 show wpAny _ _ (if (Value.ref d == Value.none) = true then _ else _) _ _ s
 have nn:¬ ((Value.ref d == Value.none) = true):=Bool.false_ne_true
 rw [if_neg nn]
 refine wpAny_bind (wpAny_pure ?_)
 refine wpAny_bind (wpAny_dictEntries g1 g3 ?_)
 rw [if_neg (by simp)]
 refine wpAny_bind (wpAny_pure ?_)
 refine wpAny_bind (wpAny_dictEpoch g1 g3 ?_)
 rw [if_neg (by simp)]
 refine wpAny_pure ?_
 simp only [show ¬ ((i:Int) < 0) from by omega,if_false,Int.toNat_natCast,Array.getElem?_eq_none hx]
 refine wpAny_bind ?_
 first | refine wpAny_bind (wpAny_typeNameOfWhole_keyiter ty (wpAny_pure ?_)) | refine wpAny_bind (wpAny_typeNameOf_keyiter ty (wpAny_pure ?_))
 show wpAny _ _ (setField (.ref it) 0 .none >>= _) _ _ s
 refine wpAny_bind (wpAny_setField a1 a3 (by simp) ?_)
 show wpAny _ _ (newExc (.type "StopIteration") [] >>= _) _ _ _
 refine wpAny_bind ?_
 simp only [newExc,newTuple]
 refine wpAny_bind (wpAny_newObj_type ?_ (by size_fits))
 refine wpAny_bind (m:=firstArgMember _ _) (wpAny_of_eq (a:=Value.none) (by first | rfl | (simp only [firstArgMember]; rfl)) ?_)
 refine wpAny_newObj_type ?_ (by size_fits)
 simp only [raiseNew]
 refine wpAny_bind (wpAny_handled ?_)
 rw [show A.in1.handled = none from hh]
 refine wpAny_bind (wpAny_pure (wpAny_throw ?_))
 refine wpAny_bind (wpAny_isInstance (T := "StopIteration") (b:=true) ⟨_,Heap.get?_push_size _ rfl,rfl⟩ isSubtype_stop ?_)
 exact wpAny_pure (k _ (((Heap.SameBut.update ..).extBut.push _).push _))
theorem RawD.at_ {h h':Heap} (x:RawD h d es ep) (e:∀ o,h.get? d = some o → h'.get? d = some o):RawD h' d es ep:=let ⟨o,a,r⟩:=x; ⟨o,e o a,r⟩
theorem a9Z (hh:A.handled = none) (ne:d ≠ it):Walks prog w A it [it,d] [it] es.size (fun i v=>∃ e,es[i]? = some e ∧ v = e.key) (fun i h=>h.IsKeyIter it d i es.size ep ∧ RawD h d es ep) where
 sub:=fun b hb=>by simp at hb; simp [hb]
 frame:=fun _ _ _ st hk=>⟨st.1.at fun o e=>hk it (by simp) o e,st.2.at_ fun o e=>hk d (by simp) o e⟩
 item:=fun i s Q E hi st hQ=>b2l st.1 st.2 (Array.getElem?_eq_getElem hi) fun h' y' hs=>
  hQ _ h' s.toks ⟨_,Array.getElem?_eq_getElem hi,rfl⟩ ⟨y',st.2.at_ fun o e=>hs.extBut d o ne e⟩ fun b o hb e=>hs.extBut b o (fun h=>hb (by simp [h])) e
 done:=fun s Q E st hQ=>b58 hh st.1 st.2 (Nat.le_refl _) fun h' he=>hQ h' s.toks fun b o hb e=>he b o (fun h=>hb (by simp [h])) e
 self:=fun _ _ _ _ st hQ=>wpAny_pyIter_keyiter st.1 hQ
theorem b0Y {R:Result → Shared → Prop} {S:Addr} {c₀:Nat} (hh:A.handled = none) (lo:(d == sysModules) = false) (x:RawD s.heap d es ep) (hSd:S ≠ d) (hn:es.size ≤ sizeLine) (hS:J3 s.heap S #[] c₀)
  (hR:∀ h' tk acc c,(∀ b o,b ≠ S → s.heap.get? b = some o → h'.get? b = some o) → J3 h' S acc c → ItemsOf (fun i v=>∃ e,es[i]? = some e ∧ v = e.key) acc es.size → R (.ok (.ret .none)) { s with heap:=h',toks:=tk }) :
  wpAny (model prog w) A.in1 (Builtin.List.listExtendWith (.ref S) (.ref d) .none)
   (fun fin s'=>match fin with | .done f=>R (.ok f) s' | .again c'=>c'.quiet = true ∧ codeAny (model prog w) A c' R s') (fun e s'=>R (.error e) s') s:=by
 have hT:=x.ty
 unfold Builtin.List.listExtendWith
 refine wpAny_bind (wpAny_typeOf hT ?_)
 have h1:Builtin.List.listSameRef (.ref S) (.ref d) = false:=by simp [Builtin.List.listSameRef,hSd]
 have h2:(Value.type "dict" == Value.type "list") = false:=by decide
 have h3:(Value.type "dict" == Value.type "tuple") = false:=by decide
 simp only [h1,h2,h3,Bool.or_false,Bool.false_eq_true,if_false]
 refine wpAny_bind (b27 lo x ?_)
 have x₁:RawD (s.heap.push { cls:=.type "dict_keyiterator",data:=.fields #[.ref d,.int 0 0,.int es.size 0,.int ep 0] }) d es ep:=x.at_ fun o e=>Heap.get?_push_of_some _ e
 refine wpAny_bind (wpAny_holding (PySem.W.kdl_hint_dict (s:={ s with heap:=s.heap.push { cls:=.type "dict_keyiterator",data:=.fields #[.ref d,.int 0 0,.int es.size 0,.int ep 0] } }) x₁.ty ?_))
 refine wpAny_ite_split (fun _=>?_) (fun hab=>absurd (by decide +kernel) hab)
 obtain ⟨od,hod,_⟩:=id x
 have hSI:S ≠ s.heap.objs.size:=Nat.ne_of_lt (Heap.lt_size hS)
 have hdI:d ≠ s.heap.objs.size:=Nat.ne_of_lt (Heap.lt_size hod)
 have hS₁:J3 (s.heap.push { cls:=.type "dict_keyiterator",data:=.fields #[.ref d,.int 0 0,.int es.size 0,.int ep 0] }) S #[] c₀:=Heap.get?_push_of_some _ hS
 have y₁:(s.heap.push { cls:=.type "dict_keyiterator",data:=.fields #[.ref d,.int 0 0,.int es.size 0,.int ep 0] }).IsKeyIter s.heap.objs.size d 0 es.size ep:=⟨_,Heap.get?_push_size _ rfl,rfl,rfl⟩
 have kp₁:∀ b o,s.heap.get? b = some o → (s.heap.push { cls:=.type "dict_keyiterator",data:=.fields #[.ref d,.int 0 0,.int es.size 0,.int ep 0] }).get? b = some o:=fun b o e=>Heap.get?_push_of_some _ e
 generalize s.heap.push { cls:=.type "dict_keyiterator",data:=.fields #[.ref d,.int 0 0,.int es.size 0,.int ep 0] } = hp at *
 refine wpAny_bind (wpAny_rule ?_)
 refine wpAny_bind ?_
 show wpAny _ A.in1 (updateSeq S (·.push .none) >>= fun _=>updateSeq S (·.pop)) _ _ _
 refine wpAny_bind (wpAny_updateSeq hS₁ rfl ?_)
 have hS₂:=Heap.get?_update_self (Obj.mapSeq (·.push Value.none)) hS₁ rfl
 refine wpAny_updateSeq (hz:=by seq_fits) hS₂ rfl ?_
 have hS₃:=Heap.get?_update_self (Obj.mapSeq (·.pop)) hS₂ rfl
 have up:∀ b o,b ≠ S → hp.get? b = some o → ((hp.update S (Obj.mapSeq (·.push Value.none))).update S (Obj.mapSeq (·.pop))).get? b = some o:=fun b o hb e=>(Heap.get?_update_other _ _ (Ne.symm hb)).trans ((Heap.get?_update_other _ _ (Ne.symm hb)).trans e)
 have hin:A.in1.handled = none:=hh
 refine wpAny_pure ⟨plainId_quiet PySem.F.plain_extend_loop _,codeAny_extend_loopS (a9Z (w:=w) (es:=es) (ep:=ep) hin hdI).toS hn S (by simp [hSI,hSd]) .none es.size 0 _ #[] _ (Nat.sub_zero _) (Nat.zero_le _) ⟨y₁.at fun o e=>up _ o (Ne.symm hSI) e,x₁.at_ fun o e=>up d o (Ne.symm hSd) e⟩ hS₃ (ItemsOf.nil _) fun s' acc c hm hS' hG=>?_⟩
 obtain ⟨h',g,dr,tk,os'⟩:=s'
 obtain rfl:g = s.gens:=hm.gens
 obtain rfl:dr = s.drawn:=hm.drawn
 obtain rfl:os' = s.os:=hm.os
 refine hR h' tk acc c (fun b o hb e=>hm.heap b o (fun z=>?_) (up b o hb (kp₁ b o e))) hS' hG
 rcases List.mem_cons.mp z with z | z
 ·exact hb z
 ·exact absurd (List.mem_singleton.mp z) (Nat.ne_of_lt (Heap.lt_size e))
theorem b3P {Q:Value → Shared → Prop} (hh:A.handled = none) (lo:(d == sysModules) = false) (x:RawD s.heap d es ep) (hn:es.size ≤ sizeLine)
  (hQ:∀ h' tk c,(∀ b o,s.heap.get? b = some o → h'.get? b = some o) → J3 h' s.heap.objs.size (es.toList.map (·.key)).toArray c → Q (.ref s.heap.objs.size) { s with heap:=h',toks:=tk }) :
  wpAny (model prog w) A (call (.type "list") [.ref d]) Q E s:=by
 refine callType_codes (Q₁:=fun obj s₁=>obj = .ref s.heap.objs.size ∧ s₁ = { s with heap:=s.heap.push { cls:=.type "list",data:=.seq #[] } }) PySem.F.called_list (PySem.F.typeCall_list_1 _) PySem.F.entry_list_init
  (code_list_new _ ⟨rfl,rfl⟩) fun obj s₁ h₁=>?_
 obtain ⟨rfl,rfl⟩:=h₁
 have hS:(s.heap.push { cls:=.type "list",data:=.seq #[] }).get? s.heap.objs.size = some { cls:=.type "list",data:=.seq #[] }:=Heap.get?_push_size _ rfl
 obtain ⟨od,hod,_⟩:=id x
 have hd:d < s.heap.objs.size:=Heap.lt_size hod
 refine ⟨⟨_,hS,rfl⟩,PySem.F.args_list_init_2 _ _,?_⟩
 show wpAny _ _ (do let old ← Builtin.List.listItems (.ref s.heap.objs.size); Builtin.List.listUpdate (.ref s.heap.objs.size) (fun _=>#[]); letGo old.toList.reverse; Builtin.List.listExtendWith (.ref s.heap.objs.size) (.ref d) .none) _ _ _
 refine wpAny_bind ?_
 unfold Builtin.List.listItems
 refine wpAny_bind (wpAny_seqItems hS rfl (wpAny_pure ?_))
 show wpAny _ _ (updateSeq s.heap.objs.size (fun _=>#[]) >>= fun _=>letGo (#[]:Array Value).toList.reverse >>= fun _=>Builtin.List.listExtendWith (.ref s.heap.objs.size) (.ref d) .none) _ _ _
 refine wpAny_bind (wpAny_updateSeq hS rfl ?_)
 have hS₂:=Heap.get?_update_self (Obj.mapSeq (fun _=>(#[]:Array Value))) hS rfl
 have oth:∀ b o,b ≠ s.heap.objs.size → s.heap.get? b = some o → ((s.heap.push { cls:=.type "list",data:=.seq #[] }).update s.heap.objs.size (Obj.mapSeq (fun _=>(#[]:Array Value)))).get? b = some o:=
  fun b o hb e=>(Heap.get?_update_other _ _ (Ne.symm hb)).trans (Heap.get?_push_of_some _ e)
 refine wpAny_bind (wpAny_letGo ?_)
 refine b0Y (A:=A.in1) hh lo (x.at_ fun o e=>oth d o (Nat.ne_of_lt hd) e) (Nat.ne_of_gt hd) hn hS₂ fun h' tk acc c hk hS' hG=>?_
 have ea:acc = (es.toList.map (·.key)).toArray:=by
  refine Array.ext_getElem? fun i=>?_
  by_cases hi:i < es.size
  ·have:i < acc.size:=by rw [hG.1]; exact hi
   rw [Array.getElem?_eq_getElem this]
   obtain ⟨e,he,ek⟩:=hG.2 i _ (Array.getElem?_eq_getElem this)
   rw [ek]
   simp [he]
  ·rw [Array.getElem?_eq_none (by rw [hG.1]; omega),Array.getElem?_eq_none (by simpa using hi)]
 rw [ea] at hS'
 exact ⟨rfl,hQ h' tk c (fun b o e=>hk b o (Nat.ne_of_lt (Heap.lt_size e)) (oth b o (Nat.ne_of_lt (Heap.lt_size e)) e)) hS'⟩
end
noncomputable def UnO (P:Program) (w:World) (p:Addr) (ks:List (List Key × Addr)):HO:=.ext fun h=>∃ o es ep,∃ xs:List (List Key × Addr × Value),h.get? p = some o ∧ o.ExactDict ∧ o.data = .dict es ep ∧ es.toList = xs.map (entryOfKey (tupleKind (D4 P w))) ∧ xs.map (fun x=>(x.1,x.2.1)) = ks
theorem a9c {P:Program} {w:World} {H:Hp} {h:Heap} {p:Addr} {ks:List (List Key × Addr)} {o:Obj} {es:Array DictEntry} {ep:Nat} {xs:List (List Key × Addr × Value)} (h1:h.get? p = some o) (h2:o.ExactDict) (h3:o.data = .dict es ep)
  (h4:es.toList = xs.map (entryOfKey (tupleKind (D4 P w)))) (h5:xs.map (fun x=>(x.1,x.2.1)) = ks):ObjOk P w H h p (UnO P w p ks):=by
 refine ⟨⟨o,es,ep,xs,h1,h2,h3,h4,h5⟩,⟨o,h1⟩,?_⟩
 rintro a b ⟨o,es,ep,xs,h1,r⟩ k
 exact ⟨o,es,ep,xs,k o h1,r⟩
theorem a7m {P:Program} {w:World} {H:Hp} {h:Heap} {p:Addr} {ks:List (List Key × Addr)} (ok:HOk P w H h) (e:H p = some (UnO P w p ks)) :
  ∃ o es ep,∃ xs:List (List Key × Addr × Value),h.get? p = some o ∧ o.ExactDict ∧ o.data = .dict es ep ∧ es.toList = xs.map (entryOfKey (tupleKind (D4 P w))) ∧ xs.map (fun x=>(x.1,x.2.1)) = ks:=
 (show ObjOk P w H h p (UnO P w p ks) from ok p _ e).1
noncomputable def S5 (ks:List (List Key × Addr)) (k:List Key) (b:Addr):List (List Key × Addr):=if (ks.any fun x=>decide (x.1 = k)) = true then ks else ks ++ [(k,b)]
theorem anyU {ks:List (List Key × Addr)} {k:List Key}:(ks.any fun x=>decide (x.1 = k)) = true ↔ k ∈ ks.map (·.1):=by
 rw [List.any_eq_true,List.mem_map]
 constructor
 ·rintro ⟨x,hx,e⟩; exact ⟨x,hx,of_decide_eq_true e⟩
 ·rintro ⟨x,hx,e⟩; exact ⟨x,hx,decide_eq_true e⟩
theorem atKey_mem {xs:List (List Key × Addr × Value)} {k:List Key}:(atKey xs k).isSome = true ↔ k ∈ xs.map (·.1):=by
 unfold atKey
 rw [Option.isSome_map,List.find?_isSome,List.mem_map]
 constructor
 ·rintro ⟨x,hx,e⟩; exact ⟨x,hx,of_decide_eq_true e⟩
 ·rintro ⟨x,hx,e⟩; exact ⟨x,hx,decide_eq_true e⟩
theorem a96 (xs:List (List Key × Addr × Value)) (k:List Key) (b:Addr) (v:Value):(storedH xs k b v).map (fun x=>(x.1,x.2.1)) = S5 (xs.map fun x=>(x.1,x.2.1)) k b:=by
 unfold storedH S5
 have em:(xs.map fun x=>(x.1,x.2.1)).map (·.1) = xs.map (·.1):=by rw [List.map_map]; rfl
 by_cases h:k ∈ xs.map (·.1)
 ·rw [if_pos (atKey_mem.mpr h),if_pos (anyU.mpr (by rw [em]; exact h)),List.map_map]
  refine List.map_congr_left fun x _=>?_
  show ((putAt k v x).1,(putAt k v x).2.1) = _
  unfold putAt
  split <;> rfl
 ·rw [if_neg (fun z=>h (atKey_mem.mp z)),if_neg (fun z=>h (by rw [← em]; exact anyU.mp z)),List.map_append]
  rfl
section
variable {X:Cx} {pins:List (Addr × Obj)} {σ:L2.St} {H:Hp} {s:Shared} {p b:Addr} {k:List Key} {ks:List (List Key × Addr)} {A:Around} {E:Value → Shared → Prop} {r:Value}
theorem a5E (I:Inv X pins σ H s) (h:SqT X.K H b (k.map kV)):(tupleKind (D4 X.prog X.w)).is s.heap k b:=by
 obtain ⟨its,rv,⟨o,h1,h2,n,h3⟩,_⟩:=I.tuple h
 exact ⟨o,its.toArray,n,h1,h2,h3,by simpa using a3B rv⟩
theorem b5i {Q:Unit → Shared → Prop} (hu:A.units + 1 < cLine) (I:Inv X pins σ H s) (e:H p = some (UnO X.prog X.w p ks)) (hk:∀ x ∈ ks,SqT X.K H x.2 (x.1.map kV)) (nd:(ks.map (·.1)).Nodup)
  (eb:SqT X.K H b (k.map kV)) (hz:ks.length ≤ sizeLine) (h:∀ s',Inv X pins σ (upd H p (UnO X.prog X.w p (S5 ks k b))) s' → Q () s') :
  wpAny (model X.prog X.w) A (setItem (.ref p) (.ref b) r) Q E s:=by
 obtain ⟨o,es,ep,xs,h1,h2,h3,h4,h5⟩:=a7m I.hok e
 have em:ks.map (·.1) = xs.map (·.1):=by rw [← h5,List.map_map]; rfl
 have dd:s.heap.DictOfH (tupleKind (D4 X.prog X.w)) p xs:=by
  refine ⟨o,es,ep,h1,h2,h3,h4,fun x hx=>?_,by rw [← em]; exact nd⟩
  exact a5E I (hk (x.1,x.2.1) (by rw [← h5]; exact List.mem_map_of_mem hx))
 have hl:xs.length ≤ sizeLine:=by rw [← h5,List.length_map] at hz; exact hz
 refine wpAny_setItem_heap (hsz:=hl) (tupleKind_room_in1 hu) (a5E I eb) dd fun h' dd' hs=>h _ ?_
 obtain ⟨q,es',ep',hq,q2,q3,q4,_,_⟩:=dd'
 refine a1W I (by rw [e]; exact True.intro) hs ⟨q,hq⟩ (a9c hq q2 q3 q4 ?_)
 rw [a96,h5]
end
noncomputable def b1P (P:Program) (w:World):TE:=fun _ H Q=>∀ p,H p = none → (p == sysModules) = false → Q (.ref p) (upd H p (UnO P w p []))
noncomputable def a3H (X:Cx) (iU iO:Nat):TS:=fun D σ H=>∃ p b k ks,σ[iU]? = some (some (.ref p)) ∧ σ[iO]? = some (some (.ref b)) ∧ H p = some (UnO X.prog X.w p ks) ∧ (∀ x ∈ ks,SqT X.K H x.2 (x.1.map kV)) ∧ (ks.map (·.1)).Nodup ∧
 SqT X.K H b (k.map kV) ∧ ks.length ≤ sizeLine ∧ D.nx σ (upd H p (UnO X.prog X.w p (S5 ks k b)))
noncomputable def tLU (X:Cx) (iU:Nat):TE:=fun σ H Q=>∃ p ks,σ[iU]? = some (some (.ref p)) ∧ (p == sysModules) = false ∧ H p = some (UnO X.prog X.w p ks) ∧ ks.length ≤ sizeLine ∧ ∀ S,H S = none → Q (.ref S) (upd H S (.lst (ks.map fun x=>V.ref x.2)))
section
variable {X:Cx} {pos pos' p1 p2:Pos} {x y:Str} {iU iO:Nat} {value:Expr} {v:V}
theorem b2Z:PE X (.Dict [] [] pos) (b1P X.prog X.w):=fun pins s σ H Q I h=>
 wpAny_Dict_empty ⟨.ref s.heap.objs.size,_,I.laid (a:=s.heap.objs.size) (o:=UnO X.prog X.w s.heap.objs.size []) (t':=s.toks) (fun _ _ q=>Heap.get?_push_of_some _ q) (Nat.le_refl _)
  (a9c (xs:=[]) (Heap.get?_push_size _ rfl) ⟨rfl,rfl,rfl⟩ rfl rfl rfl),rfl,h _ (I.hok.fresh (Nat.le_refl _)) (beq_eq_false_iff_ne.mpr (Ne.symm (Nat.ne_of_lt I.big)))⟩
theorem b18 (hu:X.A.units + 1 < cLine) (hU:PE X (.Name x p1) (G6 iU)) (hO:PE X (.Name y p2) (G6 iO)) (hv:PE X value (tC v)) (hs:swapsWith value (some (.Subscript (.Name x p1) (.Name y p2) pos')) pos.line X.env = pure false) :
  PS X (.Assign [.Subscript (.Name x p1) (.Name y p2) pos'] value pos) (a3H X iU iO):=by
 intro pins s σ H D I h
 obtain ⟨p,b,k,ks,e1,e2,e3,e4,e5,e6,e7,e8⟩:=h
 refine wpAny_Assign_Subscript (thn (hv pins s σ H (fun x H'=>H' = H) I rfl) fun r s1 ⟨v,H1,I1,rv,q1⟩=>thn (hU pins s1 σ H1 (fun x H'=>x = .ref p ∧ H' = H) I1 ⟨_,e1,rfl,q1⟩) fun u s2 ⟨x,H2,I2,rx,q2⟩=>
  thn (hO pins s2 σ H2 (fun x H'=>x = .ref b ∧ H' = H) I2 ⟨_,e2,rfl,q2.2⟩) fun iv s3 ⟨y,H3,I3,ry,q3⟩=>?_) hs
 obtain ⟨rfl,rfl⟩:=q3
 obtain ⟨rfl,_⟩:=q2
 obtain rfl:u = Value.ref p:=rx
 obtain rfl:iv = Value.ref b:=ry
 exact b5i hu I3 e3 e4 e5 e6 e7 fun s4 I4=>⟨σ,_,I4,e8⟩
theorem a9g:∀ (ks:List (List Key × Addr)),Vals (ks.map fun x=>V.ref x.2) (ks.map fun x=>Value.ref x.2)
 | []=>.nil
 | _ :: r=>.cons rfl (a9g r)
theorem b0A {p p':Pos} (hc:X.calm = true) (hgl:Gl X "list") (hml:X.mg "list" = none) (hv:PE X (.Name x p') (G6 iU)) (he:starEach [.Name x p'] X.env = (false,eval (.Name x p') X.env) :: starEach [] X.env:=by rfl) :
  PE X (.Call (.Name "list" p) [.Name x p'] [] pos) (tLU X iU):=by
 intro pins s σ H Q I h
 obtain ⟨d,ks,e1,lo,e3,hz,k⟩:=h
 refine wpAny_Call_Name_kw (S4 I hgl hml (show bootBuiltins ("list" : Str) = some (.type "list") by decide +kernel) ?_ (by decide) (by decide))
 refine PyProof.Rows.callWith_type1 (thn ((Y6 hv a02 he) pos pins s σ H (fun vs H'=>vs = [.ref d] ∧ H' = H) I ⟨_,e1,rfl,rfl⟩) fun us s1 ⟨vs,H1,I1,r1,q1⟩=>?_) he rfl
 obtain ⟨rfl,rfl⟩:=q1
 obtain ⟨u,rfl,ru⟩:=P8 r1
 cases ru
 obtain ⟨o,es,ep,xs,h1,h2,h3,h4,h5⟩:=a7m I1.hok e3
 have hl:es.size ≤ sizeLine:=by
  rw [← Array.length_toList,h4,List.length_map]
  rw [← h5,List.length_map] at hz
  exact hz
 refine b3P (I.ok.hd hc) lo ⟨o,h1,h2,h3⟩ hl fun h' tk c hk hS=>?_
 refine ⟨.ref s1.heap.objs.size,_,I1.laid (t':=tk) (o:=.lst (ks.map fun x=>V.ref x.2)) (h':=h') hk (Nat.le_refl _) ?_,rfl,k _ (I1.hok.fresh (Nat.le_refl _))⟩
 refine ⟨by rw [List.length_map]; exact hz,_,c,a9g ks,?_⟩
 have ek:es.toList.map (·.key) = ks.map fun x=>Value.ref x.2:=by
  rw [h4,← h5,List.map_map,List.map_map]
  rfl
 rw [ek] at hS
 exact hS
end
noncomputable def a4O:List D → Option (List Int)
 | []=>some []
 | .int i :: r=>(a4O r).map (i :: ·)
 | _ :: _=>none
noncomputable def a6g:D → Option (List Int)
 | .tup ds=>a4O ds
 | _=>none
noncomputable def W0:List D → Option (List (List Int))
 | []=>some []
 | d :: r=>(a6g d).bind fun k=>(W0 r).map (k :: ·)
noncomputable def W9 (k:List Int):D:=.tup (k.map D.int)
noncomputable def L6 (acc:List (List Int)) (k:List Int):List (List Int):=if k ∈ acc then acc else acc ++ [k]
noncomputable def J5 (ks:List (List Int)):List (List Int):=ks.foldl L6 []
noncomputable def a1n:D → Option (List D)
 | .lst ds=>some ds
 | .tup ds=>some ds
 | _=>none
noncomputable def a0E (iS iU iO iR:Nat) (m:DFn) (x:Str):DM:=fun s=>match s.sl[iU]?,s.sl[iO]?,s.sl[iS]? with
 | some .no,some .no,some (.val d)=>(a1n d).bind fun ds=>(W0 ds).bind fun qs=>if qs.length ≤ sizeLine then (m [.lst ((J5 qs).map W9),.fn x] s.fs).map fun y=>(.next,⟨s.sl.set iR (.val y.1),y.2⟩) else none
 | _,_,_=>none
theorem b1c {iS iU iO iR:Nat} {m:DFn} {x:Str} {s:DS} {r:Fl × DS} (h:a0E iS iU iO iR m x s = some r):∃ d ds qs d1 fs1,s.sl[iU]? = some .no ∧ s.sl[iO]? = some .no ∧ s.sl[iS]? = some (.val d) ∧ a1n d = some ds ∧ W0 ds = some qs ∧ qs.length ≤ sizeLine ∧
  m [.lst ((J5 qs).map W9),.fn x] s.fs = some (d1,fs1) ∧ r = (.next,⟨s.sl.set iR (.val d1),fs1⟩):=by
 unfold a0E at h
 split at h
 ·rename_i d h1 h2 h3
  refine L5 h fun ds h4 h=>?_
  refine L5 h fun qs h5 h=>?_
  by_cases hl:qs.length ≤ sizeLine
  ·rw [if_pos hl] at h
   refine mapP h fun d1 fs1 h6 h7=>?_
   exact ⟨d,ds,qs,d1,fs1,h1,h2,h3,h4,h5,hl,h6,h7.symm⟩
  ·rw [if_neg hl] at h; cases h
 ·cases h
section
variable {K:PySem.W.Frag} {N:Addr → Prop} {fa:Option Addr} {H:Hp}
theorem a5G:∀ {ds:List D} {q:List Int} {xs:List V},a4O ds = some q → Reps K N fa H ds xs → xs = q.map V.int
 | [],q,xs,h,r=>by cases h; simp only [Reps] at r; subst r; rfl
 | d :: r',q,xs,h,r=>by
  cases d with
  | int i=>
   refine N7 h fun q' h1 h2=>?_
   subst h2
   simp only [Reps,Rep] at r
   obtain ⟨x,ys,rfl,rfl,r⟩:=r
   rw [a5G h1 r]
   rfl
  | _=>cases h
theorem b4B {d:D} {q:List Int} {x:V} (h:a6g d = some q) (r:Rep K N fa H d x):∃ b,x = .ref b ∧ SqT K H b ((q.map Sum.inl).map kV):=by
 cases d with
 | tup ds=>
  simp only [Rep] at r
  obtain ⟨a,xs,rfl,s,r⟩:=r
  refine ⟨a,rfl,?_⟩
  rw [a5G h r] at s
  have e:(q.map (Sum.inl (β:=Str))).map kV = q.map V.int:=by rw [List.map_map]; rfl
  rw [e]; exact s
 | _=>cases h
theorem a5v:∀ {ds:List D} {qs:List (List Int)} {xs:List V},W0 ds = some qs → Reps K N fa H ds xs → xs.length = qs.length ∧ ∀ (i:Nat) (x:V),xs[i]? = some x → ∃ (q:List Int) (b:Addr),qs[i]? = some q ∧ x = V.ref b ∧ SqT K H b ((q.map Sum.inl).map kV)
 | [],qs,xs,h,r=>by cases h; simp only [Reps] at r; subst r; exact ⟨rfl,fun i x e=>by simp at e⟩
 | d :: r',qs,xs,h,r=>by
  refine L5 h fun k h1 h=>?_
  refine N7 h fun ks h2 h3=>?_
  subst h3
  simp only [Reps] at r
  obtain ⟨x,ys,rfl,rx,r⟩:=r
  obtain ⟨l,g⟩:=a5v h2 r
  refine ⟨by simp [l],fun i y e=>?_⟩
  cases i with
  | zero=>
   simp at e; subst e
   obtain ⟨b,e1,e2⟩:=b4B h1 rx
   exact ⟨k,b,rfl,e1,e2⟩
  | succ i=>simpa using g i y (by simpa using e)
theorem SlR.no_set:∀ {sl:List Sl} {σ:List (Option V)} {O:List Addr} {i:Nat} (v:Option V),SlR K N fa H sl σ O → sl[i]? = some .no → SlR K N fa H sl (σ.set i v) O
 | [],σ,O,i,v,h,e=>by simp at e
 | .no :: r,σ,O,i,v,h,e=>by
  simp only [SlR] at h ⊢
  obtain ⟨u,τ,rfl,h⟩:=h
  cases i with
  | zero=>exact ⟨v,τ,rfl,h⟩
  | succ i=>exact ⟨u,τ.set i v,rfl,SlR.no_set v h (by simpa using e)⟩
 | .val d :: r,σ,O,i,v,h,e=>by
  simp only [SlR] at h ⊢
  obtain ⟨u,τ,rfl,q,h⟩:=h
  cases i with
  | zero=>simp at e
  | succ i=>exact ⟨u,τ.set i v,rfl,q,SlR.no_set v h (by simpa using e)⟩
 | .own ds :: r,σ,O,i,v,h,e=>by
  simp only [SlR] at h ⊢
  obtain ⟨a,xs,τ,P,rfl,rfl,ha,q,h⟩:=h
  cases i with
  | zero=>simp at e
  | succ i=>exact ⟨a,xs,τ.set i v,P,rfl,rfl,ha,q,SlR.no_set v h (by simpa using e)⟩
theorem DI.no_set {g:Gh} {σ:L2.St} {O:List Addr} {s:DS} {i:Nat} (I:GI K g σ H fa O s) (v:Option V) (e:s.sl[i]? = some .no):GI K g (σ.set i v) H fa O s:=⟨I.nd,SlR.no_set v I.sl e,I.fr,I.st,I.tr,I.ff,I.fd,I.nf⟩
end
theorem b5o {acc:List (List Int)} {k:List Int} (h:acc.Nodup):(L6 acc k).Nodup:=by
 unfold L6
 by_cases e:k ∈ acc
 ·rw [if_pos e]; exact h
 ·rw [if_neg e]
  refine List.nodup_append.mpr ⟨h,by simp,fun a ha b hb=>?_⟩
  simp at hb
  subst hb
  exact fun z=>e (z ▸ ha)
theorem a5Y:∀ (ks acc:List (List Int)),acc.Nodup → (ks.foldl L6 acc).Nodup
 | [],acc,h=>h
 | k :: r,acc,h=>a5Y r _ (b5o h)
theorem b35 (ks:List (List Int)):(J5 ks).Nodup:=a5Y ks [] List.nodup_nil
theorem b1F (acc:List (List Int)) (k:List Int):(L6 acc k).length ≤ acc.length + 1:=by
 unfold L6
 split
 ·omega
 ·simp
theorem a9z:∀ (ks acc:List (List Int)),(ks.foldl L6 acc).length ≤ acc.length + ks.length
 | [],acc=>Nat.le_refl _
 | k :: r,acc=>by
  have h:=a9z r (L6 acc k)
  have h2:=b1F acc k
  simp only [List.foldl_cons,List.length_cons]
  omega
theorem a6q (ks:List (List Int)):(J5 ks).length ≤ ks.length:=by simpa [J5] using a9z ks []
theorem b5x (ks:List (List Int)) (k:List Int):J5 (ks ++ [k]) = L6 (J5 ks) k:=by simp [J5]
noncomputable def K8 (k:List Int):List Key:=k.map Sum.inl
theorem a9F {a b:List Int} (h:K8 a = K8 b):a = b:=(List.map_inj_right (fun _ _ z=>Sum.inl.inj z)).mp h
theorem b15 {ks:List (List Key × Addr)} {acc:List (List Int)} (h:ks.map (·.1) = acc.map K8) (q:List Int) (b:Addr):(S5 ks (K8 q) b).map (·.1) = (L6 acc q).map K8:=by
 have m:(ks.any fun x=>decide (x.1 = K8 q)) = true ↔ q ∈ acc:=by
  rw [anyU,h,List.mem_map]
  exact ⟨fun ⟨a,ha,e⟩=>a9F e ▸ ha,fun z=>⟨q,z,rfl⟩⟩
 unfold S5 L6
 by_cases e:q ∈ acc
 ·rw [if_pos (m.mpr e),if_pos e,h]
 ·rw [if_neg (fun z=>e (m.mp z)),if_neg e,List.map_append,List.map_append,h]
  rfl
theorem a7q:∀ {l:List (List Int)},l.Nodup → (l.map K8).Nodup
 | [],_=>List.nodup_nil
 | a :: r,h=>by
  obtain ⟨h1,h2⟩:=List.nodup_cons.mp h
  refine List.nodup_cons.mpr ⟨fun z=>?_,a7q h2⟩
  obtain ⟨b,hb,e⟩:=List.mem_map.mp z
  exact h1 (a9F e ▸ hb)
noncomputable def PvU (X:Cx) (σ1:L2.St) (iO:Nat) (H:Hp) (p:Addr) (qs:List (List Int)) (i:Nat) (σ':L2.St) (H':Hp):Prop:=
 (σ' = σ1 ∨ ∃ u,σ' = σ1.set iO (some u)) ∧ ∃ ks,H' = upd H p (UnO X.prog X.w p ks) ∧ (∀ x ∈ ks,SqT X.K H x.2 (x.1.map kV)) ∧ ks.map (·.1) = (J5 (qs.take i)).map K8
section
variable {X:Cx} {g:Gh} {σ σ1:L2.St} {H:Hp} {fa:Option Addr} {O:List Addr} {s:DS} {iU iO:Nat} {p:Addr} {qs:List (List Int)}
theorem a5U (I:GI X.K g σ H fa O s) (hp:H p = none) (e1:σ1[iU]? = some (some (.ref p))) (ne:iO ≠ iU) (lo:iO < σ1.length) (hl:qs.length ≤ sizeLine) {i:Nat} {q:List Int} {b:Addr} {σ':L2.St} {H':Hp} {rt:VK} {bk:L2.St → Hp → Prop}
  (hq:qs[i]? = some q) (hb:SqT X.K H b ((q.map Sum.inl).map kV)) (h:PvU X σ1 iO H p qs i σ' H'):L4 iO (.ref b) σ' H' fun σ2 H2=>a3H X iU iO { nx:=PvU X σ1 iO H p qs (i + 1),rt:=rt,bk:=bk,ct:=PvU X σ1 iO H p qs (i + 1) } σ2 H2:=by
 obtain ⟨hs,ks,rfl,h1,h2⟩:=h
 have es:σ'.set iO (some (.ref b)) = σ1.set iO (some (.ref b)):=by
  rcases hs with rfl | ⟨u,rfl⟩
  ·rfl
  ·rw [List.set_set]
 have tp:∀ c xs,SqT X.K H c xs → ∀ o,SqT X.K (upd H p o) c xs:=fun c xs z o=>(I.car (C1 (O:=O) (fa:=fa) hp).stp).tp c xs z
 have ll:ks.length ≤ sizeLine:=by
  have:=congrArg List.length h2
  simp only [List.length_map] at this
  have l1:=a6q (qs.take i)
  have l2:=List.length_take_le i qs
  have l3:(qs.take i).length ≤ qs.length:=by rw [List.length_take]; exact Nat.min_le_right ..
  omega
 show a3H X iU iO _ (σ'.set iO (some (.ref b))) _
 rw [es]
 refine ⟨p,b,K8 q,ks,?_,?_,B7,fun x hx=>tp _ _ (h1 x hx) _,?_,tp _ _ hb _,ll,.inr ⟨_,rfl⟩,S5 ks (K8 q) b,a99,fun x hx=>?_,?_⟩
 ·rw [List.getElem?_set_ne ne]; exact e1
 ·rw [List.getElem?_set_self lo]
 ·rw [h2]; exact a7q (b35 _)
 ·unfold S5 at hx
  split at hx
  ·exact h1 x hx
  ·rcases List.mem_append.mp hx with z | z
   ·exact h1 x z
   ·simp at z; subst z; exact hb
 ·rw [b15 h2]
  have et:qs.take (i + 1) = qs.take i ++ [q]:=by rw [List.take_succ,hq]; rfl
  rw [et,b5x]
end
theorem a6F {K:PySem.W.Frag} {N:Addr → Prop} {fa:Option Addr} {H:Hp}:∀ {ks:List (List Key × Addr)} {us:List (List Int)},(∀ x ∈ ks,SqT K H x.2 (x.1.map kV)) → ks.map (·.1) = us.map K8 → Reps K N fa H (us.map W9) (ks.map fun x=>V.ref x.2)
 | [],us,h,e=>by
  cases us with
  | nil=>exact Reps.nil
  | cons _ _=>cases e
 | k :: r,us,h,e=>by
  cases us with
  | nil=>cases e
  | cons u us=>
   simp only [List.map_cons,List.cons.injEq] at e
   simp only [List.map_cons,Reps]
   refine ⟨_,_,rfl,?_,a6F (fun x hx=>h x (List.mem_cons_of_mem _ hx)) e.2⟩
   simp only [W9,Rep]
   refine ⟨k.2,u.map V.int,rfl,?_,Reps.ints⟩
   have q:=h k (List.mem_cons_self ..)
   rw [e.1] at q
   have z:(K8 u).map kV = u.map V.int:=by unfold K8; rw [List.map_map]; rfl
   rw [z] at q
   exact q
section
variable {X:Cx} {g:Gh} {iS iU iO iR k k':Nat} {xs xu xo xr f xl:Str} {ps:List Str} {m:DFn} {v0:V} {value:Expr} {rest:List Stmt} {b:DM} {q1 q2 q3 q4 q5 q6 q7 q8 q9 q10 q11 q12 q13 q14 q15 q16 q17 q18:Pos}
set_option maxHeartbeats 1000000 in
theorem b0V (hp:PassesOwn (model X.prog X.w) X.A X.env X.xe) (hc:X.calm = true) (hr:Room k' X.A) (hN:X.N.Nodup) (nSU:iS ≠ iU) (nOU:iO ≠ iU)
  (C:Cal X.prog X.w X.K X.mg X.base k f ps m) (hk:k ≤ k') (hl:ps.length = 2) (hgf:Gl X f) (VF:FnV X.K X.mg xl) (hgx:Gl X xl) (hgl:Gl X "list") (hml:X.mg "list" = none)
  (hU:∀ p,PE X (.Name xu p) (G6 iU)) (hO:∀ p,PE X (.Name xo p) (G6 iO)) (hS:PE X (.Name xs q5) (G6 iS)) (hv:PE X value (tC v0))
  (hiU:X.N[iU]? = some xu) (hxU:L2.Loc X.env.scope xu) (hiO:X.N[iO]? = some xo) (hxO:L2.Loc X.env.scope xo) (hiR:X.N[iR]? = some xr) (hxR:L2.Loc X.env.scope xr)
  (hrest:SSO X g rest b)
  (hfU:X.fn xu = true ∨ X.env.scope.names.lookup xu = some .local:=by first | exact .inl rfl | exact .inr rfl | assumption)
  (hfO:X.fn xo = true ∨ X.env.scope.names.lookup xo = some .local:=by first | exact .inl rfl | exact .inr rfl | assumption)
  (hfR:X.fn xr = true ∨ X.env.scope.names.lookup xr = some .local:=by first | exact .inl rfl | exact .inr rfl | assumption)
  (hs1:swapsWith (.Dict [] [] q2) (some (.Name xu q1)) q3.line X.env = pure false:=by rfl)
  (hs2:∀ x,foldedSetIterable (.Name xs q5) X.env x = pure x:=by intro _; rfl)
  (hs3:swapsWith value (some (.Subscript (.Name xu q6) (.Name xo q7) q8)) q9.line X.env = pure false:=by rfl)
  (hs4:swapsWith (.Call (.Name f q12) [.Call (.Name "list" q13) [.Name xu q14] [] q15,.Name xl q16] [] q17) (some (.Name xr q11)) q18.line X.env = pure false:=by rfl)
  (hdb:(f == ("__debug__" : Str)) = false:=by decide) (hdx:(xl == ("__debug__" : Str)) = false:=by decide)
  (he1:starEach [.Name xu q14] X.env = (false,eval (.Name xu q14) X.env) :: starEach [] X.env:=by rfl)
  (he2:starEach [.Name xl q16] X.env = (false,eval (.Name xl q16) X.env) :: starEach [] X.env:=by rfl)
  (he:starEach [.Call (.Name "list" q13) [.Name xu q14] [] q15,.Name xl q16] X.env = (false,eval (.Call (.Name "list" q13) [.Name xu q14] [] q15) X.env) :: starEach [.Name xl q16] X.env:=by rfl)
  (hpl:(backTo q17 (starEach [.Name xl q16] X.env)).any (·.1) = false:=by rfl) :
  SSO X g (.Assign [.Name xu q1] (.Dict [] [] q2) q3 :: .For (.Name xo q4) (.Name xs q5) [.Assign [.Subscript (.Name xu q6) (.Name xo q7) q8] value q9] [] q10
   :: .Assign [.Name xr q11] (.Call (.Name f q12) [.Call (.Name "list" q13) [.Name xu q14] [] q15,.Name xl q16] [] q17) q18 :: rest) (c9 (a0E iS iU iO iR m xl) b):=by
 obtain ⟨fn,fd,F,hm,hkp,hb⟩:=C.ex
 obtain ⟨a,ha,hns⟩:=VF.ex
 refine SSO.w (a1X (a1s hN hiU hxU b2Z hs1 hfU) (a1X (a5l hp hc (a49 hS) (A3 hN hiO hxO hfO) (a7o (b18 (L3 hr) (hU _) (hO _) hv hs3)) hs2)
  (a1X (a1s hN hiR hxR (a9u F (hr.mono hk) hgf hm hkp hb .nil a3x (Y6 (b0A hc hgl hml (hU _) he1) (Y6 (b5k (v:=.ref a) hgx ha rfl hdx) a02 he2) he) hdb he hpl) hs4 hfR) hrest.pe))) fun E σ H hQ=>?_
 refine hQ.elim fun fa O s fl s' I e kk=>?_
 refine v6 e fun f1 s1 h1 h2=>?_
 obtain ⟨d,ds,qs,d1,fs1,hno,hno2,hval,hrow,hks,hln,hmm,er⟩:=b1c h1
 cases er
 intro p hp0 hp1
 have len:=I.sl.len
 have iu:iU < σ.length:=by rw [len]; exact (List.getElem?_eq_some_iff.mp hno).1
 have io:iO < (σ.set iU (some (.ref p))).length:=by rw [List.length_set,len]; exact (List.getElem?_eq_some_iff.mp hno2).1
 have e1:(σ.set iU (some (V.ref p)))[iU]? = some (some (.ref p)):=by rw [List.getElem?_set_self iu]
 have c:=I.car (C1 (O:=O) (fa:=fa) (o:=UnO X.prog X.w p []) hp0).stp
 have fin:∀ σ' H',PvU X (σ.set iU (some (.ref p))) iO H p qs qs.length σ' H' →
   a6H (a0d (a4z (spD X.K ps.length m) [] E0 (a5w (tLU X iU) (a5w (tC (.ref a)) a8S))) (L4 iR)) (liftS X.K g b) E σ' H':=by
  rintro σ' H' ⟨hs,ks,rfl,t1,t2⟩
  rw [List.take_length] at t2
  have I':GI X.K g σ' (upd H p (UnO X.prog X.w p ks)) fa O s:=by
   have I1:=I.no_set (some (.ref p)) hno
   rcases hs with rfl | ⟨u,rfl⟩
   ·exact I1.new hp0
   ·exact (I1.no_set (some u) hno2).new hp0
  have eu:σ'[iU]? = some (some (.ref p)):=by
   rcases hs with rfl | ⟨u,rfl⟩
   ·exact e1
   ·rw [List.getElem?_set_ne nOU]; exact e1
  have a1:StE fa O H fa O (upd H p (UnO X.prog X.w p ks)):=C1 hp0
  have ll:ks.length ≤ sizeLine:=by
   have:=congrArg List.length t2
   simp only [List.length_map] at this
   have l1:=a6q qs
   omega
  have tp:∀ x ∈ ks,SqT X.K (upd H p (UnO X.prog X.w p ks)) x.2 (x.1.map kV):=fun x hx=>(I.car a1.stp).tp _ _ (t1 x hx)
  have L:liftE X.K g (c7 m fun s=>some ([.lst ((J5 qs).map W9),.fn xl],s)) σ' (upd H p (UnO X.prog X.w p ks)) (fun v H1=>L4 iR v σ' H1 fun σ2 H2=>liftS X.K g b E σ2 H2):=by
   refine ⟨fa,O,s,d1,{ s with fs:=fs1 },I',?_,fun v H1 f1 O1 a2 I2 r=>?_⟩
   ·show (m _ s.fs).map _ = _
    rw [hmm]; rfl
   ·obtain ⟨P,sub,I3⟩:=I2.put iR r
    exact ⟨f1,P,_,fl,s',I3,h2,kk.shift (a1.stp.trans (a2.stp.trans (a0Z sub).stp))⟩
  have T:=a4Q (X:=X) (n:=ps.length) (fun s ds s' h=>by cases h; rw [hl]; rfl) σ' _ _ L
  obtain ⟨f1,O1,s1,dd,s2,J,ej,kj⟩:=T
  cases ej
  refine ⟨p,ks,eu,hp1,B7,ll,fun S hS=>?_⟩
  refine kj [.ref S,.ref a] _ f1 O1 (C1 hS) (J.new hS) ?_
  have J2:=(J.new (o:=.lst (ks.map fun x=>V.ref x.2)) hS)
  simp only [Reps]
  refine ⟨_,_,rfl,?_,_,_,rfl,?_,rfl⟩
  ·simp only [Rep]
   refine ⟨S,_,rfl,fun z=>?_,B7,a6F (fun x hx=>?_) t2⟩
   ·exact J.nn_tracked z hS
   ·exact (J.car (C1 (O:=O1) (fa:=f1) hS).stp).tp _ _ (tp x hx)
  ·simp only [Rep]
   exact ⟨a,rfl,hns⟩
 obtain ⟨vS,es,rS⟩:=SlR.val I.sl hval
 have es1:(σ.set iU (some (V.ref p)))[iS]? = some (some vS):=by rw [List.getElem?_set_ne (Ne.symm nSU)]; exact es
 have st0:PvU X (σ.set iU (some (.ref p))) iO H p qs 0 (σ.set iU (some (.ref p))) (upd H p (UnO X.prog X.w p [])):=⟨.inl rfl,[],rfl,(fun x hx=>nomatch hx),rfl⟩
 cases d with
 | lst es2=>
  cases hrow
  simp only [Rep] at rS
  obtain ⟨r,ys,rfl,nr,q,w⟩:=rS
  obtain ⟨kl,kg⟩:=a5v hks w
  refine ⟨_,es1,r,rfl,.inl ⟨⟨ys,SqL.of (c.ls r ys nr q).1⟩,a6o (xs:=ys) (PvU X (σ.set iU (some (.ref p))) iO H p qs) st0 ?_ ?_ ?_⟩⟩
  ·rintro i σ' H' _ ⟨_,ks,rfl,_⟩
   exact SqL.of ((I.car (C1 (O:=O) (fa:=fa) hp0).stp).ls r ys nr q).1
  ·intro i x σ' H' hx h
   obtain ⟨qq,bb,e3,rfl,e4⟩:=kg i x hx
   exact a5U I hp0 e1 nOU io hln e3 e4 h
  ·intro σ' H' h
   rw [kl] at h
   exact fin σ' H' h
 | tup es2=>
  cases hrow
  simp only [Rep] at rS
  obtain ⟨r,ys,rfl,q,w⟩:=rS
  obtain ⟨kl,kg⟩:=a5v hks w
  refine ⟨_,es1,r,rfl,.inr ⟨⟨ys,c.tp r ys q⟩,a8l (xs:=ys) (PvU X (σ.set iU (some (.ref p))) iO H p qs) st0 ?_ ?_ ?_⟩⟩
  ·rintro i σ' H' _ ⟨_,ks,rfl,_⟩
   exact (I.car (C1 (O:=O) (fa:=fa) hp0).stp).tp r ys q
  ·intro i x σ' H' hx h
   obtain ⟨qq,bb,e3,rfl,e4⟩:=kg i x hx
   exact a5U I hp0 e1 nOU io hln e3 e4 h
  ·intro σ' H' h
   rw [kl] at h
   exact fin σ' H' h
 | _=>cases hrow
end
noncomputable def b3M (K:PySem.W.Frag) (ta tb:TE):TE:=fun σ H Q=>ta σ H fun x H1=>∃ k,a1L K x H1 k ∧ if k = true then Q x H1 else tb σ H1 Q
noncomputable def a0A (a b:DE):DE:=fun s=>(a s).bind fun x=>(B4 x.1).bind fun t=>if t = true then some x else b x.2
section
variable {X:Cx} {g:Gh} {a b:Expr} {rest:List Expr} {pos:Pos} {ta tb:TE} {fa fb:DE}
theorem b1E (ha:PE X a ta) (hb:PE X (.BoolOp .Or (b :: rest) pos) tb):PE X (.BoolOp .Or (a :: b :: rest) pos) (b3M X.K ta tb):=by
 intro pins s σ H Q I h
 refine BoolOp_or (thn (ha pins s σ H _ I h) fun v s1 ⟨x,H1,I1,r1,q1⟩=>?_)
 obtain ⟨k,e,q⟩:=q1
 refine thn (a6j pins s1 σ H1 x v (fun c H'=>H' = H1 ∧ if c = true then Q x H1 else tb σ H1 Q) I1 r1 ⟨k,e,rfl,q⟩) fun c s2 ⟨H',I2,eh,q2⟩=>?_
 subst eh
 cases c with
 | false=>exact hb pins s2 σ _ Q I2 (by rw [if_neg Bool.false_ne_true] at q2; exact q2)
 | true=>exact ⟨x,_,I2,r1,by rw [if_pos rfl] at q2; exact q2⟩
theorem b0j {K:PySem.W.Frag} {N:Addr → Prop} {fa:Option Addr} {H:Hp} {d:D} {v:V} {t:Bool} (r:Rep K N fa H d v) (h:B4 d = some t):a1L K v H t:=by
 cases d with
 | non=>simp only [Rep] at r; subst r; cases h; rfl
 | bl b=>simp only [Rep] at r; subst r; cases h; rfl
 | int i=>simp only [Rep] at r; subst r; cases h; rfl
 | str x=>simp only [Rep] at r; obtain ⟨r,l⟩:=r; subst r; cases h; exact ⟨l,rfl⟩
 | tup ds=>
  simp only [Rep] at r
  obtain ⟨c,xs,r,q,w⟩:=r
  subst r; cases h
  exact .inr (.inl ⟨xs,q,by rw [a2e w.length]⟩)
 | lst ds=>
  simp only [Rep] at r
  obtain ⟨c,xs,r,_,q,w⟩:=r
  subst r; cases h
  exact .inl ⟨xs,SqL.of q,by rw [a2e w.length]⟩
 | feed=>cases h
 | scr _=>cases h
 | fn _=>cases h
theorem b1e (ha:EO X g a fa) (hb:EO X g (.BoolOp .Or (b :: rest) pos) fb):EO X g (.BoolOp .Or (a :: b :: rest) pos) (a0A fa fb):=EO.w (b1E ha.pe hb.pe) fun σ H Q hQ=>by
 refine hQ.elim fun f0 O s d s' I e k=>?_
 refine v6 e fun x s1 h1 e=>?_
 refine L5 e fun t h2 e=>?_
 refine ⟨f0,O,s,x,s1,I,h1,fun v H1 f1 O1 a1 I1 r=>⟨t,b0j r h2,?_⟩⟩
 cases t with
 | false=>rw [if_neg Bool.false_ne_true] at e ⊢; exact ⟨f1,O1,s1,d,s',I1,e,fun v H2 f2 O2 a2 I2=>k v H2 f2 O2 (a1.trans a2) I2⟩
 | true=>
  rw [if_pos rfl] at e ⊢
  cases e
  exact k v H1 f1 O1 a1 I1 r
end
end DL
namespace T
open PySem PySem.Spec L2 DL
noncomputable def a4m:DM:=(j7 (dFN 0))
noncomputable def Q7:DFn:=mFn 1 (a4m)
noncomputable def V1:DM:=(c9 (i8 (dOp t6 (dFG 0 "turn") (dC (.int 1))) (d0 2)) (c9 (dFP 0 "turn" (dV 2)) (c9 (n8 (dB (dOp (j8 (fun i j=>decide (j < i))) (dFG 0 "left") (dC (.int 0)))) (c9 (i8 (dOp D0 (dFG 0 "left") (dL 1)) (d0 3)) (c9 (dFP 0 "left" (dOp F2 (dFG 0 "left") (dL 1))) (j7 (dV 3)))) o7) (c9 (i8 (dFG 0 "cells") (d0 4)) (c9 (i8 (dIf (dB (dOp (j8 (fun i j=>decide (j < i))) (dCB (one k9) (a6 (dL 4) a8)) (dC (.int 0)))) (dOp pIx (dL 4) (dOp D0 (dFG 0 "at") (dCB (one k9) (a6 (dL 4) a8)))) (dC (.int 0))) (d0 5)) (c9 (dFP 0 "at" (dOp t6 (dFG 0 "at") (dC (.int 1)))) (c9 (n8 (v4 (dB (dOp (j8 (fun i j=>decide (j ≤ i))) (dL 5) (dOp a0t (dC (.int 10)) (dC (.int 18))))) (dB (dOp (j8 (fun i j=>decide (i ≤ j))) (dFG 0 "at") (dCB (one k9) (a6 (dL 4) a8))))) (c9 (dFP 0 "left" (dOp F2 (dL 5) (dL 1))) (j7 (dOp D0 (dL 5) (dL 1)))) o7) (c9 (i8 (dOp D0 (dOp k0 (dOp t6 (dOp t6 (dOp t6 (dOp D0 (dL 5) (dC (.int 1000003))) (dOp k0 (dOp k0 (dC (.int 31)) (dL 2)) (dL 2))) (dOp k0 (dC (.int 7)) (dL 2))) (dC (.int 11))) (dC (.int 48271))) (dC (.int 2147483647))) (d0 6)) (c9 (i8 (dOp D0 (dOp t6 (dOp k0 (dOp F2 (dL 6) (dC (.int 64))) (dC (.int 69621))) (dOp k0 (dC (.int 7919)) (dL 2))) (dC (.int 2147483587))) (d0 6)) (j7 (dOp D0 (dOp F2 (dL 6) (dC (.int 64))) (dL 1))))))))))))
noncomputable def C2:DFn:=mFn 7 (V1)
noncomputable abbrev b4g:DM:=(c9 (i8 (dOp D0 (dL 2) (dL 3)) (d0 4)) (c9 (i8 (dV 3) (d0 2)) (i8 (dV 4) (d0 3))))
noncomputable def a2M:DM:=(c9 (i8 (dCB (one Q8) (a6 (dL 0) a8)) (d0 2)) (c9 (i8 (dCB (one Q8) (a6 (dL 1) a8)) (d0 3)) (c9 (D8 (dB (dOp pNe (dL 3) (dC (.int 0)))) (b4g)) (j7 (dV 2)))))
noncomputable def L7:DFn:=mFn 5 (a2M)
noncomputable abbrev a0l (m_divisor_of_two:DFn):DM:=(i8 (c7 m_divisor_of_two (a6 (dV 1) (a6 (dV 2) a8))) (d0 1))
noncomputable def a42 (m_divisor_of_two:DFn):DM:=(c9 (i8 (dC (.int 0)) (d0 1)) (c9 (J8 (dV 0) (d0 2) (a0l m_divisor_of_two)) (j7 (dV 1))))
noncomputable def W1 (m_divisor_of_two:DFn):DFn:=mFn 3 (a42 m_divisor_of_two)
noncomputable def a2S (m_divisor:DFn):DM:=(c9 (i8 (c7 m_divisor (a6 (dV 0) a8)) (d0 1)) (c9 (n8 (dB (dOp (j8 (fun i j=>decide (i < j))) (dOp pIx (dL 0) (dUn p8 (dC (.int 1)))) (dC (.int 0)))) (i8 (dUn p8 (dL 1)) (d0 1)) o7) (j7 (dCB (one Y7) (a6 (r8 (G1 [1] (K4 (dV 0)) E8 (dOp F2 (dL 0) (dL 1)))) a8)))))
noncomputable def a4g (m_divisor:DFn):DFn:=mFn 2 (a2S m_divisor)
noncomputable abbrev b2y:DM:=(A4 2 3 (a6 (dV 3) (a6 (dOp D0 (dL 2) (dL 3)) a8)))
noncomputable def a4N:DM:=(c9 (i8 (dCB (one Q8) (a6 (dL 0) a8)) (d0 2)) (c9 (i8 (dCB (one Q8) (a6 (dL 1) a8)) (d0 3)) (c9 (D8 (dB (dOp (j8 (fun i j=>decide (j < i))) (dL 3) (dC (.int 0)))) (b2y)) (c9 (n8 (dB (dOp (j8 (fun i j=>decide (i < j))) (dL 1) (dC (.int 0)))) (i8 (dOp p9 (dC (.int 0)) (dL 2)) (d0 2)) o7) (j7 (n9 (a6 (dOp F2 (dL 0) (dL 2)) (a6 (dOp F2 (dL 1) (dL 2)) a8))))))))
noncomputable def B3:DFn:=mFn 4 (a4N)
noncomputable def a4p (m_law_fraction:DFn):DM:=(c9 (i8 (dOp t6 (dOp k0 (dOp pIx (dL 0) (dC (.int 0))) (dOp pIx (dL 1) (dC (.int 1)))) (dOp k0 (dOp pIx (dL 1) (dC (.int 0))) (dOp pIx (dL 0) (dC (.int 1))))) (d0 2)) (j7 (c7 m_law_fraction (a6 (dV 2) (a6 (dOp k0 (dOp pIx (dL 0) (dC (.int 1))) (dOp pIx (dL 1) (dC (.int 1)))) a8)))))
noncomputable def N9 (m_law_fraction:DFn):DFn:=mFn 3 (a4p m_law_fraction)
noncomputable def a3o:DM:=(j7 (n9 (a6 (dOp p9 (dC (.int 0)) (dOp pIx (dL 0) (dC (.int 0)))) (a6 (dOp pIx (dL 0) (dC (.int 1))) a8))))
noncomputable def F7:DFn:=mFn 1 (a3o)
noncomputable def a4c (m_law_fraction:DFn):DM:=(j7 (c7 m_law_fraction (a6 (dOp k0 (dOp pIx (dL 0) (dC (.int 0))) (dOp pIx (dL 1) (dC (.int 0)))) (a6 (dOp k0 (dOp pIx (dL 0) (dC (.int 1))) (dOp pIx (dL 1) (dC (.int 1)))) a8))))
noncomputable def V5 (m_law_fraction:DFn):DFn:=mFn 2 (a4c m_law_fraction)
noncomputable def a2W (m_law_fraction:DFn) (m_law_draw:DFn):DM:=(c9 (i8 (c7 m_law_draw (a6 (dV 0) (a6 (dOp pIx (r8 (t7 (a6 (dC (.int 7)) (a6 (dC (.int 13)) (a6 (dC (.int 30)) a8))))) (c7 m_law_draw (a6 (dV 0) (a6 (dC (.int 3)) a8)))) a8))) (d0 1)) (c9 (i8 (dOp pIx (r8 (t7 (a6 (dC (.int 1)) (a6 (dC (.int 1)) (a6 (dC (.int 1)) (a6 (dC (.int 2)) (a6 (dC (.int 3)) (a6 (dC (.int 4)) a8)))))))) (c7 m_law_draw (a6 (dV 0) (a6 (dC (.int 6)) a8)))) (d0 2)) (j7 (c7 m_law_fraction (a6 (dOp k0 (dL 1) (dOp p9 (dC (.int 1)) (dOp k0 (dC (.int 2)) (c7 m_law_draw (a6 (dV 0) (a6 (dC (.int 2)) a8)))))) (a6 (dV 2) a8))))))
noncomputable def a1x (m_law_fraction:DFn) (m_law_draw:DFn):DFn:=mFn 3 (a2W m_law_fraction m_law_draw)
noncomputable def a05:DM:=(c9 (i8 (dOp p9 (dOp k0 (dOp pIx (dL 0) (dC (.int 0))) (dOp pIx (dL 1) (dC (.int 2)))) (dOp k0 (dOp pIx (dL 1) (dC (.int 0))) (dOp pIx (dL 0) (dC (.int 2))))) (d0 2)) (j7 (B5 (dOp (j8 (fun i j=>decide (i < j))) (dL 2) (dC (.int 0))) (B8 (dOp pEq (dL 2) (dC (.int 0))) (dOp (j8 (fun i j=>decide (i < j))) (dOp k0 (dOp pIx (dL 0) (dC (.int 1))) (dOp pIx (dL 1) (dC (.int 2)))) (dOp k0 (dOp pIx (dL 1) (dC (.int 1))) (dOp pIx (dL 0) (dC (.int 2)))))))))
noncomputable def F3:DFn:=mFn 3 (a05)
noncomputable def a3d (m_law_fraction:DFn):DM:=(c9 (i8 (dOp k0 (dOp pIx (dL 0) (dC (.int 1))) (dOp pIx (dL 1) (dC (.int 1)))) (d0 2)) (c9 (i8 (c7 m_law_fraction (a6 (dOp k0 (dOp pIx (dL 0) (dC (.int 0))) (dOp pIx (dL 1) (dC (.int 1)))) (a6 (dV 2) a8))) (d0 3)) (c9 (i8 (c7 m_law_fraction (a6 (dOp k0 (dOp pIx (dL 1) (dC (.int 0))) (dOp pIx (dL 0) (dC (.int 1)))) (a6 (dV 2) a8))) (d0 4)) (c9 (i8 (c7 m_law_fraction (a6 (dOp pIx (dL 3) (dC (.int 1))) (a6 (dOp pIx (dL 4) (dC (.int 1))) a8))) (d0 5)) (c9 (i8 (dOp k0 (dOp pIx (dL 3) (dC (.int 1))) (dOp pIx (dL 5) (dC (.int 1)))) (d0 2)) (j7 (n9 (a6 (dOp k0 (dOp pIx (dL 3) (dC (.int 0))) (dOp F2 (dL 2) (dOp pIx (dL 3) (dC (.int 1))))) (a6 (dOp k0 (dOp pIx (dL 4) (dC (.int 0))) (dOp F2 (dL 2) (dOp pIx (dL 4) (dC (.int 1))))) (a6 (dV 2) a8))))))))))
noncomputable def X4 (m_law_fraction:DFn):DFn:=mFn 6 (a3d m_law_fraction)
noncomputable def a3i (m_law_at:DFn) (m_law_number:DFn):DM:=(j7 (c7 m_law_at (a6 (c7 m_law_number (a6 (dV 0) a8)) (a6 (c7 m_law_number (a6 (dV 0) a8)) a8))))
noncomputable def a1J (m_law_at:DFn) (m_law_number:DFn):DFn:=mFn 1 (a3i m_law_at m_law_number)
noncomputable def a1j:DM:=(c9 (i8 (dOp k0 (dOp pIx (dL 0) (dC (.int 0))) (dOp pIx (dL 1) (dC (.int 2)))) (d0 2)) (c9 (i8 (dOp k0 (dOp pIx (dL 1) (dC (.int 0))) (dOp pIx (dL 0) (dC (.int 2)))) (d0 3)) (c9 (n8 (dB (dOp pNe (dL 2) (dL 3))) (j7 (dOp (j8 (fun i j=>decide (i < j))) (dL 2) (dL 3))) o7) (j7 (dOp (j8 (fun i j=>decide (i < j))) (dOp k0 (dOp pIx (dL 0) (dC (.int 1))) (dOp pIx (dL 1) (dC (.int 2)))) (dOp k0 (dOp pIx (dL 1) (dC (.int 1))) (dOp pIx (dL 0) (dC (.int 2)))))))))
noncomputable def J6:DFn:=mFn 4 (a1j)
noncomputable def a23 (m_law_fraction:DFn):DM:=(j7 (n9 (a6 (c7 m_law_fraction (a6 (dOp pIx (dL 0) (dC (.int 0))) (a6 (dOp pIx (dL 0) (dC (.int 2))) a8))) (a6 (c7 m_law_fraction (a6 (dOp pIx (dL 0) (dC (.int 1))) (a6 (dOp pIx (dL 0) (dC (.int 2))) a8))) a8))))
noncomputable def V3 (m_law_fraction:DFn):DFn:=mFn 1 (a23 m_law_fraction)
noncomputable def a3M (m_law_at:DFn) (m_law_sum:DFn) (m_law_xy:DFn):DM:=(c9 (i8 (c7 m_law_xy (a6 (dV 0) a8)) (w6 2 (t9 (d0 3) (t9 (d0 4) w8)))) (j7 (c7 m_law_at (a6 (c7 m_law_sum (a6 (dV 3) (a6 (dV 1) a8))) (a6 (c7 m_law_sum (a6 (dV 4) (a6 (dV 2) a8))) a8)))))
noncomputable def a14 (m_law_at:DFn) (m_law_sum:DFn) (m_law_xy:DFn):DFn:=mFn 5 (a3M m_law_at m_law_sum m_law_xy)
noncomputable def a3G:DM:=(c9 (i8 (dOp k0 (dOp p9 (dOp k0 (dOp pIx (dL 1) (dC (.int 0))) (dOp pIx (dL 0) (dC (.int 2)))) (dOp k0 (dOp pIx (dL 0) (dC (.int 0))) (dOp pIx (dL 1) (dC (.int 2))))) (dOp p9 (dOp k0 (dOp pIx (dL 2) (dC (.int 1))) (dOp pIx (dL 0) (dC (.int 2)))) (dOp k0 (dOp pIx (dL 0) (dC (.int 1))) (dOp pIx (dL 2) (dC (.int 2)))))) (d0 3)) (c9 (i8 (dOp k0 (dOp p9 (dOp k0 (dOp pIx (dL 1) (dC (.int 1))) (dOp pIx (dL 0) (dC (.int 2)))) (dOp k0 (dOp pIx (dL 0) (dC (.int 1))) (dOp pIx (dL 1) (dC (.int 2))))) (dOp p9 (dOp k0 (dOp pIx (dL 2) (dC (.int 0))) (dOp pIx (dL 0) (dC (.int 2)))) (dOp k0 (dOp pIx (dL 0) (dC (.int 0))) (dOp pIx (dL 2) (dC (.int 2)))))) (d0 4)) (j7 (dOp p9 (dCB (one a1g) (a6 (dOp (j8 (fun i j=>decide (j < i))) (dL 3) (dL 4)) a8)) (dCB (one a1g) (a6 (dOp (j8 (fun i j=>decide (i < j))) (dL 3) (dL 4)) a8))))))
noncomputable def C8:DFn:=mFn 5 (a3G)
noncomputable def a4n (m_law_sum:DFn) (m_law_product:DFn) (m_law_minus:DFn) (m_law_xy:DFn):DM:=(c9 (i8 (c7 m_law_sum (a6 (dOp pIx (c7 m_law_xy (a6 (dV 1) a8)) (dC (.int 0))) (a6 (c7 m_law_minus (a6 (dOp pIx (c7 m_law_xy (a6 (dV 0) a8)) (dC (.int 0))) a8)) a8))) (d0 2)) (c9 (i8 (c7 m_law_sum (a6 (dOp pIx (c7 m_law_xy (a6 (dV 1) a8)) (dC (.int 1))) (a6 (c7 m_law_minus (a6 (dOp pIx (c7 m_law_xy (a6 (dV 0) a8)) (dC (.int 1))) a8)) a8))) (d0 3)) (j7 (c7 m_law_sum (a6 (c7 m_law_product (a6 (dV 2) (a6 (dV 2) a8))) (a6 (c7 m_law_product (a6 (dV 3) (a6 (dV 3) a8))) a8))))))
noncomputable def a0H (m_law_sum:DFn) (m_law_product:DFn) (m_law_minus:DFn) (m_law_xy:DFn):DFn:=mFn 4 (a4n m_law_sum m_law_product m_law_minus m_law_xy)
noncomputable def a0v:DM:=(c9 (n8 (dB (dOp (j8 (fun i j=>decide (j < i))) (dL 0) (dC (.int 0)))) (j7 (dC (.int 1))) o7) (c9 (n8 (dB (dOp (j8 (fun i j=>decide (i < j))) (dL 0) (dC (.int 0)))) (j7 (dUn p8 (dC (.int 1)))) o7) (j7 (dC (.int 0)))))
noncomputable def V8:DFn:=mFn 1 (a0v)
noncomputable def a5x (m_sign:DFn):DM:=(c9 (i8 (dOp k0 (dOp pIx (dL 0) (dC (.int 0))) (dOp p9 (dOp k0 (dOp pIx (dL 1) (dC (.int 1))) (dOp pIx (dL 2) (dC (.int 2)))) (dOp k0 (dOp pIx (dL 2) (dC (.int 1))) (dOp pIx (dL 1) (dC (.int 2)))))) (d0 3)) (c9 (i8 (dOp p9 (dL 3) (dOp k0 (dOp pIx (dL 0) (dC (.int 1))) (dOp p9 (dOp k0 (dOp pIx (dL 1) (dC (.int 0))) (dOp pIx (dL 2) (dC (.int 2)))) (dOp k0 (dOp pIx (dL 2) (dC (.int 0))) (dOp pIx (dL 1) (dC (.int 2))))))) (d0 3)) (c9 (i8 (dOp t6 (dL 3) (dOp k0 (dOp pIx (dL 0) (dC (.int 2))) (dOp p9 (dOp k0 (dOp pIx (dL 1) (dC (.int 0))) (dOp pIx (dL 2) (dC (.int 1)))) (dOp k0 (dOp pIx (dL 2) (dC (.int 0))) (dOp pIx (dL 1) (dC (.int 1))))))) (d0 3)) (j7 (c7 m_sign (a6 (dV 3) a8))))))
noncomputable def a0D (m_sign:DFn):DFn:=mFn 4 (a5x m_sign)
noncomputable abbrev a4Y (m_is_lesser:DFn):DM:=(c9 (F5 3 (dOp pIx (dL 1) (dL 4))) (i8 (dOp t6 (dL 4) (dC (.int 1))) (d0 4)))
noncomputable abbrev a44 (m_is_lesser:DFn):DM:=(c9 (D8 (v4 (dB (dOp (j8 (fun i j=>decide (i < j))) (dL 4) (dCB (one k9) (a6 (dL 1) a8)))) (dTr (U1 2 [("is_lesser",m_is_lesser)] (a6 (dOp pIx (dL 1) (dL 4)) (a6 (dV 5) a8))))) (a4Y m_is_lesser)) (F5 3 (dV 5)))
noncomputable def a40 (m_is_lesser:DFn):DM:=(c9 (E4 3 (t7 a8)) (c9 (i8 (dC (.int 0)) (d0 4)) (c9 (J8 (dV 0) (d0 5) (a44 m_is_lesser)) (j7 (dOp t6 (dL 3) (dSl (dL 1) (dAt (dL 4)) dNo))))))
noncomputable def W4 (m_is_lesser:DFn):DFn:=mFn 6 (a40 m_is_lesser)
noncomputable def a03 (m_merged:DFn) (m_in_order:DFn):DM:=(c9 (n8 (dB (dOp (j8 (fun i j=>decide (i < j))) (dCB (one k9) (a6 (dL 0) a8)) (dC (.int 2)))) (j7 (r8 (dCF (one a06) (a6 (dL 0) a8)))) o7) (c9 (i8 (dOp F2 (dCB (one k9) (a6 (dL 0) a8)) (dC (.int 2))) (d0 2)) (j7 (c7 m_merged (a6 (c7 m_in_order (a6 (dSl (dL 0) dNo (dAt (dL 2))) (a6 (dV 1) a8))) (a6 (c7 m_in_order (a6 (dSl (dL 0) (dAt (dL 2)) dNo) (a6 (dV 1) a8))) (a6 (dV 1) a8)))))))
noncomputable def a0c (m_merged:DFn):Nat → DFn
 | 0=>fun _ _=>none
 | n + 1=>mFn 3 (a03 m_merged (a0c m_merged n))
noncomputable abbrev b1b (m_turn:DFn):DM:=(a0u 1)
noncomputable abbrev a2B (m_turn:DFn):DM:=(c9 (D8 (v4 (dB (dOp (j8 (fun i j=>decide (j < i))) (dCB (one k9) (a6 (dL 1) a8)) (dC (.int 1)))) (dB (dOp pNe (c7 m_turn (a6 (dOp pIx (dL 1) (dUn p8 (dC (.int 2)))) (a6 (dOp pIx (dL 1) (dUn p8 (dC (.int 1)))) (a6 (dV 2) a8)))) (dC (.int 1))))) (b1b m_turn)) (F5 1 (dV 2)))
noncomputable def a22 (m_turn:DFn):DM:=(c9 (E4 1 (t7 a8)) (c9 (J8 (dV 0) (d0 2) (a2B m_turn)) (j7 (dV 1))))
noncomputable def V6 (m_turn:DFn):DFn:=mFn 3 (a22 m_turn)
noncomputable def a3e (m_in_order:DFn) (m_bow:DFn):DM:=(c9 (a0E 0 1 2 3 m_in_order "is_lesser") (c9 (i8 (dOp t6 (dSl (c7 m_bow (a6 (dV 3) a8)) dNo (dAt (dUn p8 (dC (.int 1))))) (dSl (c7 m_bow (a6 (r8 (dCF a00 (a6 (dL 3) a8))) a8)) dNo (dAt (dUn p8 (dC (.int 1)))))) (d0 4)) (c9 (n8 (dB (dOp (j8 (fun i j=>decide (i < j))) (dCB (one k9) (a6 (dL 4) a8)) (dC (.int 3)))) (j7 (dC .non)) o7) (j7 (dCB (one Y7) (a6 (dL 4) a8))))))
noncomputable def a26 (m_in_order:DFn) (m_bow:DFn):DFn:=mFn 5 (a3e m_in_order m_bow)
noncomputable def a2l:DM:=(c9 (n8 (dTr (dL 1)) (j7 (r8 (dCF Z5 (a6 (dL 0) (a6 (dOp t6 (dSl (dL 0) (dAt (dC (.int 1))) dNo) (dSl (dL 0) dNo (dAt (dC (.int 1))))) a8))))) o7) (j7 (r8 (dCF Z5 (a6 (dL 0) (a6 (dSl (dL 0) (dAt (dC (.int 1))) dNo) a8))))))
noncomputable def a0J:DFn:=mFn 2 (a2l)
noncomputable def b6i (m_neighbours:DFn):DM:=(j7 (c7 m_neighbours (a6 (dV 0) (a6 (dC (.bl true)) a8))))
noncomputable def a1G (m_neighbours:DFn):DFn:=mFn 1 (b6i m_neighbours)
noncomputable def a30 (m_law_sum:DFn) (m_law_minus:DFn) (m_law_squared:DFn) (m_law_turn:DFn):DM:=(c9 (i8 (c7 m_law_turn (a6 (dV 0) (a6 (dV 1) (a6 (dV 2) a8)))) (d0 3)) (c9 (n8 (dB (dOp pNe (dL 3) (dC (.int 0)))) (j7 (dOp (j8 (fun i j=>decide (i < j))) (dL 3) (dC (.int 0)))) o7) (j7 (dOp (j8 (fun i j=>decide (i < j))) (dOp pIx (c7 m_law_sum (a6 (c7 m_law_squared (a6 (dV 0) (a6 (dV 1) a8))) (a6 (c7 m_law_minus (a6 (c7 m_law_squared (a6 (dV 0) (a6 (dV 2) a8))) a8)) a8))) (dC (.int 0))) (dC (.int 0))))))
noncomputable def a1N (m_law_sum:DFn) (m_law_minus:DFn) (m_law_squared:DFn) (m_law_turn:DFn):DFn:=mFn 4 (a30 m_law_sum m_law_minus m_law_squared m_law_turn)
noncomputable abbrev a7B (m_law_farther:DFn) (m_law_lesser:DFn):DM:=(n8 (dTr (c7 m_law_lesser (a6 (dV 2) (a6 (dV 1) a8)))) (i8 (dV 2) (d0 1)) o7)
noncomputable abbrev a6S (m_law_farther:DFn) (m_law_lesser:DFn):DM:=(n8 (v4 (dB (dOp pNe (dL 2) (dL 4))) (dOr (dB (dOp Z0 (dL 5) (dC .non))) (dTr (c7 m_law_farther (a6 (dV 4) (a6 (dV 5) (a6 (dV 2) a8))))))) (i8 (dV 2) (d0 5)) o7)
noncomputable abbrev P1 (m_law_farther:DFn) (m_law_lesser:DFn):DM:=(c9 (F5 3 (dV 4)) (c9 (i8 (dC .non) (d0 5)) (c9 (J8 (dV 0) (d0 2) (a6S m_law_farther m_law_lesser)) (i8 (dIf (dOr (dB (dOp Z0 (dL 5) (dC .non))) (dB (dOp (j8 (fun i j=>decide (j < i))) (dCB (one k9) (a6 (dL 3) a8)) (dCB (one k9) (a6 (dL 0) a8))))) (dV 1) (dV 5)) (d0 4)))))
noncomputable def a0B (m_law_farther:DFn) (m_law_lesser:DFn):DM:=(c9 (i8 (dOp pIx (dL 0) (dC (.int 0))) (d0 1)) (c9 (J8 (dV 0) (d0 2) (a7B m_law_farther m_law_lesser)) (c9 (E4 3 (t7 a8)) (c9 (i8 (dV 1) (d0 4)) (c9 (D8 (dOr (dB (dOp pNe (dL 4) (dL 1))) (dB (dOp pEq (dL 3) (r8 (t7 a8))))) (P1 m_law_farther m_law_lesser)) (j7 (dIf (dB (dOp (j8 (fun i j=>decide (j < i))) (dCB (one k9) (a6 (dL 3) a8)) (dC (.int 2)))) (dCB (one Y7) (a6 (dL 3) a8)) (dC .non))))))))
noncomputable def a1V (m_law_farther:DFn) (m_law_lesser:DFn):DFn:=mFn 6 (a0B m_law_farther m_law_lesser)
noncomputable abbrev a1H (m_law_hull:DFn) (m_law_gone:DFn) (m_law_product:DFn) (m_law_fraction:DFn) (m_law_draw:DFn) (m_law_turn:DFn) (m_law_place:DFn):DM:=(c9 (F5 6 (dV 5)) (i8 (c7 m_law_gone (a6 (dV 5) (a6 (c7 m_law_product (a6 (n9 (a6 (dV 7) (a6 (dC (.int 1)) a8))) (a6 (dV 4) a8))) (a6 (c7 m_law_product (a6 (n9 (a6 (dV 8) (a6 (dC (.int 1)) a8))) (a6 (dV 4) a8))) a8)))) (d0 5)))
noncomputable def a0k (m_law_hull:DFn) (m_law_gone:DFn) (m_law_product:DFn) (m_law_fraction:DFn) (m_law_draw:DFn) (m_law_turn:DFn) (m_law_place:DFn):DM:=(c9 (E4 1 (G1 [0] (X6 (a6 (dC (.int 3)) a8)) E8 (c7 m_law_place (a6 (dV 1) a8)))) (c9 (n8 (v4 (dB (dOp pEq (c7 m_law_draw (a6 (dV 0) (a6 (dC (.int 3)) a8))) (dC (.int 0)))) (dB (dOp pNe (c7 m_law_turn (a6 (dOp pIx (dL 1) (dC (.int 0))) (a6 (dOp pIx (dL 1) (dC (.int 1))) (a6 (dOp pIx (dL 1) (dC (.int 2))) a8)))) (dC (.int 0))))) (j7 (c7 m_law_hull (a6 (dV 1) a8))) o7) (c9 (E4 2 (t7 (a6 (n9 (a6 (dC (.int 1)) (a6 (dC (.int 0)) a8))) (a6 (n9 (a6 (dC (.int 2)) (a6 (dC (.int 1)) a8))) (a6 (n9 (a6 (dC (.int 1)) (a6 (dC (.int 1)) a8))) (a6 (n9 (a6 (dC (.int 1)) (a6 (dC (.int 2)) a8))) (a6 (n9 (a6 (dC (.int 0)) (a6 (dC (.int 1)) a8))) (a6 (n9 (a6 (dUn p8 (dC (.int 1))) (a6 (dC (.int 2)) a8))) (a6 (n9 (a6 (dUn p8 (dC (.int 1))) (a6 (dC (.int 1)) a8))) (a6 (n9 (a6 (dUn p8 (dC (.int 2))) (a6 (dC (.int 1)) a8))) a8)))))))))) (c9 (E4 3 (G1 [0] (K4 (dV 2)) (dB (dOp pEq (c7 m_law_draw (a6 (dV 1) (a6 (dC (.int 3)) a8))) (dC (.int 0)))) (dV 0))) (c9 (i8 (dIf (dB (dOp (j8 (fun i j=>decide (j < i))) (dCB (one k9) (a6 (dL 3) a8)) (dC (.int 1)))) (dV 3) (r8 (t7 (a6 (dOp pIx (dL 2) (dC (.int 0))) (a6 (dOp pIx (dL 2) (dOp t6 (dC (.int 2)) (c7 m_law_draw (a6 (dV 0) (a6 (dC (.int 5)) a8))))) a8))))) (d0 3)) (c9 (i8 (c7 m_law_fraction (a6 (dOp t6 (dC (.int 1)) (c7 m_law_draw (a6 (dV 0) (a6 (dC (.int 5)) a8)))) (a6 (dOp t6 (dC (.int 1)) (c7 m_law_draw (a6 (dV 0) (a6 (dC (.int 3)) a8)))) a8))) (d0 4)) (c9 (i8 (dOp pIx (dL 1) (dC (.int 0))) (d0 5)) (c9 (E4 6 (t7 a8)) (c9 (J8 (r8 (Y8 a1I (dL 3) (r8 (X2 [] (K4 (dV 3)) E8 (n9 (a6 (dOp p9 (dC (.int 0)) (dL 0)) (a6 (dOp p9 (dC (.int 0)) (dL 1)) a8))))))) (w6 2 (t9 (d0 7) (t9 (d0 8) w8))) (a1H m_law_hull m_law_gone m_law_product m_law_fraction m_law_draw m_law_turn m_law_place)) (j7 (c7 m_law_hull (a6 (dV 6) a8))))))))))))
noncomputable def a46 (m_law_hull:DFn) (m_law_gone:DFn) (m_law_product:DFn) (m_law_fraction:DFn) (m_law_draw:DFn) (m_law_turn:DFn) (m_law_place:DFn):DFn:=mFn 9 (a0k m_law_hull m_law_gone m_law_product m_law_fraction m_law_draw m_law_turn m_law_place)
noncomputable abbrev a6d (m_turn:DFn) (m_edges:DFn):DM:=(n8 (dB (dOp pEq (c7 m_turn (a6 (dV 2) (a6 (dV 3) (a6 (dV 1) a8)))) (dUn p8 (dC (.int 1))))) (j7 (dC (.bl false))) o7)
noncomputable def a4C (m_turn:DFn) (m_edges:DFn):DM:=(c9 (J8 (c7 m_edges (a6 (dV 0) a8)) (w6 2 (t9 (d0 2) (t9 (d0 3) w8))) (a6d m_turn m_edges)) (j7 (dC (.bl true))))
noncomputable def a2Z (m_turn:DFn) (m_edges:DFn):DFn:=mFn 4 (a4C m_turn m_edges)
noncomputable def b0D:DM:=(j7 (n9 (a6 (dOp p9 (dOp k0 (dOp pIx (dL 0) (dC (.int 1))) (dOp pIx (dL 1) (dC (.int 2)))) (dOp k0 (dOp pIx (dL 0) (dC (.int 2))) (dOp pIx (dL 1) (dC (.int 1))))) (a6 (dOp p9 (dOp k0 (dOp pIx (dL 0) (dC (.int 2))) (dOp pIx (dL 1) (dC (.int 0)))) (dOp k0 (dOp pIx (dL 0) (dC (.int 0))) (dOp pIx (dL 1) (dC (.int 2))))) (a6 (dOp p9 (dOp k0 (dOp pIx (dL 0) (dC (.int 0))) (dOp pIx (dL 1) (dC (.int 1)))) (dOp k0 (dOp pIx (dL 0) (dC (.int 1))) (dOp pIx (dL 1) (dC (.int 0))))) a8)))))
noncomputable def a0a:DFn:=mFn 2 (b0D)
noncomputable def b0f (m_upright:DFn):DM:=(j7 (c7 m_upright (a6 (dV 0) (a6 (dV 1) a8))))
noncomputable def a5h (m_upright:DFn):DFn:=mFn 2 (b0f m_upright)
noncomputable def b0c (m_lowest:DFn) (m_upright:DFn):DM:=(j7 (c7 m_lowest (a6 (c7 m_upright (a6 (dV 0) (a6 (dV 1) a8))) a8)))
noncomputable def a37 (m_lowest:DFn) (m_upright:DFn):DFn:=mFn 2 (b0c m_lowest m_upright)
noncomputable abbrev a1b (m_turn:DFn) (m_crossing:DFn) (m_straight:DFn) (m_edges:DFn):DM:=(c9 (i8 (c7 m_turn (a6 (dV 1) (a6 (dV 2) (a6 (dV 5) a8)))) (d0 7)) (c9 (n8 (dB (dOp pNe (dL 7) (dUn p8 (dC (.int 1))))) (F5 4 (dV 5)) o7) (n8 (dB (dOp pEq (dOp k0 (dL 7) (c7 m_turn (a6 (dV 1) (a6 (dV 2) (a6 (dV 6) a8))))) (dUn p8 (dC (.int 1))))) (F5 4 (c7 m_crossing (a6 (dV 3) (a6 (c7 m_straight (a6 (dV 5) (a6 (dV 6) a8))) a8)))) o7)))
noncomputable def a3Q (m_turn:DFn) (m_crossing:DFn) (m_straight:DFn) (m_edges:DFn):DM:=(c9 (i8 (c7 m_straight (a6 (dV 1) (a6 (dV 2) a8))) (d0 3)) (c9 (E4 4 (t7 a8)) (c9 (J8 (c7 m_edges (a6 (dV 0) a8)) (w6 2 (t9 (d0 5) (t9 (d0 6) w8))) (a1b m_turn m_crossing m_straight m_edges)) (j7 (dV 4)))))
noncomputable def a2O (m_turn:DFn) (m_crossing:DFn) (m_straight:DFn) (m_edges:DFn):DFn:=mFn 8 (a3Q m_turn m_crossing m_straight m_edges)
noncomputable def b2r (m_shape_of:DFn) (m_clipped:DFn):DM:=(j7 (c7 m_shape_of (a6 (c7 m_clipped (a6 (dV 0) (a6 (dV 1) (a6 (dV 2) a8)))) a8)))
noncomputable def a20 (m_shape_of:DFn) (m_clipped:DFn):DFn:=mFn 3 (b2r m_shape_of m_clipped)
noncomputable def a25 (m_law_sum:DFn) (m_law_minus:DFn) (m_law_xy:DFn):DM:=(c9 (i8 (c7 m_law_xy (a6 (dV 0) a8)) (w6 2 (t9 (d0 2) (t9 (d0 3) w8)))) (c9 (i8 (c7 m_law_xy (a6 (dV 1) a8)) (w6 2 (t9 (d0 4) (t9 (d0 5) w8)))) (j7 (n9 (a6 (c7 m_law_sum (a6 (dV 4) (a6 (c7 m_law_minus (a6 (dV 2) a8)) a8))) (a6 (c7 m_law_sum (a6 (dV 5) (a6 (c7 m_law_minus (a6 (dV 3) a8)) a8))) a8))))))
noncomputable def a2L (m_law_sum:DFn) (m_law_minus:DFn) (m_law_xy:DFn):DFn:=mFn 6 (a25 m_law_sum m_law_minus m_law_xy)
noncomputable def a2q (m_law_sum:DFn) (m_law_minus:DFn) (m_law_product:DFn):DM:=(j7 (c7 m_law_sum (a6 (c7 m_law_product (a6 (dOp pIx (dL 0) (dC (.int 0))) (a6 (dOp pIx (dL 1) (dC (.int 1))) a8))) (a6 (c7 m_law_minus (a6 (c7 m_law_product (a6 (dOp pIx (dL 0) (dC (.int 1))) (a6 (dOp pIx (dL 1) (dC (.int 0))) a8))) a8)) a8))))
noncomputable def a4L (m_law_sum:DFn) (m_law_minus:DFn) (m_law_product:DFn):DFn:=mFn 2 (a2q m_law_sum m_law_minus m_law_product)
noncomputable def a2P (m_law_gone:DFn) (m_law_product:DFn) (m_law_fraction:DFn) (m_law_athwart:DFn) (m_law_apart:DFn):DM:=(c9 (i8 (c7 m_law_apart (a6 (dV 0) (a6 (dV 1) a8))) (d0 4)) (c9 (i8 (c7 m_law_apart (a6 (dV 0) (a6 (dV 2) a8))) (d0 5)) (c9 (i8 (c7 m_law_apart (a6 (dV 2) (a6 (dV 3) a8))) (d0 6)) (c9 (i8 (c7 m_law_athwart (a6 (dV 5) (a6 (dV 6) a8))) (d0 7)) (c9 (i8 (c7 m_law_athwart (a6 (dV 4) (a6 (dV 6) a8))) (d0 8)) (c9 (i8 (c7 m_law_fraction (a6 (dOp k0 (dOp pIx (dL 7) (dC (.int 0))) (dOp pIx (dL 8) (dC (.int 1)))) (a6 (dOp k0 (dOp pIx (dL 7) (dC (.int 1))) (dOp pIx (dL 8) (dC (.int 0)))) a8))) (d0 9)) (j7 (c7 m_law_gone (a6 (dV 0) (a6 (c7 m_law_product (a6 (dV 9) (a6 (dOp pIx (dL 4) (dC (.int 0))) a8))) (a6 (c7 m_law_product (a6 (dV 9) (a6 (dOp pIx (dL 4) (dC (.int 1))) a8))) a8)))))))))))
noncomputable def a1P (m_law_gone:DFn) (m_law_product:DFn) (m_law_fraction:DFn) (m_law_athwart:DFn) (m_law_apart:DFn):DFn:=mFn 10 (a2P m_law_gone m_law_product m_law_fraction m_law_athwart m_law_apart)
noncomputable abbrev a18 (m_law_hull:DFn) (m_law_turn:DFn) (m_law_line_place:DFn):DM:=(c9 (A4 5 6 (a6 (dOp pIx (dL 0) (dOp p9 (dL 4) (dC (.int 1)))) (a6 (dOp pIx (dL 0) (dL 4)) a8))) (n8 (dB (dOp (j8 (fun i j=>decide (i < j))) (dOp k0 (c7 m_law_turn (a6 (dV 1) (a6 (dV 2) (a6 (dV 5) a8)))) (c7 m_law_turn (a6 (dV 1) (a6 (dV 2) (a6 (dV 6) a8))))) (dC (.int 0)))) (F5 3 (c7 m_law_line_place (a6 (dV 5) (a6 (dV 6) (a6 (dV 1) (a6 (dV 2) a8)))))) o7))
noncomputable def a2E (m_law_hull:DFn) (m_law_turn:DFn) (m_law_line_place:DFn):DM:=(c9 (E4 3 (G1 [1,2] (K4 (dV 0)) (dB (dOp (j8 (fun i j=>decide (j ≤ i))) (c7 m_law_turn (a6 (dV 1) (a6 (dV 2) (a6 (dV 0) a8)))) (dC (.int 0)))) (dV 0))) (c9 (a0R (a6 (dCB (one k9) (a6 (dL 0) a8)) a8) (d0 4) (a18 m_law_hull m_law_turn m_law_line_place)) (j7 (dIf (dB (dOp pNe (dL 3) (r8 (t7 a8)))) (c7 m_law_hull (a6 (dV 3) a8)) (dC .non)))))
noncomputable def a4s (m_law_hull:DFn) (m_law_turn:DFn) (m_law_line_place:DFn):DFn:=mFn 7 (a2E m_law_hull m_law_turn m_law_line_place)
noncomputable abbrev a9v (m_belongs:DFn) (m_law_cut:DFn) (m_cut_off:DFn) (m_law_place:DFn) (m_law_draw:DFn) (m_law_round_shape:DFn) (m_law_feed:DFn):DM:=(E4 12 (Y8 a1I (dL 12) (r8 (dCF (one a06) (a6 (a0A (dV 13) (n9 a8)) a8)))))
noncomputable abbrev a1O (m_belongs:DFn) (m_law_cut:DFn) (m_cut_off:DFn) (m_law_place:DFn) (m_law_draw:DFn) (m_law_round_shape:DFn) (m_law_feed:DFn):DM:=(n8 (dB (dOp pNe (dL 7) (dL 8))) (c9 (i8 (dCB (one Q2) (a6 (dL 3) a8)) (d0 9)) (c9 (E4 10 (t7 (a6 (c7 m_cut_off (a6 (dV 3) (a6 (dV 7) (a6 (dV 8) a8)))) (a6 (c7 m_cut_off (a6 (dV 3) (a6 (dV 8) (a6 (dV 7) a8)))) a8)))) (c9 (E4 11 (t7 (a6 (c7 m_law_cut (a6 (dV 3) (a6 (dV 7) (a6 (dV 8) a8)))) (a6 (c7 m_law_cut (a6 (dV 3) (a6 (dV 8) (a6 (dV 7) a8)))) a8)))) (c9 (n8 (dOr (dB (dOp pNe (dCB (one Q2) (a6 (dL 10) a8)) (dCB (one Q2) (a6 (dL 11) a8)))) (dB (dOp pNe (dCB (one Q2) (a6 (dL 3) a8)) (dL 9)))) (j7 (dC (.bl false))) o7) (c9 (E4 12 (t7 a8)) (c9 (J8 (dV 10) (d0 13) (a9v m_belongs m_law_cut m_cut_off m_law_place m_law_draw m_law_round_shape m_law_feed)) (n8 (dOr (dB (dOp pIn (dC (.bl false)) (r8 (a4i [12] (G1 [12] (K4 (dV 3)) E8 (dOp pIn (dL 0) (dL 1))))))) (dB (dOp pIn (dC (.bl false)) (r8 (G1 [3] (K4 (dV 12)) E8 (c7 m_belongs (a6 (dV 1) (a6 (dV 0) a8)))))))) (j7 (dC (.bl false))) o7))))))) o7)
noncomputable abbrev a0n (m_belongs:DFn) (m_law_cut:DFn) (m_cut_off:DFn) (m_law_place:DFn) (m_law_draw:DFn) (m_law_round_shape:DFn) (m_law_feed:DFn):DM:=(c9 (i8 (c7 m_law_round_shape (a6 (dV 1) a8)) (d0 3)) (c9 (i8 (c7 m_law_draw (a6 (dV 1) (a6 (dCB (one k9) (a6 (dL 3) a8)) a8))) (d0 4)) (c9 (i8 (c7 m_law_place (a6 (dV 1) a8)) (d0 5)) (c9 (E4 6 (t7 (a6 (n9 (a6 (dOp pIx (dL 3) (dOp p9 (dL 4) (dC (.int 1)))) (a6 (dOp pIx (dL 3) (dL 4)) a8))) (a6 (n9 (a6 (dOp pIx (dL 3) (dL 4)) (a6 (dOp pIx (dL 3) (dOp p9 (dL 4) (dC (.int 2)))) a8))) (a6 (n9 (a6 (dOp pIx (dL 3) (dL 4)) (a6 (dV 5) a8))) a8))))) (c9 (F5 6 (n9 (a6 (c7 m_law_place (a6 (dV 1) a8)) (a6 (dV 5) a8)))) (J8 (dV 6) (w6 2 (t9 (d0 7) (t9 (d0 8) w8))) (a1O m_belongs m_law_cut m_cut_off m_law_place m_law_draw m_law_round_shape m_law_feed)))))))
noncomputable def a2D (m_belongs:DFn) (m_law_cut:DFn) (m_cut_off:DFn) (m_law_place:DFn) (m_law_draw:DFn) (m_law_round_shape:DFn) (m_law_feed:DFn):DM:=(c9 (i8 (c7 m_law_feed (a6 (dV 0) a8)) (d0 1)) (c9 (a0R (a6 (dC (.int 5)) a8) (d0 2) (a0n m_belongs m_law_cut m_cut_off m_law_place m_law_draw m_law_round_shape m_law_feed)) (j7 (dC (.bl true)))))
noncomputable def a2i (m_belongs:DFn) (m_law_cut:DFn) (m_cut_off:DFn) (m_law_place:DFn) (m_law_draw:DFn) (m_law_round_shape:DFn) (m_law_feed:DFn):DFn:=mFn 14 (a2D m_belongs m_law_cut m_cut_off m_law_place m_law_draw m_law_round_shape m_law_feed)
end T
namespace DL
open PySem L2
theorem a0F {n k:Nat} (hk:0 < k) (h:n < 2 ^ k):n.log2 < k:=by
 by_cases h0:n = 0
 ·subst h0; simpa using hk
 ·exact (Nat.log2_lt h0).mpr h
theorem a0z {i:Int} (h:i.natAbs < 2 ^ 200):A8 i = true:=by
 have:=a0F (by decide) h
 exact decide_eq_true (by omega)
theorem b5O {j:Int} (h0:j ≠ 0) (h:j.natAbs < 2 ^ 200):F8 j = true:=by
 have:=a0F (by decide) h
 unfold F8
 rw [decide_eq_true h0,Bool.true_and]
 exact decide_eq_true (by omega)
theorem a6c (i:Int):A1 (.int i) = true:=by simp [A1,D.plain,D.py,SeqAt.shaped,PyData.canLay0,PyData.depth]
theorem T0 (i j:Int):pNe (.int i) (.int j) = some (.bl (!decide (i = j))):=by
 simp only [pNe,a6c,Bool.and_self,if_true,D.py,PyData.eqv,Bool.beq_eq_decide_eq]
theorem W3 (i j:Int):pEq (.int i) (.int j) = some (.bl (decide (i = j))):=by
 simp only [pEq,a6c,Bool.and_self,if_true,D.py,PyData.eqv,Bool.beq_eq_decide_eq]
theorem b2g (x y:Str):pNe (.str x) (.str y) = some (.bl (!decide (x = y))):=rfl
theorem b5v {i:Int} (h:i.natAbs.log2 < 1920):(PySem.Str.ofString (toString i)).length ≤ 1921:=PyProof.Rows.int_text_len_1921 h
theorem b4b {d:D} (h:S0 d = true):Q2 d = some (.str d.py.shown):=by unfold Q2; rw [if_pos h]
theorem a7r (f:FS) (h:f.kind = 0):f.get "at" = some (.int f.pos):=by unfold FS.get; rw [if_pos h,if_neg (by decide +kernel),if_pos rfl]
theorem a38 {α:Type} {xs:List α} {i:Int} (h0:0 ≤ i) (h1:i < xs.length):atI xs i = xs[i.toNat]?:=by
 unfold atI ixN
 rw [if_pos h0,if_pos h1]
 rfl
theorem R7 {a b:Int} (h:0 < b):0 ≤ a.fmod b ∧ a.fmod b < b:=by
 rw [Int.fmod_eq_emod_of_nonneg a (by omega)]
 exact ⟨Int.emod_nonneg a (by omega),Int.emod_lt_of_pos a h⟩
theorem j5 {a b:DM} {s s1:DS} (h:a s = some (.next,s1)):c9 a b s = b s1:=by simp [c9,h,B0]
theorem Y5 {a b:DM} {s s1:DS} {d:D} (h:a s = some (.ret d,s1)):c9 a b s = some (.ret d,s1):=by simp [c9,h,B0]
theorem a9S {f:DE} {i:Nat} {s s1:DS} {d:D} (h:f s = some (d,s1)):i8 f (d0 i) s = some (.next,{ s1 with sl:=s1.sl.set i (.val d) }):=by simp [i8,h,d0]
theorem a3W {m:DFn} {a:DA} {s s1:DS} {xs:List D} {d:D} {fs:Option FS} (ha:a s = some (xs,s1)) (hm:m xs s1.fs = some (d,fs)):c7 m a s = some (d,{ s1 with fs:=fs }):=by
 unfold c7
 rw [ha,Option.bind_some,hm]
 rfl
theorem c6 {p:D → D → Option D} {a b:DE} {s s1 s2:DS} {x y z:D} (h1:a s = some (x,s1)) (h2:b s1 = some (y,s2)) (h3:p x y = some z):dOp p a b s = some (z,s2):=by
 unfold dOp
 rw [h1,Option.bind_some,h2,Option.bind_some,h3]
 rfl
theorem u8 {a:DE} {b:DA} {s s1 s2:DS} {x:D} {xs:List D} (h1:a s = some (x,s1)) (h2:b s1 = some (xs,s2)):a6 a b s = some (x :: xs,s2):=by
 unfold a6
 rw [h1,Option.bind_some,h2]
 rfl
theorem o9 {f:DE} {t:D → DS → Option DS} {s s1 s2:DS} {d:D} (h1:f s = some (d,s1)) (h2:t d s1 = some s2):i8 f t s = some (.next,s2):=by
 unfold i8
 rw [h1,Option.bind_some,h2]
 rfl
theorem K1 {c:DT} {a b:DM} {s s1:DS} (h:c s = some (true,s1)):n8 c a b s = a s1:=by simp [n8,h]
theorem P4 {c:DT} {a b:DM} {s s1:DS} (h:c s = some (false,s1)):n8 c a b s = b s1:=by simp [n8,h]
theorem A2 {f:DE} {s s1:DS} {d:D} (h:f s = some (d,s1)):j7 f s = some (.ret d,s1):=by simp [j7,h]
theorem G5 {p:D → D → Option D} {a b:DE} {s s1 s2:DS} {x y d:D} (h1:a s = some (x,s1)) (h2:b s1 = some (y,s2)) (h3:p x y = some d):dOp p a b s = some (d,s2):=by simp [dOp,h1,h2,h3]
theorem v8 {f:DE} {s s1:DS} {b:Bool} (h:f s = some (.bl b,s1)):dB f s = some (b,s1):=by simp [dB,h]
theorem u6 {n:Nat} {b:DM} {ds:List D} {fs:Option FS} {d:D} {s:DS} (h:b ⟨ds.map .val ++ List.replicate (n - ds.length) .no,fs⟩ = some (.ret d,s)):mFn n b ds fs = some (d,s.fs):=by simp [mFn,h]
theorem k6 {m:DFn} {a:DA} {sl:List Sl} {fs:Option FS} {xs:List D} {d:D} (ha:a ⟨sl,fs⟩ = some (xs,⟨sl,fs⟩)) (hm:m xs fs = some (d,fs)):c7 m a ⟨sl,fs⟩ = some (d,⟨sl,fs⟩):=a3W (s1:=⟨sl,fs⟩) ha hm
theorem J7 {m:DFn} {a:DA} {sl:List Sl} {fs fs':Option FS} {xs:List D} {d:D} (ha:a ⟨sl,fs⟩ = some (xs,⟨sl,fs⟩)) (hm:m xs fs = some (d,fs')):c7 m a ⟨sl,fs⟩ = some (d,⟨sl,fs'⟩):=a3W (s1:=⟨sl,fs⟩) ha hm
theorem Y4 {m:DFn} {a:DA} {sl sl':List Sl} {fs fs' fs2:Option FS} {xs:List D} {d:D} (ha:a ⟨sl,fs⟩ = some (xs,⟨sl',fs'⟩)) (hm:m xs fs' = some (d,fs2)):c7 m a ⟨sl,fs⟩ = some (d,⟨sl',fs2⟩):=a3W (s1:=⟨sl',fs'⟩) ha hm
theorem a75 {a b c:DE} {s s1 s2 s3:DS} {x y z:D} (h1:a s = some (x,s1)) (h2:b s1 = some (y,s2)) (h3:c s2 = some (z,s3)):n9 (a6 a (a6 b (a6 c a8))) s = some (.tup [x,y,z],s3):=by
 unfold n9
 rw [u8 h1 (u8 h2 (u8 h3 rfl)),Option.bind_some]
 exact if_pos (e:=(none:Option (D × DS))) (show 3 ≤ sizeLine by decide)
theorem M9 {t:D → DS → Option DS} {b:DM} {d:D} {r:List D} {s s1 s2:DS} (h1:t d s = some s1) (h2:b s1 = some (.next,s2)):A9 t b (d :: r) s = A9 t b r s2:=by
 rw [A9,h1,Option.bind_some,h2]
 rfl
theorem T2 {a b:DE} {s s1 s2:DS} {x y:D} (h1:a s = some (x,s1)) (h2:b s1 = some (y,s2)):n9 (a6 a (a6 b a8)) s = some (.tup [x,y],s2):=by
 unfold n9
 rw [u8 h1 (u8 h2 rfl),Option.bind_some]
 exact if_pos (e:=(none:Option (D × DS))) (show 2 ≤ sizeLine by decide)
theorem b2O {i j:Nat} {f:DA} {s s1 s2:DS} {a b:D} (h:f s = some ([a,b],s1)) (e:{ s1 with sl:=(s1.sl.set i (.val a)).set j (.val b) } = s2):A4 i j f s = some (.next,s2):=by
 unfold A4
 rw [h]
 exact congrArg (fun z=>some (Fl.next,z)) e
theorem a0X {f:DE} {s s1:DS} {b:Bool} (h:f s = some (.bl b,s1)):dTr f s = some (b,s1):=by
 unfold dTr
 rw [h]
 rfl
theorem U6 {a b:DT} {s s1:DS} {r:Option (Bool × DS)} (h1:a s = some (true,s1)) (h2:b s1 = r):v4 a b s = r:=by
 unfold v4
 rw [h1,Option.bind_some,if_pos rfl]
 exact h2
theorem a0s {a b:DT} {s s1:DS} (h1:a s = some (false,s1)):v4 a b s = some (false,s1):=by
 unfold v4
 rw [h1,Option.bind_some,if_neg Bool.false_ne_true]
theorem a3O {a b:DT} {s s1:DS} (h1:a s = some (true,s1)):dOr a b s = some (true,s1):=by
 unfold dOr
 rw [h1,Option.bind_some,if_pos rfl]
theorem V7 {a b:DT} {s s1:DS} {r:Option (Bool × DS)} (h1:a s = some (false,s1)) (h2:b s1 = r):dOr a b s = r:=by
 unfold dOr
 rw [h1,Option.bind_some,if_neg Bool.false_ne_true]
 exact h2
theorem R8 {c:DT} {a:DM} {s s1:DS} (h:c s = some (false,s1)):n8 c a o7 s = some (.next,s1):=by
 rw [P4 h]
 rfl
theorem G8 {i:Nat} {f:DA} {s s1:DS} {ds:List D} (h:f s = some (ds,s1)) (hi:i < s1.sl.length):E4 i f s = some (.next,{ s1 with sl:=s1.sl.set i (.own ds) }):=by
 unfold E4
 rw [h,Option.bind_some,if_pos hi]
theorem b0z {idx:List Nat} {fi:DA} {fc:DT} {fe:DE} {s s1:DS} {ds R:List D} {fs':Option FS} (h:fi s = some (ds,s1)) (hz:ds.length ≤ sizeLine) (c:B6 (mk2 idx s1.sl) fc fe ds s1.fs = some (R,fs')):X2 idx fi fc fe s = some (R,{ s1 with fs:=fs' }):=by
 unfold X2
 rw [h,Option.bind_some,if_pos hz,c]
 rfl
theorem S8 {f:DA} {s s1:DS} {ds:List D} (h:f s = some (ds,s1)):r8 f s = some (.lst ds,s1):=by
 unfold r8
 rw [h]
 rfl
theorem a6E {p:D → D → Option (List D)} {a b:DE} {s s1 s2:DS} {x y:D} {z:List D} (h1:a s = some (x,s1)) (h2:b s1 = some (y,s2)) (h3:p x y = some z):Y8 p a b s = some (z,s2):=by
 unfold Y8
 rw [h1,Option.bind_some,h2,Option.bind_some,h3]
 rfl
theorem a1v {idx:List Nat} {fi:DA} {fc:DT} {fe:DE} {s s1:DS} {ds R:List D} (h:fi s = some (ds,s1)) (hz:ds.length ≤ sizeLine) (c:B6 (fun d=>some (.val d :: Q0 idx s1.sl)) fc fe ds s1.fs = some (R,s1.fs)):G1 idx fi fc fe s = some (R,s1):=by
 unfold G1
 rw [h,Option.bind_some,if_pos hz,c]
 rfl
theorem Q4 {i:Nat} {f:DE} {s s1:DS} {ds ds0:List D} {d:D} (h0:s.sl[i]? = some (.own ds0)) (h:f s = some (d,s1)) (h1:s1.sl[i]? = some (.own ds)) (hl:ds.length < sizeLine):F5 i f s = some (.next,{ s1 with sl:=s1.sl.set i (.own (ds ++ [d])) }):=by
 unfold F5
 rw [h0]
 show (f s).bind _ = _
 rw [h,Option.bind_some]
 show (match s1.sl[i]? with | some (.own ds)=>_ | _=>_) = _
 rw [h1]
 exact if_pos hl
theorem a3a {a b:DE} {s s1 s2:DS} {x y:D} (h:a s = some (x,s1)) (h2:b s1 = some (y,s2)):t7 (a6 a (a6 b a8)) s = some ([x,y],s2):=by
 unfold t7
 rw [u8 h (u8 h2 rfl),Option.bind_some]
 exact if_pos (e:=(none:Option (List D × DS))) (show 2 ≤ sizeLine by decide)
theorem F0 {p:D → Option D} {a:DE} {s s1:DS} {x d:D} (h:a s = some (x,s1)) (hp:p x = some d):dCB (one p) (a6 a a8) s = some (d,s1):=by
 unfold dCB
 rw [u8 h rfl,Option.bind_some]
 show (p x).map _ = _
 rw [hp]
 rfl
theorem Y2 {c:DT} {a b:DE} {s s1:DS} (h:c s = some (true,s1)):dIf c a b s = a s1:=by
 unfold dIf
 rw [h]
 rfl
theorem a1p {c:DT} {a b:DE} {s s1:DS} (h:c s = some (false,s1)):dIf c a b s = b s1:=by
 unfold dIf
 rw [h]
 rfl
noncomputable def fr (p:Rat):D:=.tup [.int p.num,.int p.den]
noncomputable def Sz (k:Nat) (p:Rat):Prop:=p.num.natAbs < 2 ^ k ∧ p.den < 2 ^ k
theorem Sz.mono {k l:Nat} {p:Rat} (h:Sz k p) (hl:k ≤ l):Sz l p:=
 ⟨Nat.lt_of_lt_of_le h.1 (Nat.pow_le_pow_right (by decide) hl),Nat.lt_of_lt_of_le h.2 (Nat.pow_le_pow_right (by decide) hl)⟩
theorem a4T {a b:Int} (hb:b ≠ 0):(Rat.divInt a b).num.natAbs ≤ a.natAbs ∧ (Rat.divInt a b).den ≤ b.natAbs:=by
 constructor
 ·rw [Rat.num_divInt,Int.natAbs_ediv_of_dvd (Int.dvd_mul_of_dvd_right (Int.gcd_dvd_right ..))]
  rw [Int.natAbs_mul,Int.natAbs_sign_of_ne_zero hb,Nat.one_mul]
  exact Nat.div_le_self _ _
 ·rw [Rat.den_divInt,if_neg hb]
  exact Nat.div_le_self _ _
theorem Sz.of_divInt {k:Nat} {a b:Int} (hb:b ≠ 0) (h1:a.natAbs < 2 ^ k) (h2:b.natAbs < 2 ^ k):Sz k (Rat.divInt a b):=
 ⟨Nat.lt_of_le_of_lt (a4T hb).1 h1,Nat.lt_of_le_of_lt (a4T hb).2 h2⟩
theorem a7O {a b k l:Nat} (h1:a < 2 ^ k) (h2:b < 2 ^ l):a * b < 2 ^ (k + l):=by
 rw [Nat.pow_add]
 exact Nat.mul_lt_mul_of_lt_of_lt h1 h2
theorem b1n {a b k:Nat} (h1:a < 2 ^ k) (h2:b < 2 ^ k):a + b < 2 ^ (k + 1):=by
 rw [Nat.pow_succ]; omega
noncomputable def Bd (k:Nat) (i:Int):Prop:=i.natAbs < 2 ^ k
theorem Bd.mono {k l:Nat} {i:Int} (h:Bd k i) (hl:k ≤ l):Bd l i:=Nat.lt_of_lt_of_le h (Nat.pow_le_pow_right (by decide) hl)
theorem Bd.mul {k l:Nat} {i j:Int} (h1:Bd k i) (h2:Bd l j):Bd (k + l) (i * j):=by
 unfold Bd; rw [Int.natAbs_mul]; exact a7O h1 h2
theorem Bd.add {k l:Nat} {i j:Int} (h1:Bd k i) (h2:Bd l j):Bd (max k l + 1) (i + j):=
 Nat.lt_of_le_of_lt (Int.natAbs_add_le i j) (b1n (h1.mono (Nat.le_max_left ..)) (h2.mono (Nat.le_max_right ..)))
theorem Bd.neg {k:Nat} {i:Int} (h1:Bd k i):Bd k (-i):=by unfold Bd; rw [Int.natAbs_neg]; exact h1
theorem Bd.sub {k l:Nat} {i j:Int} (h1:Bd k i) (h2:Bd l j):Bd (max k l + 1) (i - j):=by rw [Int.sub_eq_add_neg]; exact h1.add h2.neg
theorem Bd.gcd {k:Nat} {i:Int} {j:Int} (h:Bd k j) (hj:j ≠ 0):Bd k (Int.gcd i j:Int):=by
 have:Int.gcd i j ≤ j.natAbs:=Nat.le_of_dvd (by omega) (Nat.gcd_dvd_right i.natAbs j.natAbs)
 exact Nat.lt_of_le_of_lt this h
theorem Bd.bits {k:Nat} {i:Int} (h:Bd k i) (hk:k ≤ 8000):A8 i = true:=by
 have:=a0F (k:=8000) (by decide) (h.mono hk)
 exact decide_eq_true (by omega)
theorem Bd.div {k:Nat} {i:Int} (h:Bd k i) (h0:i ≠ 0) (hk:k ≤ 8000):F8 i = true:=by
 have:=a0F (k:=8000) (by decide) (h.mono hk)
 unfold F8
 rw [decide_eq_true h0,Bool.true_and]
 exact decide_eq_true (by omega)
theorem Sz.num {k:Nat} {p:Rat} (h:Sz k p):Bd k p.num:=h.1
theorem Sz.den {k:Nat} {p:Rat} (h:Sz k p):Bd k (p.den:Int):=h.2
theorem F1 (p:Rat):(p.den:Int) ≠ 0:=by have:=p.den_nz; omega
theorem a2K (p:Rat):(0:Int) < p.den:=by have:=p.den_nz; omega
theorem a10 (p:Rat):p = Rat.divInt p.num p.den:=(Rat.num_divInt_den p).symm
theorem Sz.mul {k l:Nat} {p q:Rat} (h1:Sz k p) (h2:Sz l q):Sz (k + l) (p * q):=by
 rw [a10 p,a10 q,Rat.divInt_mul_divInt]
 exact Sz.of_divInt (Int.mul_ne_zero (F1 p) (F1 q)) (Bd.mul h1.num h2.num) (Bd.mul h1.den h2.den)
theorem Sz.add {k l:Nat} {p q:Rat} (h1:Sz k p) (h2:Sz l q):Sz (k + l + 1) (p + q):=by
 rw [a10 p,a10 q,Rat.divInt_add_divInt _ _ (F1 p) (F1 q)]
 refine Sz.of_divInt (Int.mul_ne_zero (F1 p) (F1 q)) ?_ (Bd.mono (Bd.mul h1.den h2.den) (by omega))
 have e1:=Bd.mul h1.num h2.den
 have e2:=Bd.mul h2.num h1.den
 exact Bd.mono (Bd.add e1 e2) (by omega)
theorem Sz.neg {k:Nat} {p:Rat} (h:Sz k p):Sz k (-p):=⟨by rw [Rat.neg_num,Int.natAbs_neg]; exact h.1,h.2⟩
theorem Sz.sub {k l:Nat} {p q:Rat} (h1:Sz k p) (h2:Sz l q):Sz (k + l + 1) (p - q):=by rw [Rat.sub_eq_add_neg]; exact h1.add h2.neg
theorem Sz.int {k:Nat} {i:Int} (h:Bd k i) (hk:1 ≤ k):Sz k (i:Rat):=⟨h,Nat.lt_of_lt_of_le (by decide:1 < 2 ^ 1) (Nat.pow_le_pow_right (by decide) hk)⟩
theorem b07 {a b:Int} (hb:0 < b):((Rat.divInt a b).den:Int) = b / (Int.gcd a b:Int):=by
 rw [Rat.den_divInt,if_neg (by omega),Int.gcd_comm]
 rw [Int.natCast_ediv,Int.natAbs_of_nonneg (by omega)]
end DL
namespace T
open PySem L2 DL
noncomputable abbrev gT:DT:=dB (dOp pNe (dL 3) (dC (.int 0)))
noncomputable abbrev gB:DM:=c9 (i8 (dOp D0 (dL 2) (dL 3)) (d0 4)) (c9 (i8 (dV 3) (d0 2)) (i8 (dV 4) (d0 3)))
theorem a6L (a b:Sl) (g r:Int) (x:Sl) (fs:Option FS):gT ⟨[a,b,.val (.int g),.val (.int r),x],fs⟩ = some (!decide (r = 0),⟨[a,b,.val (.int g),.val (.int r),x],fs⟩):=by
 simp [dB,dOp,dL,dC,T0]
theorem b0S (a b:Sl) (g r:Int) (x:Sl) (fs:Option FS) (h:r ≠ 0):gB ⟨[a,b,.val (.int g),.val (.int r),x],fs⟩ =
  some (.next,⟨[a,b,.val (.int r),.val (.int (g.fmod r)),.val (.int (g.fmod r))],fs⟩):=by
 simp [c9,B0,i8,dOp,dL,dV,d0,D0,h]
theorem b1d (a b:Sl) (fs:Option FS) (r:Nat):∀ (g:Nat) (x:Sl),∃ y,D8 gT gB ⟨[a,b,.val (.int g),.val (.int r),x],fs⟩ = some (.next,⟨[a,b,.val (.int (Nat.gcd g r)),.val (.int 0),y],fs⟩):=by
 induction r using Nat.strongRecOn with
 | ind r ih=>
  intro g x
  by_cases h:r = 0
  ·subst h
   refine ⟨x,?_⟩
   rw [Nat.gcd_zero_right]
   exact M6 (by rw [a6L]; rfl)
  ·have e:((g:Int).fmod (r:Int)) = ((g % r:Nat):Int):=by rw [Int.fmod_eq_emod_of_nonneg _ (by omega)]; rfl
   obtain ⟨y,hy⟩:=ih (g % r) (Nat.mod_lt _ (by omega)) r (.val (.int ((g:Int).fmod (r:Int))))
   refine ⟨y,?_⟩
   have hg:Nat.gcd g r = Nat.gcd r (g % r):=by rw [Nat.gcd_comm g r,Nat.gcd_rec,Nat.gcd_comm]
   rw [hg]
   refine N6 (s1:=⟨[a,b,.val (.int g),.val (.int r),x],fs⟩) (by rw [a6L,decide_eq_false (by omega)]; rfl) (b0S _ _ _ _ _ _ (by omega)) ?_
   rw [e] at hy ⊢
   exact hy
theorem a1K (a:Int):(if a < 0 then -a else a) = ((a.natAbs:Nat):Int):=by split <;> omega
theorem b4e (a b:Int) (fs:Option FS):L7 [.int a,.int b] fs = some (.int (Int.gcd a b),fs):=by
 obtain ⟨y,hy⟩:=b1d (.val (.int a)) (.val (.int b)) fs b.natAbs a.natAbs .no
 refine u6 (s:=⟨[.val (.int a),.val (.int b),.val (.int (Int.gcd a b)),.val (.int 0),y],fs⟩) ?_
 show a2M ⟨[.val (.int a),.val (.int b),.no,.no,.no],fs⟩ = _
 unfold a2M
 rw [j5 (s1:=⟨[.val (.int a),.val (.int b),.val (.int a.natAbs),.no,.no],fs⟩) (by simp [i8,dCB,a6,a8,dL,one,Q8,d0,a1K])]
 rw [j5 (s1:=⟨[.val (.int a),.val (.int b),.val (.int a.natAbs),.val (.int b.natAbs),.no],fs⟩) (by simp [i8,dCB,a6,a8,dL,one,Q8,d0,a1K])]
 rw [j5 hy]
 exact A2 (by simp [dV,Int.gcd])
theorem b5d (a:Int):Int.gcd 0 a = a.natAbs:=by simp [Int.gcd]
theorem b04 (a b:Int):Int.gcd ((a.natAbs:Nat):Int) b = Int.gcd a b:=by simp [Int.gcd]
theorem a3c (P:D) (acc x:Int) (x2:Sl) (r:List D) (fs:Option FS):A9 (d0 2) (a0l L7) (.int x :: r) ⟨[.val P,.val (.int acc),x2],fs⟩ = A9 (d0 2) (a0l L7) r ⟨[.val P,.val (.int (Int.gcd acc x)),.val (.int x)],fs⟩:=M9 (s1:=⟨[.val P,.val (.int acc),.val (.int x)],fs⟩) rfl (o9 (k6 rfl (b4e acc x fs)) rfl)
theorem b1k {ds:List D} {g:Int} {x2:Sl} {fs:Option FS} (h:A9 (d0 2) (a0l L7) ds ⟨[.val (.tup ds),.val (.int 0),.no],fs⟩ = some (.next,⟨[.val (.tup ds),.val (.int g),x2],fs⟩)):W1 L7 [.tup ds] fs = some (.int g,fs):=by
 refine u6 (s:=⟨[.val (.tup ds),.val (.int g),x2],fs⟩) ?_
 show a42 L7 ⟨[.val (.tup ds),.no,.no],fs⟩ = _
 unfold a42
 have lp:J8 (dV 0) (d0 2) (a0l L7) ⟨[.val (.tup ds),.val (.int 0),.no],fs⟩ = some (.next,⟨[.val (.tup ds),.val (.int g),x2],fs⟩):=h
 rw [j5 (s1:=⟨[.val (.tup ds),.val (.int 0),.no],fs⟩) (o9 rfl rfl),j5 lp]
 exact A2 rfl
theorem b4k (a b c:Int) (fs:Option FS):W1 L7 [.tup [.int a,.int b,.int c]] fs = some (.int (Int.gcd (Int.gcd a b:Int) c),fs):=b1k (x2:=.val (.int c)) (by
 rw [a3c,a3c,a3c,b5d,b04]
 rfl)
theorem O7 {a g c:Int} (hg:g ≠ 0) (e:a = g * c):a.fdiv g = c:=by subst e; exact Int.mul_fdiv_cancel_left c hg
theorem b45 (a b:Int) (hb:b ≠ 0):let g:Int:=if b < 0 then -(Int.gcd a b:Int) else (Int.gcd a b:Int)
  g ≠ 0 ∧ a.fdiv g = (Rat.divInt a b).num ∧ b.fdiv g = ((Rat.divInt a b).den:Int):=by
 intro g
 have g0:0 < Int.gcd a b:=Int.gcd_pos_of_ne_zero_right a hb
 obtain ⟨c,hc⟩:=Int.gcd_dvd_left a b
 obtain ⟨d,hd⟩:=Int.gcd_dvd_right a b
 have e1:(Rat.divInt a b).num = if b < 0 then -c else c:=by
  rw [Rat.num_divInt,Int.gcd_comm]
  split
  ·rename_i h
   rw [Int.sign_eq_neg_one_of_neg h]
   refine Int.ediv_eq_of_eq_mul_right (by omega) ?_
   grind
  ·rename_i h
   rw [Int.sign_eq_one_of_pos (by omega),Int.one_mul]
   exact Int.ediv_eq_of_eq_mul_right (by omega) hc
 have e2:((Rat.divInt a b).den:Int) = if b < 0 then -d else d:=by
  rw [Rat.den_divInt,if_neg hb,Int.gcd_comm,Int.natCast_ediv]
  split
  ·refine Int.ediv_eq_of_eq_mul_right (by omega) ?_
   grind
  ·refine Int.ediv_eq_of_eq_mul_right (by omega) ?_
   grind
 rw [e1,e2]
 by_cases h:b < 0
 ·have eg:g = -(Int.gcd a b:Int):=if_pos h
  rw [eg,if_pos h,if_pos h]
  exact ⟨by omega,O7 (by omega) (by grind),O7 (by omega) (by grind)⟩
 ·have eg:g = (Int.gcd a b:Int):=if_neg h
  rw [eg,if_neg h,if_neg h]
  exact ⟨by omega,O7 (by omega) hc,O7 (by omega) hd⟩
theorem a7x {k:Nat} {a b:Int} (hb:b ≠ 0) (h:Bd k b) (hk:k ≤ 8000):F8 (if b < 0 then -(Int.gcd a b:Int) else (Int.gcd a b:Int)) = true:=by
 have g0:0 < Int.gcd a b:=Int.gcd_pos_of_ne_zero_right a hb
 split
 ·exact (Bd.gcd h hb).neg.div (by omega) hk
 ·exact (Bd.gcd h hb).div (by omega) hk
theorem sz2:(2:Nat) ≤ sizeLine:=by decide
theorem a9R (a b c:D):atI [a,b,c] (-1) = some c:=b3X [a,b] c
theorem a1R (a b:D):atI [a,b] 0 = some a:=rfl
theorem a1m (a b:D):atI [a,b] 1 = some b:=rfl
theorem X8 (a b c:D):atI [a,b,c] 0 = some a:=rfl
theorem Z9 (a b c:D):atI [a,b,c] 1 = some b:=rfl
theorem Z2 (a b c:D):atI [a,b,c] 2 = some c:=rfl
noncomputable abbrev FL:DFn:=a4g (W1 L7)
theorem a7I {gg:Int} (dg:F8 gg = true) (fs:Option FS):∀ xs:List Int,B6 (fun d=>some [.val d,.val (.int gg)]) E8 (dOp F2 (dL 0) (dL 1)) (xs.map .int) fs = some (xs.map (fun x=>.int (x.fdiv gg)),fs)
 | []=>rfl
 | x :: r=>by
  have e:dOp F2 (dL 0) (dL 1) ⟨[.val (.int x),.val (.int gg)],fs⟩ = some (.int (x.fdiv gg),⟨[.val (.int x),.val (.int gg)],fs⟩):=c6 rfl rfl (if_pos dg)
  have ih:=a7I dg fs r
  rw [List.map_cons,B6,Option.bind_some]
  show ((dOp F2 (dL 0) (dL 1) ⟨[.val (.int x),.val (.int gg)],fs⟩).bind _) = _
  rw [e,Option.bind_some]
  show (B6 _ E8 _ (r.map .int) fs).map _ = _
  rw [ih]
  rfl
theorem b2u {ds:List D} {d g:Int} (h:atI ds (-1) = some (.int d)) (fs:Option FS):n8 (dB (dOp (j8 (fun i j=>decide (i < j))) (dOp pIx (dL 0) (dUn p8 (dC (.int 1)))) (dC (.int 0)))) (i8 (dUn p8 (dL 1)) (d0 1)) o7 ⟨[.val (.tup ds),.val (.int g)],fs⟩ = some (.next,⟨[.val (.tup ds),.val (.int (if d < 0 then -g else g))],fs⟩):=by
 have t:dB (dOp (j8 (fun i j=>decide (i < j))) (dOp pIx (dL 0) (dUn p8 (dC (.int 1)))) (dC (.int 0))) ⟨[.val (.tup ds),.val (.int g)],fs⟩ = some (decide (d < 0),⟨[.val (.tup ds),.val (.int g)],fs⟩):=v8 (c6 (c6 rfl rfl (show pIx (.tup ds) (.int (-1)) = some (.int d) from h)) rfl rfl)
 by_cases nb:d < 0
 ·rw [decide_eq_true nb] at t
  rw [if_pos nb,K1 t]
  rfl
 ·rw [decide_eq_false nb] at t
  rw [if_neg nb,P4 t]
  rfl
theorem b40 {xs:List Int} {d g:Int} (fs:Option FS) (hl:xs.length ≤ 10) (hd:W1 L7 [.tup (xs.map .int)] fs = some (.int g,fs)) (h:atI (xs.map D.int) (-1) = some (.int d)) (dg:F8 (if d < 0 then -g else g) = true):FL [.tup (xs.map .int)] fs = some (.tup (xs.map fun x=>.int (x.fdiv (if d < 0 then -g else g))),fs):=by
 have nf:=b2u (g:=g) h fs
 have cd:=a7I dg fs xs
 have ll:(xs.map D.int).length ≤ sizeLine:=Nat.le_trans (by rw [List.length_map]; exact hl) (show 10 ≤ sizeLine by decide)
 generalize xs.map D.int = ds at *
 generalize (if d < 0 then -g else g) = gg at *
 refine u6 (s:=⟨[.val (.tup ds),.val (.int gg)],fs⟩) ?_
 show a2S (W1 L7) ⟨[.val (.tup ds),.no],fs⟩ = _
 unfold a2S
 rw [j5 (s1:=⟨[.val (.tup ds),.val (.int g)],fs⟩) (o9 (k6 rfl hd) rfl),j5 nf]
 exact A2 (F0 (p:=Y7) (S8 (a1v (idx:=[1]) (ds:=ds) (s1:=⟨[.val (.tup ds),.val (.int gg)],fs⟩) rfl ll cd)) rfl)
noncomputable abbrev lgT:DT:=dB (dOp (j8 (fun i j=>decide (j < i))) (dL 3) (dC (.int 0)))
noncomputable abbrev lgB:DM:=A4 2 3 (a6 (dV 3) (a6 (dOp D0 (dL 2) (dL 3)) a8))
theorem b05 (a b:Sl) (fs:Option FS) (r:Nat):∀ (g:Nat),D8 lgT lgB ⟨[a,b,.val (.int g),.val (.int r)],fs⟩ = some (.next,⟨[a,b,.val (.int (Nat.gcd g r)),.val (.int 0)],fs⟩):=by
 induction r using Nat.strongRecOn with
 | ind r ih=>
  intro g
  by_cases h:r = 0
  ·subst h
   rw [Nat.gcd_zero_right]
   exact M6 (by simp [c9,B0,i8,dOp,dUn,dC,dL,dV,d0,n8,dB,j7,c7,a6,a8,n9,o7,dCB,one,r8,t7,dIf,v4,dOr,C4,B8,B5,C3,pIx,t6,p9,p8,j8,k9,w6,t9,w8,A4,dTr,B4])
  ·have e:((g:Int).fmod (r:Int)) = ((g % r:Nat):Int):=by rw [Int.fmod_eq_emod_of_nonneg _ (by omega)]; rfl
   have hy:=ih (g % r) (Nat.mod_lt _ (by omega)) r
   have hg:Nat.gcd g r = Nat.gcd r (g % r):=by rw [Nat.gcd_comm g r,Nat.gcd_rec,Nat.gcd_comm]
   rw [hg]
   have hr:¬ (r:Int) = 0:=by omega
   have hr2:(0:Int) < r:=by omega
   refine N6 (s1:=⟨[a,b,.val (.int g),.val (.int r)],fs⟩) (s2:=⟨[a,b,.val (.int r),.val (.int ((g % r:Nat):Int))],fs⟩) (by simp [c9,B0,i8,dOp,dUn,dC,dL,dV,d0,n8,dB,j7,c7,a6,a8,n9,o7,dCB,one,r8,t7,dIf,v4,dOr,C4,B8,B5,C3,pIx,t6,p9,p8,j8,k9,w6,t9,w8,A4,dTr,B4]; omega) ?_ hy
   rw [← e]
   simp [A4,a6,a8,dV,dOp,dL,D0,h]
noncomputable abbrev LF:DFn:=B3
noncomputable abbrev LS:DFn:=N9 LF
noncomputable abbrev LP:DFn:=V5 LF
theorem N8 {k:Nat} (a b:Int) (fs:Option FS) (hb:b ≠ 0) (h:Bd k b) (hk:k ≤ 8000):LF [.int a,.int b] fs = some (fr (Rat.divInt a b),fs):=by
 obtain ⟨p0,p1,p2⟩:=b45 a b hb
 have dg:=a7x (a:=a) hb h hk
 have hy:=b05 (.val (.int a)) (.val (.int b)) fs b.natAbs a.natAbs
 refine u6 (s:=⟨[.val (.int a),.val (.int b),.val (.int (if b < 0 then -(Int.gcd a b:Int) else (Int.gcd a b:Int))),.val (.int 0)],fs⟩) ?_
 show a4N ⟨[.val (.int a),.val (.int b),.no,.no],fs⟩ = _
 unfold a4N
 rw [j5 (s1:=⟨[.val (.int a),.val (.int b),.val (.int a.natAbs),.no],fs⟩) (by simp [c9,B0,i8,dOp,dUn,dC,dL,dV,d0,n8,dB,j7,c7,a6,a8,n9,o7,dCB,one,r8,t7,dIf,v4,dOr,C4,B8,B5,C3,pIx,t6,p9,p8,j8,k9,w6,t9,w8,A4,dTr,B4,Q8,a1K])]
 rw [j5 (s1:=⟨[.val (.int a),.val (.int b),.val (.int a.natAbs),.val (.int b.natAbs)],fs⟩) (by simp [c9,B0,i8,dOp,dUn,dC,dL,dV,d0,n8,dB,j7,c7,a6,a8,n9,o7,dCB,one,r8,t7,dIf,v4,dOr,C4,B8,B5,C3,pIx,t6,p9,p8,j8,k9,w6,t9,w8,A4,dTr,B4,Q8,a1K])]
 rw [j5 hy]
 rw [j5 (s1:=⟨[.val (.int a),.val (.int b),.val (.int (if b < 0 then -(Int.gcd a b:Int) else (Int.gcd a b:Int))),.val (.int 0)],fs⟩) (by
  by_cases nb:b < 0
  ·simp [c9,B0,i8,dOp,dUn,dC,dL,dV,d0,n8,dB,j7,c7,a6,a8,n9,o7,dCB,one,r8,t7,dIf,v4,dOr,C4,B8,B5,C3,pIx,t6,p9,p8,j8,k9,w6,t9,w8,A4,dTr,B4,nb,Int.gcd]
  ·simp [c9,B0,i8,dOp,dUn,dC,dL,dV,d0,n8,dB,j7,c7,a6,a8,n9,o7,dCB,one,r8,t7,dIf,v4,dOr,C4,B8,B5,C3,pIx,t6,p9,p8,j8,k9,w6,t9,w8,A4,dTr,B4,nb,Int.gcd])]
 generalize hg:(if b < 0 then -(Int.gcd a b:Int) else (Int.gcd a b:Int)) = gg at *
 refine A2 ?_
 unfold fr
 rw [← p1,← p2]
 simp [c9,B0,i8,dOp,dUn,dC,dL,dV,d0,n8,dB,j7,c7,a6,a8,n9,o7,dCB,one,r8,t7,dIf,v4,dOr,C4,B8,B5,C3,pIx,t6,p9,p8,j8,k9,w6,t9,w8,A4,dTr,B4,F2,dg,sz2]
theorem b3m (p q:Rat):p + q = Rat.divInt (p.num * q.den + q.num * p.den) (p.den * q.den):=by
 rw [Rat.add_def',← Rat.divInt_ofNat]; rfl
theorem b2n (p q:Rat):p * q = Rat.divInt (p.num * q.num) (p.den * q.den):=by
 rw [Rat.mul_def',← Rat.divInt_ofNat]; rfl
theorem a2f (p q:Rat):(p.den:Int) * q.den ≠ 0:=Int.mul_ne_zero (F1 p) (F1 q)
theorem Q1 {k l:Nat} (p q:Rat) (fs:Option FS) (h1:Sz k p) (h2:Sz l q) (hk:k + l ≤ 8000):LS [fr p,fr q] fs = some (fr (p + q),fs):=by
 have b1:=h1.num.bits (by omega)
 have b2:=h1.den.bits (by omega)
 have b3:=h2.num.bits (by omega)
 have b4:=h2.den.bits (by omega)
 have e:=N8 (p.num * q.den + q.num * p.den) (p.den * q.den) fs (a2f p q) (Bd.mul h1.den h2.den) hk
 rw [← b3m] at e
 refine u6 (s:=⟨[.val (fr p),.val (fr q),.val (.int (p.num * q.den + q.num * p.den))],fs⟩) ?_
 show a4p LF ⟨[.val (fr p),.val (fr q),.no],fs⟩ = _
 simp [a4p,c9,B0,i8,dOp,dUn,dC,dL,dV,d0,n8,dB,j7,c7,a6,a8,n9,o7,dCB,one,r8,t7,dIf,v4,dOr,C4,B8,B5,C3,pIx,t6,p9,p8,j8,k9,w6,t9,w8,A4,dTr,B4,fr,a1R,a1m,k0,b1,b2,b3,b4,e]
theorem T8 {k l:Nat} (p q:Rat) (fs:Option FS) (h1:Sz k p) (h2:Sz l q) (hk:k + l ≤ 8000):LP [fr p,fr q] fs = some (fr (p * q),fs):=by
 have b1:=h1.num.bits (by omega)
 have b2:=h1.den.bits (by omega)
 have b3:=h2.num.bits (by omega)
 have b4:=h2.den.bits (by omega)
 have e:=N8 (p.num * q.num) (p.den * q.den) fs (a2f p q) (Bd.mul h1.den h2.den) hk
 rw [← b2n] at e
 refine u6 (s:=⟨[.val (fr p),.val (fr q)],fs⟩) ?_
 show a4c LF ⟨[.val (fr p),.val (fr q)],fs⟩ = _
 simp [a4c,c9,B0,i8,dOp,dUn,dC,dL,dV,d0,n8,dB,j7,c7,a6,a8,n9,o7,dCB,one,r8,t7,dIf,v4,dOr,C4,B8,B5,C3,pIx,t6,p9,p8,j8,k9,w6,t9,w8,A4,dTr,B4,fr,a1R,a1m,k0,b1,b2,b3,b4,e]
theorem a0q (p:Rat) (fs:Option FS):F7 [fr p] fs = some (fr (-p),fs):=by
 refine u6 (s:=⟨[.val (fr p)],fs⟩) ?_
 show a3o ⟨[.val (fr p)],fs⟩ = _
 simp [a3o,c9,B0,i8,dOp,dUn,dC,dL,dV,d0,n8,dB,j7,c7,a6,a8,n9,o7,dCB,one,r8,t7,dIf,v4,dOr,C4,B8,B5,C3,pIx,t6,p9,p8,j8,k9,w6,t9,w8,A4,dTr,B4,fr,a1R,a1m,sz2]
theorem a6J (a:Int) (n:Nat):a.fdiv (n:Int) = a / (n:Int):=Int.fdiv_eq_ediv_of_nonneg a (by omega)
theorem Y9 (a:Int) {b:Int} (h:b ≠ 0):D0 (.int a) (.int b) = some (.int (a.fmod b)):=by simp [D0,h]
theorem U4 (a:Int) {b:Int} (h:F8 b = true):F2 (.int a) (.int b) = some (.int (a.fdiv b)):=by simp [F2,h]
theorem v3 {a b:Int} (h1:A8 a = true) (h2:A8 b = true):k0 (.int a) (.int b) = some (.int (a * b)):=by simp [k0,h1,h2]
theorem a5i {i:Nat} {key:Str} {fe:DE} {s s1:DS} {d:D} {r:Option (Fl × DS)} (h:fe s = some (d,s1)) (e:dFP i key (fun _=>some (d,s1)) s = r):dFP i key fe s = r:=by
 rw [← e]
 unfold dFP
 rw [h]
set_option maxHeartbeats 4000000 in
theorem b5D (f:FS) (many:Int) (hm:0 < many) (hm2:many < 2 ^ 100) (ht:0 ≤ f.turn) (ht2:f.turn < 2 ^ 40) (hk:f.kind = 0) :
  ∃ r f',C2 [.feed,.int many] (some f) = some (.int r,some f') ∧ 0 ≤ r ∧ r < many ∧ f'.turn = f.turn + 1 ∧ f'.kind = 0:=by
 have dm:F8 many = true:=b5O (by omega) (by omega)
 have hne:many ≠ 0:=by omega
 obtain ⟨cs,ps,lf,tn,kd⟩:=f
 simp only at ht ht2 hk ⊢
 subst hk
 by_cases hl:0 < lf
 ·refine ⟨lf.fmod many,⟨cs,ps,lf.fdiv many,tn + 1,0⟩,?_,(R7 hm).1,(R7 hm).2,rfl,rfl⟩
  refine u6 (s:=⟨[.val .feed,.val (.int many),.val (.int (tn + 1)),.val (.int (lf.fmod many)),.no,.no,.no],some ⟨cs,ps,lf.fdiv many,tn + 1,0⟩⟩) ?_
  show V1 ⟨[.val .feed,.val (.int many),.no,.no,.no,.no,.no],some ⟨cs,ps,lf,tn,0⟩⟩ = _
  unfold V1
  rw [j5 (s1:=⟨[.val .feed,.val (.int many),.val (.int (tn + 1)),.no,.no,.no,.no],some ⟨cs,ps,lf,tn,0⟩⟩) (o9 (c6 rfl rfl rfl) rfl),j5 (s1:=⟨[.val .feed,.val (.int many),.val (.int (tn + 1)),.no,.no,.no,.no],some ⟨cs,ps,lf,tn + 1,0⟩⟩) rfl]
  have c0:dB (dOp (j8 (fun i j=>decide (j < i))) (dFG 0 "left") (dC (.int 0))) ⟨[.val .feed,.val (.int many),.val (.int (tn + 1)),.no,.no,.no,.no],some ⟨cs,ps,lf,tn + 1,0⟩⟩ = some (true,⟨[.val .feed,.val (.int many),.val (.int (tn + 1)),.no,.no,.no,.no],some ⟨cs,ps,lf,tn + 1,0⟩⟩):=by
   rw [← decide_eq_true hl]; rfl
  refine Y5 ?_
  rw [K1 c0,j5 (s1:=⟨[.val .feed,.val (.int many),.val (.int (tn + 1)),.val (.int (lf.fmod many)),.no,.no,.no],some ⟨cs,ps,lf,tn + 1,0⟩⟩) (o9 (c6 rfl rfl (Y9 lf hne)) rfl),
   j5 (s1:=⟨[.val .feed,.val (.int many),.val (.int (tn + 1)),.val (.int (lf.fmod many)),.no,.no,.no],some ⟨cs,ps,lf.fdiv many,tn + 1,0⟩⟩) (a5i (c6 rfl rfl (U4 lf dm)) rfl)]
  rfl
 ·-- the cell
  have cell:∃ c:Int,∀ a b e x y z:Sl,dIf (dB (dOp (j8 (fun i j=>decide (j < i))) (dCB (one k9) (a6 (dL 4) a8)) (dC (.int 0)))) (dOp pIx (dL 4) (dOp D0 (dFG 0 "at") (dCB (one k9) (a6 (dL 4) a8)))) (dC (.int 0)) ⟨[.val .feed,a,b,e,.val (.lst (cs.map .int)),x,y],some ⟨cs,ps,lf,tn + 1,0⟩⟩ =
    some (.int c,⟨[.val .feed,a,b,e,.val (.lst (cs.map .int)),x,y],some ⟨cs,ps,lf,tn + 1,0⟩⟩):=by
   by_cases hc:0 < cs.length
   ·have hi:=R7 (a:=ps) (b:=(cs.length:Int)) (by omega)
    obtain ⟨c,hg⟩:∃ c:Int,atI (cs.map D.int) (ps.fmod (cs.length:Int)) = some (.int c):=by
     have:(ps.fmod (cs.length:Int)).toNat < cs.length:=by omega
     refine ⟨cs[(ps.fmod (cs.length:Int)).toNat],?_⟩
     rw [a38 hi.1 (by rw [List.length_map]; exact hi.2),List.getElem?_map,List.getElem?_eq_getElem this]
     rfl
    refine ⟨c,fun a b e x y z=>?_⟩
    have hn:cs ≠ []:=by intro z; rw [z] at hc; simp at hc
    simp [dIf,dB,dOp,dCB,one,k9,a6,a8,dL,dC,j8,dFG,a7r,D0,pIx,hn,hc,hg]
   ·refine ⟨0,fun a b e x y z=>?_⟩
    have hz:cs = []:=List.eq_nil_of_length_eq_zero (by omega)
    subst hz
    simp [dIf,dB,dOp,dCB,one,k9,a6,a8,dL,dC,j8]
  obtain ⟨c,hcell⟩:=cell
  have hc1:=R7 (a:=c) (b:=1000003) (by decide)
  have pre:∀ rest:DM,c9 (i8 (dOp t6 (dFG 0 "turn") (dC (.int 1))) (d0 2)) (c9 (dFP 0 "turn" (dV 2)) (c9 (n8 (dB (dOp (j8 (fun i j=>decide (j < i))) (dFG 0 "left") (dC (.int 0)))) (c9 (i8 (dOp D0 (dFG 0 "left") (dL 1)) (d0 3)) (c9 (dFP 0 "left" (dOp F2 (dFG 0 "left") (dL 1))) (j7 (dV 3)))) o7)
    (c9 (i8 (dFG 0 "cells") (d0 4)) (c9 (i8 (dIf (dB (dOp (j8 (fun i j=>decide (j < i))) (dCB (one k9) (a6 (dL 4) a8)) (dC (.int 0)))) (dOp pIx (dL 4) (dOp D0 (dFG 0 "at") (dCB (one k9) (a6 (dL 4) a8)))) (dC (.int 0))) (d0 5)) (c9 (dFP 0 "at" (dOp t6 (dFG 0 "at") (dC (.int 1)))) rest)))))
    ⟨[.val .feed,.val (.int many),.no,.no,.no,.no,.no],some ⟨cs,ps,lf,tn,0⟩⟩ = rest ⟨[.val .feed,.val (.int many),.val (.int (tn + 1)),.no,.val (.lst (cs.map .int)),.val (.int c),.no],some ⟨cs,ps + 1,lf,tn + 1,0⟩⟩:=fun rest=>by
   rw [j5 (s1:=⟨[.val .feed,.val (.int many),.val (.int (tn + 1)),.no,.no,.no,.no],some ⟨cs,ps,lf,tn,0⟩⟩) (o9 (c6 rfl rfl rfl) rfl)]
   rw [j5 (s1:=⟨[.val .feed,.val (.int many),.val (.int (tn + 1)),.no,.no,.no,.no],some ⟨cs,ps,lf,tn + 1,0⟩⟩) rfl]
   rw [j5 (s1:=⟨[.val .feed,.val (.int many),.val (.int (tn + 1)),.no,.no,.no,.no],some ⟨cs,ps,lf,tn + 1,0⟩⟩) (by
    have c0:dB (dOp (j8 (fun i j=>decide (j < i))) (dFG 0 "left") (dC (.int 0))) ⟨[.val .feed,.val (.int many),.val (.int (tn + 1)),.no,.no,.no,.no],some ⟨cs,ps,lf,tn + 1,0⟩⟩ = some (false,⟨[.val .feed,.val (.int many),.val (.int (tn + 1)),.no,.no,.no,.no],some ⟨cs,ps,lf,tn + 1,0⟩⟩):=by
     rw [← decide_eq_false hl]; rfl
    rw [P4 c0]; rfl)]
   rw [j5 (s1:=⟨[.val .feed,.val (.int many),.val (.int (tn + 1)),.no,.val (.lst (cs.map .int)),.no,.no],some ⟨cs,ps,lf,tn + 1,0⟩⟩) rfl]
   rw [j5 (a9S (hcell _ _ _ _ _ .no))]
   rw [j5 (s1:=⟨[.val .feed,.val (.int many),.val (.int (tn + 1)),.no,.val (.lst (cs.map .int)),.val (.int c),.no],some ⟨cs,ps + 1,lf,tn + 1,0⟩⟩) (a5i (c6 rfl rfl rfl) rfl)]
  have test:v4 (dB (dOp (j8 (fun i j=>decide (j ≤ i))) (dL 5) (dOp a0t (dC (.int 10)) (dC (.int 18))))) (dB (dOp (j8 (fun i j=>decide (i ≤ j))) (dFG 0 "at") (dCB (one k9) (a6 (dL 4) a8)))) ⟨[.val .feed,.val (.int many),.val (.int (tn + 1)),.no,.val (.lst (cs.map .int)),.val (.int c),.no],some ⟨cs,ps + 1,lf,tn + 1,0⟩⟩ =
    some (decide (1000000000000000000 ≤ c) && decide (ps + 1 ≤ (cs.length:Int)),⟨[.val .feed,.val (.int many),.val (.int (tn + 1)),.no,.val (.lst (cs.map .int)),.val (.int c),.no],some ⟨cs,ps + 1,lf,tn + 1,0⟩⟩):=by
   by_cases h1:1000000000000000000 ≤ c
   ·simp [v4,dB,dOp,dL,dC,a0t,j8,dFG,a7r,dCB,one,k9,a6,a8,h1]
   ·simp [v4,dB,dOp,dL,dC,a0t,j8,h1]
  by_cases hb:(decide (1000000000000000000 ≤ c) && decide (ps + 1 ≤ (cs.length:Int))) = true
  ·refine ⟨c.fmod many,⟨cs,ps + 1,c.fdiv many,tn + 1,0⟩,u6 (s:=⟨[.val .feed,.val (.int many),.val (.int (tn + 1)),.no,.val (.lst (cs.map .int)),.val (.int c),.no],some ⟨cs,ps + 1,c.fdiv many,tn + 1,0⟩⟩) ?_,(R7 hm).1,(R7 hm).2,rfl,rfl⟩
   show V1 ⟨[.val .feed,.val (.int many),.no,.no,.no,.no,.no],some ⟨cs,ps,lf,tn,0⟩⟩ = _
   unfold V1
   rw [pre]
   rw [hb] at test
   refine Y5 ?_
   rw [K1 test]
   rw [j5 (s1:=⟨[.val .feed,.val (.int many),.val (.int (tn + 1)),.no,.val (.lst (cs.map .int)),.val (.int c),.no],some ⟨cs,ps + 1,c.fdiv many,tn + 1,0⟩⟩) (a5i (c6 rfl rfl (U4 c dm)) rfl)]
   exact A2 (c6 rfl rfl (Y9 c hne))
  ·have q:∃ M:Int,i8 (dOp D0 (dOp k0 (dOp t6 (dOp t6 (dOp t6 (dOp D0 (dL 5) (dC (.int 1000003))) (dOp k0 (dOp k0 (dC (.int 31)) (dL 2)) (dL 2))) (dOp k0 (dC (.int 7)) (dL 2))) (dC (.int 11))) (dC (.int 48271))) (dC (.int 2147483647))) (d0 6)
     ⟨[.val .feed,.val (.int many),.val (.int (tn + 1)),.no,.val (.lst (cs.map .int)),.val (.int c),.no],some ⟨cs,ps + 1,lf,tn + 1,0⟩⟩ = some (.next,⟨[.val .feed,.val (.int many),.val (.int (tn + 1)),.no,.val (.lst (cs.map .int)),.val (.int c),.val (.int M)],some ⟨cs,ps + 1,lf,tn + 1,0⟩⟩) ∧ 0 ≤ M ∧ M < 2147483647:=by
    have b1:A8 31 = true:=by decide
    have b2:A8 (tn + 1) = true:=a0z (by omega)
    have p1:(tn + 1) * 31 ≤ 2 ^ 40 * 31:=Int.mul_le_mul_of_nonneg_right (by omega) (by decide)
    have b3:A8 (31 * (tn + 1)) = true:=a0z (by omega)
    have p2:0 ≤ 31 * (tn + 1) * (tn + 1):=Int.mul_nonneg (by omega) (by omega)
    have p3:31 * (tn + 1) * (tn + 1) ≤ 31 * 2 ^ 40 * 2 ^ 40:=Int.mul_le_mul (by omega) (by omega) (by omega) (by decide)
    have b4:A8 (c.fmod 1000003 + 31 * (tn + 1) * (tn + 1) + 7 * (tn + 1) + 11) = true:=a0z (by omega)
    have b5:A8 48271 = true:=by decide
    have b6:A8 7 = true:=by decide
    refine ⟨((c.fmod 1000003 + 31 * (tn + 1) * (tn + 1) + 7 * (tn + 1) + 11) * 48271).fmod 2147483647,?_,R7 (by decide)⟩
    exact o9 (c6 (c6 (c6 (c6 (c6 (c6 rfl rfl (Y9 c (by decide))) (c6 (c6 rfl rfl (v3 b1 b2)) rfl (v3 b3 b2)) rfl) (c6 rfl rfl (v3 b6 b2)) rfl) rfl rfl) rfl (v3 b4 b5)) rfl (Y9 _ (by decide))) rfl
   obtain ⟨M,e1,m1,m2⟩:=q
   have hM:=Int.fdiv_eq_ediv_of_nonneg M (show (0:Int) ≤ 64 by decide)
   have b7:A8 (M.fdiv 64) = true:=a0z (by rw [hM]; omega)
   have b8:A8 69621 = true:=by decide
   have b9:A8 7919 = true:=by decide
   have b10:A8 (tn + 1) = true:=a0z (by omega)
   have d64:F8 64 = true:=by decide
   refine ⟨(((M.fdiv 64 * 69621 + 7919 * (tn + 1)).fmod 2147483587).fdiv 64).fmod many,⟨cs,ps + 1,lf,tn + 1,0⟩,u6 (s:=⟨[.val .feed,.val (.int many),.val (.int (tn + 1)),.no,.val (.lst (cs.map .int)),.val (.int c),.val (.int ((M.fdiv 64 * 69621 + 7919 * (tn + 1)).fmod 2147483587))],some ⟨cs,ps + 1,lf,tn + 1,0⟩⟩) ?_,(R7 hm).1,(R7 hm).2,rfl,rfl⟩
   show V1 ⟨[.val .feed,.val (.int many),.no,.no,.no,.no,.no],some ⟨cs,ps,lf,tn,0⟩⟩ = _
   unfold V1
   rw [pre]
   have hb':(decide (1000000000000000000 ≤ c) && decide (ps + 1 ≤ (cs.length:Int))) = false:=by simpa using hb
   rw [hb'] at test
   rw [j5 (by rw [P4 test]; rfl)]
   rw [j5 e1]
   rw [j5 (s1:=⟨[.val .feed,.val (.int many),.val (.int (tn + 1)),.no,.val (.lst (cs.map .int)),.val (.int c),.val (.int ((M.fdiv 64 * 69621 + 7919 * (tn + 1)).fmod 2147483587))],some ⟨cs,ps + 1,lf,tn + 1,0⟩⟩) (o9 (c6 (c6 (c6 (c6 rfl rfl (U4 M d64)) rfl (v3 b7 b8)) (c6 rfl rfl (v3 b9 b10)) rfl) rfl (Y9 _ (by decide))) rfl)]
   exact A2 (c6 (c6 rfl rfl (U4 _ d64)) rfl (Y9 _ hne))
noncomputable def Fd (n:Nat) (f:FS):Prop:=0 ≤ f.turn ∧ f.turn ≤ n ∧ f.kind = 0
theorem Fd.mono {n m:Nat} {f:FS} (h:Fd n f) (hm:n ≤ m):Fd m f:=⟨h.1,by have:=h.2.1; omega,h.2.2⟩
theorem P7 {n:Nat} {f:FS} (many:Int) (h:Fd n f) (hm:0 < many:=by first | decide | omega) (hn:n < 2 ^ 30:=by omega) (hm2:many < 2 ^ 100:=by first | decide | omega) :
  ∃ r f',C2 [.feed,.int many] (some f) = some (.int r,some f') ∧ 0 ≤ r ∧ r < many ∧ Fd (n + 1) f':=by
 obtain ⟨r,f',e,h0,h1,h2,h3⟩:=b5D f many hm hm2 h.1 (by have:=h.2.1; omega) h.2.2
 exact ⟨r,f',e,h0,h1,by have:=h.1; omega,by have:=h.2.1; omega,h3⟩
theorem b1a (ns:List Int) (h:ns.length ≤ 63):Q7 [.scr ns] none = some (.feed,some ⟨ns,0,0,0,0⟩):=by
 refine u6 (s:=⟨[.val (.scr ns)],some ⟨ns,0,0,0,0⟩⟩) ?_
 show a4m ⟨[.val (.scr ns)],none⟩ = _
 simp [a4m,j7,dFN]
theorem Fd.zero (ns:List Int):Fd 0 ⟨ns,0,0,0,0⟩:=⟨by simp,by simp,rfl⟩
end T
namespace DL
open PySem L2
noncomputable abbrev Pt:=Rat × Rat
noncomputable def pL (a:Pt):Int:=((Nat.lcm a.1.den a.2.den:Nat):Int)
noncomputable def pX (a:Pt):Int:=a.1.num * ((Nat.lcm a.1.den a.2.den / a.1.den:Nat):Int)
noncomputable def pY (a:Pt):Int:=a.2.num * ((Nat.lcm a.1.den a.2.den / a.2.den:Nat):Int)
noncomputable def pt (a:Pt):D:=.tup [.int (pX a),.int (pY a),.int (pL a)]
theorem lcm_pos (p q:Rat):0 < Nat.lcm p.den q.den:=Nat.lcm_pos (by have:=p.den_nz; omega) (by have:=q.den_nz; omega)
theorem a6x (a:Pt):0 < pL a:=by have:=lcm_pos a.1 a.2; unfold pL; omega
theorem a3I (a:Pt):pL a ≠ 0:=by have:=a6x a; omega
theorem N5 (a:Pt):(0:Rat) < (pL a:Rat):=Rat.intCast_pos.mpr (a6x a)
theorem U0 (a:Pt):(pL a:Rat) ≠ 0:=fun h=>a3I a (Rat.intCast_eq_zero_iff.mp h)
theorem a0h (p:Rat):(p.num:Rat) = p * ((p.den:Int):Rat):=by
 have e:=Rat.num_divInt_den p
 rw [Rat.divInt_eq_div] at e
 have hd:((p.den:Int):Rat) ≠ 0:=fun h=>F1 p (Rat.intCast_eq_zero_iff.mp h)
 have:(p.num:Rat) / ((p.den:Int):Rat) * ((p.den:Int):Rat) = (p.num:Rat):=Rat.div_mul_cancel hd
 rw [e] at this
 exact this.symm
theorem M5 (a:Pt):(pX a:Rat) = a.1 * (pL a:Rat):=by
 unfold pX pL
 obtain ⟨c,hc⟩:=Nat.dvd_lcm_left a.1.den a.2.den
 have hd:=a.1.den_nz
 have e:Nat.lcm a.1.den a.2.den / a.1.den = c:=Nat.div_eq_of_eq_mul_right (by omega) hc
 rw [e,hc,Int.natCast_mul,Rat.intCast_mul,Rat.intCast_mul,a0h]
 grind
theorem M8 (a:Pt):(pY a:Rat) = a.2 * (pL a:Rat):=by
 unfold pY pL
 obtain ⟨c,hc⟩:=Nat.dvd_lcm_right a.1.den a.2.den
 have hd:=a.2.den_nz
 have e:Nat.lcm a.1.den a.2.den / a.2.den = c:=Nat.div_eq_of_eq_mul_right (by omega) hc
 rw [e,hc,Int.natCast_mul,Rat.intCast_mul,Rat.intCast_mul,a0h]
 grind
theorem a8C {x d:Int} {p:Rat} (hd:0 < d) (h:(x:Rat) = p * (d:Rat)):∃ c:Int,d = p.den * c ∧ x = p.num * c:=by
 have h1:x * p.den = p.num * d:=by
  have e:=a0h p
  have:((x * p.den:Int):Rat) = ((p.num * d:Int):Rat):=by
   rw [Rat.intCast_mul,Rat.intCast_mul,h,e]; grind
  exact Rat.intCast_inj.mp this
 have dv:(p.den:Int) ∣ p.num * d:=⟨x,by rw [← h1,Int.mul_comm]⟩
 have dv2:p.den ∣ p.num.natAbs * d.natAbs:=by
  have:=Int.natAbs_dvd_natAbs.mpr dv
  rwa [Int.natAbs_mul,Int.natAbs_natCast] at this
 have dv3:p.den ∣ d.natAbs:=Nat.Coprime.dvd_of_dvd_mul_left (Nat.Coprime.symm p.reduced) dv2
 obtain ⟨c,hc⟩:(p.den:Int) ∣ d:=Int.dvd_natAbs.mp (Int.ofNat_dvd.mpr dv3)
 refine ⟨c,hc,?_⟩
 have hp:=a2K p
 have:(p.den:Int) * x = p.den * (p.num * c):=by rw [Int.mul_comm,h1,hc]; grind
 exact Int.eq_of_mul_eq_mul_left (by omega) this
theorem a8x {x y d:Int} {a:Pt} (hd:0 < d) (hg:Int.gcd (Int.gcd x y:Int) d = 1) (hx:(x:Rat) = a.1 * (d:Rat)) (hy:(y:Rat) = a.2 * (d:Rat)):x = pX a ∧ y = pY a ∧ d = pL a:=by
 obtain ⟨c1,e1,f1⟩:=a8C hd hx
 obtain ⟨c2,e2,f2⟩:=a8C hd hy
 obtain ⟨D,rfl⟩:=Int.eq_ofNat_of_zero_le (show 0 ≤ d by omega)
 have dl:Nat.lcm a.1.den a.2.den ∣ D:=Nat.lcm_dvd (Int.ofNat_dvd.mp ⟨c1,e1⟩) (Int.ofNat_dvd.mp ⟨c2,e2⟩)
 obtain ⟨m,hm⟩:=dl
 have key:∀ z:Int,∀ r:Rat,(z:Rat) = r * ((D:Int):Rat) → ∀ w:Int,(w:Rat) = r * (pL a:Rat) → z = w * m:=by
  intro z r h1 w h2
  have:(z:Rat) = ((w * m:Int):Rat):=by
   rw [h1,Rat.intCast_mul,h2,hm]
   have:(((Nat.lcm a.1.den a.2.den * m:Nat):Int):Rat) = (pL a:Rat) * ((m:Int):Rat):=by
    rw [Int.natCast_mul,Rat.intCast_mul]; rfl
   rw [this]; grind
  exact Rat.intCast_inj.mp this
 have kx:=key x a.1 hx (pX a) (M5 a)
 have ky:=key y a.2 hy (pY a) (M8 a)
 have kd:(D:Int) = pL a * m:=by rw [hm,Int.natCast_mul]; rfl
 have m1:(m:Int) ∣ 1:=by
  have h:(m:Int) ∣ (Int.gcd (Int.gcd x y:Int) (D:Int):Int):=by
   refine Int.dvd_coe_gcd (Int.dvd_coe_gcd ?_ ?_) ?_
   ·exact ⟨pX a,by rw [kx,Int.mul_comm]⟩
   ·exact ⟨pY a,by rw [ky,Int.mul_comm]⟩
   ·exact ⟨pL a,by rw [kd,Int.mul_comm]⟩
  rwa [hg] at h
 have m2:m = 1:=Nat.eq_one_of_dvd_one (Int.ofNat_dvd.mp m1)
 subst m2
 exact ⟨by rw [kx]; simp,by rw [ky]; simp,by rw [kd]; simp⟩
structure Ps (k:Nat) (a:Pt):Prop where
 x:Bd k (pX a)
 y:Bd k (pY a)
 l:Bd k (pL a)
theorem Ps.mono {k l:Nat} {a:Pt} (h:Ps k a) (hl:k ≤ l):Ps l a:=⟨h.x.mono hl,h.y.mono hl,h.l.mono hl⟩
theorem Ps.of {k l:Nat} {a:Pt} (h1:Sz k a.1) (h2:Sz l a.2):Ps (k + l) a:=by
 have hl:Nat.lcm a.1.den a.2.den ≤ a.1.den * a.2.den:=Nat.le_of_dvd (Nat.mul_pos (by have:=a.1.den_nz; omega) (by have:=a.2.den_nz; omega)) (Nat.lcm_dvd_mul ..)
 have b:=a7O h1.2 h2.2
 have dl:Nat.lcm a.1.den a.2.den / a.1.den ≤ a.2.den:=by
  rw [Nat.div_le_iff_le_mul_add_pred (by have:=a.1.den_nz; omega)]; omega
 have dr:Nat.lcm a.1.den a.2.den / a.2.den ≤ a.1.den:=by
  rw [Nat.div_le_iff_le_mul_add_pred (by have:=a.2.den_nz; omega),Nat.mul_comm a.2.den]; omega
 refine ⟨?_,?_,?_⟩
 ·exact Bd.mul h1.num (show Bd l ((_:Nat):Int) from Nat.lt_of_le_of_lt dl h2.2)
 ·have:=Bd.mul h2.num (show Bd k ((_:Nat):Int) from Nat.lt_of_le_of_lt dr h1.2)
  rw [Nat.add_comm]; exact this
 ·exact Nat.lt_of_le_of_lt hl b
noncomputable def a7 (a b c:Pt):Rat:=(b.1 - a.1) * (c.2 - a.2) - (b.2 - a.2) * (c.1 - a.1)
noncomputable def sgn (r:Rat):Int:=if 0 < r then 1 else if r < 0 then -1 else 0
noncomputable def T1 (n:Int):Int:=if 0 < n then 1 else if n < 0 then -1 else 0
theorem a7C {n:Int} {c r:Rat} (hc:0 < c) (h:(n:Rat) = c * r):T1 n = sgn r:=by
 unfold T1 sgn
 have h1:0 < n ↔ 0 < r:=by
  rw [← Rat.intCast_pos,h]; exact Rat.mul_pos_iff_of_pos_left hc
 have h2:n < 0 ↔ r < 0:=by
  rw [← Rat.intCast_neg_iff,h]; exact Rat.mul_neg_iff_of_pos_left hc
 simp only [h1,h2]
noncomputable def lsB (a b:Pt):Bool:=decide (a.1 < b.1) || (decide (a.1 = b.1) && decide (a.2 < b.2))
end DL
namespace T
open PySem L2 DL
theorem b4f (x y d:Int) (hd:d ≠ 0):let G:Nat:=Int.gcd (Int.gcd x y:Int) d
  let g:Int:=if d < 0 then -(G:Int) else (G:Int)
  g ≠ 0 ∧ x.fdiv g = pX (Rat.divInt x d,Rat.divInt y d) ∧ y.fdiv g = pY (Rat.divInt x d,Rat.divInt y d) ∧ d.fdiv g = pL (Rat.divInt x d,Rat.divInt y d):=by
 intro G g
 have g0:0 < G:=Int.gcd_pos_of_ne_zero_right _ hd
 obtain ⟨d',ed⟩:=Int.gcd_dvd_right (Int.gcd x y:Int) d
 have h1:=Int.gcd_dvd_left (Int.gcd x y:Int) d
 obtain ⟨x',ex⟩:=Int.dvd_trans h1 (Int.gcd_dvd_left ..)
 obtain ⟨y',ey⟩:=Int.dvd_trans h1 (Int.gcd_dvd_right ..)
 replace ed:d = (G:Int) * d':=ed
 replace ex:x = (G:Int) * x':=ex
 replace ey:y = (G:Int) * y':=ey
 have cop:Int.gcd (Int.gcd x' y':Int) d' = 1:=by
  have e1:Int.gcd x y = G * Int.gcd x' y':=by
   have:=Int.gcd_mul_left (m:=(G:Int)) (n:=x') (k:=y')
   rw [← ex,← ey] at this; exact this
  have e2:Int.gcd (Int.gcd x y:Int) d = G * Int.gcd (Int.gcd x' y':Int) d':=by
   have:=Int.gcd_mul_left (m:=(G:Int)) (n:=(Int.gcd x' y':Int)) (k:=d')
   rw [← ed,← Int.natCast_mul,← e1] at this; exact this
  have e3:G * Int.gcd (Int.gcd x' y':Int) d' = G * 1:=by rw [← e2,Nat.mul_one]
  exact Nat.eq_of_mul_eq_mul_left g0 e3
 have hdr:(d:Rat) ≠ 0:=fun h=>hd (Rat.intCast_eq_zero_iff.mp h)
 have hGr:((G:Int):Rat) ≠ 0:=fun h=>by have:=Rat.intCast_eq_zero_iff.mp h; omega
 have vx:∀ z z':Int,z = (G:Int) * z' → (z':Rat) = Rat.divInt z d * (d':Rat):=fun z z' e=>by
  rw [Rat.divInt_eq_div]
  have ed':(d:Rat) = ((G:Int):Rat) * (d':Rat):=by rw [← Rat.intCast_mul]; exact congrArg _ ed
  have ez':(z:Rat) = ((G:Int):Rat) * (z':Rat):=by rw [← Rat.intCast_mul]; exact congrArg _ e
  have hd'r:(d':Rat) ≠ 0:=fun h=>hdr (by rw [ed',h]; grind)
  rw [ez',ed']
  grind
 by_cases h:d < 0
 ·have eg:g = -(G:Int):=if_pos h
  have dn:0 < -d':=by
   rcases Int.lt_or_le d' 0 with z | z
   ·omega
   ·have:0 ≤ (G:Int) * d':=Int.mul_nonneg (by omega) z
    omega
  obtain ⟨q1,q2,q3⟩:=a8x (x:=-x') (y:=-y') (d:=-d') (a:=(Rat.divInt x d,Rat.divInt y d)) dn (by
   have:Int.gcd (-x') (-y') = Int.gcd x' y':=by simp [Int.gcd]
   rw [this]
   have:Int.gcd (Int.gcd x' y':Int) (-d') = Int.gcd (Int.gcd x' y':Int) d':=by simp [Int.gcd]
   rw [this]; exact cop) (by rw [Rat.intCast_neg,Rat.intCast_neg,vx x x' ex]; grind) (by rw [Rat.intCast_neg,Rat.intCast_neg,vx y y' ey]; grind)
  rw [eg,← q1,← q2,← q3]
  exact ⟨by omega,O7 (by omega) (by grind),O7 (by omega) (by grind),O7 (by omega) (by grind)⟩
 ·have eg:g = (G:Int):=if_neg h
  have dp:0 < d':=by
   rcases Int.lt_or_le 0 d' with z | z
   ·exact z
   ·have:(G:Int) * d' ≤ G * 0:=Int.mul_le_mul_of_nonneg_left z (by omega)
    omega
  obtain ⟨q1,q2,q3⟩:=a8x (x:=x') (y:=y') (d:=d') (a:=(Rat.divInt x d,Rat.divInt y d)) dp cop (vx x x' ex) (vx y y' ey)
  rw [eg,← q1,← q2,← q3]
  exact ⟨by omega,O7 (by omega) ex,O7 (by omega) ey,O7 (by omega) ed⟩
theorem b5I {k:Nat} {x y d:Int} (hd:d ≠ 0) (h:Bd k d) (hk:k ≤ 8000):F8 (if d < 0 then -(Int.gcd (Int.gcd x y:Int) d:Int) else (Int.gcd (Int.gcd x y:Int) d:Int)) = true:=a7x (a:=(Int.gcd x y:Int)) hd h hk
theorem b2M {k:Nat} (x y d:Int) (fs:Option FS) (hd:d ≠ 0) (h:Bd k d) (hk:k ≤ 8000):FL [.tup [.int x,.int y,.int d]] fs = some (pt (Rat.divInt x d,Rat.divInt y d),fs):=by
 obtain ⟨p0,p1,p2,p3⟩:=b4f x y d hd
 have e:=b40 (xs:=[x,y,d]) (d:=d) fs (show 3 ≤ 10 by decide) (b4k x y d fs) (a9R _ _ _) (b5I (x:=x) (y:=y) hd h hk)
 unfold pt
 rw [← p1,← p2,← p3]
 exact e
theorem b0b (p q:Rat):Rat.divInt (p.num * q.den) (p.den * q.den) = p:=by
 rw [Rat.divInt_mul_right (F1 q),Rat.num_divInt_den]
theorem b4j (p q:Rat):Rat.divInt (q.num * p.den) (p.den * q.den) = q:=by
 rw [Int.mul_comm (p.den:Int),Rat.divInt_mul_right (F1 p),Rat.num_divInt_den]
noncomputable abbrev LA:DFn:=X4 LF
theorem X7 (p:Rat):pIx (fr p) (.int 0) = some (.int p.num):=rfl
theorem M1 (p:Rat):pIx (fr p) (.int 1) = some (.int p.den):=rfl
theorem lat {k l:Nat} (p q:Rat) (fs:Option FS) (h1:Sz k p) (h2:Sz l q) (hk:k + l ≤ 8000):LA [fr p,fr q] fs = some (pt (p,q),fs):=by
 have b1:=h1.num.bits (by omega)
 have b2:=h1.den.bits (by omega)
 have b3:=h2.num.bits (by omega)
 have b4:=h2.den.bits (by omega)
 have e1:=N8 (p.num * q.den) (p.den * q.den) fs (a2f p q) (Bd.mul h1.den h2.den) hk
 have e2:=N8 (q.num * p.den) (p.den * q.den) fs (a2f p q) (Bd.mul h1.den h2.den) hk
 have e3:=N8 (p.den:Int) (q.den:Int) fs (F1 q) h2.den (by omega)
 rw [b0b] at e1
 rw [b4j] at e2
 have hq:=q.den_nz
 have hp:=p.den_nz
 have dq:((Rat.divInt (p.den:Int) (q.den:Int)).den:Int) = (q.den / Nat.gcd p.den q.den:Nat):=by
  rw [b07 (a2K q),Int.natCast_ediv]; rfl
 have el:(p.den:Int) * (q.den / Nat.gcd p.den q.den:Nat) = pL (p,q):=by
  show _ = ((Nat.lcm p.den q.den:Nat):Int)
  rw [← Int.natCast_mul,Nat.lcm,Nat.mul_div_assoc _ (Nat.gcd_dvd_right ..)]
 have d1:=h1.den.div (F1 p) (by omega)
 have d2:=h2.den.div (F1 q) (by omega)
 have P:=Ps.of (a:=(p,q)) h1 h2
 have s1:(pL (p,q)).fdiv (p.den:Int) = ((Nat.lcm p.den q.den / p.den:Nat):Int):=by rw [a6J,Int.natCast_ediv]; rfl
 have s2:(pL (p,q)).fdiv (q.den:Int) = ((Nat.lcm p.den q.den / q.den:Nat):Int):=by rw [a6J,Int.natCast_ediv]; rfl
 have lle:Nat.lcm p.den q.den < 2 ^ (k + l):=P.l
 have c0:A8 ((Rat.divInt (p.den:Int) (q.den:Int)).den:Int) = true:=by
  have:=(a4T (a:=(p.den:Int)) (F1 q)).2
  exact (show Bd l _ from Nat.lt_of_le_of_lt this h2.2).bits (by omega)
 have c1:A8 ((Nat.lcm p.den q.den / p.den:Nat):Int) = true:=(show Bd (k + l) ((_:Nat):Int) from Nat.lt_of_le_of_lt (Nat.div_le_self ..) lle).bits (by omega)
 have c2:A8 ((Nat.lcm p.den q.den / q.den:Nat):Int) = true:=(show Bd (k + l) ((_:Nat):Int) from Nat.lt_of_le_of_lt (Nat.div_le_self ..) lle).bits (by omega)
 generalize Rat.divInt (p.den:Int) (q.den:Int) = w at *
 refine u6 (s:=⟨[.val (fr p),.val (fr q),.val (.int (pL (p,q))),.val (fr p),.val (fr q),.val (fr w)],fs⟩) ?_
 show a3d LF ⟨[.val (fr p),.val (fr q),.no,.no,.no,.no],fs⟩ = _
 unfold a3d
 rw [dq] at c0
 rw [← s1] at c1
 rw [← s2] at c2
 rw [j5 (s1:=⟨[.val (fr p),.val (fr q),.val (.int (p.den * q.den)),.no,.no,.no],fs⟩) (o9 (c6 (c6 rfl rfl (M1 p)) (c6 rfl rfl (M1 q)) (v3 b2 b4)) rfl),
  j5 (s1:=⟨[.val (fr p),.val (fr q),.val (.int (p.den * q.den)),.val (fr p),.no,.no],fs⟩) (o9 (k6 (u8 (c6 (c6 rfl rfl (X7 p)) (c6 rfl rfl (M1 q)) (v3 b1 b4)) (u8 rfl rfl)) e1) rfl),
  j5 (s1:=⟨[.val (fr p),.val (fr q),.val (.int (p.den * q.den)),.val (fr p),.val (fr q),.no],fs⟩) (o9 (k6 (u8 (c6 (c6 rfl rfl (X7 q)) (c6 rfl rfl (M1 p)) (v3 b3 b2)) (u8 rfl rfl)) e2) rfl),
  j5 (s1:=⟨[.val (fr p),.val (fr q),.val (.int (p.den * q.den)),.val (fr p),.val (fr q),.val (fr w)],fs⟩) (o9 (k6 (u8 (c6 rfl rfl (M1 p)) (u8 (c6 rfl rfl (M1 q)) rfl)) e3) rfl),
  j5 (s1:=⟨[.val (fr p),.val (fr q),.val (.int (pL (p,q))),.val (fr p),.val (fr q),.val (fr w)],fs⟩) (o9 (c6 (c6 rfl rfl (M1 p)) (c6 rfl rfl ((M1 w).trans (congrArg (fun z=>some (D.int z)) dq))) ((v3 b2 c0).trans (congrArg (fun z=>some (D.int z)) el))) rfl)]
 refine A2 ?_
 unfold pt pX pY
 rw [← s1,← s2]
 exact a75 (c6 (c6 rfl rfl (X7 p)) (c6 rfl (c6 rfl rfl (M1 p)) (U4 _ d1)) (v3 b1 c1)) (c6 (c6 rfl rfl (X7 q)) (c6 rfl (c6 rfl rfl (M1 q)) (U4 _ d2)) (v3 b3 c2)) rfl
theorem a4E (a:Pt):Rat.divInt (pX a) (pL a) = a.1:=by
 rw [Rat.divInt_eq_div,M5,Rat.mul_div_cancel (U0 a)]
theorem a4r (a:Pt):Rat.divInt (pY a) (pL a) = a.2:=by
 rw [Rat.divInt_eq_div,M8,Rat.mul_div_cancel (U0 a)]
noncomputable abbrev LX:DFn:=V3 LF
theorem lxy {k:Nat} (a:Pt) (fs:Option FS) (h:Ps k a) (hk:k ≤ 8000):LX [pt a] fs = some (.tup [fr a.1,fr a.2],fs):=by
 have e:=N8 (pX a) (pL a) fs (a3I a) h.l hk
 have e':=N8 (pY a) (pL a) fs (a3I a) h.l hk
 rw [a4E] at e
 rw [a4r] at e'
 refine u6 (s:=⟨[.val (pt a)],fs⟩) ?_
 show a23 LF ⟨[.val (pt a)],fs⟩ = _
 simp [a23,c9,B0,i8,dOp,dUn,dC,dL,dV,d0,n8,dB,j7,c7,a6,a8,n9,o7,dCB,one,r8,t7,dIf,v4,dOr,C4,B8,B5,C3,pIx,t6,p9,p8,j8,k9,w6,t9,w8,A4,dTr,B4,pt,X8,Z9,Z2,e,e',sz2]
noncomputable abbrev LG:DFn:=a14 LA LS LX
theorem a8o {k l m n:Nat} (a:Pt) (x y:Rat) (fs:Option FS) (h1:Sz k a.1) (h2:Sz l a.2) (hx:Sz m x) (hy:Sz n y) (hk:k + l + m + n + 2 ≤ 8000):LG [pt a,fr x,fr y] fs = some (pt (a.1 + x,a.2 + y),fs):=by
 refine u6 (s:=⟨[.val (pt a),.val (fr x),.val (fr y),.val (fr a.1),.val (fr a.2)],fs⟩) ?_
 show a3M LA LS LX ⟨[.val (pt a),.val (fr x),.val (fr y),.no,.no],fs⟩ = _
 simp [a3M,c9,B0,i8,dOp,dUn,dC,dL,dV,d0,n8,dB,j7,c7,a6,a8,n9,o7,dCB,one,r8,t7,dIf,v4,dOr,C4,B8,B5,C3,pIx,t6,p9,p8,j8,k9,w6,t9,w8,A4,dTr,B4,lxy a fs (Ps.of h1 h2) (by omega),Q1 a.1 x _ h1 hx (by omega),Q1 a.2 y _ h2 hy (by omega),lat (a.1 + x) (a.2 + y) _ (h1.add hx) (h2.add hy) (by omega)]
end T
namespace DL
noncomputable def w9 (x y:Rat):Prop:=0 < x ∨ (x = 0 ∧ 0 < y)
theorem M7 (a b:Pt):lsB a b = true ↔ w9 (b.1 - a.1) (b.2 - a.2):=by
 unfold lsB w9
 rw [Bool.or_eq_true,Bool.and_eq_true,decide_eq_true_iff,decide_eq_true_iff,decide_eq_true_iff]
 constructor
 ·rintro (h | ⟨h1,h2⟩)
  ·left; grind
  ·right; constructor <;> grind
 ·rintro (h | ⟨h1,h2⟩)
  ·left; grind
  ·right; constructor <;> grind
theorem b2e (x y:Rat) (h:¬ (x = 0 ∧ y = 0)):w9 x y ∨ w9 (-x) (-y):=by
 unfold w9
 grind
theorem b5Q (x y:Rat) (h:w9 x y):¬ w9 (-x) (-y):=by
 unfold w9 at *
 grind
theorem U9 {x y s:Rat} (hs:0 < s):w9 (s * x) (s * y) ↔ w9 x y:=by
 unfold w9
 have h1:0 < s * x ↔ 0 < x:=Rat.mul_pos_iff_of_pos_left hs
 have h2:0 < s * y ↔ 0 < y:=Rat.mul_pos_iff_of_pos_left hs
 have h3:s * x = 0 ↔ x = 0:=by
  rw [Rat.mul_eq_zero]
  constructor
  ·rintro (h | h)
   ·rw [h] at hs; exact absurd hs Rat.lt_irrefl
   ·exact h
  ·exact fun h=>.inr h
 rw [h1,h2,h3]
theorem a1k:¬ w9 0 0:=by unfold w9; grind
theorem b1r {x y:Rat} (h:w9 x y) (s:Rat):w9 (s * x) (s * y) ↔ 0 < s:=by
 constructor
 ·intro q
  rcases Rat.le_total (a:=s) (b:=0) with z | z
  ·rcases (Rat.le_iff_lt_or_eq).mp z with z | z
   ·have:w9 (-s * x) (-s * y):=(U9 (by grind)).mpr h
    rw [Rat.neg_mul,Rat.neg_mul] at this
    exact absurd this (b5Q _ _ q)
   ·rw [z,Rat.zero_mul,Rat.zero_mul] at q; exact absurd q a1k
  ·rcases (Rat.le_iff_lt_or_eq).mp z with z | z
   ·exact z
   ·rw [← z,Rat.zero_mul,Rat.zero_mul] at q; exact absurd q a1k
 ·intro hs; exact (U9 hs).mpr h
noncomputable def l7 (a b:Pt) (s:Rat):Pt:=(a.1 + s * (b.1 - a.1),a.2 + s * (b.2 - a.2))
theorem Z7 (a b:Pt):l7 a b 0 = a:=by unfold l7; simp [Rat.add_zero]
theorem Z4 (a b:Pt):l7 a b 1 = b:=by unfold l7; exact Prod.ext (by grind) (by grind)
theorem a0G {a b c:Pt} (hab:a ≠ b) (h:a7 a b c = 0):∃ s,c = l7 a b s:=by
 unfold a7 at h
 by_cases h1:b.1 - a.1 = 0
 ·have h2:b.2 - a.2 ≠ 0:=fun z=>hab (Prod.ext (by grind) (by grind))
  refine ⟨(c.2 - a.2) / (b.2 - a.2),?_⟩
  unfold l7
  refine Prod.ext ?_ ?_
  ·show c.1 = _
   have:(b.2 - a.2) * (c.1 - a.1) = 0:=by grind
   rcases Rat.mul_eq_zero.mp this with z | z
   ·exact absurd z h2
   ·grind
  ·show c.2 = _
   grind
 ·refine ⟨(c.1 - a.1) / (b.1 - a.1),?_⟩
  unfold l7
  refine Prod.ext ?_ ?_
  ·show c.1 = _
   grind
  ·show c.2 = _
   have e:(b.1 - a.1) * (c.2 - a.2) = (b.2 - a.2) * (c.1 - a.1):=by grind
   have:c.2 - a.2 = (c.1 - a.1) / (b.1 - a.1) * (b.2 - a.2):=by grind
   grind
noncomputable def dsq (a b:Pt):Rat:=(a.1 - b.1) * (a.1 - b.1) + (a.2 - b.2) * (a.2 - b.2)
theorem W6 (x:Rat):0 ≤ x * x:=by
 rcases Rat.le_total (a:=0) (b:=x) with h | h
 ·exact Rat.mul_nonneg h h
 ·have:=Rat.mul_nonneg (a:=-x) (b:=-x) (by grind) (by grind)
  grind
theorem a7G {x:Rat} (h:x ≠ 0):0 < x * x:=Rat.lt_of_le_of_ne (W6 x) (fun z=>h (by
 rcases Rat.mul_eq_zero.mp z.symm with q | q <;> exact q))
theorem a1w {a b:Pt} (hab:a ≠ b):0 < dsq a b:=by
 unfold dsq
 by_cases h1:a.1 - b.1 = 0
 ·have h2:a.2 - b.2 ≠ 0:=fun z=>hab (Prod.ext (by grind) (by grind))
  have:=a7G h2
  have:=W6 (a.1 - b.1)
  grind
 ·have:=a7G h1
  have:=W6 (a.2 - b.2)
  grind
theorem b4I (s:Rat):s * s ≤ 1 ↔ (-1 ≤ s ∧ s ≤ 1):=by
 constructor
 ·intro h
  constructor
  ·rcases Rat.le_total (a:=-1) (b:=s) with z | z
   ·exact z
   ·have:=Rat.mul_nonneg (a:=-1 - s) (b:=-1 - s) (by grind) (by grind)
    have:=Rat.mul_nonneg (a:=-1 - s) (b:=1) (by grind) (by grind)
    grind
  ·rcases Rat.le_total (a:=s) (b:=1) with z | z
   ·exact z
   ·have:=Rat.mul_nonneg (a:=s - 1) (b:=s - 1) (by grind) (by grind)
    grind
 ·rintro ⟨h1,h2⟩
  have:=Rat.mul_nonneg (a:=1 - s) (b:=1 + s) (by grind) (by grind)
  grind
theorem a77 (a b:Pt) (s:Rat):dsq a (l7 a b s) = s * s * dsq a b ∧ dsq b (l7 a b s) = (1 - s) * (1 - s) * dsq a b:=by
 unfold dsq l7
 constructor <;> grind
end DL
namespace T
open PySem L2 DL
theorem b6g (n:Int) (fs:Option FS):V8 [.int n] fs = some (.int (T1 n),fs):=by
 refine u6 (s:=⟨[.val (.int n)],fs⟩) ?_
 show a0v ⟨[.val (.int n)],fs⟩ = _
 unfold T1
 by_cases h1:0 < n
 ·simp [a0v,c9,B0,i8,dOp,dUn,dC,dL,dV,d0,n8,dB,j7,c7,a6,a8,n9,o7,dCB,one,r8,t7,dIf,v4,dOr,C4,B8,B5,C3,pIx,t6,p9,p8,j8,k9,w6,t9,w8,A4,dTr,B4,h1]
 ·by_cases h2:n < 0
  ·simp [a0v,c9,B0,i8,dOp,dUn,dC,dL,dV,d0,n8,dB,j7,c7,a6,a8,n9,o7,dCB,one,r8,t7,dIf,v4,dOr,C4,B8,B5,C3,pIx,t6,p9,p8,j8,k9,w6,t9,w8,A4,dTr,B4,h1,h2]
  ·simp [a0v,c9,B0,i8,dOp,dUn,dC,dL,dV,d0,n8,dB,j7,c7,a6,a8,n9,o7,dCB,one,r8,t7,dIf,v4,dOr,C4,B8,B5,C3,pIx,t6,p9,p8,j8,k9,w6,t9,w8,A4,dTr,B4,h1,h2]
noncomputable abbrev FTn:DFn:=a0D V8
theorem a66 {a b c:Rat} (ha:0 < a) (hb:0 < b) (hc:0 < c):0 < a * b * c:=Rat.mul_pos (Rat.mul_pos ha hb) hc
theorem b3l (a b c:Pt):T1 (pX a * (pY b * pL c - pY c * pL b) - pY a * (pX b * pL c - pX c * pL b) + pL a * (pX b * pY c - pX c * pY b)) = sgn (a7 a b c):=by
 refine a7C (a66 (N5 a) (N5 b) (N5 c)) ?_
 simp only [Rat.intCast_add,Rat.intCast_sub,Rat.intCast_mul,M5,M8,a7]
 grind
theorem b5W (a b c:Pt):T1 ((pX b * pL a - pX a * pL b) * (pY c * pL a - pY a * pL c) - (pY b * pL a - pY a * pL b) * (pX c * pL a - pX a * pL c)) = sgn (a7 a b c):=by
 refine a7C (Rat.mul_pos (a66 (N5 a) (N5 b) (N5 c)) (N5 a)) ?_
 simp only [Rat.intCast_sub,Rat.intCast_mul,M5,M8,a7]
 grind
theorem a1h {k:Nat} (a b c:Pt) (fs:Option FS) (ha:Ps k a) (hb:Ps k b) (hc:Ps k c) (hk:k ≤ 2000):FTn [pt a,pt b,pt c] fs = some (.int (sgn (a7 a b c)),fs):=by
 have a1:=ha.x.bits (by omega)
 have a2:=ha.y.bits (by omega)
 have a3:=ha.l.bits (by omega)
 have b1:=hb.x.bits (by omega)
 have b2:=hb.y.bits (by omega)
 have b3:=hb.l.bits (by omega)
 have c1:=hc.x.bits (by omega)
 have c2:=hc.y.bits (by omega)
 have c3:=hc.l.bits (by omega)
 have d1:=((hb.y.mul hc.l).sub (hc.y.mul hb.l)).bits (by omega)
 have d2:=((hb.x.mul hc.l).sub (hc.x.mul hb.l)).bits (by omega)
 have d3:=((hb.x.mul hc.y).sub (hc.x.mul hb.y)).bits (by omega)
 rw [← b3l]
 refine u6 (s:=⟨[.val (pt a),.val (pt b),.val (pt c),.val (.int (pX a * (pY b * pL c - pY c * pL b) - pY a * (pX b * pL c - pX c * pL b) + pL a * (pX b * pY c - pX c * pY b)))],fs⟩) ?_
 show a5x V8 ⟨[.val (pt a),.val (pt b),.val (pt c),.no],fs⟩ = _
 unfold a5x
 have x:∀ p:Pt,pIx (pt p) (.int 0) = some (.int (pX p)):=fun _=>rfl
 have y:∀ p:Pt,pIx (pt p) (.int 1) = some (.int (pY p)):=fun _=>rfl
 have l:∀ p:Pt,pIx (pt p) (.int 2) = some (.int (pL p)):=fun _=>rfl
 rw [j5 (s1:=⟨[.val (pt a),.val (pt b),.val (pt c),.val (.int (pX a * (pY b * pL c - pY c * pL b)))],fs⟩) (o9 (c6 (c6 rfl rfl (x a)) (c6 (c6 (c6 rfl rfl (y b)) (c6 rfl rfl (l c)) (v3 b2 c3)) (c6 (c6 rfl rfl (y c)) (c6 rfl rfl (l b)) (v3 c2 b3)) rfl) (v3 a1 d1)) rfl),
  j5 (s1:=⟨[.val (pt a),.val (pt b),.val (pt c),.val (.int (pX a * (pY b * pL c - pY c * pL b) - pY a * (pX b * pL c - pX c * pL b)))],fs⟩) (o9 (c6 rfl (c6 (c6 rfl rfl (y a)) (c6 (c6 (c6 rfl rfl (x b)) (c6 rfl rfl (l c)) (v3 b1 c3)) (c6 (c6 rfl rfl (x c)) (c6 rfl rfl (l b)) (v3 c1 b3)) rfl) (v3 a2 d2)) rfl) rfl),
  j5 (s1:=⟨[.val (pt a),.val (pt b),.val (pt c),.val (.int (pX a * (pY b * pL c - pY c * pL b) - pY a * (pX b * pL c - pX c * pL b) + pL a * (pX b * pY c - pX c * pY b)))],fs⟩) (o9 (c6 rfl (c6 (c6 rfl rfl (l a)) (c6 (c6 (c6 rfl rfl (x b)) (c6 rfl rfl (y c)) (v3 b1 c2)) (c6 (c6 rfl rfl (x c)) (c6 rfl rfl (y b)) (v3 c1 b2)) rfl) (v3 a3 d3)) rfl) rfl)]
 exact A2 (k6 (u8 rfl rfl) (b6g _ fs))
theorem a0p {k:Nat} (a b c:Pt) (fs:Option FS) (ha:Ps k a) (hb:Ps k b) (hc:Ps k c) (hk:k ≤ 2000):C8 [pt a,pt b,pt c] fs = some (.int (sgn (a7 a b c)),fs):=by
 have a1:=ha.x.bits (by omega)
 have a2:=ha.y.bits (by omega)
 have a3:=ha.l.bits (by omega)
 have b1:=hb.x.bits (by omega)
 have b2:=hb.y.bits (by omega)
 have b3:=hb.l.bits (by omega)
 have c1:=hc.x.bits (by omega)
 have c2:=hc.y.bits (by omega)
 have c3:=hc.l.bits (by omega)
 have d1:=((hb.x.mul ha.l).sub (ha.x.mul hb.l)).bits (by omega)
 have d2:=((hc.y.mul ha.l).sub (ha.y.mul hc.l)).bits (by omega)
 have d3:=((hb.y.mul ha.l).sub (ha.y.mul hb.l)).bits (by omega)
 have d4:=((hc.x.mul ha.l).sub (ha.x.mul hc.l)).bits (by omega)
 have v:=b5W a b c
 generalize h1:(pX b * pL a - pX a * pL b) * (pY c * pL a - pY a * pL c) = u at *
 generalize h2:(pY b * pL a - pY a * pL b) * (pX c * pL a - pX a * pL c) = w at *
 have e:T1 (u - w) = (if u > w then (1:Int) else 0) - (if u < w then 1 else 0):=by
  unfold T1
  by_cases q1:0 < u - w
  ·rw [if_pos q1,if_pos (show u > w by omega),if_neg (show ¬ u < w by omega)]; rfl
  ·by_cases q2:u - w < 0
   ·rw [if_neg q1,if_pos q2,if_neg (show ¬ u > w by omega),if_pos (show u < w by omega)]; rfl
   ·rw [if_neg q1,if_neg q2,if_neg (show ¬ u > w by omega),if_neg (show ¬ u < w by omega)]; rfl
 rw [← v,e]
 refine u6 (s:=⟨[.val (pt a),.val (pt b),.val (pt c),.val (.int u),.val (.int w)],fs⟩) ?_
 show a3G ⟨[.val (pt a),.val (pt b),.val (pt c),.no,.no],fs⟩ = _
 unfold a3G
 rw [j5 (s1:=⟨[.val (pt a),.val (pt b),.val (pt c),.val (.int u),.no],fs⟩) (o9 (c6 (c6 (c6 (c6 rfl rfl rfl) (c6 rfl rfl rfl) (v3 b1 a3)) (c6 (c6 rfl rfl rfl) (c6 rfl rfl rfl) (v3 a1 b3)) rfl) (c6 (c6 (c6 rfl rfl rfl) (c6 rfl rfl rfl) (v3 c2 a3)) (c6 (c6 rfl rfl rfl) (c6 rfl rfl rfl) (v3 a2 c3)) rfl) ((v3 d1 d2).trans (by rw [h1]))) rfl)]
 rw [j5 (s1:=⟨[.val (pt a),.val (pt b),.val (pt c),.val (.int u),.val (.int w)],fs⟩) (o9 (c6 (c6 (c6 (c6 rfl rfl rfl) (c6 rfl rfl rfl) (v3 b2 a3)) (c6 (c6 rfl rfl rfl) (c6 rfl rfl rfl) (v3 a2 b3)) rfl) (c6 (c6 (c6 rfl rfl rfl) (c6 rfl rfl rfl) (v3 c1 a3)) (c6 (c6 rfl rfl rfl) (c6 rfl rfl rfl) (v3 a1 c3)) rfl) ((v3 d3 d4).trans (by rw [h2]))) rfl)]
 refine A2 ?_
 simp [c9,B0,i8,dOp,dUn,dC,dL,dV,d0,n8,dB,j7,c7,a6,a8,n9,o7,dCB,one,r8,t7,dIf,v4,dOr,C4,B8,B5,C3,pIx,t6,p9,p8,j8,k9,w6,t9,w8,A4,dTr,B4,a1g]
theorem a9d {x y:Int} {p q c:Rat} (hc:0 < c) (hx:(x:Rat) = c * p) (hy:(y:Rat) = c * q):(x < y ↔ p < q) ∧ (x = y ↔ p = q):=by
 constructor
 ·rw [← Rat.intCast_lt_intCast,hx,hy]; exact Rat.mul_lt_mul_left hc
 ·rw [← Rat.intCast_inj,hx,hy]
  constructor
  ·intro h; have:c ≠ 0:=fun z=>by rw [z] at hc; exact absurd hc Rat.lt_irrefl
   grind
  ·intro h; rw [h]
theorem a7l (a b:Pt):(pX a * pL b < pX b * pL a ↔ a.1 < b.1) ∧ (pX a * pL b = pX b * pL a ↔ a.1 = b.1):=
 a9d (Rat.mul_pos (N5 a) (N5 b)) (by rw [Rat.intCast_mul,M5]; grind) (by rw [Rat.intCast_mul,M5]; grind)
theorem a7t (a b:Pt):(pY a * pL b < pY b * pL a ↔ a.2 < b.2) ∧ (pY a * pL b = pY b * pL a ↔ a.2 = b.2):=
 a9d (Rat.mul_pos (N5 a) (N5 b)) (by rw [Rat.intCast_mul,M8]; grind) (by rw [Rat.intCast_mul,M8]; grind)
theorem b2J {k:Nat} (a b:Pt) (fs:Option FS) (ha:Ps k a) (hb:Ps k b) (hk:k ≤ 2000):J6 [pt a,pt b] fs = some (.bl (lsB a b),fs):=by
 have a1:=ha.x.bits (by omega)
 have a2:=ha.y.bits (by omega)
 have a3:=ha.l.bits (by omega)
 have b1:=hb.x.bits (by omega)
 have b2:=hb.y.bits (by omega)
 have b3:=hb.l.bits (by omega)
 obtain ⟨x1,x2⟩:=a7l a b
 obtain ⟨y1,y2⟩:=a7t a b
 refine u6 (s:=⟨[.val (pt a),.val (pt b),.val (.int (pX a * pL b)),.val (.int (pX b * pL a))],fs⟩) ?_
 show a1j ⟨[.val (pt a),.val (pt b),.no,.no],fs⟩ = _
 by_cases h:a.1 = b.1
 ·have h':=x2.mpr h
  have n1:¬ a.1 < b.1:=by rw [h]; exact Rat.lt_irrefl
  simp [a1j,c9,B0,i8,dOp,dUn,dC,dL,dV,d0,n8,dB,j7,c7,a6,a8,n9,o7,dCB,one,r8,t7,dIf,v4,dOr,C4,B8,B5,C3,pIx,t6,p9,p8,j8,k9,w6,t9,w8,A4,dTr,B4,pt,X8,Z9,Z2,k0,a1,a2,a3,b1,b2,b3,T0,h',lsB,n1,h,y1]
 ·have h':¬ pX a * pL b = pX b * pL a:=fun z=>h (x2.mp z)
  simp [a1j,c9,B0,i8,dOp,dUn,dC,dL,dV,d0,n8,dB,j7,c7,a6,a8,n9,o7,dCB,one,r8,t7,dIf,v4,dOr,C4,B8,B5,C3,pIx,t6,p9,p8,j8,k9,w6,t9,w8,A4,dTr,B4,pt,X8,Z9,Z2,k0,a1,a2,a3,b1,b2,b3,T0,h',lsB,h,x1]
theorem b3y {k:Nat} (a b:Pt) (fs:Option FS) (ha:Ps k a) (hb:Ps k b) (hk:k ≤ 2000):F3 [pt a,pt b] fs = some (.bl (lsB a b),fs):=by
 have a1:=ha.x.bits (by omega)
 have a2:=ha.y.bits (by omega)
 have a3:=ha.l.bits (by omega)
 have b1:=hb.x.bits (by omega)
 have b2:=hb.y.bits (by omega)
 have b3:=hb.l.bits (by omega)
 obtain ⟨x1,x2⟩:=a7l a b
 obtain ⟨y1,y2⟩:=a7t a b
 refine u6 (s:=⟨[.val (pt a),.val (pt b),.val (.int (pX a * pL b - pX b * pL a))],fs⟩) ?_
 show a05 ⟨[.val (pt a),.val (pt b),.no],fs⟩ = _
 have z1:(pX a * pL b - pX b * pL a < 0) ↔ a.1 < b.1:=by rw [← x1]; omega
 have z2:(pX a * pL b - pX b * pL a = 0) ↔ a.1 = b.1:=by rw [← x2]; omega
 by_cases h:a.1 < b.1
 ·simp [a05,c9,B0,i8,dOp,dUn,dC,dL,dV,d0,n8,dB,j7,c7,a6,a8,n9,o7,dCB,one,r8,t7,dIf,v4,dOr,C4,B8,B5,C3,pIx,t6,p9,p8,j8,k9,w6,t9,w8,A4,dTr,B4,pt,X8,Z9,Z2,k0,a1,a2,a3,b1,b2,b3,W3,lsB,h,z1]
 ·by_cases h2:a.1 = b.1
  ·simp [a05,c9,B0,i8,dOp,dUn,dC,dL,dV,d0,n8,dB,j7,c7,a6,a8,n9,o7,dCB,one,r8,t7,dIf,v4,dOr,C4,B8,B5,C3,pIx,t6,p9,p8,j8,k9,w6,t9,w8,A4,dTr,B4,pt,X8,Z9,Z2,k0,a1,a2,a3,b1,b2,b3,W3,lsB,h,z1,z2,h2,y1]
  ·simp [a05,c9,B0,i8,dOp,dUn,dC,dL,dV,d0,n8,dB,j7,c7,a6,a8,n9,o7,dCB,one,r8,t7,dIf,v4,dOr,C4,B8,B5,C3,pIx,t6,p9,p8,j8,k9,w6,t9,w8,A4,dTr,B4,pt,X8,Z9,Z2,k0,a1,a2,a3,b1,b2,b3,W3,lsB,h,z1,z2,h2]
theorem a3g (r:Rat):sgn r = 0 ↔ r = 0:=by
 unfold sgn
 by_cases h:0 < r
 ·rw [if_pos h]; constructor
  ·intro z; exact absurd z (by decide)
  ·intro z; rw [z] at h; exact absurd h Rat.lt_irrefl
 ·by_cases h2:r < 0
  ·rw [if_neg h,if_pos h2]; constructor
   ·intro z; exact absurd z (by decide)
   ·intro z; rw [z] at h2; exact absurd h2 Rat.lt_irrefl
  ·rw [if_neg h,if_neg h2]; constructor
   ·intro _; grind
   ·intro _; rfl
theorem a8N {k l m n:Nat} (a b:Pt) (fs:Option FS) (h1:Sz k a.1) (h2:Sz l a.2) (h3:Sz m b.1) (h4:Sz n b.2) (hk:2 * (k + l + m + n) + 8 ≤ 8000):a0H LS LP F7 LX [pt a,pt b] fs = some (fr (dsq a b),fs):=by
 have s1:=Q1 b.1 (-a.1) fs h3 h1.neg (by omega)
 have s2:=Q1 b.2 (-a.2) fs h4 h2.neg (by omega)
 have z1:=h3.add h1.neg
 have z2:=h4.add h2.neg
 have q1:=T8 _ _ fs z1 z1 (by omega)
 have q2:=T8 _ _ fs z2 z2 (by omega)
 have r:=Q1 _ _ fs (z1.mul z1) (z2.mul z2) (by omega)
 have v:(b.1 + -a.1) * (b.1 + -a.1) + (b.2 + -a.2) * (b.2 + -a.2) = dsq a b:=by unfold dsq; grind
 rw [v] at r
 have xa:=lxy a fs (Ps.of h1 h2) (by omega)
 have xb:=lxy b fs (Ps.of h3 h4) (by omega)
 refine u6 (s:=⟨[.val (pt a),.val (pt b),.val (fr (b.1 + -a.1)),.val (fr (b.2 + -a.2))],fs⟩) ?_
 show a4n LS LP F7 LX ⟨[.val (pt a),.val (pt b),.no,.no],fs⟩ = _
 simp [a4n,c9,B0,i8,dOp,dUn,dC,dL,dV,d0,n8,dB,j7,c7,a6,a8,n9,o7,dCB,one,r8,t7,dIf,v4,dOr,C4,B8,B5,C3,pIx,t6,p9,p8,j8,k9,w6,t9,w8,A4,dTr,B4,xa,xb,a1R,a1m,a0q,s1,s2,q1,q2,r]
end T
namespace DL
open PySem L2
theorem a3R {t:D → DS → Option DS} {b:DM} (P:Nat → DS → Prop):∀ (ds:List D) (n:Nat) (s:DS),P n s → (∀ i d s,ds[i]? = some d → P (n + i) s → ∃ s1 s2,t d s = some s1 ∧ (b s1 = some (.next,s2) ∨ b s1 = some (.cont,s2)) ∧ P (n + i + 1) s2) →
  ∃ s',A9 t b ds s = some (.next,s') ∧ P (n + ds.length) s'
 | [],n,s,h,_=>⟨s,rfl,h⟩
 | d :: r,n,s,h,k=>by
  obtain ⟨s1,s2,e1,e2,h2⟩:=k 0 d s rfl h
  obtain ⟨s',e3,h3⟩:=a3R P r (n + 1) s2 h2 (fun i d' s hd hp=>by
   have:=k (i + 1) d' s (by simpa using hd) (by rwa [show n + 1 + i = n + (i + 1) by omega] at hp)
   rwa [show n + (i + 1) + 1 = n + 1 + i + 1 by omega] at this)
  refine ⟨s',?_,by rw [List.length_cons,show n + (r.length + 1) = n + 1 + r.length by omega]; exact h3⟩
  rw [A9,e1]
  rcases e2 with e2 | e2 <;> simp [e2,e3]
theorem a6u {f:DA} {t:D → DS → Option DS} {b:DM} {s s1:DS} {xs ds:List D} (h1:f s = some (xs,s1)) (h2:W7 xs = some ds):a0R f t b s = A9 t b ds s1:=by
 simp only [a0R,h1,Option.bind_some,h2]
theorem O6 {f:DE} {t:D → DS → Option DS} {b:DM} {s s1:DS} {ds:List D} (h1:f s = some (.lst ds,s1)):J8 f t b s = A9 t b ds s1:=by
 simp only [J8,h1,Option.bind_some]
theorem a5M {lo:Int} {n i:Nat} {d:D} (h:(ups lo n)[i]? = some d):d = .int (lo + i) ∧ i < n:=by
 have hi:i < n:=by have:=(List.getElem?_eq_some_iff.mp h).1; rwa [W5] at this
 rw [a4F hi] at h
 cases h
 exact ⟨rfl,hi⟩
theorem a2p {n:Nat} (h:n < 2 ^ 30):W7 [.int (n:Int)] = some (ups 0 n):=by
 have:-(2 ^ 62) ≤ (n:Int) ∧ (n:Int) < 2 ^ 62:=by omega
 simp only [W7,if_pos this,Int.toNat_natCast]
end DL
namespace T
open PySem L2 DL
noncomputable abbrev LN:DFn:=a1x LF C2
theorem b4p {r:Int} (h0:0 ≤ r) (h1:r < 3):∃ m:Int,atI [D.int 7,D.int 13,D.int 30] r = some (.int m) ∧ 0 < m ∧ m ≤ 30:=by
 have:r = 0 ∨ r = 1 ∨ r = 2:=by omega
 rcases this with rfl | rfl | rfl
 ·exact ⟨7,rfl,by decide,by decide⟩
 ·exact ⟨13,rfl,by decide,by decide⟩
 ·exact ⟨30,rfl,by decide,by decide⟩
theorem a93 {r:Int} (h0:0 ≤ r) (h1:r < 6):∃ d:Int,atI [D.int 1,D.int 1,D.int 1,D.int 2,D.int 3,D.int 4] r = some (.int d) ∧ 0 < d ∧ d ≤ 4:=by
 have:r = 0 ∨ r = 1 ∨ r = 2 ∨ r = 3 ∨ r = 4 ∨ r = 5:=by omega
 rcases this with rfl | rfl | rfl | rfl | rfl | rfl
 ·exact ⟨1,rfl,by decide,by decide⟩
 ·exact ⟨1,rfl,by decide,by decide⟩
 ·exact ⟨1,rfl,by decide,by decide⟩
 ·exact ⟨2,rfl,by decide,by decide⟩
 ·exact ⟨3,rfl,by decide,by decide⟩
 ·exact ⟨4,rfl,by decide,by decide⟩
theorem b0E {r m q:Int} (h0:0 ≤ r) (h1:r < m) (hm:m ≤ 30) (q0:0 ≤ q) (q1:q < 2):Bd 5 (r * (1 - 2 * q)) ∧ Bd 5 r ∧ Bd 5 q ∧ Bd 5 (1 - 2 * q):=by
 unfold Bd
 have:q = 0 ∨ q = 1:=by omega
 rcases this with rfl | rfl <;> omega
theorem b2B {d:Int} (h0:0 < d) (h1:d ≤ 4):Bd 5 d ∧ d ≠ 0:=⟨show d.natAbs < 2 ^ 5 by omega,by omega⟩
theorem b4Q {m:Int} (h:m ≤ 30):m < 2 ^ 100:=by omega
theorem a2a {n i:Nat} (h:n < 2 ^ 29) (hi:i ≤ 100:=by decide):n + i < 2 ^ 30:=by omega
theorem a6X {n:Nat} {f:FS} (h:Fd n f) (hn:n < 2 ^ 29):∃ p f',LN [.feed] (some f) = some (fr p,some f') ∧ Sz 5 p ∧ Fd (n + 4) f':=by
 obtain ⟨r1,f1,e1,a1,a2,h1⟩:=P7 3 h (by decide) (a2a (i:=0) hn) (by decide)
 obtain ⟨m,q1,q2,q3⟩:=b4p a1 a2
 obtain ⟨r2,f2,e2,b1,b2,h2⟩:=P7 m h1 q2 (a2a hn) (b4Q q3)
 obtain ⟨r3,f3,e3,c1,c2,h3⟩:=P7 6 h2 (by decide) (a2a (i:=2) hn) (by decide)
 obtain ⟨d,u1,u2,u3⟩:=a93 c1 c2
 obtain ⟨r4,f4,e4,d1,d2,h4⟩:=P7 2 h3 (by decide) (a2a (i:=3) hn) (by decide)
 obtain ⟨bn,z3,z2,z4⟩:=b0E b1 b2 q3 d1 d2
 obtain ⟨bd,dn⟩:=b2B u2 u3
 have g:=N8 (r2 * (1 - 2 * r4)) d (some f4) dn bd (by decide)
 refine ⟨_,f4,u6 (s:=⟨[.val .feed,.val (.int r2),.val (.int d)],some f4⟩) ?_,Sz.of_divInt dn bn bd,h4⟩
 show a2W LF C2 ⟨[.val .feed,.no,.no],some f⟩ = _
 unfold a2W
 rw [j5 (s1:=⟨[.val .feed,.val (.int r2),.no],some f2⟩) (o9 (Y4 (u8 rfl (u8 (c6 (s1:=⟨[.val .feed,.no,.no],some f⟩) rfl (J7 rfl e1) q1) rfl)) e2) rfl),
  j5 (s1:=⟨[.val .feed,.val (.int r2),.val (.int d)],some f3⟩) (o9 (c6 (s1:=⟨[.val .feed,.val (.int r2),.no],some f2⟩) rfl (J7 rfl e3) u1) rfl)]
 exact A2 (Y4 (u8 (c6 rfl (c6 rfl (c6 rfl (J7 rfl e4) (v3 (by decide) (z2.bits (by decide)))) rfl) (v3 (z3.bits (by decide)) (z4.bits (by decide)))) rfl) g)
noncomputable abbrev LPl:DFn:=a1J LA LN
structure PtS (k:Nat) (a:Pt):Prop where
 x:Sz k a.1
 y:Sz k a.2
theorem PtS.ps {k:Nat} {a:Pt} (h:PtS k a):Ps (k + k) a:=Ps.of h.x h.y
theorem PtS.mono {k l:Nat} {a:Pt} (h:PtS k a) (hl:k ≤ l):PtS l a:=⟨h.x.mono hl,h.y.mono hl⟩
theorem a3h {n:Nat} {f:FS} (h:Fd n f) (hn:n < 2 ^ 28):∃ a f',LPl [.feed] (some f) = some (pt a,some f') ∧ PtS 5 a ∧ Fd (n + 8) f':=by
 obtain ⟨p,f1,e1,s1,h1⟩:=a6X h (by omega)
 obtain ⟨q,f2,e2,s2,h2⟩:=a6X h1 (by omega)
 refine ⟨(p,q),f2,u6 (s:=⟨[.val .feed],some f2⟩) ?_,⟨s1,s2⟩,h2⟩
 show a3i LA LN ⟨[.val .feed],some f⟩ = _
 simp [a3i,c9,B0,i8,dOp,dUn,dC,dL,dV,d0,n8,dB,j7,c7,a6,a8,n9,o7,dCB,one,r8,t7,dIf,v4,dOr,C4,B8,B5,C3,pIx,t6,p9,p8,j8,k9,w6,t9,w8,A4,dTr,B4,e1,e2,lat p q _ s1 s2 (by omega)]
section
variable {α β:Type}
noncomputable def mrg (lt:α → α → Bool):List α → List α → List α
 | [],ys=>ys
 | x :: xs,ys=>ys.takeWhile (fun y=>lt y x) ++ x :: mrg lt xs (ys.dropWhile (fun y=>lt y x))
noncomputable def srt (lt:α → α → Bool):Nat → List α → List α
 | 0,l=>l
 | n + 1,l=>if l.length < 2 then l else mrg lt (srt lt n (l.take (l.length / 2))) (srt lt n (l.drop (l.length / 2)))
noncomputable def A0 (t:α → α → α → Bool) (x:α):List α → List α
 | b :: a :: r=>if t a b x = true then b :: a :: r else A0 t x (a :: r)
 | l=>l
noncomputable def D9 (t:α → α → α → Bool):List α → List α → List α
 | acc,[]=>acc
 | acc,x :: xs=>D9 t (x :: A0 t x acc) xs
noncomputable def m8 (t:α → α → α → Bool) (l:List α):List α:=(D9 t [] l).reverse
noncomputable def N4 (lt:α → α → Bool) (t:α → α → α → Bool) (l:List α):List α:=(m8 t (srt lt 64 l)).dropLast ++ (m8 t (srt lt 64 l).reverse).dropLast
noncomputable def E6 [DecidableEq α] (acc:List α) (x:α):List α:=if x ∈ acc then acc else acc ++ [x]
noncomputable def u9 [DecidableEq α] (l:List α):List α:=l.foldl E6 []
variable {lt:α → α → Bool} {lt':β → β → Bool} {t:α → α → α → Bool} {t':β → β → β → Bool} {f:α → β}
theorem a5I (h:∀ a b c,t' (f a) (f b) (f c) = t a b c) (x:α):∀ l:List α,A0 t' (f x) (l.map f) = (A0 t x l).map f
 | []=>rfl
 | [b]=>rfl
 | b :: a :: r=>by
  have ih:=a5I h x (a :: r)
  simp only [List.map_cons,A0] at ih ⊢
  rw [h]
  split
  ·rfl
  ·exact ih
theorem a67 (h:∀ a b c,t' (f a) (f b) (f c) = t a b c):∀ (l acc:List α),D9 t' (acc.map f) (l.map f) = (D9 t acc l).map f
 | [],acc=>rfl
 | x :: xs,acc=>by
  simp only [List.map_cons,D9]
  rw [a5I h,← List.map_cons,a67 h xs]
theorem a28 (h:∀ a b c,t' (f a) (f b) (f c) = t a b c) (l:List α):m8 t' (l.map f) = (m8 t l).map f:=by
 unfold m8
 have:=a67 h l []
 rw [List.map_nil] at this
 rw [this,List.map_reverse]
theorem b54 [DecidableEq α] [DecidableEq β] (inj:∀ a b,f a = f b → a = b) (l:List α):u9 (l.map f) = (u9 l).map f:=by
 have key:∀ (l acc:List α),(l.map f).foldl E6 (acc.map f) = (l.foldl E6 acc).map f:=by
  intro l
  induction l with
  | nil=>intro acc; rfl
  | cons x xs ih=>
   intro acc
   have e:E6 (acc.map f) (f x) = (E6 acc x).map f:=by
    unfold E6
    by_cases h:x ∈ acc
    ·rw [if_pos h,if_pos (List.mem_map_of_mem h)]
    ·rw [if_neg h,if_neg (fun z=>by obtain ⟨y,hy,e⟩:=List.mem_map.mp z; exact h (inj y x e ▸ hy)),List.map_append]
     rfl
   rw [List.map_cons,List.foldl_cons,List.foldl_cons,e]
   exact ih _
 exact key l []
theorem a4K:∀ xs ys:List α,(mrg lt xs ys).length = xs.length + ys.length
 | [],ys=>by simp [mrg]
 | x :: xs,ys=>by
  have h:=congrArg List.length (List.takeWhile_append_dropWhile (p:=fun y=>lt y x) (l:=ys))
  simp only [mrg,List.length_append,List.length_cons,a4K xs] at h ⊢
  omega
theorem a3L:∀ {xs ys:List α} {z:α},z ∈ mrg lt xs ys → z ∈ xs ∨ z ∈ ys
 | [],ys,z,h=>.inr h
 | x :: xs,ys,z,h=>by
  simp only [mrg] at h
  rcases List.mem_append.mp h with h | h
  ·exact .inr (List.takeWhile_subset _ h)
  ·rcases List.mem_cons.mp h with h | h
   ·exact .inl (h ▸ List.mem_cons_self ..)
   ·rcases a3L h with h | h
    ·exact .inl (List.mem_cons_of_mem _ h)
    ·exact .inr (List.dropWhile_subset _ h)
theorem T3:∀ (n:Nat) (l:List α),(srt lt n l).length = l.length
 | 0,l=>rfl
 | n + 1,l=>by
  simp only [srt]
  split
  ·rfl
  ·rw [a4K,T3 n,T3 n,List.length_take,List.length_drop]
   omega
theorem O5:∀ (n:Nat) {l:List α} {z:α},z ∈ srt lt n l → z ∈ l
 | 0,l,z,h=>h
 | n + 1,l,z,h=>by
  simp only [srt] at h
  split at h
  ·exact h
  ·rcases a3L h with h | h
   ·exact List.mem_of_mem_take (O5 n h)
   ·exact List.mem_of_mem_drop (O5 n h)
theorem a15 {x:α}:∀ {l:List α} {z:α},z ∈ A0 t x l → z ∈ l
 | [],z,h=>h
 | [b],z,h=>h
 | b :: a :: r,z,h=>by
  simp only [A0] at h
  split at h
  ·exact h
  ·exact List.mem_cons_of_mem _ (a15 h)
theorem a2z (x:α):∀ l:List α,(A0 t x l).length ≤ l.length
 | []=>Nat.le_refl _
 | [b]=>Nat.le_refl _
 | b :: a :: r=>by
  have:=a2z x (a :: r)
  simp only [A0]
  split
  ·exact Nat.le_refl _
  ·simp only [List.length_cons] at this ⊢
   omega
theorem a9f:∀ (l acc:List α),(D9 t acc l).length ≤ acc.length + l.length
 | [],acc=>Nat.le_refl _
 | x :: xs,acc=>by
  have h:=a9f xs (x :: A0 t x acc)
  have h2:=a2z (t:=t) x acc
  simp only [D9,List.length_cons] at h ⊢
  omega
theorem a6K (l:List α):(m8 t l).length ≤ l.length:=by
 unfold m8
 rw [List.length_reverse]
 simpa using a9f (t:=t) l []
theorem a7L:∀ {l acc:List α} {z:α},z ∈ D9 t acc l → z ∈ acc ∨ z ∈ l
 | [],acc,z,h=>.inl h
 | x :: xs,acc,z,h=>by
  simp only [D9] at h
  rcases a7L h with h | h
  ·rcases List.mem_cons.mp h with h | h
   ·exact .inr (h ▸ List.mem_cons_self ..)
   ·exact .inl (a15 h)
  ·exact .inr (List.mem_cons_of_mem _ h)
theorem a1F {l:List α} {z:α} (h:z ∈ m8 t l):z ∈ l:=by
 unfold m8 at h
 rcases a7L (List.mem_reverse.mp h) with h | h
 ·cases h
 ·exact h
theorem a9I [DecidableEq α]:∀ {l acc:List α} {z:α},z ∈ l.foldl E6 acc → z ∈ acc ∨ z ∈ l
 | [],acc,z,h=>.inl h
 | x :: xs,acc,z,h=>by
  rcases a9I (l:=xs) h with h | h
  ·unfold E6 at h
   split at h
   ·exact .inl h
   ·rcases List.mem_append.mp h with h | h
    ·exact .inl h
    ·exact .inr (by rw [List.mem_singleton.mp h]; exact List.mem_cons_self ..)
  ·exact .inr (List.mem_cons_of_mem _ h)
theorem a19 [DecidableEq α] {l:List α} {z:α} (h:z ∈ u9 l):z ∈ l:=by
 rcases a9I h with h | h
 ·cases h
 ·exact h
theorem a9A [DecidableEq α]:∀ (l acc:List α),(l.foldl E6 acc).length ≤ acc.length + l.length
 | [],acc=>Nat.le_refl _
 | x :: xs,acc=>by
  have h:=a9A xs (E6 acc x)
  have h2:(E6 acc x).length ≤ acc.length + 1:=by
   unfold E6
   split
   ·omega
   ·simp
  simp only [List.foldl_cons,List.length_cons]
  omega
theorem a8A [DecidableEq α] (l:List α):(u9 l).length ≤ l.length:=by
 unfold u9
 simpa using a9A l []
end
section
variable {α:Type} {lt:α → α → Bool}
noncomputable abbrev Srt (lt:α → α → Bool) (l:List α):Prop:=l.Pairwise fun a b=>lt a b = true
structure Ord (lt:α → α → Bool):Prop where
 irr:∀ a,lt a a = false
 tr:∀ a b c,lt a b = true → lt b c = true → lt a c = true
 tot:∀ a b,lt a b = false → a ≠ b → lt b a = true
theorem a1E:∀ {xs ys:List α} {z:α},z ∈ xs ∨ z ∈ ys → z ∈ mrg lt xs ys
 | [],ys,z,h=>by rcases h with h | h; cases h; exact h
 | x :: xs,ys,z,h=>by
  simp only [mrg]
  have hy:∀ {z},z ∈ ys → z ∈ ys.takeWhile (fun y=>lt y x) ∨ z ∈ ys.dropWhile (fun y=>lt y x):=fun {z} hz=>by
   rw [← List.takeWhile_append_dropWhile (p:=fun y=>lt y x) (l:=ys)] at hz
   exact List.mem_append.mp hz
  rcases h with h | h
  ·rcases List.mem_cons.mp h with h | h
   ·exact List.mem_append.mpr (.inr (h ▸ List.mem_cons_self ..))
   ·exact List.mem_append.mpr (.inr (List.mem_cons_of_mem _ (a1E (.inl h))))
  ·rcases hy h with h | h
   ·exact List.mem_append.mpr (.inl h)
   ·exact List.mem_append.mpr (.inr (List.mem_cons_of_mem _ (a1E (.inr h))))
theorem a6f {p:α → Bool}:∀ {l:List α} {z:α},z ∈ l.takeWhile p → p z = true
 | [],z,h=>by cases h
 | a :: r,z,h=>by
  rw [List.takeWhile_cons] at h
  by_cases q:p a = true
  ·rw [if_pos q] at h
   rcases List.mem_cons.mp h with e | e
   ·exact e ▸ q
   ·exact a6f e
  ·rw [if_neg q] at h; cases h
theorem a8t {p:α → Bool}:∀ {l:List α} {a:α} {r:List α},l.dropWhile p = a :: r → p a = false
 | [],a,r,h=>by cases h
 | b :: l,a,r,h=>by
  rw [List.dropWhile_cons] at h
  by_cases q:p b = true
  ·rw [if_pos q] at h; exact a8t h
  ·rw [if_neg q] at h
   cases h
   simpa using q
theorem a8c (O:Ord lt):∀ {xs ys:List α},Srt lt xs → Srt lt ys → (∀ x ∈ xs,x ∉ ys) → Srt lt (mrg lt xs ys)
 | [],ys,h1,h2,_=>h2
 | x :: xs,ys,h1,h2,d=>by
  obtain ⟨g1,g2⟩:=List.pairwise_cons.mp h1
  have sub:=List.takeWhile_append_dropWhile (p:=fun y=>lt y x) (l:=ys)
  have hs:Srt lt (ys.takeWhile (fun y=>lt y x) ++ ys.dropWhile (fun y=>lt y x)):=by rw [sub]; exact h2
  obtain ⟨s1,s2,s3⟩:=List.pairwise_append.mp hs
  have dw:∀ z ∈ ys.dropWhile (fun y=>lt y x),lt x z = true:=by
   cases e:ys.dropWhile (fun y=>lt y x) with
   | nil=>intro z hz; cases hz
   | cons a r=>
    rw [e] at s2
    have ha:lt a x = false:=a8t (p:=fun y=>lt y x) e
    have am:a ∈ ys:=List.dropWhile_subset _ (e ▸ List.mem_cons_self ..)
    have xa:lt x a = true:=O.tot a x ha fun z=>d x (List.mem_cons_self ..) (z ▸ am)
    intro z hz
    rcases List.mem_cons.mp hz with q | q
    ·exact q ▸ xa
    ·exact O.tr _ _ _ xa ((List.pairwise_cons.mp s2).1 z q)
  have rest:∀ z ∈ mrg lt xs (ys.dropWhile (fun y=>lt y x)),lt x z = true:=fun z hz=>by
   rcases a3L hz with q | q
   ·exact g1 z q
   ·exact dw z q
  simp only [mrg]
  refine List.pairwise_append.mpr ⟨s1,List.pairwise_cons.mpr ⟨rest,a8c O g2 s2 fun a ha hb=>d a (List.mem_cons_of_mem _ ha) (List.dropWhile_subset _ hb)⟩,fun a ha b hb=>?_⟩
  have ax:lt a x = true:=a6f (p:=fun y=>lt y x) ha
  rcases List.mem_cons.mp hb with q | q
  ·exact q ▸ ax
  ·exact O.tr _ _ _ ax (rest b q)
theorem a2N:∀ (n:Nat) {l:List α} {z:α},z ∈ l → z ∈ srt lt n l
 | 0,l,z,h=>h
 | n + 1,l,z,h=>by
  simp only [srt]
  split
  ·exact h
  ·rw [← List.take_append_drop (l.length / 2) l] at h
   rcases List.mem_append.mp h with h | h
   ·exact a1E (.inl (a2N n h))
   ·exact a1E (.inr (a2N n h))
theorem a3v (O:Ord lt):∀ (n:Nat) (l:List α),l.length ≤ 2 ^ n → l.Nodup → Srt lt (srt lt (n + 1) l)
 | n,l,hl,nd=>by
  simp only [srt]
  split
  ·rename_i h
   match l,h with
   | [],_=>exact List.Pairwise.nil
   | [a],_=>exact List.pairwise_singleton _ _
   | a :: b :: r,h=>exact absurd h (by simp only [List.length_cons]; omega)
  ·rename_i h
   cases n with
   | zero=>exact absurd hl (by omega)
   | succ n=>
    have p2:2 ^ (n + 1) = 2 ^ n + 2 ^ n:=by rw [Nat.pow_succ]; omega
    rw [← List.take_append_drop (l.length / 2) l] at nd
    obtain ⟨n1,n2,n3⟩:=List.nodup_append.mp nd
    refine a8c O (a3v O n _ (by rw [List.length_take]; omega) n1) (a3v O n _ (by rw [List.length_drop]; omega) n2) fun x hx hy=>?_
    exact n3 x (O5 _ hx) x (O5 _ hy) rfl
theorem a65 (O:Ord lt):∀ {xs ys:List α},Srt lt xs → Srt lt ys → (∀ z,z ∈ xs ↔ z ∈ ys) → xs = ys
 | [],[],_,_,_=>rfl
 | [],b :: bs,_,_,h=>by have:=(h b).mpr (List.mem_cons_self ..); cases this
 | a :: as,[],_,_,h=>by have:=(h a).mp (List.mem_cons_self ..); cases this
 | a :: as,b :: bs,h1,h2,h=>by
  obtain ⟨a1,a2⟩:=List.pairwise_cons.mp h1
  obtain ⟨b1,b2⟩:=List.pairwise_cons.mp h2
  have e:a = b:=by
   rcases List.mem_cons.mp ((h a).mp (List.mem_cons_self ..)) with q | q
   ·exact q
   ·rcases List.mem_cons.mp ((h b).mpr (List.mem_cons_self ..)) with q2 | q2
    ·exact q2.symm
    ·have c:=O.tr _ _ _ (b1 a q) (a1 b q2)
     rw [O.irr] at c; cases c
  subst e
  refine congrArg _ (a65 O a2 b2 fun z=>⟨fun hz=>?_,fun hz=>?_⟩)
  ·rcases List.mem_cons.mp ((h z).mp (List.mem_cons_of_mem _ hz)) with q | q
   ·have c:=a1 z hz; rw [q,O.irr] at c; cases c
   ·exact q
  ·rcases List.mem_cons.mp ((h z).mpr (List.mem_cons_of_mem _ hz)) with q | q
   ·have c:=b1 z hz; rw [q,O.irr] at c; cases c
   ·exact q
theorem b14 [DecidableEq α] {acc:List α} {x z:α}:z ∈ E6 acc x ↔ z ∈ acc ∨ z = x:=by
 unfold E6
 by_cases h:x ∈ acc
 ·rw [if_pos h]; exact ⟨.inl,fun q=>q.elim id fun e=>e ▸ h⟩
 ·rw [if_neg h,List.mem_append,List.mem_singleton]
theorem a9y [DecidableEq α]:∀ {l acc:List α} {z:α},z ∈ l.foldl E6 acc ↔ z ∈ acc ∨ z ∈ l
 | [],acc,z=>by simp
 | x :: xs,acc,z=>by
  rw [List.foldl_cons,a9y,b14,List.mem_cons]
  exact or_assoc
theorem uniqG_in [DecidableEq α] {l:List α} {z:α}:z ∈ u9 l ↔ z ∈ l:=by
 unfold u9
 rw [a9y]
 simp
theorem b20 [DecidableEq α] {acc:List α} {x:α} (h:acc.Nodup):(E6 acc x).Nodup:=by
 unfold E6
 by_cases e:x ∈ acc
 ·rw [if_pos e]; exact h
 ·rw [if_neg e]
  refine List.nodup_append.mpr ⟨h,by simp,fun a ha b hb=>?_⟩
  rw [List.mem_singleton.mp hb]
  exact fun z=>e (z ▸ ha)
theorem b29 [DecidableEq α] (l:List α):(u9 l).Nodup:=by
 have:∀ (l acc:List α),acc.Nodup → (l.foldl E6 acc).Nodup:=fun l=>by
  induction l with
  | nil=>intro acc h; exact h
  | cons x xs ih=>intro acc h; exact ih _ (b20 h)
 exact this l [] List.nodup_nil
end
theorem lsB_ord:Ord lsB where
 irr:=fun a=>by
  cases q:lsB a a with
  | false=>rfl
  | true=>
   rw [M7] at q
   unfold w9 at q
   grind
 tr:=fun a b c h1 h2=>by
  rw [M7] at h1 h2 ⊢
  unfold w9 at *
  grind
 tot:=fun a b h n=>by
  have h:¬ (lsB a b = true):=by rw [h]; decide
  rw [M7] at h ⊢
  have:¬ (b.1 - a.1 = 0 ∧ b.2 - a.2 = 0):=fun z=>n (Prod.ext (by grind) (by grind))
  unfold w9 at *
  grind
noncomputable def C5 (l:List Pt):List Pt:=srt lsB 64 (u9 l)
theorem a1y {l:List Pt} (h:l.length < 2 ^ 20):Srt lsB (C5 l):=a3v lsB_ord 63 _ (Nat.le_trans (a8A l) (Nat.le_trans (Nat.le_of_lt h) (by decide))) (b29 l)
theorem rowP_in {l:List Pt} {z:Pt}:z ∈ C5 l ↔ z ∈ l:=⟨fun h=>a19 (O5 _ h),fun h=>a2N _ (uniqG_in.mpr h)⟩
theorem b3o {l m:List Pt} (h1:l.length < 2 ^ 20) (h2:m.length < 2 ^ 20) (h:∀ z,z ∈ l ↔ z ∈ m):C5 l = C5 m:=a65 lsB_ord (a1y h1) (a1y h2) fun z=>by rw [rowP_in,rowP_in]; exact h z
theorem b1M {i:Nat} {x:Str} {m:DFn} {r:List (Str × DFn)} {t:DA} {s:DS} (h:s.sl[i]? = some (.val (.fn x))):U1 i ((x,m) :: r) t s = c7 m t s:=by
 unfold U1
 rw [h]
 simp
theorem a0r {f:DE} {lo hi:DO} {s s1 s2 s3:DS} {ds:List DL.D} {l h:Option Int} (e:f s = some (.lst ds,s1)) (e1:lo s1 = some (l,s2)) (e2:hi s2 = some (h,s3)):dSl f lo hi s = some (.lst (E5 ds l h),s3):=by
 unfold dSl
 rw [e]
 show (lo s1).bind _ = _
 rw [e1]
 show (hi s2).bind _ = _
 rw [e2]
 rfl
theorem a6p (l:List DL.D) (n:Nat):E5 l (some (n:Int)) none = l.drop n:=by
 unfold E5
 rw [HT.sIx_nat,HT.sIx_none]
 by_cases h:n ≤ l.length
 ·rw [Nat.min_eq_left h,List.take_of_length_le (by rw [List.length_drop]; exact Nat.le_refl _)]
 ·rw [Nat.min_eq_right (by omega),List.drop_of_length_le (Nat.le_refl _),List.drop_of_length_le (by omega),List.take_nil]
theorem b5H (l:List DL.D) (n:Nat):E5 l none (some (n:Int)) = l.take n:=by
 unfold E5
 rw [HT.sIx_nat,HT.sIx_none,List.drop_zero,Nat.sub_zero]
 by_cases h:n ≤ l.length
 ·rw [Nat.min_eq_left h]
 ·rw [Nat.min_eq_right (by omega),List.take_of_length_le (Nat.le_refl _),List.take_of_length_le (by omega)]
theorem a5y (l:List DL.D):E5 l none (some (-1)) = l.dropLast:=by
 unfold E5
 have e2:HT.sIx l.length l.length (some (-1)) = l.length - 1:=by
  show (if (-1:Int) < 0 then ((-1:Int) + (l.length:Int)).toNat else min (-1:Int).toNat l.length) = _
  rw [if_pos (by decide)]
  omega
 rw [e2,HT.sIx_none,List.drop_zero,Nat.sub_zero,List.dropLast_eq_take]
theorem y0 {a:DE} {b:DA} {s:DS} {x:DL.D} {xs:List DL.D} (h1:a s = some (x,s)) (h2:b s = some (xs,s)):a6 a b s = some (x :: xs,s):=u8 h1 h2
theorem a0f (i j:Int):j8 (fun i j=>decide (i < j)) (.int i) (.int j) = some (.bl (decide (i < j))):=rfl
theorem a1i {l:List DL.D} {n:Nat} {x:DL.D} (h:l[n]? = some x):atI l (n:Int) = some x:=by
 have hn:n < l.length:=(List.getElem?_eq_some_iff.mp h).1
 unfold atI ixN
 rw [if_pos (by omega),if_pos (by omega)]
 exact h
theorem a1Z {ds:List DL.D} {i:Int} {d:DL.D} (h:atI ds i = some d):pIx (.lst ds) (.int i) = some d:=by
 show (atI ds i) = _
 exact h
section
variable {k:Nat} (hk:k ≤ 2000) (as zs:List Pt) (fs:Option FS)
noncomputable abbrev mS (as zs:List Pt) (fs:Option FS) (acc:List DL.D) (t:Nat) (x:Sl):DS:=⟨[.val (.lst (as.map pt)),.val (.lst (zs.map pt)),.val (.fn "is_lesser"),.own acc,.val (.int (t:Int)),x],fs⟩
noncomputable abbrev mT:DT:=v4 (dB (dOp (j8 (fun i j=>decide (i < j))) (dL 4) (dCB (one k9) (a6 (dL 1) a8)))) (dTr (U1 2 [("is_lesser",J6)] (a6 (dOp pIx (dL 1) (dL 4)) (a6 (dV 5) a8))))
include hk
theorem b3Y (acc:List DL.D) (t:Nat) (x:Sl) (h:zs.length ≤ t):mT (mS as zs fs acc t x) = some (false,mS as zs fs acc t x):=by
 refine a0s (v8 ?_)
 refine G5 (s1:=mS as zs fs acc t x) (x:=.int (t:Int)) rfl (F0 (s1:=mS as zs fs acc t x) (x:=.lst (zs.map pt)) rfl rfl) ?_
 rw [a0f,decide_eq_false (by rw [List.length_map]; omega)]
theorem b5u {x y:Pt} (acc:List DL.D) (t:Nat) (hx:Ps k x) (hy:Ps k y) (h:zs[t]? = some y):mT (mS as zs fs acc t (.val (pt x))) = some (lsB y x,mS as zs fs acc t (.val (pt x))):=by
 have ht:t < zs.length:=(List.getElem?_eq_some_iff.mp h).1
 refine U6 (s1:=mS as zs fs acc t (.val (pt x))) (v8 ?_) (a0X ?_)
 ·refine G5 (s1:=mS as zs fs acc t (.val (pt x))) (x:=.int (t:Int)) rfl (F0 (s1:=mS as zs fs acc t (.val (pt x))) (x:=.lst (zs.map pt)) rfl rfl) ?_
  rw [a0f,decide_eq_true (by rw [List.length_map]; omega)]
 ·rw [b1M rfl]
  refine k6 (xs:=[pt y,pt x]) (u8 (G5 (s1:=mS as zs fs acc t (.val (pt x))) (x:=.lst (zs.map pt)) (y:=.int (t:Int)) rfl rfl (a1Z (a1i (by rw [List.getElem?_map,h]; rfl)))) (u8 rfl rfl)) ?_
  exact b2J y x fs hy hx hk
theorem a6M (x:Pt) (hx:Ps k x) (hz:∀ z ∈ zs,Ps k z):∀ (ys pre:List Pt) (acc:List DL.D),zs = pre ++ ys → acc.length + ys.length < sizeLine →
  D8 mT (a4Y J6) (mS as zs fs acc pre.length (.val (pt x))) = some (.next,mS as zs fs (acc ++ (ys.takeWhile (fun y=>lsB y x)).map pt) (pre.length + (ys.takeWhile (fun y=>lsB y x)).length) (.val (pt x)))
 | [],pre,acc,e,l=>by
  refine (M6 (b3Y hk as zs fs acc pre.length _ (by rw [e]; simp))).trans ?_
  simp
 | y :: ys,pre,acc,e,l=>by
  have hy:zs[pre.length]? = some y:=by rw [e,List.getElem?_append_right (Nat.le_refl _),Nat.sub_self]; rfl
  have hyP:Ps k y:=hz y (by rw [e]; simp)
  have T:=b5u hk as zs fs acc pre.length hx hyP hy
  cases q:lsB y x with
  | false=>
   rw [q] at T
   refine (M6 T).trans ?_
   rw [List.takeWhile_cons,q]
   simp
  | true=>
   rw [q] at T
   have ll:acc.length < sizeLine:=by simp only [List.length_cons] at l; omega
   have B:a4Y J6 (mS as zs fs acc pre.length (.val (pt x))) = some (.next,mS as zs fs (acc ++ [pt y]) (pre ++ [y]).length (.val (pt x))):=by
    refine (j5 (s1:=mS as zs fs (acc ++ [pt y]) pre.length (.val (pt x))) (Q4 (i:=3) (s:=mS as zs fs acc pre.length (.val (pt x))) (s1:=mS as zs fs acc pre.length (.val (pt x))) (ds:=acc) (ds0:=acc) (d:=pt y) rfl (G5 (s1:=mS as zs fs acc pre.length (.val (pt x))) (x:=.lst (zs.map pt)) (y:=.int (pre.length:Int)) rfl rfl (a1Z (a1i (by rw [List.getElem?_map,hy]; rfl)))) rfl ll)).trans ?_
    refine o9 (G5 (x:=.int (pre.length:Int)) (y:=.int 1) rfl rfl rfl) ?_
    rw [List.length_append]
    rfl
   have ih:=a6M x hx hz ys (pre ++ [y]) (acc ++ [pt y]) (by rw [e]; simp) (by simp only [List.length_append,List.length_cons,List.length_nil] at l ⊢; omega)
   refine (N6 T B ih).trans ?_
   rw [List.takeWhile_cons,q,if_pos rfl,List.map_cons,List.append_assoc,List.singleton_append,List.length_cons,List.length_append,List.length_singleton]
   rw [show pre.length + 1 + (ys.takeWhile (fun y=>lsB y x)).length = pre.length + ((ys.takeWhile (fun y=>lsB y x)).length + 1) by omega]
theorem a8u (hz:∀ z ∈ zs,Ps k z):∀ (xs ys pre:List Pt) (acc:List DL.D) (x5:Sl),(∀ z ∈ xs,Ps k z) → zs = pre ++ ys → acc.length + xs.length + ys.length < sizeLine →
  ∃ (A:List Pt) (t:Nat) (x5':Sl),A9 (d0 5) (a44 J6) (xs.map pt) (mS as zs fs acc pre.length x5) = some (.next,mS as zs fs (acc ++ A.map pt) t x5') ∧ A ++ zs.drop t = mrg lsB xs ys
 | [],ys,pre,acc,x5,hxs,e,l=>⟨[],pre.length,x5,by simp [A9],by rw [e]; simp [mrg]⟩
 | x :: xs,ys,pre,acc,x5,hxs,e,l=>by
  have hx:=hxs x (List.mem_cons_self ..)
  have W:=a6M hk as zs fs x hx hz ys pre acc e (by simp only [List.length_cons] at l; omega)
  have tl:=congrArg List.length (List.takeWhile_append_dropWhile (p:=fun y=>lsB y x) (l:=ys))
  rw [List.length_append] at tl
  have B:a44 J6 (mS as zs fs acc pre.length (.val (pt x))) = some (.next,mS as zs fs (acc ++ (ys.takeWhile (fun y=>lsB y x)).map pt ++ [pt x]) (pre ++ ys.takeWhile (fun y=>lsB y x)).length (.val (pt x))):=by
   refine (j5 W).trans ?_
   rw [List.length_append]
   exact Q4 (i:=3) (s:=mS as zs fs (acc ++ (ys.takeWhile (fun y=>lsB y x)).map pt) (pre.length + (ys.takeWhile (fun y=>lsB y x)).length) (.val (pt x))) (s1:=mS as zs fs (acc ++ (ys.takeWhile (fun y=>lsB y x)).map pt) (pre.length + (ys.takeWhile (fun y=>lsB y x)).length) (.val (pt x))) (ds:=acc ++ (ys.takeWhile (fun y=>lsB y x)).map pt) (d:=pt x) rfl rfl rfl (by simp only [List.length_append,List.length_map,List.length_cons] at l ⊢; omega)
  obtain ⟨A,t,x5',h1,h2⟩:=a8u hz xs (ys.dropWhile (fun y=>lsB y x)) (pre ++ ys.takeWhile (fun y=>lsB y x)) (acc ++ (ys.takeWhile (fun y=>lsB y x)).map pt ++ [pt x]) (.val (pt x)) (fun z h=>hxs z (List.mem_cons_of_mem _ h))
   (by rw [e,List.append_assoc,List.takeWhile_append_dropWhile]) (by simp only [List.length_append,List.length_map,List.length_cons,List.length_nil] at l ⊢; omega)
  refine ⟨ys.takeWhile (fun y=>lsB y x) ++ x :: A,t,x5',?_,?_⟩
  ·rw [List.map_cons,M9 (s1:=mS as zs fs acc pre.length (.val (pt x))) rfl B,h1]
   simp
  ·simp only [mrg]
   rw [← h2]
   simp
theorem b09 (ha:∀ z ∈ as,Ps k z) (hz:∀ z ∈ zs,Ps k z) (l:as.length + zs.length < sizeLine):W4 J6 [.lst (as.map pt),.lst (zs.map pt),.fn "is_lesser"] fs = some (.lst ((mrg lsB as zs).map pt),fs):=by
 obtain ⟨A,t,x5,h1,h2⟩:=a8u hk as zs fs hz as zs [] [] .no ha rfl (by simpa using l)
 refine u6 (s:=mS as zs fs ([] ++ A.map pt) t x5) ?_
 show a40 J6 ⟨[.val (.lst (as.map pt)),.val (.lst (zs.map pt)),.val (.fn "is_lesser"),.no,.no,.no],fs⟩ = _
 unfold a40
 rw [j5 (s1:=⟨[.val (.lst (as.map pt)),.val (.lst (zs.map pt)),.val (.fn "is_lesser"),.own [],.no,.no],fs⟩) (G8 (i:=3) (s1:=⟨[.val (.lst (as.map pt)),.val (.lst (zs.map pt)),.val (.fn "is_lesser"),.no,.no,.no],fs⟩) (ds:=[]) rfl (by show 3 < 6; decide))]
 rw [j5 (s1:=mS as zs fs [] 0 .no) (o9 rfl rfl)]
 rw [j5 (s1:=mS as zs fs ([] ++ A.map pt) t x5) ((O6 (ds:=as.map pt) rfl).trans h1)]
 have hl:A.length + (zs.drop t).length < sizeLine:=by
  have e:=congrArg List.length h2
  rw [List.length_append,a4K] at e
  omega
 refine A2 ?_
 refine G5 (s1:=mS as zs fs ([] ++ A.map pt) t x5) (x:=.lst ([] ++ A.map pt)) rfl (a0r (s1:=mS as zs fs ([] ++ A.map pt) t x5) (ds:=zs.map pt) rfl (l:=some (t:Int)) (s2:=mS as zs fs ([] ++ A.map pt) t x5) rfl rfl) ?_
 rw [a6p,← h2,List.map_append,← List.map_drop,List.nil_append]
 refine if_pos ?_
 rw [List.length_map,List.length_map]
 omega
end
section
variable {k:Nat} (hk:k ≤ 2000)
include hk
theorem a4k:∀ (n:Nat) (l:List Pt) (fs:Option FS),(∀ z ∈ l,Ps k z) → l.length ≤ 2 ^ n → l.length < 2 ^ 20 → a0c (W4 J6) (n + 1) [.lst (l.map pt),.fn "is_lesser"] fs = some (.lst ((srt lsB (n + 1) l).map pt),fs)
 | n,l,fs,hl,h2,h3=>by
  have len:∀ x2:Sl,dCB (one k9) (a6 (dL 0) a8) ⟨[.val (.lst (l.map pt)),.val (.fn "is_lesser"),x2],fs⟩ = some (.int (l.length:Int),⟨[.val (.lst (l.map pt)),.val (.fn "is_lesser"),x2],fs⟩):=fun x2=>by
   refine F0 (x:=.lst (l.map pt)) rfl ?_
   show some (D.int ((l.map pt).length:Nat)) = _
   rw [List.length_map]
  by_cases hs:l.length < 2
  ·refine u6 (s:=⟨[.val (.lst (l.map pt)),.val (.fn "is_lesser"),.no],fs⟩) ?_
   show a03 _ _ ⟨[.val (.lst (l.map pt)),.val (.fn "is_lesser"),.no],fs⟩ = _
   unfold a03
   refine Y5 ?_
   rw [K1 (s1:=⟨[.val (.lst (l.map pt)),.val (.fn "is_lesser"),.no],fs⟩) (v8 (G5 (len _) rfl (by rw [a0f,decide_eq_true (by omega)])))]
   rw [srt,if_pos hs]
   rfl
  ·cases n with
   | zero=>exact absurd h2 (by omega)
   | succ n=>
    have p2:2 ^ (n + 1) = 2 ^ n + 2 ^ n:=by rw [Nat.pow_succ]; omega
    have e1:=a4k n (l.take (l.length / 2)) fs (fun z h=>hl z (List.mem_of_mem_take h)) (by rw [List.length_take]; omega) (by rw [List.length_take]; omega)
    have e2:=a4k n (l.drop (l.length / 2)) fs (fun z h=>hl z (List.mem_of_mem_drop h)) (by rw [List.length_drop]; omega) (by rw [List.length_drop]; omega)
    refine u6 (s:=⟨[.val (.lst (l.map pt)),.val (.fn "is_lesser"),.val (.int ((l.length / 2:Nat):Int))],fs⟩) ?_
    show a03 (W4 J6) (a0c (W4 J6) (n + 1)) ⟨[.val (.lst (l.map pt)),.val (.fn "is_lesser"),.no],fs⟩ = _
    unfold a03
    rw [j5 (s1:=⟨[.val (.lst (l.map pt)),.val (.fn "is_lesser"),.no],fs⟩) (R8 (v8 (G5 (len _) rfl (by rw [a0f,decide_eq_false (by omega)]))))]
    rw [j5 (s1:=⟨[.val (.lst (l.map pt)),.val (.fn "is_lesser"),.val (.int ((l.length / 2:Nat):Int))],fs⟩) (o9 (G5 (len _) rfl (U4 _ (by decide))) (by
     rw [show ((l.length:Int).fdiv 2) = ((l.length / 2:Nat):Int) by rw [Int.fdiv_eq_ediv_of_nonneg _ (by decide)]; rfl]; rfl))]
    rw [srt,if_neg hs]
    refine A2 ?_
    have v1:a6 (dV 1) a8 ⟨[.val (.lst (l.map pt)),.val (.fn "is_lesser"),.val (.int ((l.length / 2:Nat):Int))],fs⟩ = some ([.fn "is_lesser"],⟨[.val (.lst (l.map pt)),.val (.fn "is_lesser"),.val (.int ((l.length / 2:Nat):Int))],fs⟩):=rfl
    refine k6 (xs:=[.lst ((srt lsB (n + 1) (l.take (l.length / 2))).map pt),.lst ((srt lsB (n + 1) (l.drop (l.length / 2))).map pt),.fn "is_lesser"]) (y0 ?_ (y0 ?_ v1)) ?_
    ·refine k6 (xs:=[.lst ((l.take (l.length / 2)).map pt),.fn "is_lesser"]) (y0 ?_ v1) e1
     rw [List.map_take,← b5H]
     exact a0r (ds:=l.map pt) rfl (l:=none) rfl (h:=some ((l.length / 2:Nat):Int)) rfl
    ·refine k6 (xs:=[.lst ((l.drop (l.length / 2)).map pt),.fn "is_lesser"]) (y0 ?_ v1) e2
     rw [List.map_drop,← a6p]
     exact a0r (ds:=l.map pt) rfl (l:=some ((l.length / 2:Nat):Int)) rfl (h:=none) rfl
    ·refine b09 hk _ _ fs (fun z h=>hl z (List.mem_of_mem_take (O5 _ h))) (fun z h=>hl z (List.mem_of_mem_drop (O5 _ h))) ?_
     rw [T3,T3,List.length_take,List.length_drop]
     have:sizeLine = 2 ^ 24:=rfl
     omega
end
noncomputable def trB (a b c:Pt):Bool:=decide (sgn (a7 a b c) = 1)
theorem neI (i j:Int):pNe (.int i) (.int j) = some (.bl (!decide (i = j))):=T0 i j
section
variable {k:Nat} (hk:k ≤ 2000) (row:D) (fs:Option FS)
noncomputable abbrev bS (row:D) (fs:Option FS) (acc:List Pt) (x:Sl):DS:=⟨[.val row,.own (acc.reverse.map pt),x],fs⟩
noncomputable abbrev bT:DT:=v4 (dB (dOp (j8 (fun i j=>decide (j < i))) (dCB (one k9) (a6 (dL 1) a8)) (dC (.int 1)))) (dB (dOp pNe (c7 FTn (a6 (dOp pIx (dL 1) (dUn p8 (dC (.int 2)))) (a6 (dOp pIx (dL 1) (dUn p8 (dC (.int 1)))) (a6 (dV 2) a8)))) (dC (.int 1))))
theorem b1K (l:List DL.D) (x y:DL.D):atI (l ++ [x,y]) (-2) = some x:=by
 have hl:(l ++ [x,y]).length = l.length + 2:=by rw [List.length_append]; rfl
 unfold atI ixN
 rw [if_neg (by decide),if_pos (by omega)]
 show (l ++ [x,y])[((-2:Int) + (l ++ [x,y]).length).toNat]? = _
 rw [show ((-2:Int) + (l ++ [x,y]).length).toNat = l.length by omega,List.getElem?_append_right (Nat.le_refl _),Nat.sub_self]
 rfl
theorem b0q (l:List DL.D) (x y:DL.D):atI (l ++ [x,y]) (-1) = some y:=by
 have hl:(l ++ [x,y]).length = l.length + 2:=by rw [List.length_append]; rfl
 unfold atI ixN
 rw [if_neg (by decide),if_pos (by omega)]
 show (l ++ [x,y])[((-1:Int) + (l ++ [x,y]).length).toNat]? = _
 rw [show ((-1:Int) + (l ++ [x,y]).length).toNat = l.length + 1 by omega,List.getElem?_append_right (by omega),show l.length + 1 - l.length = 1 by omega]
 rfl
theorem a3y (acc:List Pt) (x:Sl):dOp (j8 (fun i j=>decide (j < i))) (dCB (one k9) (a6 (dL 1) a8)) (dC (.int 1)) (bS row fs acc x) = some (.bl (decide ((1:Int) < (acc.length:Int))),bS row fs acc x):=by
 refine G5 (s1:=bS row fs acc x) (x:=.int (acc.length:Int)) (F0 (x:=.lst (acc.reverse.map pt)) rfl ?_) rfl rfl
 show some (D.int ((acc.reverse.map pt).length:Nat)) = _
 rw [List.length_map,List.length_reverse]
include hk
theorem b4y {a b x:Pt} (r:List Pt) (ha:Ps k a) (hb:Ps k b) (hx:Ps k x):bT (bS row fs (b :: a :: r) (.val (pt x))) = some (!trB a b x,bS row fs (b :: a :: r) (.val (pt x))):=by
 have es:(b :: a :: r).reverse.map pt = r.reverse.map pt ++ [pt a,pt b]:=by simp
 have i2:dOp pIx (dL 1) (dUn p8 (dC (.int 2))) (bS row fs (b :: a :: r) (.val (pt x))) = some (pt a,bS row fs (b :: a :: r) (.val (pt x))):=G5 (x:=.lst ((b :: a :: r).reverse.map pt)) (y:=.int (-2)) rfl rfl (a1Z (by rw [es]; exact b1K _ _ _))
 have i1:dOp pIx (dL 1) (dUn p8 (dC (.int 1))) (bS row fs (b :: a :: r) (.val (pt x))) = some (pt b,bS row fs (b :: a :: r) (.val (pt x))):=G5 (x:=.lst ((b :: a :: r).reverse.map pt)) (y:=.int (-1)) rfl rfl (a1Z (by rw [es]; exact b0q _ _ _))
 refine U6 (s1:=bS row fs (b :: a :: r) (.val (pt x))) (v8 ?_) (v8 ?_)
 ·rw [a3y,decide_eq_true (by simp only [List.length_cons]; omega)]
 ·refine G5 (k6 (u8 i2 (u8 i1 (u8 rfl rfl))) (a1h a b x fs ha hb hx hk)) rfl ?_
  exact neI _ _
theorem a7i (x:Pt) (hx:Ps k x):∀ (acc:List Pt),(∀ z ∈ acc,Ps k z) → D8 bT (a0u 1) (bS row fs acc (.val (pt x))) = some (.next,bS row fs (A0 trB x acc) (.val (pt x)))
 | [],h=>M6 (a0s (v8 ((a3y row fs [] _).trans rfl)))
 | [b],h=>M6 (a0s (v8 ((a3y row fs [b] _).trans rfl)))
 | b :: a :: r,h=>by
  have T:=b4y hk row fs r (h a (by simp)) (h b (by simp)) hx
  cases q:trB a b x with
  | true=>
   rw [q] at T
   refine (M6 T).trans ?_
   simp only [A0]
   rw [if_pos q]
  | false=>
   rw [q] at T
   have P:a0u 1 (bS row fs (b :: a :: r) (.val (pt x))) = some (.next,bS row fs (a :: r) (.val (pt x))):=by
    show (if 0 < ((b :: a :: r).reverse.map pt).length then some (Fl.next,(⟨[.val row,.own ((b :: a :: r).reverse.map pt).dropLast,.val (pt x)],fs⟩:DS)) else none) = _
    rw [if_pos (by simp)]
    have e:((b :: a :: r).reverse.map pt).dropLast = (a :: r).reverse.map pt:=by
     rw [List.reverse_cons,List.map_append]
     simp
    rw [e]
   refine (N6 T P (a7i x hx (a :: r) fun z hz=>h z (List.mem_cons_of_mem _ hz))).trans ?_
   simp only [A0]
   rw [if_neg (by rw [q]; decide)]
theorem a63:∀ (l acc:List Pt) (x2:Sl),(∀ z ∈ l,Ps k z) → (∀ z ∈ acc,Ps k z) → acc.length + l.length < sizeLine → ∃ x2',A9 (d0 2) (a2B FTn) (l.map pt) (bS row fs acc x2) = some (.next,bS row fs (D9 trB acc l) x2')
 | [],acc,x2,h1,h2,hl=>⟨x2,rfl⟩
 | x :: xs,acc,x2,h1,h2,hl=>by
  have hx:=h1 x (List.mem_cons_self ..)
  have pl:=a2z (t:=trB) x acc
  have B:a2B FTn (bS row fs acc (.val (pt x))) = some (.next,bS row fs (x :: A0 trB x acc) (.val (pt x))):=by
   refine (j5 (a7i hk row fs x hx acc h2)).trans ?_
   refine (Q4 (i:=1) (s:=bS row fs (A0 trB x acc) (.val (pt x))) (s1:=bS row fs (A0 trB x acc) (.val (pt x))) (ds:=(A0 trB x acc).reverse.map pt) (ds0:=(A0 trB x acc).reverse.map pt) (d:=pt x) rfl rfl rfl (by simp only [List.length_map,List.length_reverse,List.length_cons] at hl ⊢; omega)).trans ?_
   have e:(x :: A0 trB x acc).reverse.map pt = (A0 trB x acc).reverse.map pt ++ [pt x]:=by rw [List.reverse_cons,List.map_append]; rfl
   show _ = some (Fl.next,(⟨[.val row,.own ((x :: A0 trB x acc).reverse.map pt),.val (pt x)],fs⟩:DS))
   rw [e]
   rfl
  obtain ⟨x2',h⟩:=a63 xs (x :: A0 trB x acc) (.val (pt x)) (fun z hz=>h1 z (List.mem_cons_of_mem _ hz)) (fun z hz=>by
   rcases List.mem_cons.mp hz with e | e
   ·exact e ▸ hx
   ·exact h2 z (a15 e)) (by simp only [List.length_cons] at hl ⊢; omega)
  refine ⟨x2',?_⟩
  rw [List.map_cons,M9 (s1:=bS row fs acc (.val (pt x))) rfl B,h]
  rfl
theorem a55 (l:List Pt) (h1:∀ z ∈ l,Ps k z) (hl:l.length < sizeLine):V6 FTn [.lst (l.map pt)] fs = some (.lst ((m8 trB l).map pt),fs):=by
 obtain ⟨x2,h⟩:=a63 hk (.lst (l.map pt)) fs l [] .no h1 (fun z hz=>by cases hz) (by simpa using hl)
 refine u6 (s:=⟨[.val (.lst (l.map pt)),.val (.lst ((m8 trB l).map pt)),x2],fs⟩) ?_
 show a22 FTn ⟨[.val (.lst (l.map pt)),.no,.no],fs⟩ = _
 unfold a22
 rw [j5 (s1:=bS (.lst (l.map pt)) fs [] .no) (G8 (i:=1) (s1:=⟨[.val (.lst (l.map pt)),.no,.no],fs⟩) (ds:=[]) rfl (by show 1 < 3; decide))]
 rw [j5 (s1:=bS (.lst (l.map pt)) fs (D9 trB [] l) x2) ((O6 (ds:=l.map pt) rfl).trans h)]
 exact A2 rfl
end
end T
namespace DL
open PySem L2
theorem a8d {x y u v:Rat} (h1:w9 x y) (h2:w9 u v):w9 (x + u) (y + v):=by
 unfold w9 at *
 grind
theorem a2n {x y u v a:Rat} (ha:0 ≤ a) (h1:w9 x y) (h2:w9 u v):w9 (a * x + u) (a * y + v):=by
 by_cases h:a = 0
 ·subst h
  rw [Rat.zero_mul,Rat.zero_mul,Rat.zero_add,Rat.zero_add]
  exact h2
 ·exact a8d ((U9 (by grind)).mpr h1) h2
theorem a6l {ux uy vx vy wx wy:Rat} (hu:w9 ux uy) (hv:w9 vx vy) (hw:w9 wx wy) (h1:0 < ux * vy - uy * vx) (h2:0 ≤ vx * wy - vy * wx):0 < ux * wy - uy * wx:=by
 by_cases c:0 < ux * wy - uy * wx
 ·exact c
 ·have k:0 ≤ -(ux * wy - uy * wx):=by grind
  have a:=(U9 h1).mpr hw
  have b:=a2n k hv (a2n h2 hu a)
  have e1:-(ux * wy - uy * wx) * vx + ((vx * wy - vy * wx) * ux + (ux * vy - uy * vx) * wx) = 0:=by grind
  have e2:-(ux * wy - uy * wx) * vy + ((vx * wy - vy * wx) * uy + (ux * vy - uy * vx) * wy) = 0:=by grind
  rw [e1,e2] at b
  exact absurd b a1k
noncomputable def F4 (h b o:Pt):Bool:=if a7 h b o = 0 then decide (dsq h b < dsq h o) else decide (a7 h b o < 0)
noncomputable def C6 (h:Pt) (b:Option Pt) (o:Pt):Option Pt:=if o = h then b else match b with
 | none=>some o
 | some r=>if F4 h r o then some o else some r
theorem U8 (h:Pt) (b:Option Pt):C6 h b h = b:=if_pos rfl
theorem U2 {h o:Pt} (n:o ≠ h):C6 h none o = some o:=if_neg n
theorem U7 {h r o:Pt} (n:o ≠ h) (f:F4 h r o = true):C6 h (some r) o = some o:=(if_neg n).trans (if_pos f)
theorem W2 {h r o:Pt} (n:o ≠ h) (f:F4 h r o = false):C6 h (some r) o = some r:=(if_neg n).trans (if_neg (by rw [f]; exact Bool.false_ne_true))
noncomputable def Fst (f:Pt) (S:List Pt) (b:Option Pt):Prop:=(b = none ∧ ∀ q ∈ S,q = f) ∨ ∃ p,b = some p ∧ p ∈ S ∧ p ≠ f ∧ ∀ q ∈ S,0 ≤ a7 f p q ∧ (a7 f p q = 0 → dsq f q ≤ dsq f p)
noncomputable def Lst (f:Pt) (q:Pt):Prop:=q = f ∨ w9 (q.1 - f.1) (q.2 - f.2)
theorem Lst.pos {f q:Pt} (h:Lst f q) (n:q ≠ f):w9 (q.1 - f.1) (q.2 - f.2):=h.resolve_left n
theorem a07 (f:Pt):dsq f f = 0:=by unfold dsq; grind
theorem R9 (f p:Pt):a7 f p f = 0:=by unfold a7; grind
theorem S7 (f p:Pt):a7 f p p = 0:=by unfold a7; grind
theorem a5n (a b:Pt):0 ≤ dsq a b:=by unfold dsq; exact Rat.add_nonneg (W6 _) (W6 _)
theorem a6I {f p z:Pt} (hp:p ≠ f) (lp:Lst f p) (lz:Lst f z) (c:a7 f p z = 0):∃ s:Rat,0 ≤ s ∧ z = l7 f p s:=by
 by_cases e:z = f
 ·exact ⟨0,by decide,by rw [Z7]; exact e⟩
 ·obtain ⟨s,hs⟩:=a0G (a:=f) (b:=p) (fun z=>hp z.symm) c
  refine ⟨s,?_,hs⟩
  have l:=lz.pos e
  rw [hs] at l
  unfold l7 at l
  simp only at l
  have e1:f.1 + s * (p.1 - f.1) - f.1 = s * (p.1 - f.1):=by grind
  have e2:f.2 + s * (p.2 - f.2) - f.2 = s * (p.2 - f.2):=by grind
  rw [e1,e2] at l
  exact Rat.le_of_lt ((b1r (lp.pos hp) s).mp l)
theorem b3C {f:Pt} {S:List Pt} {b:Option Pt} {o:Pt} (hS:∀ q ∈ S,Lst f q) (ho:Lst f o) (h:Fst f S b):Fst f (S ++ [o]) (C6 f b o):=by
 by_cases e:o = f
 ·subst e
  rw [U8]
  rcases h with ⟨rfl,h⟩ | ⟨p,rfl,h1,h2,h3⟩
  ·refine .inl ⟨rfl,fun q hq=>?_⟩
   rcases List.mem_append.mp hq with hq | hq
   ·exact h q hq
   ·exact List.mem_singleton.mp hq
  ·refine .inr ⟨p,rfl,List.mem_append_left _ h1,h2,fun q hq=>?_⟩
   rcases List.mem_append.mp hq with hq | hq
   ·exact h3 q hq
   ·rw [List.mem_singleton.mp hq,R9,a07]
    exact ⟨Rat.le_refl,fun _=>a5n _ _⟩
 ·have lo:=ho.pos e
  rcases h with ⟨rfl,h⟩ | ⟨p,rfl,h1,h2,h3⟩
  ·rw [U2 e]
   refine .inr ⟨o,rfl,List.mem_append_right _ (List.mem_singleton.mpr rfl),e,fun q hq=>?_⟩
   rcases List.mem_append.mp hq with hq | hq
   ·rw [h q hq,R9,a07]
    exact ⟨Rat.le_refl,fun _=>a5n _ _⟩
   ·rw [List.mem_singleton.mp hq,S7]
    exact ⟨Rat.le_refl,fun _=>Rat.le_refl⟩
  ·have lp:=(hS p h1).pos h2
   cases hf:F4 f p o with
   | true=>
    rw [U7 e hf]
    refine .inr ⟨o,rfl,List.mem_append_right _ (List.mem_singleton.mpr rfl),e,fun q hq=>?_⟩
    rcases List.mem_append.mp hq with hq | hq
    ·obtain ⟨c1,c2⟩:=h3 q hq
     by_cases eq:q = f
     ·rw [eq,R9,a07]
      exact ⟨Rat.le_refl,fun _=>a5n _ _⟩
     ·have lq:=(hS q hq).pos eq
      unfold F4 at hf
      by_cases c0:a7 f p o = 0
      ·rw [if_pos c0] at hf
       have hd:=of_decide_eq_true hf
       obtain ⟨s,s0,hs⟩:=a6I h2 (hS p h1) ho c0
       have hc:a7 f o q = s * a7 f p q:=by rw [hs]; unfold l7 a7; grind
       have s1:s ≠ 0:=fun z=>e (by rw [hs,z,Z7])
       refine ⟨by rw [hc]; exact Rat.mul_nonneg s0 c1,fun z=>?_⟩
       rw [hc] at z
       rcases Rat.mul_eq_zero.mp z with z | z
       ·exact absurd z s1
       ·exact Rat.le_trans (c2 z) (Rat.le_of_lt hd)
      ·rw [if_neg c0] at hf
       have hd:=of_decide_eq_true hf
       have ht:=a6l lo lp lq (by unfold a7 at hd; grind) (by unfold a7 at c1; grind)
       have:0 < a7 f o q:=by unfold a7; grind
       exact ⟨Rat.le_of_lt this,fun z=>by rw [z] at this; exact absurd this Rat.lt_irrefl⟩
    ·rw [List.mem_singleton.mp hq,S7]
     exact ⟨Rat.le_refl,fun _=>Rat.le_refl⟩
   | false=>
    rw [W2 e hf]
    refine .inr ⟨p,rfl,List.mem_append_left _ h1,h2,fun q hq=>?_⟩
    rcases List.mem_append.mp hq with hq | hq
    ·exact h3 q hq
    ·rw [List.mem_singleton.mp hq]
     unfold F4 at hf
     by_cases c0:a7 f p o = 0
     ·rw [if_pos c0] at hf
      have:=of_decide_eq_false hf
      exact ⟨by rw [c0]; exact Rat.le_refl,fun _=>by grind⟩
     ·rw [if_neg c0] at hf
      have:=of_decide_eq_false hf
      exact ⟨by grind,fun z=>absurd z c0⟩
theorem a0P {f:Pt}:∀ (l S:List Pt) (b:Option Pt),(∀ q ∈ S ++ l,Lst f q) → Fst f S b → Fst f (S ++ l) (l.foldl (C6 f) b)
 | [],S,b,_,h=>by rw [List.append_nil]; exact h
 | o :: r,S,b,hl,h=>by
  have e:S ++ o :: r = (S ++ [o]) ++ r:=by simp
  rw [List.foldl_cons,e]
  rw [e] at hl
  exact a0P r (S ++ [o]) _ hl (b3C (fun q hq=>hl q (List.mem_append_left _ (List.mem_append_left _ hq))) (hl o (List.mem_append_left _ (List.mem_append_right _ (List.mem_singleton.mpr rfl)))) h)
noncomputable def Snd (f p:Pt) (S:List Pt) (b:Option Pt):Prop:=(b = none ∧ ∀ q ∈ S,q = p) ∨ ∃ r,b = some r ∧ r ∈ S ∧ r ≠ p ∧ ((∃ q ∈ S,0 < a7 f p q) → 0 < a7 f p r)
theorem a8X {f p z:Pt} (hp:p ≠ f) (lp:Lst f p) (lz:Lst f z) (c:a7 f p z = 0) (hd:dsq f z ≤ dsq f p) (hz:z ≠ p):∃ s:Rat,s < 1 ∧ z = l7 f p s:=by
 obtain ⟨s,s0,hs⟩:=a6I hp lp lz c
 refine ⟨s,?_,hs⟩
 have d:=(a77 f p s).1
 rw [← hs] at d
 have dp:=a1w (fun z=>hp z.symm:f ≠ p)
 have ss:s * s ≤ 1:=by
  rcases (Rat.le_total:s * s ≤ 1 ∨ 1 ≤ s * s) with q | q
  ·exact q
  ·have:dsq f p ≤ s * s * dsq f p:=by
    have:=Rat.mul_le_mul_of_nonneg_right q (Rat.le_of_lt dp)
    rwa [Rat.one_mul] at this
   rw [← d] at this
   have e:s * s * dsq f p = 1 * dsq f p:=by rw [← d,Rat.one_mul]; exact Rat.le_antisymm hd this
   have e2:(s * s - 1) * dsq f p = 0:=by grind
   rcases Rat.mul_eq_zero.mp e2 with q | q
   ·grind
   ·rw [q] at dp; exact absurd dp Rat.lt_irrefl
 have s1:=(b4I s).mp ss
 have n1:s ≠ 1:=fun z1=>hz (by rw [hs,z1,Z4])
 grind
theorem b2I {f p:Pt} {S l:List Pt} {b:Option Pt} {o:Pt} (hp:p ≠ f) (hl:∀ q ∈ l,Lst f q) (pl:p ∈ l) (F:∀ q ∈ l,0 ≤ a7 f p q ∧ (a7 f p q = 0 → dsq f q ≤ dsq f p)) (hS:∀ q ∈ S,q ∈ l) (ho:o ∈ l) (h:Snd f p S b):Snd f p (S ++ [o]) (C6 p b o):=by
 by_cases e:o = p
 ·subst e
  rw [U8]
  rcases h with ⟨rfl,h⟩ | ⟨r,rfl,h1,h2,h3⟩
  ·refine .inl ⟨rfl,fun q hq=>?_⟩
   rcases List.mem_append.mp hq with hq | hq
   ·exact h q hq
   ·exact List.mem_singleton.mp hq
  ·refine .inr ⟨r,rfl,List.mem_append_left _ h1,h2,fun ⟨q,hq,c⟩=>?_⟩
   rcases List.mem_append.mp hq with hq | hq
   ·exact h3 ⟨q,hq,c⟩
   ·rw [List.mem_singleton.mp hq,S7] at c
    exact absurd c Rat.lt_irrefl
 ·rcases h with ⟨rfl,h⟩ | ⟨r,rfl,h1,h2,h3⟩
  ·rw [U2 e]
   refine .inr ⟨o,rfl,List.mem_append_right _ (List.mem_singleton.mpr rfl),e,fun ⟨q,hq,c⟩=>?_⟩
   rcases List.mem_append.mp hq with hq | hq
   ·rw [h q hq,S7] at c
    exact absurd c Rat.lt_irrefl
   ·rw [List.mem_singleton.mp hq] at c
    exact c
  ·obtain ⟨ro1,ro2⟩:=F r (hS r h1)
   obtain ⟨oo1,oo2⟩:=F o ho
   cases hf:F4 p r o with
   | true=>
    rw [U7 e hf]
    refine .inr ⟨o,rfl,List.mem_append_right _ (List.mem_singleton.mpr rfl),e,fun ⟨q,hq,c⟩=>?_⟩
    rcases List.mem_append.mp hq with hq | hq
    ·have cr:=h3 ⟨q,hq,c⟩
     by_cases z:a7 f p o = 0
     ·obtain ⟨s,s1,hs⟩:=a8X hp (hl p pl) (hl o ho) z (oo2 z) e
      have k:a7 p r o = (1 - s) * a7 f p r:=by rw [hs]; unfold l7 a7; grind
      have k2:0 < a7 p r o:=by rw [k]; exact Rat.mul_pos (by grind) cr
      unfold F4 at hf
      rw [if_neg (by grind)] at hf
      have:=of_decide_eq_true hf
      grind
     ·grind
    ·rw [List.mem_singleton.mp hq] at c
     exact c
   | false=>
    rw [W2 e hf]
    refine .inr ⟨r,rfl,List.mem_append_left _ h1,h2,fun ⟨q,hq,c⟩=>?_⟩
    rcases List.mem_append.mp hq with hq | hq
    ·exact h3 ⟨q,hq,c⟩
    ·rw [List.mem_singleton.mp hq] at c
     by_cases z:a7 f p r = 0
     ·obtain ⟨s,s1,hs⟩:=a8X hp (hl p pl) (hl r (hS r h1)) z (ro2 z) h2
      have k:a7 p r o = -((1 - s) * a7 f p o):=by rw [hs]; unfold l7 a7; grind
      have k1:0 < (1 - s) * a7 f p o:=Rat.mul_pos (by grind) c
      unfold F4 at hf
      rw [if_neg (by grind)] at hf
      have:=of_decide_eq_false hf
      grind
     ·grind
theorem a6A {f p:Pt} {l0:List Pt} (hp:p ≠ f) (hl:∀ q ∈ l0,Lst f q) (pl:p ∈ l0) (F:∀ q ∈ l0,0 ≤ a7 f p q ∧ (a7 f p q = 0 → dsq f q ≤ dsq f p)):∀ (l S:List Pt) (b:Option Pt),(∀ q ∈ S ++ l,q ∈ l0) → Snd f p S b → Snd f p (S ++ l) (l.foldl (C6 p) b)
 | [],S,b,_,h=>by rw [List.append_nil]; exact h
 | o :: r,S,b,hm,h=>by
  have e:S ++ o :: r = (S ++ [o]) ++ r:=by simp
  rw [List.foldl_cons,e]
  rw [e] at hm
  exact a6A hp hl pl F r (S ++ [o]) _ hm (b2I hp hl pl F (fun q hq=>hm q (List.mem_append_left _ (List.mem_append_left _ hq))) (hm o (List.mem_append_left _ (List.mem_append_right _ (List.mem_singleton.mpr rfl)))) h)
theorem a21 {f p a b c:Pt} (hp:p ≠ f) (h1:a7 f p a = 0) (h2:a7 f p b = 0) (h3:a7 f p c = 0):a7 a b c = 0:=by
 obtain ⟨s,rfl⟩:=a0G (a:=f) (b:=p) (fun z=>hp z.symm) h1
 obtain ⟨t,rfl⟩:=a0G (a:=f) (b:=p) (fun z=>hp z.symm) h2
 obtain ⟨u,rfl⟩:=a0G (a:=f) (b:=p) (fun z=>hp z.symm) h3
 unfold l7 a7
 grind
noncomputable def F9 (h:Pt) (l:List Pt):Option Pt:=l.foldl (C6 h) none
theorem b0k {f:Pt} {l:List Pt} (hf:f ∈ l) (hl:∀ q ∈ l,Lst f q) {a b c:Pt} (ha:a ∈ l) (hb:b ∈ l) (hc:c ∈ l) (h:a7 a b c ≠ 0):∃ p r,F9 f l = some p ∧ p ≠ f ∧ p ∈ l ∧ F9 p l = some r ∧ r ≠ f ∧ r ∈ l:=by
 have h1:=a0P l [] none (by simpa using hl) (.inl ⟨rfl,fun q hq=>by cases hq⟩)
 rw [List.nil_append] at h1
 rcases h1 with ⟨_,h1⟩ | ⟨p,e1,p1,p2,p3⟩
 ·exact absurd (by rw [h1 a ha,h1 b hb,h1 c hc,R9]) h
 ·have ex:∃ q ∈ l,0 < a7 f p q:=by
   by_cases z1:a7 f p a = 0
   ·by_cases z2:a7 f p b = 0
    ·by_cases z3:a7 f p c = 0
     ·exact absurd (a21 p2 z1 z2 z3) h
     ·have:=(p3 c hc).1
      exact ⟨c,hc,by grind⟩
    ·have:=(p3 b hb).1
     exact ⟨b,hb,by grind⟩
   ·have:=(p3 a ha).1
    exact ⟨a,ha,by grind⟩
  have h2:=a6A p2 hl p1 p3 l [] none (by simp) (.inl ⟨rfl,fun q hq=>by cases hq⟩)
  rw [List.nil_append] at h2
  rcases h2 with ⟨_,h2⟩ | ⟨r,e2,r1,r2,r3⟩
  ·exact absurd (h2 f hf) (fun z=>p2 z.symm)
  ·refine ⟨p,r,e1,p2,p1,e2,fun z=>?_,r1⟩
   have:=r3 ex
   rw [z,R9] at this
   exact absurd this Rat.lt_irrefl
end DL
namespace T
open PySem L2 DL
theorem a6Y {ux uy vx vy wx wy:Rat} (hu:w9 ux uy) (hv:w9 vx vy) (hw:w9 wx wy) (h1:0 ≤ ux * vy - uy * vx) (h2:0 ≤ vx * wy - vy * wx):0 ≤ ux * wy - uy * wx:=by
 refine Rat.not_lt.mp fun h=>?_
 have hs:0 < -(ux * wy - uy * wx):=by grind
 have a1:=(U9 hs).mpr hv
 have a2:=a2n h1 hw a1
 have a3:=a2n h2 hu a2
 have e1:(vx * wy - vy * wx) * ux + ((ux * vy - uy * vx) * wx + -(ux * wy - uy * wx) * vx) = 0:=by grind
 have e2:(vx * wy - vy * wx) * uy + ((ux * vy - uy * vx) * wy + -(ux * wy - uy * wx) * vy) = 0:=by grind
 rw [e1,e2] at a3
 exact a1k a3
theorem a5H (r:Rat):sgn r = 1 ↔ 0 < r:=by
 unfold sgn
 by_cases h:0 < r
 ·rw [if_pos h]; exact ⟨fun _=>h,fun _=>rfl⟩
 ·rw [if_neg h]
  by_cases h2:r < 0
  ·rw [if_pos h2]; exact ⟨fun z=>absurd z (by decide),fun z=>absurd z h⟩
  ·rw [if_neg h2]; exact ⟨fun z=>absurd z (by decide),fun z=>absurd z h⟩
theorem N0 {a b:Pt} (h:lsB a b = true):w9 (b.1 - a.1) (b.2 - a.2):=(M7 a b).mp h
noncomputable def Ch (S:Pt → Prop):List Pt → Prop
 | b :: a :: r=>lsB a b = true ∧ (∀ q,S q → 0 ≤ a7 a b q) ∧ (∀ z r',r = z :: r' → 0 < a7 z a b) ∧ Ch S (a :: r)
 | _=>True
noncomputable def Up (S:Pt → Prop) (x b:Pt):Prop:=(∀ q,S q → q = b ∨ lsB q b = true) ∨ ∃ c,lsB b c = true ∧ (∀ q,S q → 0 ≤ a7 b c q) ∧ ¬ (0 < a7 b c x)
theorem a5t {S:Pt → Prop} {x b q:Pt} (U:Up S x b) (hq:S q) (bx:lsB b x = true) (h:q = b ∨ lsB b q = true):0 ≤ a7 b x q:=by
 rcases h with rfl | h
 ·have:a7 q x q = 0:=R9 q x
  rw [this]; exact Rat.le_refl
 ·rcases U with U | ⟨c,bc,Uc,n⟩
  ·rcases U q hq with e | e
   ·subst e
    rw [R9]; exact Rat.le_refl
   ·have:=lsB_ord.tr _ _ _ h e
    rw [lsB_ord.irr] at this; cases this
  ·have k1:=Uc q hq
   have k2:0 ≤ -a7 b c x:=by have:=Rat.not_lt.mp n; grind
   have:=a6Y (N0 bx) (N0 bc) (N0 h) (by rw [show (x.1 - b.1) * (c.2 - b.2) - (x.2 - b.2) * (c.1 - b.1) = -a7 b c x by unfold a7; grind]; exact k2) (by unfold a7 at k1; exact k1)
   unfold a7
   exact this
theorem b1S {a b x q:Pt} (ab:lsB a b = true) (bx:lsB b x = true) (qb:lsB q b = true) (h1:0 ≤ a7 a b q) (h2:0 < a7 a b x):0 ≤ a7 b x q:=by
 have:=a6Y (N0 qb) (N0 ab) (N0 bx) (by rw [show (b.1 - q.1) * (b.2 - a.2) - (b.2 - q.2) * (b.1 - a.1) = a7 a b q by unfold a7; grind]; exact h1)
  (by rw [show (b.1 - a.1) * (x.2 - b.2) - (b.2 - a.2) * (x.1 - b.1) = a7 a b x by unfold a7; grind]; exact Rat.le_of_lt h2)
 have e:a7 b x q = (b.1 - q.1) * (x.2 - b.2) - (b.2 - q.2) * (x.1 - b.1):=by unfold a7; grind
 rw [e]; exact this
theorem b32 {z a b x:Pt} (za:lsB z a = true) (ab:lsB a b = true) (bx:lsB b x = true) (h1:0 < a7 z a b) (h2:0 < a7 a b x):0 < a7 z a x:=by
 have:=a6l (N0 za) (N0 ab) (N0 bx) (by rw [show (a.1 - z.1) * (b.2 - a.2) - (a.2 - z.2) * (b.1 - a.1) = a7 z a b by unfold a7; grind]; exact h1)
  (by rw [show (b.1 - a.1) * (x.2 - b.2) - (b.2 - a.2) * (x.1 - b.1) = a7 a b x by unfold a7; grind]; exact Rat.le_of_lt h2)
 have e:a7 z a x = a7 z a b + ((a.1 - z.1) * (x.2 - b.2) - (a.2 - z.2) * (x.1 - b.1)):=by unfold a7; grind
 rw [e]; grind
theorem a85 {S:Pt → Prop} {x:Pt}:∀ {r:List Pt} {b a:Pt},Ch S (b :: a :: r) → 0 < a7 a b x → lsB b x = true → Ch (fun q=>S q ∨ q = x) (b :: a :: r)
 | r,b,a,⟨ab,L,T,R⟩,h,bx=>by
  refine ⟨ab,fun q hq=>hq.elim (L q) fun e=>by rw [e]; exact Rat.le_of_lt h,T,?_⟩
  cases r with
  | nil=>trivial
  | cons z r'=>
   have t:=T z r' rfl
   exact a85 R (b32 R.1 ab bx t h) (lsB_ord.tr _ _ _ ab bx)
theorem a54 {S:Pt → Prop} {x:Pt} (hx:∀ q,S q → lsB q x = true):∀ (r:List Pt) (b:Pt),Ch S (b :: r) → Up S x b → (∀ p,(b :: r).getLast? = some p → ∀ q,S q → q = p ∨ lsB p q = true) → (∀ z ∈ b :: r,S z) → Ch (fun q=>S q ∨ q = x) (x :: A0 trB x (b :: r))
 | [],b,C,U,B,I=>by
  have bx:=hx b (I b (by simp))
  refine ⟨bx,fun q hq=>?_,fun z r' e=>(by cases e),trivial⟩
  rcases hq with hq | rfl
  ·exact a5t U hq bx (B b rfl q hq)
  ·rw [S7]; exact Rat.le_refl
 | a :: r,b,C,U,B,I=>by
  obtain ⟨ab,L,T,R⟩:=id C
  have bx:=hx b (I b (by simp))
  simp only [A0]
  by_cases t:trB a b x = true
  ·rw [if_pos t]
   have t:0 < a7 a b x:=by
    unfold trB at t
    have:=of_decide_eq_true t
    exact (a5H _).mp this
   refine ⟨bx,fun q hq=>?_,fun z r' e=>(by cases e; exact t),a85 C t bx⟩
   rcases hq with hq | rfl
   ·by_cases n:q = b
    ·exact a5t U hq bx (.inl n)
    ·cases w:lsB q b with
     | true=>exact b1S ab bx w (L q hq) t
     | false=>exact a5t U hq bx (.inr (lsB_ord.tot q b w n))
   ·rw [S7]; exact Rat.le_refl
  ·rw [if_neg t]
   have t:¬ (0 < a7 a b x):=fun z=>t (by unfold trB; exact decide_eq_true ((a5H _).mpr z))
   exact a54 hx r a R (.inr ⟨b,ab,L,t⟩) (fun p e=>B p (by rw [List.getLast?_cons_cons]; exact e)) fun z hz=>I z (List.mem_cons_of_mem _ hz)
theorem a3r {α:Type} {t:α → α → α → Bool} {x:α}:∀ l:List α,(A0 t x l).getLast? = l.getLast?
 | []=>rfl
 | [b]=>rfl
 | b :: a :: r=>by
  simp only [A0]
  split
  ·rfl
  ·rw [a3r (a :: r),List.getLast?_cons_cons]
theorem a5j {α:Type} {t:α → α → α → Bool} {x:α}:∀ {l:List α},l ≠ [] → A0 t x l ≠ []
 | [],h=>absurd rfl h
 | [b],_=>by simp [A0]
 | b :: a :: r,_=>by
  simp only [A0]
  split
  ·simp
  ·exact a5j (by simp)
structure Stk (S:Pt → Prop) (acc:List Pt):Prop where
 ch:Ch S acc
 top:∀ b r,acc = b :: r → ∀ q,S q → q = b ∨ lsB q b = true
 bot:∀ p,acc.getLast? = some p → ∀ q,S q → q = p ∨ lsB p q = true
 mem:∀ z ∈ acc,S z
theorem b5E {S:Pt → Prop} {acc:List Pt} {x:Pt} (h:Stk S acc) (ne:acc ≠ []) (hx:∀ q,S q → lsB q x = true):Stk (fun q=>S q ∨ q = x) (x :: A0 trB x acc):=by
 cases acc with
 | nil=>exact absurd rfl ne
 | cons b r=>
  have pn:A0 trB x (b :: r) ≠ []:=a5j ne
  refine ⟨a54 hx r b h.ch (.inl (h.top b r rfl)) h.bot h.mem,fun b' r' e q hq=>?_,fun p e q hq=>?_,fun z hz=>?_⟩
  ·cases e
   exact hq.elim (fun z=>.inr (hx q z)) .inl
  ·have e2:(b :: r).getLast? = some p:=by
    rw [← a3r (t:=trB) (x:=x) (b :: r)]
    cases w:A0 trB x (b :: r) with
    | nil=>exact absurd w pn
    | cons c cs=>rw [w,List.getLast?_cons_cons] at e; exact e
   rcases hq with hq | rfl
   ·exact h.bot p e2 q hq
   ·exact .inr (hx p (h.mem p (List.mem_of_getLast? e2)))
  ·rcases List.mem_cons.mp hz with e | e
   ·exact .inr e
   ·exact .inl (h.mem z (a15 e))
theorem Ch.sub {S S':Pt → Prop} (h:∀ q,S' q → S q):∀ {l:List Pt},Ch S l → Ch S' l
 | [],_=>trivial
 | [b],_=>trivial
 | b :: a :: r,⟨h1,h2,h3,h4⟩=>⟨h1,fun q hq=>h2 q (h q hq),h3,Ch.sub h h4⟩
theorem Stk.sub {S S':Pt → Prop} {l:List Pt} (h:Stk S l) (e:∀ q,S' q ↔ S q):Stk S' l:=
 ⟨h.ch.sub fun q hq=>(e q).mp hq,fun b r g q hq=>h.top b r g q ((e q).mp hq),fun p g q hq=>h.bot p g q ((e q).mp hq),fun z hz=>(e z).mpr (h.mem z hz)⟩
theorem a7H:∀ (l acc:List Pt) (S:Pt → Prop),Stk S acc → acc ≠ [] → (∀ q,S q → ∀ x ∈ l,lsB q x = true) → Srt lsB l → Stk (fun q=>S q ∨ q ∈ l) (D9 trB acc l) ∧ D9 trB acc l ≠ [] ∧ (D9 trB acc l).getLast? = acc.getLast?
 | [],acc,S,h,ne,_,_=>⟨h.sub fun q=>by simp,ne,rfl⟩
 | x :: xs,acc,S,h,ne,hl,hs=>by
  obtain ⟨s1,s2⟩:=List.pairwise_cons.mp hs
  have h1:=b5E h ne fun q hq=>hl q hq x (List.mem_cons_self ..)
  obtain ⟨g1,g2,g3⟩:=a7H xs (x :: A0 trB x acc) _ h1 (by simp) (fun q hq y hy=>hq.elim (fun z=>hl q z y (List.mem_cons_of_mem _ hy)) fun z=>z ▸ s1 y hy) s2
  refine ⟨g1.sub fun q=>by rw [List.mem_cons,or_assoc],g2,?_⟩
  simp only [D9]
  rw [g3]
  cases w:A0 trB x acc with
  | nil=>exact absurd w (a5j ne)
  | cons c cs=>rw [List.getLast?_cons_cons,← w,a3r]
theorem a4h {p:Pt} {l:List Pt} (h:Srt lsB (p :: l)):Stk (fun q=>q ∈ p :: l) (D9 trB [] (p :: l)) ∧ (D9 trB [] (p :: l)).getLast? = some p ∧ D9 trB [] (p :: l) ≠ []:=by
 obtain ⟨h1,h2⟩:=List.pairwise_cons.mp h
 have s0:Stk (fun q=>q = p) [p]:=⟨trivial,fun b r e q hq=>by cases e; exact .inl hq,fun p' e q hq=>by cases e; exact .inl hq,fun z hz=>by simpa using hz⟩
 obtain ⟨g1,g2,g3⟩:=a7H l [p] _ s0 (by simp) (fun q hq x hx=>by rw [hq]; exact h1 x hx) h2
 exact ⟨g1.sub fun q=>by rw [List.mem_cons],g3,g2⟩
noncomputable def tri (p:Pt):List Int:=[pX p,pY p,pL p]
theorem a9H {p q:Pt} (h:tri p = tri q):p = q:=by
 simp only [tri,List.cons.injEq,and_true] at h
 obtain ⟨h1,h2,h3⟩:=h
 refine Prod.ext ?_ ?_
 ·rw [← a4E p,← a4E q,h1,h3]
 ·rw [← a4r p,← a4r q,h2,h3]
theorem b1C {p q:Pt} (h:pt p = pt q):p = q:=by
 have h:D.tup [.int (pX p),.int (pY p),.int (pL p)] = .tup [.int (pX q),.int (pY q),.int (pL q)]:=h
 simp only [D.tup.injEq,List.cons.injEq,D.int.injEq,and_true] at h
 refine a9H ?_
 simp only [tri,h]
theorem a6h:∀ l:List Pt,W0 (l.map pt) = some (l.map tri)
 | []=>rfl
 | p :: r=>by
  have ih:=a6h r
  show (some [pX p,pY p,pL p]).bind (fun k=>(W0 (r.map pt)).map (k :: ·)) = _
  rw [ih]
  rfl
theorem b6d:L6 = E6:=by
 funext acc k
 unfold L6 E6
 by_cases h:k ∈ acc
 ·rw [if_pos h,if_pos h]
 ·rw [if_neg h,if_neg h]
theorem b4L (l:List (List Int)):J5 l = u9 l:=by unfold J5 u9; rw [b6d]
theorem b02 (l:List Pt):(J5 (l.map tri)).map W9 = (u9 l).map pt:=by
 have e:J5 (l.map tri) = (u9 l).map tri:=(b4L _).trans (b54 (f:=tri) (fun a b h=>a9H h) l)
 rw [e,List.map_map]
 rfl
noncomputable def l5 (l:List Pt):List Pt:=N4 lsB trB (u9 l)
theorem b4o {α:Type} {lt:α → α → Bool} {t:α → α → α → Bool} (l:List α):(N4 lt t l).length ≤ l.length + l.length:=by
 unfold N4
 have h1:=a6K (t:=t) (srt lt 64 l)
 have h2:=a6K (t:=t) (srt lt 64 l).reverse
 rw [List.length_reverse,T3] at h2
 rw [T3] at h1
 rw [List.length_append,List.length_dropLast,List.length_dropLast]
 omega
theorem a3D {l:List Pt} {z:Pt} (h:z ∈ l5 l):z ∈ l:=by
 unfold l5 N4 at h
 rcases List.mem_append.mp h with h | h
 ·exact a19 (O5 _ (a1F (List.dropLast_subset _ h)))
 ·exact a19 (O5 _ (List.mem_reverse.mp (a1F (List.dropLast_subset _ h))))
noncomputable abbrev IOr:DFn:=a0c (W4 J6) 64
noncomputable abbrev SHO:DFn:=a26 IOr (V6 FTn)
noncomputable def i4 (l:List Pt):D:=if (l5 l).length < 3 then .non else .tup ((l5 l).map pt)
theorem b1X {k:Nat} (hk:k ≤ 2000) (row:D) (l:List Pt) (fs:Option FS) (hr:a1n row = some (l.map pt)) (hl:∀ z ∈ l,Ps k z) (hn:l.length < 2 ^ 20):SHO [row] fs = some (i4 l,fs):=by
 have hu:∀ z ∈ u9 l,Ps k z:=fun z h=>hl z (a19 h)
 have un:=a8A l
 have s24:sizeLine = 2 ^ 24:=rfl
 have O:IOr [.lst ((u9 l).map pt),.fn "is_lesser"] fs = some (.lst ((srt lsB 64 (u9 l)).map pt),fs):=a4k hk 63 (u9 l) fs hu (Nat.le_trans (Nat.le_of_lt (by omega:(u9 l).length < 2 ^ 20)) (by decide)) (by omega)
 have hs:∀ z ∈ srt lsB 64 (u9 l),Ps k z:=fun z h=>hu z (O5 _ h)
 have B1:=a55 hk fs (srt lsB 64 (u9 l)) hs (by rw [T3]; omega)
 have B2:=a55 hk fs (srt lsB 64 (u9 l)).reverse (fun z h=>hs z (List.mem_reverse.mp h)) (by rw [List.length_reverse,T3]; omega)
 have hlen:=b4o (lt:=lsB) (t:=trB) (u9 l)
 have U:a0E 0 1 2 3 IOr "is_lesser" ⟨[.val row,.no,.no,.no,.no],fs⟩ = some (.next,⟨[.val row,.no,.no,.val (.lst ((srt lsB 64 (u9 l)).map pt)),.no],fs⟩):=by
  show (a1n row).bind _ = _
  rw [hr]
  show (W0 (l.map pt)).bind _ = _
  rw [a6h]
  show (if (l.map tri).length ≤ sizeLine then _ else none) = _
  rw [if_pos (by rw [List.length_map]; omega),b02]
  show (IOr _ fs).map _ = _
  rw [O]
  rfl
 have nl:∀ x:Sl,a6 (dV 3) a8 ⟨[.val row,.no,.no,.val (.lst ((srt lsB 64 (u9 l)).map pt)),x],fs⟩ = some ([.lst ((srt lsB 64 (u9 l)).map pt)],⟨[.val row,.no,.no,.val (.lst ((srt lsB 64 (u9 l)).map pt)),x],fs⟩):=fun _=>rfl
 have C:i8 (dOp t6 (dSl (c7 (V6 FTn) (a6 (dV 3) a8)) dNo (dAt (dUn p8 (dC (.int 1))))) (dSl (c7 (V6 FTn) (a6 (r8 (dCF a00 (a6 (dL 3) a8))) a8)) dNo (dAt (dUn p8 (dC (.int 1)))))) (d0 4) ⟨[.val row,.no,.no,.val (.lst ((srt lsB 64 (u9 l)).map pt)),.no],fs⟩
   = some (.next,⟨[.val row,.no,.no,.val (.lst ((srt lsB 64 (u9 l)).map pt)),.val (.lst ((l5 l).map pt))],fs⟩):=by
  refine o9 (d:=.lst ((l5 l).map pt)) (s1:=⟨[.val row,.no,.no,.val (.lst ((srt lsB 64 (u9 l)).map pt)),.no],fs⟩) ?_ rfl
  refine G5 (s1:=⟨[.val row,.no,.no,.val (.lst ((srt lsB 64 (u9 l)).map pt)),.no],fs⟩) (x:=.lst ((m8 trB (srt lsB 64 (u9 l))).map pt).dropLast) (y:=.lst ((m8 trB (srt lsB 64 (u9 l)).reverse).map pt).dropLast) ?_ ?_ ?_
  ·rw [← a5y]
   exact a0r (s1:=⟨[.val row,.no,.no,.val (.lst ((srt lsB 64 (u9 l)).map pt)),.no],fs⟩) (k6 (nl _) B1) (l:=none) (s2:=⟨[.val row,.no,.no,.val (.lst ((srt lsB 64 (u9 l)).map pt)),.no],fs⟩) rfl (h:=some (-1)) rfl
  ·rw [← a5y]
   refine a0r (s1:=⟨[.val row,.no,.no,.val (.lst ((srt lsB 64 (u9 l)).map pt)),.no],fs⟩) (k6 (xs:=[.lst ((srt lsB 64 (u9 l)).reverse.map pt)]) ?_ B2) (l:=none) (s2:=⟨[.val row,.no,.no,.val (.lst ((srt lsB 64 (u9 l)).map pt)),.no],fs⟩) rfl (h:=some (-1)) rfl
   rw [List.map_reverse]
   rfl
  ·have e:(l5 l).map pt = ((m8 trB (srt lsB 64 (u9 l))).map pt).dropLast ++ ((m8 trB (srt lsB 64 (u9 l)).reverse).map pt).dropLast:=by
    unfold l5 N4
    rw [List.map_append,List.map_dropLast,List.map_dropLast]
   rw [e]
   refine if_pos ?_
   have e2:=congrArg List.length e
   rw [List.length_append,List.length_map] at e2
   unfold l5 at e2
   omega
 have len:dCB (one k9) (a6 (dL 4) a8) ⟨[.val row,.no,.no,.val (.lst ((srt lsB 64 (u9 l)).map pt)),.val (.lst ((l5 l).map pt))],fs⟩ = some (.int ((l5 l).length:Int),⟨[.val row,.no,.no,.val (.lst ((srt lsB 64 (u9 l)).map pt)),.val (.lst ((l5 l).map pt))],fs⟩):=by
  refine F0 (x:=.lst ((l5 l).map pt)) rfl ?_
  show some (D.int (((l5 l).map pt).length:Nat)) = _
  rw [List.length_map]
 refine u6 (s:=⟨[.val row,.no,.no,.val (.lst ((srt lsB 64 (u9 l)).map pt)),.val (.lst ((l5 l).map pt))],fs⟩) ?_
 show a3e IOr (V6 FTn) ⟨[.val row,.no,.no,.no,.no],fs⟩ = _
 unfold a3e i4
 rw [j5 U,j5 C]
 by_cases h:(l5 l).length < 3
 ·rw [if_pos h]
  refine Y5 ?_
  rw [K1 (v8 (G5 len rfl (by rw [a0f,decide_eq_true (by omega)])))]
  rfl
 ·rw [if_neg h]
  rw [j5 (R8 (v8 (G5 len rfl (by rw [a0f,decide_eq_false (by omega)]))))]
  rfl
structure Nx (S:Pt → Prop) (a b:Pt):Prop where
 ne:b ≠ a
 lf:∀ q,S q → 0 ≤ a7 a b q
 far:∀ q,S q → a7 a b q = 0 → ∃ s:Rat,0 ≤ s ∧ s ≤ 1 ∧ q = l7 a b s
theorem a0Q {a b:Pt} (h:lsB a b = true):b ≠ a:=fun e=>by rw [e,lsB_ord.irr] at h; cases h
theorem b4d {a b:Pt} {s:Rat} (h:lsB a b = true) (hs:1 < s):lsB b (l7 a b s) = true:=by
 rw [M7]
 have e1:(l7 a b s).1 - b.1 = (s - 1) * (b.1 - a.1):=by unfold l7; grind
 have e2:(l7 a b s).2 - b.2 = (s - 1) * (b.2 - a.2):=by unfold l7; grind
 rw [e1,e2]
 exact (U9 (by grind)).mpr (N0 h)
theorem b44 {a b:Pt} {s:Rat} (h:lsB a b = true) (hs:s < 0):lsB (l7 a b s) a = true:=by
 rw [M7]
 have e1:a.1 - (l7 a b s).1 = (-s) * (b.1 - a.1):=by unfold l7; grind
 have e2:a.2 - (l7 a b s).2 = (-s) * (b.2 - a.2):=by unfold l7; grind
 rw [e1,e2]
 exact (U9 (by grind)).mpr (N0 h)
theorem a3z {a b:Pt} (h:lsB a b = true) (h2:lsB b a = true):False:=by
 have:=lsB_ord.tr _ _ _ h h2
 rw [lsB_ord.irr] at this; cases this
noncomputable def Abv (S:Pt → Prop) (a b:Pt):Prop:=(∀ q,S q → q = b ∨ lsB q b = true) ∨ ∃ c,0 < a7 a b c ∧ ∀ q,S q → 0 ≤ a7 b c q
theorem a9K {S:Pt → Prop} {a b:Pt} {r:List Pt} (C:Ch S (b :: a :: r)) (U:Abv S a b) (B:r = [] → ∀ q,S q → q = a ∨ lsB a q = true):Nx S a b:=by
 obtain ⟨ab,L,T,R⟩:=C
 refine ⟨a0Q ab,L,fun q hq c0=>?_⟩
 obtain ⟨s,rfl⟩:=a0G (fun e=>a0Q ab e.symm) c0
 refine ⟨s,Rat.not_lt.mp fun hs=>?_,Rat.not_lt.mp fun hs=>?_,rfl⟩
 ·have lo:=b44 ab hs
  cases r with
  | nil=>
   rcases B rfl _ hq with e | e
   ·rw [e,lsB_ord.irr] at lo; cases lo
   ·exact a3z lo e
  | cons z r'=>
   have t:=T z r' rfl
   have k:=R.2.1 _ hq
   have e:a7 z a (l7 a b s) = s * a7 z a b:=by unfold a7 l7; grind
   rw [e] at k
   have:=Rat.mul_pos (show 0 < -s by grind) t
   grind
 ·have hi:=b4d ab hs
  rcases U with U | ⟨w,t,k⟩
  ·rcases U _ hq with e | e
   ·rw [e,lsB_ord.irr] at hi; cases hi
   ·exact a3z hi e
  ·have k:=k _ hq
   have e:a7 b w (l7 a b s) = -((s - 1) * a7 a b w):=by unfold a7 l7; grind
   rw [e] at k
   have:=Rat.mul_pos (show 0 < s - 1 by grind) t
   grind
noncomputable def Run (R:Pt → Pt → Prop):List Pt → Prop
 | a :: b :: r=>R a b ∧ Run R (b :: r)
 | _=>True
theorem a7K {R:Pt → Pt → Prop} {c:Pt}:∀ {l:List Pt} {b:Pt},Run R (l ++ [b]) → R b c → Run R (l ++ [b] ++ [c])
 | [],b,_,h=>⟨h,trivial⟩
 | [a],b,⟨h1,_⟩,h=>⟨h1,h,trivial⟩
 | a :: a' :: l,b,⟨h1,h2⟩,h=>⟨h1,a7K (l:=a' :: l) h2 h⟩
theorem a9j {S:Pt → Prop}:∀ (r:List Pt) (b:Pt),Ch S (b :: r) → (∀ a r',r = a :: r' → Abv S a b) → (∀ p,(b :: r).getLast? = some p → ∀ q,S q → q = p ∨ lsB p q = true) → Run (Nx S) (b :: r).reverse
 | [],b,_,_,_=>trivial
 | a :: r,b,C,U,B=>by
  have n:=a9K C (U a r rfl) (fun e=>by subst e; exact B a rfl)
  have ih:=a9j r a C.2.2.2 (fun z r' e=>.inr ⟨b,C.2.2.1 z r' e,C.2.1⟩) (fun p e=>B p (by rw [List.getLast?_cons_cons]; exact e))
  rw [List.reverse_cons] at ih
  rw [List.reverse_cons,List.reverse_cons]
  exact a7K ih n
theorem a8Z {p:Pt} {l:List Pt} (h:Srt lsB (p :: l)):Run (Nx fun q=>q ∈ p :: l) (m8 trB (p :: l)):=by
 obtain ⟨s,_,ne⟩:=a4h h
 unfold m8
 cases e:D9 trB [] (p :: l) with
 | nil=>exact absurd e ne
 | cons b r=>
  rw [e] at s
  exact a9j r b s.ch (fun a r' _=>.inl (s.top b r rfl)) s.bot
theorem a79 {p:Pt} {l:List Pt} (h:Srt lsB (p :: l)):(m8 trB (p :: l)).head? = some p:=by
 obtain ⟨_,e,_⟩:=a4h h
 unfold m8
 rw [List.head?_reverse]
 exact e
theorem a9w {α:Type} {t:α → α → α → Bool}:∀ (l acc:List α) (x:α),(D9 t acc (l ++ [x])).head? = some x
 | [],acc,x=>rfl
 | y :: l,acc,x=>a9w l _ x
theorem a6t {l:List Pt} {x:Pt}:(m8 trB (l ++ [x])).getLast? = some x:=by
 unfold m8
 rw [List.getLast?_reverse]
 exact a9w l [] x
noncomputable def ng (p:Pt):Pt:=(-p.1,-p.2)
theorem V9 (p:Pt):ng (ng p) = p:=Prod.ext (by unfold ng; grind) (by unfold ng; grind)
theorem a2v (a b c:Pt):a7 (ng a) (ng b) (ng c) = a7 a b c:=by unfold a7 ng; grind
theorem a5c (a b c:Pt):trB (ng a) (ng b) (ng c) = trB a b c:=by unfold trB; rw [a2v]
theorem a6s (a b:Pt):lsB (ng a) (ng b) = lsB b a:=by
 rw [Bool.eq_iff_iff,M7,M7]
 have e1:(ng b).1 - (ng a).1 = a.1 - b.1:=by unfold ng; grind
 have e2:(ng b).2 - (ng a).2 = a.2 - b.2:=by unfold ng; grind
 rw [e1,e2]
theorem b2o (a b:Pt) (s:Rat):ng (l7 a b s) = l7 (ng a) (ng b) s:=Prod.ext (by unfold ng l7; grind) (by unfold ng l7; grind)
theorem b0U {S:Pt → Prop} {a b:Pt} (h:Nx (fun q=>S (ng q)) (ng a) (ng b)):Nx S a b:=by
 refine ⟨fun e=>h.ne (by rw [e]),fun q hq=>?_,fun q hq c=>?_⟩
 ·rw [← a2v]; exact h.lf (ng q) (by rw [V9]; exact hq)
 ·rw [← a2v] at c
  obtain ⟨s,h1,h2,e⟩:=h.far (ng q) (by rw [V9]; exact hq) c
  refine ⟨s,h1,h2,?_⟩
  rw [← b2o] at e
  rw [← V9 q,e,V9]
theorem a6k {R R':Pt → Pt → Prop} {f:Pt → Pt} (h:∀ a b,R (f a) (f b) → R' a b):∀ {l:List Pt},Run R (l.map f) → Run R' l
 | [],_=>trivial
 | [a],_=>trivial
 | a :: b :: r,⟨h1,h2⟩=>⟨h a b h1,a6k (l:=b :: r) h h2⟩
theorem a3m {R R':Pt → Pt → Prop} (h:∀ a b,R a b → R' a b):∀ {l:List Pt},Run R l → Run R' l
 | [],_=>trivial
 | [a],_=>trivial
 | a :: b :: r,⟨h1,h2⟩=>⟨h a b h1,a3m (l:=b :: r) h h2⟩
theorem Nx.sub {S S':Pt → Prop} {a b:Pt} (h:Nx S a b) (e:∀ q,S' q → S q):Nx S' a b:=⟨h.ne,fun q hq=>h.lf q (e q hq),fun q hq=>h.far q (e q hq)⟩
theorem a2r {l:List Pt} (h:Srt lsB l):Srt lsB (l.reverse.map ng):=by
 refine List.pairwise_map.mpr ?_
 have:l.reverse.Pairwise fun a b=>lsB b a = true:=List.pairwise_reverse.mpr h
 exact this.imp fun {a b} e=>by rw [a6s]; exact e
theorem b21 {l:List Pt} (h:Srt lsB l):Run (Nx fun q=>q ∈ l) (m8 trB l.reverse):=by
 have hs:=a2r h
 have e:m8 trB (l.reverse.map ng) = (m8 trB l.reverse).map ng:=a28 (f:=ng) a5c l.reverse
 have m:∀ q,q ∈ l → ng q ∈ l.reverse.map ng:=fun q hq=>List.mem_map_of_mem (List.mem_reverse.mpr hq)
 cases w:l.reverse.map ng with
 | nil=>
  have:l = []:=by simpa using w
  subst this
  trivial
 | cons p r=>
  rw [w] at hs
  have R:=a8Z hs
  rw [← w,e] at R
  exact a6k (fun a b hab=>b0U (hab.sub fun q hq=>by have z:=m _ hq; rw [V9] at z; exact z)) R
theorem b5p {a b:Pt} (h:b ≠ a) {s:Rat} (e:b = l7 a b s):s = 1:=by
 unfold l7 at e
 have e1:b.1 = a.1 + s * (b.1 - a.1):=congrArg Prod.fst e
 have e2:b.2 = a.2 + s * (b.2 - a.2):=congrArg Prod.snd e
 by_cases z:b.1 - a.1 = 0
 ·have z2:b.2 - a.2 ≠ 0:=fun w=>h (Prod.ext (by grind) (by grind))
  have:(s - 1) * (b.2 - a.2) = 0:=by grind
  rcases Rat.mul_eq_zero.mp this with q | q
  ·grind
  ·exact absurd q z2
 ·have:(s - 1) * (b.1 - a.1) = 0:=by grind
  rcases Rat.mul_eq_zero.mp this with q | q
  ·grind
  ·exact absurd q z
theorem b55 (a b:Pt) (s t:Rat):l7 a (l7 a b s) t = l7 a b (t * s):=by
 unfold l7
 exact Prod.ext (by grind) (by grind)
theorem a8h (a b c:Pt):a7 a c b = -a7 a b c:=by unfold a7; grind
theorem b3A {S:Pt → Prop} {a b c:Pt} (hb:S b) (hc:S c) (h1:Nx S a b) (h2:Nx S a c):b = c:=by
 have k1:=h1.lf c hc
 have k2:=h2.lf b hb
 have e:=a8h a b c
 have z1:a7 a b c = 0:=by grind
 have z2:a7 a c b = 0:=by grind
 obtain ⟨s,s0,s1,es⟩:=h1.far c hc z1
 obtain ⟨t,t0,t1,et⟩:=h2.far b hb z2
 have q:b = l7 a b (t * s):=by rw [← b55,← es]; exact et
 have q:=b5p h1.ne q
 have s1':s = 1:=by
  have a1:t * s ≤ 1 * s:=Rat.mul_le_mul_of_nonneg_right t1 s0
  grind
 rw [es,s1',Z4]
theorem a56 {R:Pt → Pt → Prop} {x:Pt}:∀ {l m:List Pt},Run R (l ++ [x]) → Run R (x :: m) → Run R (l ++ x :: m)
 | [],m,_,h=>h
 | [a],m,⟨h1,_⟩,h=>⟨h1,h⟩
 | a :: b :: l,m,⟨h1,h2⟩,h=>⟨h1,a56 (l:=b :: l) h2 h⟩
theorem V0 {R:Pt → Pt → Prop}:∀ {l:List Pt} {i:Nat} {a b:Pt},Run R l → l[i]? = some a → l[i + 1]? = some b → R a b
 | [],i,a,b,_,h,_=>by simp at h
 | [c],i,a,b,_,_,h=>by simp at h
 | c :: d :: r,0,a,b,⟨h1,_⟩,e1,e2=>by simp at e1 e2; subst e1; subst e2; exact h1
 | c :: d :: r,i + 1,a,b,⟨_,h2⟩,e1,e2=>V0 (l:=d :: r) h2 (by simpa using e1) (by simpa using e2)
structure Rnd (S:Pt → Prop) (p:Pt) (C:List Pt):Prop where
 hd:C.head? = some p
 run:Run (Nx S) (C ++ [p])
 mem:∀ z ∈ C,S z
 nb:∀ i,0 < i → C[i]? ≠ some p
theorem Rnd.nodup {S:Pt → Prop} {p:Pt} {C:List Pt} (h:Rnd S p C):C.Nodup:=by
 have sp:S p:=h.mem p (List.mem_of_mem_head? h.hd)
 have inS:∀ i a,(C ++ [p])[i]? = some a → S a:=fun i a e=>by
  rcases List.mem_append.mp (List.mem_of_getElem? e) with z | z
  ·exact h.mem a z
  ·rw [List.mem_singleton.mp z]; exact sp
 have shift:∀ (t i j:Nat),i < j → j + t ≤ C.length → (C ++ [p])[i]? = (C ++ [p])[j]? → (C ++ [p])[i + t]? = (C ++ [p])[j + t]?:=by
  intro t
  induction t with
  | zero=>intro i j _ _ e; exact e
  | succ t ih=>
   intro i j hij hl e
   have e':=ih i j hij (by omega) e
   have l:(C ++ [p]).length = C.length + 1:=by simp
   obtain ⟨a,ha⟩:∃ a,(C ++ [p])[j + t]? = some a:=⟨_,List.getElem?_eq_getElem (by omega)⟩
   obtain ⟨b,hb⟩:∃ b,(C ++ [p])[j + t + 1]? = some b:=⟨_,List.getElem?_eq_getElem (by omega)⟩
   obtain ⟨c,hc⟩:∃ c,(C ++ [p])[i + t + 1]? = some c:=⟨_,List.getElem?_eq_getElem (by omega)⟩
   have r1:=V0 h.run ha hb
   have r2:=V0 h.run (e'.trans ha) hc
   have:=b3A (inS _ _ hb) (inS _ _ hc) r1 r2
   show (C ++ [p])[i + t + 1]? = (C ++ [p])[j + t + 1]?
   rw [hb,hc,this]
 refine List.pairwise_iff_getElem.mpr fun i j hi hj hij e=>?_
 have e:C[i]? = C[j]?:=by rw [List.getElem?_eq_getElem hi,List.getElem?_eq_getElem hj,e]
 have g:∀ k,k < C.length → (C ++ [p])[k]? = C[k]?:=fun k hk=>List.getElem?_append_left hk
 have s:=shift (C.length - j) i j hij (by omega) (by rw [g i (by omega),g j hj]; exact e)
 rw [show j + (C.length - j) = C.length by omega,List.getElem?_append_right (Nat.le_refl _),Nat.sub_self,g _ (by omega)] at s
 exact h.nb (i + (C.length - j)) (by omega) s
theorem a5L {α:Type} [DecidableEq α]:∀ {L M:List α},L.Nodup → (∀ z ∈ L,z ∈ M) → L.length ≤ M.length
 | [],M,_,_=>Nat.zero_le _
 | a :: L,M,nd,h=>by
  obtain ⟨n1,n2⟩:=List.nodup_cons.mp nd
  have am:=h a (List.mem_cons_self ..)
  have ih:=a5L (M:=M.erase a) n2 fun z hz=>(List.mem_erase_of_ne (fun e=>n1 (by rw [← e]; exact hz))).mpr (h z (List.mem_cons_of_mem _ hz))
  rw [List.length_erase_of_mem am] at ih
  have:0 < M.length:=List.length_pos_of_mem am
  rw [List.length_cons]
  omega
theorem Rnd.len {l C:List Pt} {p:Pt} (h:Rnd (fun q=>q ∈ l) p C):C.length ≤ l.length:=a5L h.nodup h.mem
theorem a32 {α:Type} {l:List α} {x:α} (h:l.getLast? = some x):l.dropLast ++ [x] = l:=by
 obtain ⟨m,rfl⟩:=List.getLast?_eq_some_iff.mp h
 simp
theorem b01 {α:Type} {l:List α} {x:α} (h:l.head? = some x) (h2:2 ≤ l.length):l.dropLast.head? = some x:=by
 match l,h2 with
 | a :: b :: r,_=>simpa using h
theorem a7W {S:Pt → Prop}:∀ {acc:List Pt},Ch S acc → acc.Pairwise fun b a=>lsB a b = true
 | [],_=>List.Pairwise.nil
 | [b],_=>List.pairwise_singleton _ _
 | b :: a :: r,⟨ab,_,_,R⟩=>by
  have ih:=a7W R
  refine List.pairwise_cons.mpr ⟨fun z hz=>?_,ih⟩
  rcases List.mem_cons.mp hz with q | q
  ·exact q ▸ ab
  ·exact lsB_ord.tr _ _ _ ((List.pairwise_cons.mp ih).1 z q) ab
theorem a8g {p:Pt} {l:List Pt} (h:Srt lsB (p :: l)):Srt lsB (m8 trB (p :: l)):=List.pairwise_reverse.mpr (a7W (a4h h).1.ch)
theorem a0w {l:List Pt} (hl:l.length < 2 ^ 20) {p:Pt} {r:List Pt} (e:C5 l = p :: r) (hr:r ≠ []):Rnd (fun q=>q ∈ l) p (l5 l):=by
 have hs:=a1y hl
 rw [e] at hs
 obtain ⟨m,x,rx⟩:∃ m x,r = m ++ [x]:=by
  obtain ⟨x,hx⟩:∃ x,r.getLast? = some x:=by
   cases q:r.getLast? with
   | none=>exact absurd (List.getLast?_eq_none_iff.mp q) hr
   | some x=>exact ⟨x,rfl⟩
  obtain ⟨m,q⟩:=List.getLast?_eq_some_iff.mp hx
  exact ⟨m,x,q⟩
 have el:p :: r = (p :: m) ++ [x]:=by rw [rx]; rfl
 have er:(p :: r).reverse = x :: (p :: m).reverse:=by rw [el]; simp
 have px:∀ z ∈ r,lsB p z = true:=(List.pairwise_cons.mp hs).1
 have xr:x ∈ r:=by rw [rx]; simp
 have inl:∀ z,z ∈ l ↔ z ∈ p :: r:=fun z=>by rw [← rowP_in,e]
 have eh:l5 l = (m8 trB (p :: r)).dropLast ++ (m8 trB (p :: r).reverse).dropLast:=by
  unfold l5 N4
  show (m8 trB (C5 l)).dropLast ++ (m8 trB (C5 l).reverse).dropLast = _
  rw [e]
 have R1:=a8Z hs
 have R2:=b21 hs
 have H1:=a79 hs
 have L1:(m8 trB (p :: r)).getLast? = some x:=by rw [el]; exact a6t
 have L2:(m8 trB (p :: r).reverse).getLast? = some p:=by rw [List.reverse_cons]; exact a6t
 have H2:(m8 trB (p :: r).reverse).head? = some x:=by
  have hs2:=a2r hs
  have q:m8 trB ((p :: r).reverse.map ng) = (m8 trB (p :: r).reverse).map ng:=a28 (f:=ng) a5c _
  rw [er,List.map_cons] at hs2
  have b:=a79 hs2
  rw [← List.map_cons,← er,q,List.head?_map] at b
  cases w:(m8 trB (p :: r).reverse).head? with
  | none=>rw [w] at b; cases b
  | some y=>
   rw [w] at b
   have:ng y = ng x:=Option.some.inj b
   rw [← V9 y,this,V9]
 have n1:2 ≤ (m8 trB (p :: r)).length:=by
  match w:m8 trB (p :: r),H1,L1 with
  | [],h,_=>cases h
  | [a],h1,h2=>
   simp at h1 h2
   exact absurd (h2 ▸ h1 ▸ rfl:x = p) (a0Q (px x xr))
  | a :: b :: c,_,_=>simp
 have mem1:∀ z ∈ m8 trB (p :: r),z ∈ p :: r:=fun z hz=>a1F hz
 have mem2:∀ z ∈ m8 trB (p :: r).reverse,z ∈ p :: r:=fun z hz=>List.mem_reverse.mp (a1F hz)
 have cp:l5 l ++ [p] = (m8 trB (p :: r)).dropLast ++ m8 trB (p :: r).reverse:=by rw [eh,List.append_assoc,a32 L2]
 refine ⟨?_,?_,fun z hz=>a3D hz,fun i hi q=>?_⟩
 ·rw [eh,List.head?_append,b01 H1 n1]; rfl
 ·rw [cp]
  cases w:m8 trB (p :: r).reverse with
  | nil=>rw [w] at H2; cases H2
  | cons y m2=>
   rw [w] at H2
   have:y = x:=by simpa using H2
   subst this
   refine a3m (R:=Nx fun q=>q ∈ p :: r) (fun a b h=>Nx.sub h fun q hq=>(inl q).mp hq) (a56 (by rw [a32 L1]; exact R1) (by rw [← w]; exact R2))
 ·have S1:=a8g hs
  have S2:(m8 trB (p :: r).reverse).Pairwise fun a b=>lsB b a = true:=by
   have hs2:=a2r hs
   have q:m8 trB ((p :: r).reverse.map ng) = (m8 trB (p :: r).reverse).map ng:=a28 (f:=ng) a5c _
   rw [er,List.map_cons] at hs2
   have b:=a8g hs2
   rw [← List.map_cons,← er,q] at b
   exact (List.pairwise_map.mp b).imp fun {a c} z=>by rw [a6s] at z; exact z
  rw [← a32 L2] at S2
  have B:∀ z ∈ (m8 trB (p :: r).reverse).dropLast,z ≠ p:=fun z hz w=>a0Q ((List.pairwise_append.mp S2).2.2 z hz p (by simp)) w
  have A:∀ j,0 < j → (m8 trB (p :: r)).dropLast[j]? ≠ some p:=fun j hj w=>by
   cases c:m8 trB (p :: r) with
   | nil=>rw [c] at H1; cases H1
   | cons a t=>
    rw [c] at H1 w S1
    have ap:a = p:=by simpa using H1
    have m:p ∈ t:=by
     have w2:(a :: t)[j]? = some p:=by
      rw [List.getElem?_dropLast] at w
      split at w
      ·exact w
      ·cases w
     cases j with
     | zero=>omega
     | succ j=>exact List.mem_of_getElem? (by simpa using w2)
    exact a0Q ((List.pairwise_cons.mp S1).1 p m) ap.symm
  rw [eh] at q
  by_cases hi2:i < (m8 trB (p :: r)).dropLast.length
  ·rw [List.getElem?_append_left hi2] at q
   exact A i hi q
  ·rw [List.getElem?_append_right (by omega)] at q
   exact B p (List.mem_of_getElem? q) rfl
end T
namespace DL
open PySem L2
structure Ok (k n:Nat) (d:D):Prop where
 pl:d.plain = true
 sh:d.py.showable = true
 la:d.py.canLay0 = true
 dp:d.py.depth ≤ k
 le:d.py.leavesShort 1921 = true
 bu:d.py.bulk ≤ n
structure OkL (k n:Nat) (ds:List D):Prop where
 pl:D.plains ds = true
 sh:PyData.showableAll (D.pys ds) = true
 la:PyData.canLayAll0 (D.pys ds) = true
 dp:PyData.depthAll (D.pys ds) ≤ k
 le:PyData.leavesShortAll 1921 (D.pys ds) = true
 bu:PyData.bulkAll (D.pys ds) ≤ n
theorem Ok.mono {k n k' n':Nat} {d:D} (h:Ok k n d) (hk:k ≤ k') (hn:n ≤ n'):Ok k' n' d:=⟨h.pl,h.sh,h.la,Nat.le_trans h.dp hk,h.le,Nat.le_trans h.bu hn⟩
theorem OkL.mono {k n k' n':Nat} {ds:List D} (h:OkL k n ds) (hk:k ≤ k') (hn:n ≤ n'):OkL k' n' ds:=⟨h.pl,h.sh,h.la,Nat.le_trans h.dp hk,h.le,Nat.le_trans h.bu hn⟩
theorem Ok.non:Ok 0 0 .non:=⟨rfl,rfl,rfl,Nat.le_refl _,rfl,Nat.le_refl _⟩
theorem Ok.bl (b:Bool):Ok 0 0 (.bl b):=⟨rfl,rfl,rfl,Nat.le_refl _,rfl,Nat.le_refl _⟩
theorem Ok.int {i:Int} (h:Bd 1920 i):Ok 0 0 (.int i):=by
 have hl:i.natAbs.log2 < 1920:=a0F (by decide) h
 refine ⟨rfl,?_,rfl,Nat.le_refl _,?_,Nat.le_refl _⟩
 ·simp only [D.py,PyData.showable]; exact decide_eq_true hl
 ·simp only [D.py,PyData.leavesShort,PyData.shown]
  exact decide_eq_true (b5v hl)
theorem OkL.nil:OkL 0 0 []:=⟨rfl,rfl,rfl,Nat.le_refl _,rfl,Nat.le_refl _⟩
theorem OkL.cons {k l n m:Nat} {d:D} {ds:List D} (h:Ok k n d) (hs:OkL l m ds):OkL (max k l) (n + 1 + m) (d :: ds):=by
 refine ⟨?_,?_,?_,?_,?_,?_⟩
 ·simp only [D.plains,h.pl,hs.pl,Bool.and_self]
 ·simp only [D.pys,PyData.showableAll,h.sh,hs.sh,Bool.and_self]
 ·simp only [D.pys,PyData.canLayAll0,h.la,hs.la,Bool.and_self]
 ·have:=h.dp; have:=hs.dp; simp only [D.pys,PyData.depthAll]; omega
 ·simp only [D.pys,PyData.leavesShortAll,h.le,hs.le,Bool.and_self]
 ·have:=h.bu; have:=hs.bu; simp only [D.pys,PyData.bulkAll]; omega
theorem Ok.tup {k n:Nat} {ds:List D} (h:OkL k n ds):Ok (k + 1) n (.tup ds):=by
 refine ⟨?_,?_,?_,?_,?_,?_⟩
 ·simp only [D.plain,h.pl]
 ·simp only [D.py,PyData.showable,h.sh]
 ·simp only [D.py,PyData.canLay0,h.la]
 ·have:=h.dp; simp only [D.py,PyData.depth]; omega
 ·simp only [D.py,PyData.leavesShort,h.le]
 ·have:=h.bu; simp only [D.py,PyData.bulk]; omega
theorem Ok.lst {k n:Nat} {ds:List D} (h:OkL k n ds):Ok (k + 1) n (.lst ds):=by
 refine ⟨?_,?_,?_,?_,?_,?_⟩
 ·simp only [D.plain,h.pl]
 ·simp only [D.py,PyData.showable,h.sh]
 ·simp only [D.py,PyData.canLay0,h.la]
 ·have:=h.dp; simp only [D.py,PyData.depth]; omega
 ·simp only [D.py,PyData.leavesShort,h.le]
 ·have:=h.bu; simp only [D.py,PyData.bulk]; omega
theorem OkL.all {k n:Nat}:∀ {ds:List D},(∀ d ∈ ds,Ok k n d) → OkL k (ds.length * (n + 1)) ds
 | [],_=>OkL.nil.mono (by omega) (by omega)
 | d :: r,h=>by
  have:=(OkL.cons (h d (List.mem_cons_self ..)) (OkL.all (ds:=r) fun x hx=>h x (List.mem_cons_of_mem _ hx)))
  refine this.mono (by omega) ?_
  rw [List.length_cons,Nat.add_mul,Nat.one_mul]; omega
theorem Ok.show {k n:Nat} {d:D} (h:Ok k n d) (hk:k ≤ 64:=by decide) (hn:n ≤ 8000:=by decide):S0 d = true:=by
 have e:=PyData.shown_le_bulk 1921 (by decide) d.py h.le
 have e2:(1921 + 2) * d.py.bulk ≤ 1923 * 8000:=Nat.mul_le_mul (by decide) (Nat.le_trans h.bu hn)
 have:d.py.shown.length ≤ sizeLine:=by rw [sizeLine_eq]; omega
 simp only [S0,h.pl,h.sh,h.la,Bool.true_and,Bool.and_true,decide_eq_true this,decide_eq_true (Nat.le_trans h.dp hk)]
theorem Ok.eq {k n:Nat} {d:D} (h:Ok k n d) (hk:k ≤ 64:=by decide):A1 d = true:=by
 simp only [A1,h.pl,SeqAt.shaped,h.la,Bool.true_and,decide_eq_true (Nat.le_trans h.dp hk)]
theorem Ok.repr {k n:Nat} {d:D} (h:Ok k n d) (hk:k ≤ 64:=by decide) (hn:n ≤ 8000:=by decide):Q2 d = some (.str d.py.shown):=b4b (h.show hk hn)
theorem Ok.pt {k:Nat} {a:Pt} (h:Ps k a) (hk:k ≤ 1920:=by decide):Ok 1 3 (pt a):=Ok.tup ((OkL.cons (Ok.int (h.x.mono hk)) (OkL.cons (Ok.int (h.y.mono hk)) (OkL.cons (Ok.int (h.l.mono hk)) OkL.nil))))
theorem a8E (x:Str):pNe (.str x) (.str x) = some (.bl false):=by rw [b2g]; simp
theorem ixT (ds:List D) (i:Int):pIx (.tup ds) (.int i) = atI ds i:=rfl
theorem ixL (ds:List D) (i:Int):pIx (.lst ds) (.int i) = atI ds i:=rfl
theorem a3Z (p:Rat):pIx (DL.fr p) (.int 0) = some (.int p.num):=rfl
theorem a7h (p:Rat):pIx (DL.fr p) (.int 1) = some (.int p.den):=rfl
theorem a82 (a:Pt):pIx (DL.pt a) (.int 0) = some (.int (pX a)):=rfl
theorem a5W (a:Pt):pIx (DL.pt a) (.int 1) = some (.int (pY a)):=rfl
theorem a8w (a:Pt):pIx (DL.pt a) (.int 2) = some (.int (pL a)):=rfl
theorem a8G {a b:Pt} (h1:pX a = pX b) (h2:pY a = pY b) (h3:pL a = pL b):a = b:=by
 have e1:=M5 a; have e2:=M5 b; have e3:=M8 a; have e4:=M8 b
 have n:=U0 b
 rw [h1,h3] at e1; rw [h2,h3] at e3
 exact Prod.ext (by grind) (by grind)
theorem a2A {k l:Nat} {a b:Pt} (ha:Ps k a) (hb:Ps l b) (hk:k ≤ 1920:=by decide) (hl:l ≤ 1920:=by decide):pNe (pt a) (pt b) = some (.bl (!decide (a = b))):=by
 have o1:=(Ok.pt ha hk).eq
 have o2:=(Ok.pt hb hl).eq
 unfold pt at *
 simp only [pNe,o1,o2,Bool.and_self,if_true,D.py,D.pys,PyData.eqv,PyData.eqvAll,Bool.beq_eq_decide_eq,Bool.and_true]
 congr 3
 rw [Bool.eq_iff_iff]
 simp only [Bool.and_eq_true,decide_eq_true_iff]
 constructor
 ·rintro ⟨h1,h2,h3⟩; exact a8G h1 h2 h3
 ·rintro rfl; exact ⟨rfl,rfl,rfl⟩
end DL
namespace T
open PySem L2 DL
theorem szk {k:Nat} {a b:Pt} (ha:PtS k a) (hb:PtS k b):Sz (8 * k + 5) (dsq a b):=
 (((ha.1.sub hb.1).mul (ha.1.sub hb.1)).add ((ha.2.sub hb.2).mul (ha.2.sub hb.2))).mono (by omega)
theorem b3D (r:Rat):decide (sgn r < 0) = decide (r < 0):=by
 unfold sgn
 by_cases h:0 < r
 ·rw [if_pos h,decide_eq_false (by decide),decide_eq_false (by grind)]
 ·rw [if_neg h]
  by_cases h2:r < 0
  ·rw [if_pos h2,decide_eq_true h2]; rfl
  ·rw [if_neg h2,decide_eq_false h2]; rfl
theorem b1i (x y:Rat):decide ((x + -y).num < 0) = decide (x < y):=by
 rw [Bool.eq_iff_iff,decide_eq_true_iff,decide_eq_true_iff]
 have hd:(0:Rat) < (((x + -y).den:Int):Rat):=Rat.intCast_pos.mpr (a2K _)
 have e:=a0h (x + -y)
 have c:((x + -y).num < 0) ↔ (((x + -y).num:Rat) < 0):=by
  rw [show (0:Rat) = ((0:Int):Rat) from rfl,Rat.intCast_lt_intCast]
 rw [c,e]
 constructor
 ·intro h
  by_cases z:x < y
  ·exact z
  ·have:0 ≤ (x + -y) * (((x + -y).den:Int):Rat):=Rat.mul_nonneg (by grind) (Rat.le_of_lt hd)
   grind
 ·intro h
  have:0 < -(x + -y) * (((x + -y).den:Int):Rat):=Rat.mul_pos (by grind) hd
  grind
noncomputable abbrev a5A:DFn:=a0H LS LP F7 LX
noncomputable abbrev LFa:DFn:=a1N LS F7 a5A C8
theorem b16 (h b o:Pt) (fs:Option FS) (sh:PtS 300 h) (sb:PtS 300 b) (so:PtS 300 o):LFa [pt h,pt b,pt o] fs = some (.bl (F4 h b o),fs):=by
 have t:=a0p h b o fs sh.ps sb.ps so.ps (by decide)
 have q1:=a8N h b fs sh.x sh.y sb.x sb.y (by decide)
 have q2:=a8N h o fs sh.x sh.y so.x so.y (by decide)
 have m:=a0q (dsq h o) fs
 have s:=Q1 (dsq h b) (-dsq h o) fs (szk sh sb) (szk sh so).neg (by decide)
 refine u6 (s:=⟨[.val (pt h),.val (pt b),.val (pt o),.val (.int (sgn (a7 h b o)))],fs⟩) ?_
 show a30 LS F7 a5A C8 ⟨[.val (pt h),.val (pt b),.val (pt o),.no],fs⟩ = _
 unfold a30
 rw [j5 (s1:=⟨[.val (pt h),.val (pt b),.val (pt o),.val (.int (sgn (a7 h b o)))],fs⟩) (o9 (k6 rfl t) rfl)]
 unfold F4
 by_cases c:a7 h b o = 0
 ·have z:sgn (a7 h b o) = 0:=(a3g _).mpr c
  rw [if_pos c,j5 (R8 (s1:=⟨[.val (pt h),.val (pt b),.val (pt o),.val (.int (sgn (a7 h b o)))],fs⟩) (v8 (c6 rfl rfl ((T0 _ 0).trans (by rw [decide_eq_true z]; rfl)))))]
  exact A2 (c6 (c6 (k6 (u8 (k6 rfl q1) (u8 (k6 (u8 (k6 rfl q2) rfl) m) rfl)) s) rfl (a3Z _)) rfl (congrArg (fun b=>some (D.bl b)) (b1i _ _)))
 ·have z:¬ sgn (a7 h b o) = 0:=fun e=>c ((a3g _).mp e)
  rw [if_neg c]
  refine Y5 ?_
  rw [K1 (s1:=⟨[.val (pt h),.val (pt b),.val (pt o),.val (.int (sgn (a7 h b o)))],fs⟩) (v8 (c6 rfl rfl ((T0 _ 0).trans (by rw [decide_eq_false z]; rfl))))]
  exact A2 (c6 rfl rfl (congrArg (fun b=>some (D.bl b)) (b3D _)))
noncomputable def mnB (a q:Pt):Pt:=if lsB q a then q else a
theorem a2j:∀ (l:List Pt) (S:List Pt) (a:Pt),a ∈ S → (∀ q ∈ S,Lst a q) → (l.foldl mnB a) ∈ S ++ l ∧ ∀ q ∈ S ++ l,Lst (l.foldl mnB a) q
 | [],S,a,h1,h2=>by rw [List.append_nil]; exact ⟨h1,h2⟩
 | o :: r,S,a,h1,h2=>by
  have e:S ++ o :: r = (S ++ [o]) ++ r:=by simp
  rw [e,List.foldl_cons]
  unfold mnB
  by_cases c:lsB o a = true
  ·rw [if_pos c]
   have co:=(M7 o a).mp c
   refine a2j r (S ++ [o]) o (List.mem_append_right _ (List.mem_singleton.mpr rfl)) fun q hq=>?_
   rcases List.mem_append.mp hq with hq | hq
   ·rcases h2 q hq with rfl | hq
    ·exact .inr co
    ·refine .inr ?_
     have:=a8d hq co
     have e1:q.1 - a.1 + (a.1 - o.1) = q.1 - o.1:=by grind
     have e2:q.2 - a.2 + (a.2 - o.2) = q.2 - o.2:=by grind
     rwa [e1,e2] at this
   ·exact .inl (List.mem_singleton.mp hq)
  ·rw [if_neg c]
   refine a2j r (S ++ [o]) a (List.mem_append_left _ h1) fun q hq=>?_
   rcases List.mem_append.mp hq with hq | hq
   ·exact h2 q hq
   ·rw [List.mem_singleton.mp hq]
    by_cases z:o = a
    ·exact .inl z
    ·have n:¬ (a.1 - o.1 = 0 ∧ a.2 - o.2 = 0):=fun ⟨u,v⟩=>z (Prod.ext (by grind) (by grind))
     rcases b2e _ _ n with t | t
     ·exact absurd ((M7 o a).mpr t) c
     ·refine .inr ?_
      have e1:-(a.1 - o.1) = o.1 - a.1:=by grind
      have e2:-(a.2 - o.2) = o.2 - a.2:=by grind
      rwa [e1,e2] at t
noncomputable def PL (l:List Pt):Prop:=∀ p ∈ l,PtS 300 p
theorem PL.tl {a:Pt} {l:List Pt} (h:PL (a :: l)):PL l:=fun p hp=>h p (List.mem_cons_of_mem _ hp)
theorem PL.hd {a:Pt} {l:List Pt} (h:PL (a :: l)):PtS 300 a:=h a (List.mem_cons_self ..)
noncomputable abbrev LHu:DFn:=a1V LFa F3
theorem a4q (x0 x3 x4 x5:Sl) (fs:Option FS):∀ (l:List Pt) (a:Pt) (x2:Sl),PL l → PtS 300 a → ∃ y2,A9 (d0 2) (a7B LFa F3) (l.map pt) ⟨[x0,.val (pt a),x2,x3,x4,x5],fs⟩ = some (.next,⟨[x0,.val (pt (l.foldl mnB a)),y2,x3,x4,x5],fs⟩)
 | [],a,x2,_,_=>⟨x2,rfl⟩
 | o :: r,a,x2,hl,ha=>by
  have t:=b3y o a fs hl.hd.ps ha.ps (by decide)
  have hm:PtS 300 (mnB a o):=by unfold mnB; split; exact hl.hd; exact ha
  obtain ⟨y2,e⟩:=a4q x0 x3 x4 x5 fs r (mnB a o) (.val (pt o)) hl.tl hm
  refine ⟨y2,?_⟩
  rw [List.map_cons,M9 (s1:=⟨[x0,.val (pt a),.val (pt o),x3,x4,x5],fs⟩) (s2:=⟨[x0,.val (pt (mnB a o)),.val (pt o),x3,x4,x5],fs⟩) rfl ?_,e,List.foldl_cons]
  unfold mnB
  show n8 (dTr (c7 F3 (a6 (dV 2) (a6 (dV 1) a8)))) (i8 (dV 2) (d0 1)) o7 _ = _
  cases c:lsB o a with
  | true=>
   rw [c] at t
   rw [K1 (a0X (k6 rfl t)),if_pos rfl]
   rfl
  | false=>
   rw [c] at t
   rw [P4 (a0X (k6 rfl t)),if_neg Bool.false_ne_true]
   rfl
noncomputable def obD:Option Pt → D
 | none=>.non
 | some p=>pt p
theorem a52 (x0 x1 x3:Sl) (h:Pt) (sh:PtS 300 h) (fs:Option FS):∀ (l:List Pt) (b:Option Pt) (x2:Sl),PL l → (∀ r,b = some r → PtS 300 r) → ∃ y2,A9 (d0 2) (a6S LFa F3) (l.map pt) ⟨[x0,x1,x2,x3,.val (pt h),.val (obD b)],fs⟩ = some (.next,⟨[x0,x1,y2,x3,.val (pt h),.val (obD (l.foldl (C6 h) b))],fs⟩)
 | [],b,x2,_,_=>⟨x2,rfl⟩
 | o :: r,b,x2,hl,hb=>by
  have hn:∀ q,C6 h b o = some q → PtS 300 q:=fun q hq=>by
   by_cases e:o = h
   ·rw [e,U8] at hq; exact hb q hq
   ·cases b with
    | none=>rw [U2 e] at hq; cases hq; exact hl.hd
    | some p=>
     cases f:F4 h p o with
     | true=>rw [U7 e f] at hq; cases hq; exact hl.hd
     | false=>rw [W2 e f] at hq; cases hq; exact hb _ rfl
  obtain ⟨y2,e⟩:=a52 x0 x1 x3 h sh fs r (C6 h b o) (.val (pt o)) hl.tl hn
  refine ⟨y2,?_⟩
  rw [List.map_cons,M9 (s1:=⟨[x0,x1,.val (pt o),x3,.val (pt h),.val (obD b)],fs⟩) (s2:=⟨[x0,x1,.val (pt o),x3,.val (pt h),.val (obD (C6 h b o))],fs⟩) rfl ?_,e,List.foldl_cons]
  have ne:dB (dOp pNe (dL 2) (dL 4)) ⟨[x0,x1,.val (pt o),x3,.val (pt h),.val (obD b)],fs⟩ = some (!decide (o = h),⟨[x0,x1,.val (pt o),x3,.val (pt h),.val (obD b)],fs⟩):=v8 (c6 rfl rfl (a2A hl.hd.ps sh.ps))
  show n8 (v4 (dB (dOp pNe (dL 2) (dL 4))) (dOr (dB (dOp Z0 (dL 5) (dC .non))) (dTr (c7 LFa (a6 (dV 4) (a6 (dV 5) (a6 (dV 2) a8))))))) (i8 (dV 2) (d0 5)) o7 _ = _
  by_cases eo:o = h
  ·rw [decide_eq_true eo] at ne
   rw [P4 (a0s ne)]
   subst eo
   rw [U8]
   rfl
  ·rw [decide_eq_false eo] at ne
   cases b with
   | none=>
    rw [K1 (U6 ne (a3O (v8 (c6 rfl rfl rfl)))),U2 eo]
    rfl
   | some p=>
    have t:=b16 h p o fs sh (hb p rfl) hl.hd
    have nn:dB (dOp Z0 (dL 5) (dC .non)) ⟨[x0,x1,.val (pt o),x3,.val (pt h),.val (obD (some p))],fs⟩ = some (false,⟨[x0,x1,.val (pt o),x3,.val (pt h),.val (obD (some p))],fs⟩):=v8 (c6 rfl rfl rfl)
    cases f:F4 h p o with
    | true=>
     rw [f] at t
     rw [K1 (U6 ne (V7 nn (a0X (k6 rfl t)))),U7 eo f]
     rfl
    | false=>
     rw [f] at t
     rw [P4 (U6 ne (V7 nn (a0X (k6 rfl t)))),W2 eo f]
     rfl
noncomputable abbrev huS (l:List Pt) (f:Pt) (x2:Sl) (fd:List Pt) (h:Pt) (x5:Sl) (fs:Option FS):DS:=⟨[.val (.lst (l.map pt)),.val (pt f),x2,.own (fd.map pt),.val (pt h),x5],fs⟩
noncomputable def nxH (l:List Pt) (f:Pt) (n:Nat) (h:Pt):Pt:=match F9 h l with
 | none=>f
 | some p=>if l.length < n then f else p
theorem a7v {h:Pt} {l:List Pt} {p:Pt} (e:F9 h l = some p):p ∈ l:=by
 have:∀ (l:List Pt) (b:Option Pt) (S:List Pt),(∀ q,b = some q → q ∈ S) → ∀ q,l.foldl (C6 h) b = some q → q ∈ S ++ l:=by
  intro l
  induction l with
  | nil=>intro b S hb q hq; rw [List.append_nil]; exact hb q hq
  | cons o r ih=>
   intro b S hb q hq
   rw [List.foldl_cons] at hq
   have:=ih (C6 h b o) (S ++ [o]) (fun z hz=>by
    by_cases e:o = h
    ·rw [e,U8] at hz; exact List.mem_append_left _ (hb z hz)
    ·cases b with
     | none=>rw [U2 e] at hz; cases hz; exact List.mem_append_right _ (List.mem_singleton.mpr rfl)
     | some p=>
      cases f:F4 h p o with
      | true=>rw [U7 e f] at hz; cases hz; exact List.mem_append_right _ (List.mem_singleton.mpr rfl)
      | false=>rw [W2 e f] at hz; cases hz; exact List.mem_append_left _ (hb _ rfl)) q hq
   rw [List.append_assoc] at this
   exact this
 have:=this l none [] (fun q hq=>by cases hq) p e
 rwa [List.nil_append] at this
theorem a6R {l:List Pt} {f h:Pt} {n:Nat} (hf:f ∈ l):nxH l f n h ∈ l:=by
 unfold nxH
 cases e:F9 h l with
 | none=>exact hf
 | some p=>
  by_cases c:l.length < n
  ·simp only [if_pos c]; exact hf
  ·simp only [if_neg c]; exact a7v e
theorem Y1 {l:List Pt} {f h:Pt} {fd:List Pt} (x2 x5:Sl) (fs:Option FS) (hl:PL l) (hf:f ∈ l) (hh:h ∈ l) (ln:fd.length ≤ 50):∃ y2 y5,P1 LFa F3 (huS l f x2 fd h x5 fs) = some (.next,huS l f y2 (fd ++ [h]) (nxH l f (fd.length + 1) h) y5 fs):=by
 obtain ⟨y2,e⟩:=a52 (.val (.lst (l.map pt))) (.val (pt f)) (.own ((fd ++ [h]).map pt)) h (hl h hh) fs l none x2 hl (fun r hr=>by cases hr)
 have ap:(fd ++ [h]).map pt = fd.map pt ++ [pt h]:=by simp
 have ll:(fd.map pt).length < sizeLine:=Nat.lt_of_le_of_lt (by rw [List.length_map]; exact ln) (show 50 < sizeLine by decide)
 refine ⟨y2,.val (obD (F9 h l)),?_⟩
 unfold P1
 rw [j5 (s1:=huS l f x2 (fd ++ [h]) h x5 fs) (by unfold huS; rw [ap]; exact Q4 (s1:=huS l f x2 fd h x5 fs) rfl rfl rfl ll),
  j5 (s1:=huS l f x2 (fd ++ [h]) h (.val (obD none)) fs) (o9 rfl rfl),
  j5 ((O6 (ds:=l.map pt) (s1:=huS l f x2 (fd ++ [h]) h (.val (obD none)) fs) rfl).trans e)]
 have e2:l.foldl (C6 h) none = F9 h l:=rfl
 rw [e2]
 unfold nxH
 have lt:dB (dOp (j8 (fun i j=>decide (j < i))) (dCB (one k9) (a6 (dL 3) a8)) (dCB (one k9) (a6 (dL 0) a8))) (huS l f y2 (fd ++ [h]) h (.val (obD (F9 h l))) fs) = some (decide (l.length < fd.length + 1),huS l f y2 (fd ++ [h]) h (.val (obD (F9 h l))) fs):=by
  have q:decide (((l.map pt).length:Int) < (((fd ++ [h]).map pt).length:Int)) = decide (l.length < fd.length + 1):=by
   rw [Bool.eq_iff_iff,decide_eq_true_iff,decide_eq_true_iff,List.length_map,List.length_map,List.length_append,List.length_singleton]
   omega
  rw [← q]
  exact v8 (c6 (F0 (p:=k9) rfl rfl) (F0 (p:=k9) rfl rfl) rfl)
 cases hb:F9 h l with
 | none=>exact o9 ((Y2 (a3O (v8 (c6 rfl rfl rfl)))).trans rfl) rfl
 | some p=>
  rw [hb] at lt
  have nn:dB (dOp Z0 (dL 5) (dC .non)) (huS l f y2 (fd ++ [h]) h (.val (obD (some p))) fs) = some (false,huS l f y2 (fd ++ [h]) h (.val (obD (some p))) fs):=v8 (c6 rfl rfl rfl)
  by_cases c:l.length < fd.length + 1
  ·rw [decide_eq_true c] at lt
   simp only [if_pos c]
   exact o9 ((Y2 (V7 nn lt)).trans rfl) rfl
  ·rw [decide_eq_false c] at lt
   simp only [if_neg c]
   exact o9 ((a1p (V7 nn lt)).trans rfl) rfl
theorem a3t {fd:List Pt} (h:PL fd):A1 (.lst (fd.map pt)) = true:=(Ok.lst (OkL.all (k:=1) (n:=3) (ds:=fd.map pt) fun d hd=>by
 obtain ⟨p,hp,rfl⟩:=List.mem_map.mp hd
 exact Ok.pt (h p hp).ps (by decide))).eq
theorem b00 {fd:List Pt} (h:PL fd):pEq (.lst (fd.map pt)) (.lst []) = some (.bl (decide (fd = []))):=by
 have e:PyData.eqv (D.py (.lst (fd.map pt))) (D.py (.lst [])) = decide (fd = []):=by
  cases fd with
  | nil=>rfl
  | cons d r=>simp [D.py,D.pys,PyData.eqv,PyData.eqvAll]
 have h2:A1 (.lst []) = true:=rfl
 unfold pEq
 simp only [a3t h,h2,Bool.and_self,if_true,e]
noncomputable abbrev huT:DT:=dOr (dB (dOp pNe (dL 4) (dL 1))) (dB (dOp pEq (dL 3) (r8 (t7 a8))))
theorem R5 {l:List Pt} {f h:Pt} {fd:List Pt} (x2 x5:Sl) (fs:Option FS) (hl:PL l) (hf:f ∈ l) (hh:h ∈ l) (hd:PL fd):huT (huS l f x2 fd h x5 fs) = some (!decide (h = f) || decide (fd = []),huS l f x2 fd h x5 fs):=by
 have ne:dB (dOp pNe (dL 4) (dL 1)) (huS l f x2 fd h x5 fs) = some (!decide (h = f),huS l f x2 fd h x5 fs):=v8 (c6 rfl rfl (a2A (hl h hh).ps (hl f hf).ps))
 cases c:(!decide (h = f)) with
 | true=>rw [c] at ne; exact a3O ne
 | false=>
  rw [c] at ne
  rw [Bool.false_or]
  exact V7 ne (v8 (c6 rfl (S8 rfl) (b00 hd)))
theorem a5J {l:List Pt} {f h:Pt} {n:Nat} (hn:l.length < n):nxH l f n h = f:=by
 unfold nxH
 cases F9 h l with
 | none=>rfl
 | some p=>simp only [if_pos hn]
theorem b3H {l:List Pt} {f:Pt} (fs:Option FS) (hl:PL l) (hf:f ∈ l) (l40:l.length ≤ 40):∀ (m:Nat) (fd:List Pt) (h:Pt) (x2 x5:Sl),l.length + 1 - fd.length = m → fd ≠ [] → (∀ q ∈ fd,q ∈ l) → h ∈ l → fd.length ≤ l.length + 1 → (l.length < fd.length → h = f) →
  ∃ fd' y2 y5,D8 huT (P1 LFa F3) (huS l f x2 fd h x5 fs) = some (.next,huS l f y2 fd' f y5 fs) ∧ fd.length ≤ fd'.length ∧ fd'.length ≤ l.length + 1 ∧ ∀ q ∈ fd',q ∈ l:=by
 intro m
 induction m with
 | zero=>
  intro fd h x2 x5 hm hn hd hh hlen hz
  have:h = f:=hz (by omega)
  subst this
  have t:=R5 x2 x5 fs hl hf hf (fun p hp=>hl p (hd p hp))
  rw [decide_eq_true rfl,decide_eq_false hn] at t
  exact ⟨fd,x2,x5,M6 t,Nat.le_refl _,hlen,hd⟩
 | succ m ih=>
  intro fd h x2 x5 hm hn hd hh hlen hz
  have t:=R5 x2 x5 fs hl hf hh (fun p hp=>hl p (hd p hp))
  rw [decide_eq_false hn,Bool.or_false] at t
  by_cases e:h = f
  ·subst e
   rw [decide_eq_true rfl] at t
   exact ⟨fd,x2,x5,M6 t,Nat.le_refl _,hlen,hd⟩
  ·rw [decide_eq_false e] at t
   obtain ⟨y2,y5,it⟩:=Y1 x2 x5 fs hl hf hh (fd:=fd) (by omega)
   obtain ⟨fd',z2,z5,w,q1,q2,q3⟩:=ih (fd ++ [h]) (nxH l f (fd.length + 1) h) y2 y5 (by rw [List.length_append,List.length_singleton]; omega) (by simp) (fun q hq=>by
    rcases List.mem_append.mp hq with hq | hq
    ·exact hd q hq
    ·rw [List.mem_singleton.mp hq]; exact hh) (a6R hf) (by
    rw [List.length_append,List.length_singleton]
    have:¬ l.length < fd.length:=fun z=>e (hz z)
    omega) (fun z=>a5J (by rw [List.length_append,List.length_singleton] at z; exact z))
   rw [List.length_append,List.length_singleton] at q1
   exact ⟨fd',z2,z5,N6 t it w,by omega,q2,q3⟩
theorem b1j {l:List Pt} (fs:Option FS) (hl:PL l) (l3:3 ≤ l.length) (l40:l.length ≤ 40) {a b c:Pt} (ha:a ∈ l) (hb:b ∈ l) (hc:c ∈ l) (h:a7 a b c ≠ 0) :
  ∃ fd:List Pt,LHu [.lst (l.map pt)] fs = some (.tup (fd.map pt),fs) ∧ 3 ≤ fd.length ∧ fd.length ≤ 41 ∧ ∀ q ∈ fd,q ∈ l:=by
 obtain ⟨a0,h0⟩:∃ a0,l[0]? = some a0:=⟨_,List.getElem?_eq_getElem (by omega)⟩
 have m0:=List.mem_of_getElem? h0
 obtain ⟨y2,e1⟩:=a4q (.val (.lst (l.map pt))) .no .no .no fs l a0 .no hl (hl a0 m0)
 obtain ⟨o1,o2⟩:=a2j l [a0] a0 (List.mem_singleton.mpr rfl) (fun q hq=>.inl (List.mem_singleton.mp hq))
 generalize l.foldl mnB a0 = f at *
 have hf:f ∈ l:=by
  rcases List.mem_append.mp o1 with z | z
  ·rw [List.mem_singleton.mp z]; exact m0
  ·exact z
 obtain ⟨p,r,b1,p1,p2,b2,r1,r2⟩:=b0k hf (fun q hq=>o2 q (List.mem_append_right _ hq)) ha hb hc h
 have n1:nxH l f 1 f = p:=by unfold nxH; rw [b1]; exact if_neg (by omega)
 have n2:nxH l f 2 p = r:=by unfold nxH; rw [b2]; exact if_neg (by omega)
 have t1:=R5 (fd:=[]) y2 .no fs hl hf hf (fun q hq=>by cases hq)
 rw [decide_eq_true (rfl:([]:List Pt) = []),Bool.or_true] at t1
 obtain ⟨z2,z5,i1⟩:=Y1 (fd:=[]) y2 .no fs hl hf hf (by decide)
 have t2:=R5 (fd:=[f]) z2 z5 fs hl hf p2 (fun q hq=>by rw [List.mem_singleton.mp hq]; exact hl f hf)
 rw [decide_eq_false p1,Bool.not_false,Bool.true_or] at t2
 obtain ⟨u2,u5,i2⟩:=Y1 (fd:=[f]) z2 z5 fs hl hf p2 (show 1 ≤ 50 by decide)
 have t3:=R5 (fd:=[f,p]) u2 u5 fs hl hf r2 (fun q hq=>by
  rcases List.mem_cons.mp hq with rfl | hq
  ·exact hl _ hf
  ·rw [List.mem_singleton.mp hq]; exact hl p p2)
 rw [decide_eq_false r1,Bool.not_false,Bool.true_or] at t3
 obtain ⟨v2,v5,i3⟩:=Y1 (fd:=[f,p]) u2 u5 fs hl hf r2 (show 2 ≤ 50 by decide)
 have i1':P1 LFa F3 (huS l f y2 [] f .no fs) = some (.next,huS l f z2 [f] p z5 fs):=by rw [i1]; show some (Fl.next,huS l f z2 [f] (nxH l f 1 f) z5 fs) = _; rw [n1]
 have i2':P1 LFa F3 (huS l f z2 [f] p z5 fs) = some (.next,huS l f u2 [f,p] r u5 fs):=by rw [i2]; show some (Fl.next,huS l f u2 [f,p] (nxH l f 2 p) u5 fs) = _; rw [n2]
 obtain ⟨fd,w2,w5,w,q1,q2,q3⟩:=b3H fs hl hf l40 _ [f,p,r] (nxH l f 3 r) v2 v5 rfl (by simp) (fun q hq=>by
  simp only [List.mem_cons,List.not_mem_nil,or_false] at hq
  rcases hq with rfl | rfl | rfl
  ·exact hf
  ·exact p2
  ·exact r2) (a6R hf) (show 3 ≤ _ by omega) (fun z=>a5J z)
 have W:=N6 t1 i1' (N6 t2 i2' (N6 t3 i3 w))
 have l3':3 ≤ fd.length:=q1
 refine ⟨fd,u6 (s:=huS l f w2 fd f w5 fs) ?_,l3',by omega,q3⟩
 show a0B LFa F3 ⟨[.val (.lst (l.map pt)),.no,.no,.no,.no,.no],fs⟩ = _
 unfold a0B
 have ix:pIx (.lst (l.map pt)) (.int 0) = some (pt a0):=(ixL _ _).trans (by
  rw [a38 (by decide) (by rw [List.length_map]; omega)]
  show (l.map pt)[0]? = _
  rw [List.getElem?_map,h0]; rfl)
 rw [j5 (s1:=⟨[.val (.lst (l.map pt)),.val (pt a0),.no,.no,.no,.no],fs⟩) (o9 (c6 rfl rfl ix) rfl),
  j5 ((O6 (ds:=l.map pt) (s1:=⟨[.val (.lst (l.map pt)),.val (pt a0),.no,.no,.no,.no],fs⟩) rfl).trans e1),
  j5 (s1:=⟨[.val (.lst (l.map pt)),.val (pt f),y2,.own [],.no,.no],fs⟩) (G8 (s1:=⟨[.val (.lst (l.map pt)),.val (pt f),y2,.no,.no,.no],fs⟩) rfl (show 3 < 6 by decide)),
  j5 (s1:=huS l f y2 [] f .no fs) (o9 rfl rfl),j5 W]
 have gt:dB (dOp (j8 (fun i j=>decide (j < i))) (dCB (one k9) (a6 (dL 3) a8)) (dC (.int 2))) (huS l f w2 fd f w5 fs) = some (true,huS l f w2 fd f w5 fs):=
  v8 (c6 (F0 (p:=k9) rfl rfl) rfl (congrArg (fun b=>some (D.bl b)) (decide_eq_true (show (2:Int) < ((fd.map pt).length:Int) by rw [List.length_map]; omega))))
 exact A2 ((Y2 gt).trans (F0 rfl rfl))
theorem b19 {S:Pt → Prop} {a b p:Pt} (h:Nx S a b) (sb:S b) (sp:S p) (k1:0 ≤ a7 a p b) (k2:a7 a p b = 0 → dsq a b ≤ dsq a p):p = b:=by
 have k3:=h.lf p sp
 have e:=a8h a b p
 have z1:a7 a b p = 0:=by grind
 have z2:a7 a p b = 0:=by grind
 obtain ⟨s,s0,s1,rfl⟩:=h.far p sp z1
 have d:=k2 z2
 rw [(a77 a b s).1] at d
 have pos:=a1w (a:=a) (b:=b) fun e=>h.ne e.symm
 have:s = 1:=by
  by_cases q:s = 1
  ·exact q
  ·have l1:s < 1:=by grind
   have l2:s * s ≤ s * 1:=Rat.mul_le_mul_of_nonneg_left s1 s0
   have l3:0 < (1 - s) * dsq a b:=Rat.mul_pos (by grind) pos
   have l4:s * s * dsq a b ≤ s * dsq a b:=Rat.mul_le_mul_of_nonneg_right (by grind) (Rat.le_of_lt pos)
   grind
 rw [this,Z4]
theorem a6O {l:List Pt} {a b:Pt} (n:Nx (fun q=>q ∈ l) a b) (hb:b ∈ l) (F:Fst a l (F9 a l)):F9 a l = some b:=by
 rcases F with ⟨_,h⟩ | ⟨p,e,h1,h2,h3⟩
 ·exact absurd (h b hb) n.ne
 ·rw [e,b19 n hb h1 (h3 b hb).1 (h3 b hb).2]
theorem b1g {l:List Pt} {a b:Pt} (hl:∀ q ∈ l,Lst a q) (n:Nx (fun q=>q ∈ l) a b) (hb:b ∈ l):F9 a l = some b:=by
 refine a6O n hb ?_
 have:=a0P l [] none (by simpa using hl) (.inl ⟨rfl,fun q hq=>by cases hq⟩)
 simpa [F9] using this
noncomputable def Tg (g h q:Pt):Pt:=(a7 g h q,-((h.1 - g.1) * (q.1 - h.1) + (h.2 - g.2) * (q.2 - h.2)))
theorem a7F (g h a b c:Pt):a7 (Tg g h a) (Tg g h b) (Tg g h c) = dsq g h * a7 a b c:=by unfold a7 Tg dsq a7; grind
theorem a04 (g h a b:Pt):dsq (Tg g h a) (Tg g h b) = dsq g h * dsq a b:=by unfold dsq Tg a7; grind
section
variable {g h:Pt} (n:h ≠ g)
include n
theorem a3C:0 < dsq g h:=a1w fun e=>n e.symm
theorem a8K {a b:Pt} (e:Tg g h a = Tg g h b):a = b:=by
 have k:=a3C n
 have d:dsq g h * dsq a b = 0:=by rw [← a04,e]; exact a07 _
 by_cases q:a = b
 ·exact q
 ·have:=Rat.mul_pos k (a1w q)
  grind
theorem a6n (a b c:Pt):F4 (Tg g h a) (Tg g h b) (Tg g h c) = F4 a b c:=by
 have k:=a3C n
 unfold F4
 rw [a7F,a04,a04]
 have i1:dsq g h * a7 a b c = 0 ↔ a7 a b c = 0:=by
  constructor
  ·intro z
   rcases Rat.mul_eq_zero.mp z with q | q
   ·grind
   ·exact q
  ·intro z; rw [z,Rat.mul_zero]
 have i2:(dsq g h * dsq a b < dsq g h * dsq a c) ↔ dsq a b < dsq a c:=Rat.mul_lt_mul_left k
 have i3:(dsq g h * a7 a b c < 0) ↔ a7 a b c < 0:=by
  have:=Rat.mul_lt_mul_left (a:=a7 a b c) (b:=0) k
  rwa [Rat.mul_zero] at this
 by_cases z:a7 a b c = 0
 ·rw [if_pos (i1.mpr z),if_pos z,Bool.eq_iff_iff,decide_eq_true_iff,decide_eq_true_iff]; exact i2
 ·rw [if_neg (fun w=>z (i1.mp w)),if_neg z,Bool.eq_iff_iff,decide_eq_true_iff,decide_eq_true_iff]; exact i3
theorem b4S (a:Pt) (b:Option Pt) (o:Pt):C6 (Tg g h a) (b.map (Tg g h)) (Tg g h o) = (C6 a b o).map (Tg g h):=by
 by_cases e:o = a
 ·subst e; rw [U8,U8]
 ·have e':Tg g h o ≠ Tg g h a:=fun z=>e (a8K n z)
  cases b with
  | none=>rw [Option.map_none,U2 e',U2 e]; rfl
  | some r=>
   rw [Option.map_some]
   cases f:F4 a r o with
   | true=>rw [U7 e' (by rw [a6n n]; exact f),U7 e f]; rfl
   | false=>rw [W2 e' (by rw [a6n n]; exact f),W2 e f]; rfl
theorem a9i (a:Pt):∀ (l:List Pt) (b:Option Pt),(l.map (Tg g h)).foldl (C6 (Tg g h a)) (b.map (Tg g h)) = (l.foldl (C6 a) b).map (Tg g h)
 | [],b=>rfl
 | o :: r,b=>by rw [List.map_cons,List.foldl_cons,List.foldl_cons,b4S n,a9i a r]
end
theorem b6n {l:List Pt} {g h b:Pt} (N1:Nx (fun q=>q ∈ l) g h) (N2:Nx (fun q=>q ∈ l) h b) (hb:b ∈ l):F9 h l = some b:=by
 have n:=N1.ne
 have k:=a3C n
 have F:=a0P (f:=Tg g h h) (l.map (Tg g h)) [] none (fun q hq=>by
  rw [List.nil_append] at hq
  obtain ⟨z,hz,rfl⟩:=List.mem_map.mp hq
  by_cases e:z = h
  ·exact .inl (by rw [e])
  ·right
   have e0:Tg g h h = (0,0):=Prod.ext (S7 g h) (by show -((h.1 - g.1) * (h.1 - h.1) + (h.2 - g.2) * (h.2 - h.2)) = 0; grind)
   rw [e0]
   have c:=N1.lf z hz
   have s1:(Tg g h z).1 - (0:Rat) = a7 g h z:=by unfold Tg; grind
   unfold w9
   rw [s1]
   by_cases c0:a7 g h z = 0
   ·right
    refine ⟨c0,?_⟩
    obtain ⟨s,s0,s1,ez⟩:=N1.far z hz c0
    have sn:s ≠ 1:=fun w=>e (by rw [ez,w,Z4])
    have q:(Tg g h z).2 - (0:Rat) = (1 - s) * dsq g h:=by
     rw [ez]
     unfold Tg dsq l7
     grind
    rw [q]
    exact Rat.mul_pos (by grind) k
   ·left; grind) (.inl ⟨rfl,fun q hq=>by cases hq⟩)
 rw [List.nil_append] at F
 have tb:=a9i n h l none
 rw [Option.map_none] at tb
 rw [tb] at F
 refine a6O N2 hb ?_
 show Fst h l (l.foldl (C6 h) none)
 rcases F with ⟨e,F⟩ | ⟨p,e,h1,h2,h3⟩
 ·refine .inl ⟨?_,fun q hq=>a8K n (F _ (List.mem_map_of_mem hq))⟩
  cases w:l.foldl (C6 h) none with
  | none=>rfl
  | some z=>rw [w] at e; cases e
 ·cases w:l.foldl (C6 h) none with
  | none=>rw [w] at e; cases e
  | some z=>
   rw [w] at e
   have ep:Tg g h z = p:=Option.some.inj e
   subst ep
   refine .inr ⟨z,rfl,a7v (h:=h) w,fun q=>h2 (by rw [q]),fun q hq=>?_⟩
   obtain ⟨a1,a2⟩:=h3 _ (List.mem_map_of_mem hq)
   rw [a7F] at a1 a2
   rw [a04,a04] at a2
   refine ⟨Rat.not_lt.mp fun z'=>?_,fun z'=>Rat.not_lt.mp fun y=>?_⟩
   ·have:=Rat.mul_pos k (show 0 < -a7 h z q by grind)
    grind
   ·have a3:=a2 (by rw [z',Rat.mul_zero])
    have:=(Rat.mul_lt_mul_left k).mpr y
    grind
theorem b1s {l C:List Pt} {f:Pt} (fs:Option FS) (hl:PL l) (l40:l.length ≤ 40) (R:Rnd (fun q=>q ∈ l) f C):∀ (m i:Nat) (h:Pt) (x2 x5:Sl),C.length - i = m → 1 ≤ i → i ≤ C.length → (C ++ [f])[i]? = some h →
  ∃ y2 y5,D8 huT (P1 LFa F3) (huS l f x2 (C.take i) h x5 fs) = some (.next,huS l f y2 C f y5 fs):=by
 have sf:f ∈ l:=R.mem f (List.mem_of_mem_head? R.hd)
 have hC:=R.len
 have inl:∀ i a,(C ++ [f])[i]? = some a → a ∈ l:=fun i a e=>by
  rcases List.mem_append.mp (List.mem_of_getElem? e) with z | z
  ·exact R.mem a z
  ·rw [List.mem_singleton.mp z]; exact sf
 have plC:∀ i,PL (C.take i):=fun i p hp=>hl p (R.mem p (List.mem_of_mem_take hp))
 have ne:∀ i,1 ≤ i → i ≤ C.length → C.take i ≠ []:=fun i h1 h2 e=>by
  have:=congrArg List.length e
  rw [List.length_take,List.length_nil] at this
  omega
 intro m
 induction m with
 | zero=>
  intro i h x2 x5 hm h1 h2 e
  have ei:i = C.length:=by omega
  subst ei
  rw [List.getElem?_append_right (Nat.le_refl _),Nat.sub_self] at e
  have:h = f:=by simpa using e.symm
  subst this
  rw [List.take_length]
  have t:=R5 x2 x5 fs hl sf sf (fun p hp=>hl p (R.mem p hp)) (fd:=C)
  rw [decide_eq_true rfl,decide_eq_false (fun z=>by rw [z] at h1; simp at h1)] at t
  exact ⟨x2,x5,M6 t⟩
 | succ m ih=>
  intro i h x2 x5 hm h1 h2 e
  have hh:=inl i h e
  have hi:i < C.length:=by omega
  have eC:C[i]? = some h:=by rw [← List.getElem?_append_left (l₂:=[f]) hi]; exact e
  have nf:h ≠ f:=fun z=>R.nb i (by omega) (by rw [eC,z])
  have t:=R5 x2 x5 fs hl sf hh (plC i)
  rw [decide_eq_false nf] at t
  obtain ⟨y2,y5,it⟩:=Y1 x2 x5 fs hl sf hh (fd:=C.take i) (by rw [List.length_take]; omega)
  have ll:(C ++ [f]).length = C.length + 1:=by simp
  obtain ⟨g,hg⟩:∃ g,(C ++ [f])[i - 1]? = some g:=⟨_,List.getElem?_eq_getElem (by omega)⟩
  obtain ⟨b,hb⟩:∃ b,(C ++ [f])[i + 1]? = some b:=⟨_,List.getElem?_eq_getElem (by omega)⟩
  have N1:=V0 R.run hg (show (C ++ [f])[i - 1 + 1]? = some h by rw [show i - 1 + 1 = i by omega]; exact e)
  have N2:=V0 R.run e hb
  have nx:nxH l f ((C.take i).length + 1) h = b:=by
   unfold nxH
   rw [b6n N1 N2 (inl _ _ hb)]
   exact if_neg (by rw [List.length_take]; omega)
  have tk:C.take i ++ [h] = C.take (i + 1):=by rw [List.take_succ,eC]; rfl
  rw [nx,tk] at it
  obtain ⟨z2,z5,w⟩:=ih (i + 1) b y2 y5 (by omega) (by omega) (by omega) hb
  exact ⟨z2,z5,N6 t it w⟩
theorem b5e {l fd:List Pt} {f:Pt} {y2 y5:Sl} (fs:Option FS):j7 (dIf (dB (dOp (j8 (fun i j=>decide (j < i))) (dCB (one k9) (a6 (dL 3) a8)) (dC (.int 2)))) (dCB (one Y7) (a6 (dL 3) a8)) (dC .non)) (huS l f y2 fd f y5 fs) = some (.ret (if fd.length < 3 then .non else .tup (fd.map pt)),huS l f y2 fd f y5 fs):=by
 have gt:dB (dOp (j8 (fun i j=>decide (j < i))) (dCB (one k9) (a6 (dL 3) a8)) (dC (.int 2))) (huS l f y2 fd f y5 fs) = some (decide ((2:Int) < (fd.length:Int)),huS l f y2 fd f y5 fs):=by
  have:=v8 (c6 (p:=j8 (fun i j=>decide (j < i))) (s:=huS l f y2 fd f y5 fs) (F0 (p:=k9) (a:=dL 3) (x:=.lst (fd.map pt)) rfl rfl) (b:=dC (.int 2)) rfl rfl)
  rw [this,List.length_map]
 by_cases h:fd.length < 3
 ·rw [if_pos h]
  rw [decide_eq_false (by omega)] at gt
  exact A2 ((a1p gt).trans rfl)
 ·rw [if_neg h]
  rw [decide_eq_true (by omega)] at gt
  exact A2 ((Y2 gt).trans (F0 rfl rfl))
theorem a8r {l:List Pt} (fs:Option FS) (hl:PL l) (l1:1 ≤ l.length) (l40:l.length ≤ 40):LHu [.lst (l.map pt)] fs = some (i4 l,fs):=by
 obtain ⟨a0,h0⟩:∃ a0,l[0]? = some a0:=⟨_,List.getElem?_eq_getElem (by omega)⟩
 have m0:=List.mem_of_getElem? h0
 obtain ⟨y2,e1⟩:=a4q (.val (.lst (l.map pt))) .no .no .no fs l a0 .no hl (hl a0 m0)
 obtain ⟨o1,o2⟩:=a2j l [a0] a0 (List.mem_singleton.mpr rfl) (fun q hq=>.inl (List.mem_singleton.mp hq))
 generalize l.foldl mnB a0 = f at *
 have hf:f ∈ l:=by
  rcases List.mem_append.mp o1 with z | z
  ·rw [List.mem_singleton.mp z]; exact m0
  ·exact z
 have lst:∀ q ∈ l,Lst f q:=fun q hq=>o2 q (List.mem_append_right _ hq)
 have t1:=R5 (fd:=[]) y2 .no fs hl hf hf (fun q hq=>by cases hq)
 rw [decide_eq_true (rfl:([]:List Pt) = []),Bool.or_true] at t1
 obtain ⟨z2,z5,i1⟩:=Y1 (fd:=[]) y2 .no fs hl hf hf (by decide)
 have ix:pIx (.lst (l.map pt)) (.int 0) = some (pt a0):=(ixL _ _).trans (by
  rw [a38 (by decide) (by rw [List.length_map]; omega)]
  show (l.map pt)[0]? = _
  rw [List.getElem?_map,h0]; rfl)
 have l20:l.length < 2 ^ 20:=by omega
 have hs:=a1y l20
 obtain ⟨fd,u2,u5,W,ed⟩:∃ fd u2 u5,D8 huT (P1 LFa F3) (huS l f y2 [] f .no fs) = some (.next,huS l f u2 fd f u5 fs) ∧ (if fd.length < 3 then D.non else .tup (fd.map pt)) = i4 l:=by
  cases er:C5 l with
  | nil=>
   have:=rowP_in.mpr hf
   rw [er] at this; cases this
  | cons p r=>
   rw [er] at hs
   have pf:p = f:=by
    have fm:=rowP_in.mpr hf
    rw [er] at fm
    have pm:p ∈ l:=rowP_in.mp (by rw [er]; simp)
    rcases List.mem_cons.mp fm with q | q
    ·exact q.symm
    ·have c:=(List.pairwise_cons.mp hs).1 f q
     rcases lst p pm with w | w
     ·exact w
     ·exact (a3z c ((M7 f p).mpr w)).elim
   subst pf
   by_cases hr:r = []
   ·subst hr
    have one:∀ q ∈ l,q = p:=fun q hq=>by
     have:=rowP_in.mpr hq
     rw [er] at this
     simpa using this
    have bn:F9 p l = none:=by
     have F:=a0P l [] none (by simpa using lst) (.inl ⟨rfl,fun q hq=>by cases hq⟩)
     rw [List.nil_append] at F
     rcases F with ⟨e,_⟩ | ⟨q,_,h2,h3,_⟩
     ·exact e
     ·exact absurd (one q h2) h3
    have nx:nxH l p 1 p = p:=by unfold nxH; rw [bn]
    have i1':P1 LFa F3 (huS l p y2 [] p .no fs) = some (.next,huS l p z2 [p] p z5 fs):=by rw [i1]; show some (Fl.next,huS l p z2 [p] (nxH l p 1 p) z5 fs) = _; rw [nx]
    have t2:=R5 (fd:=[p]) z2 z5 fs hl hf hf (fun q hq=>by rw [List.mem_singleton.mp hq]; exact hl p hf)
    rw [decide_eq_true rfl,decide_eq_false (by simp)] at t2
    refine ⟨[p],z2,z5,N6 t1 i1' (M6 t2),?_⟩
    have hh:l5 l = []:=by
     unfold l5 N4
     show (m8 trB (C5 l)).dropLast ++ (m8 trB (C5 l).reverse).dropLast = []
     rw [er]
     rfl
    unfold i4
    rw [hh]
    rfl
   ·have R:=a0w l20 er hr
    have ll:(l5 l ++ [p]).length = (l5 l).length + 1:=by simp
    have h0':(l5 l)[0]? = some p:=by rw [← List.head?_eq_getElem?]; exact R.hd
    have hpos:0 < (l5 l).length:=(List.getElem?_eq_some_iff.mp h0').1
    obtain ⟨b,hb⟩:∃ b,(l5 l ++ [p])[1]? = some b:=⟨_,List.getElem?_eq_getElem (by omega)⟩
    have N:=V0 R.run (show (l5 l ++ [p])[0]? = some p by rw [List.getElem?_append_left hpos]; exact h0') hb
    have bl:b ∈ l:=by
     rcases List.mem_append.mp (List.mem_of_getElem? hb) with z | z
     ·exact R.mem b z
     ·rw [List.mem_singleton.mp z]; exact hf
    have nx:nxH l p 1 p = b:=by unfold nxH; rw [b1g lst N bl]; exact if_neg (by omega)
    have tk:(l5 l).take 1 = [p]:=by
     cases w:l5 l with
     | nil=>rw [w] at hpos; cases hpos
     | cons c cs=>rw [w] at h0'; simp at h0'; subst h0'; rfl
    have i1':P1 LFa F3 (huS l p y2 [] p .no fs) = some (.next,huS l p z2 ((l5 l).take 1) b z5 fs):=by rw [i1,tk]; show some (Fl.next,huS l p z2 [p] (nxH l p 1 p) z5 fs) = _; rw [nx]
    obtain ⟨u2,u5,w⟩:=b1s fs hl l40 R _ 1 b z2 z5 rfl (Nat.le_refl _) hpos hb
    exact ⟨l5 l,u2,u5,N6 t1 i1' w,rfl⟩
 refine u6 (s:=huS l f u2 fd f u5 fs) ?_
 show a0B LFa F3 ⟨[.val (.lst (l.map pt)),.no,.no,.no,.no,.no],fs⟩ = _
 unfold a0B
 rw [j5 (s1:=⟨[.val (.lst (l.map pt)),.val (pt a0),.no,.no,.no,.no],fs⟩) (o9 (c6 rfl rfl ix) rfl),
  j5 ((O6 (ds:=l.map pt) (s1:=⟨[.val (.lst (l.map pt)),.val (pt a0),.no,.no,.no,.no],fs⟩) rfl).trans e1),
  j5 (s1:=⟨[.val (.lst (l.map pt)),.val (pt f),y2,.own [],.no,.no],fs⟩) (G8 (s1:=⟨[.val (.lst (l.map pt)),.val (pt f),y2,.no,.no,.no],fs⟩) rfl (show 3 < 6 by decide)),
  j5 (s1:=huS l f y2 [] f .no fs) (o9 rfl rfl),j5 W,b5e,ed]
theorem b36 {S:Pt → Prop} {a b c d:Pt} (sa:S a) (sb:S b) (N:Nx S c d) {s:Rat} (h0:0 < s) (h1:s < 1) (ab:b ≠ a) (e:c = l7 a b s):False:=by
 have k1:=N.lf a sa
 have k2:=N.lf b sb
 have q:(1 - s) * a7 c d a + s * a7 c d b = 0:=by
  rw [e]; unfold a7 l7; grind
 have p1:0 ≤ (1 - s) * a7 c d a:=Rat.mul_nonneg (by grind) k1
 have p2:0 ≤ s * a7 c d b:=Rat.mul_nonneg (by grind) k2
 have z1:(1 - s) * a7 c d a = 0:=by grind
 have z2:s * a7 c d b = 0:=by grind
 have c1:a7 c d a = 0:=by
  rcases Rat.mul_eq_zero.mp z1 with w | w
  ·grind
  ·exact w
 have c2:a7 c d b = 0:=by
  rcases Rat.mul_eq_zero.mp z2 with w | w
  ·grind
  ·exact w
 obtain ⟨u,u0,u1,eu⟩:=N.far a sa c1
 obtain ⟨v,v0,v1,ev⟩:=N.far b sb c2
 have dn:=N.ne
 have x1:(1 - s) * (a.1 - c.1) + s * (b.1 - c.1) = 0:=by rw [e]; unfold l7; grind
 have x2:(1 - s) * (a.2 - c.2) + s * (b.2 - c.2) = 0:=by rw [e]; unfold l7; grind
 have y1:((1 - s) * u + s * v) * (d.1 - c.1) = 0:=by
  have:=congrArg Prod.fst eu; have t:=congrArg Prod.fst ev
  unfold l7 at this t
  simp only at this t
  grind
 have y2:((1 - s) * u + s * v) * (d.2 - c.2) = 0:=by
  have:=congrArg Prod.snd eu; have t:=congrArg Prod.snd ev
  unfold l7 at this t
  simp only at this t
  grind
 have w0:(1 - s) * u + s * v = 0:=by
  rcases Rat.mul_eq_zero.mp y1 with w | w
  ·exact w
  ·rcases Rat.mul_eq_zero.mp y2 with w' | w'
   ·exact w'
   ·exact absurd (Prod.ext (by grind) (by grind)) dn
 have g1:0 ≤ (1 - s) * u:=Rat.mul_nonneg (by grind) u0
 have g2:0 ≤ s * v:=Rat.mul_nonneg (by grind) v0
 have u':u = 0:=by
  have:(1 - s) * u = 0:=by grind
  rcases Rat.mul_eq_zero.mp this with w | w
  ·grind
  ·exact w
 have v':v = 0:=by
  have:s * v = 0:=by grind
  rcases Rat.mul_eq_zero.mp this with w | w
  ·grind
  ·exact w
 rw [u',Z7] at eu
 rw [v',Z7] at ev
 exact ab (ev.trans eu.symm)
theorem b3O {S:Pt → Prop} {a b c d:Pt} (sa:S a) (sb:S b) (sc:S c) (N:Nx S a b) (N2:Nx S c d) (ca:c ≠ a) (cb:c ≠ b):0 < a7 a b c:=by
 have k:=N.lf c sc
 by_cases z:a7 a b c = 0
 ·obtain ⟨s,s0,s1,e⟩:=N.far c sc z
  have n0:s ≠ 0:=fun w=>ca (by rw [e,w,Z7])
  have n1:s ≠ 1:=fun w=>cb (by rw [e,w,Z4])
  exact (b36 sa sb N2 (by grind) (by grind) N.ne e).elim
 ·grind
end T
namespace DL
open PySem L2
theorem b5Y (ds:List D) (n:Nat) (h:n ≤ ds.length):E5 ds none (some (n:Int)) = ds.take n:=by
 unfold E5 HT.sIx
 have h1:¬ (n:Int) < 0:=by omega
 simp only [h1,if_false,List.drop_zero,Nat.sub_zero,Int.toNat_natCast]
 rw [Nat.min_eq_left h]
theorem a90 (ds:List D) (n:Nat) (h:n ≤ ds.length):E5 ds (some (n:Int)) none = ds.drop n:=by
 unfold E5 HT.sIx
 have h1:¬ (n:Int) < 0:=by omega
 simp only [h1,if_false,Int.toNat_natCast]
 rw [Nat.min_eq_left h]
 exact List.take_of_length_le (by rw [List.length_drop]; omega)
theorem a5p {idx:List Nat} {fe:DE} {g:D → D} (caps:List Sl) (fs:Option FS):∀ (ds:List D),(∀ d ∈ ds,∃ s,fe ⟨.val d :: caps,fs⟩ = some (g d,s) ∧ s.fs = fs) → B6 (fun d=>some (.val d :: caps)) E8 fe ds fs = some (ds.map g,fs)
 | [],_=>rfl
 | d :: r,h=>by
  obtain ⟨s,e,q⟩:=h d (List.mem_cons_self ..)
  have ih:=a5p (idx:=idx) caps fs r fun x hx=>h x (List.mem_cons_of_mem _ hx)
  simp [B6,E8,e,q,ih]
noncomputable def nbs {α:Type} (c:Bool) (l:List α):List (α × α):=l.zip (if c then l.drop 1 ++ l.take 1 else l.drop 1)
noncomputable def pr2 (p:D × D):D:=.tup [p.1,p.2]
theorem b4v {α β:Type} (f:α → β) (c:Bool) (l:List α):nbs c (l.map f) = (nbs c l).map fun p=>(f p.1,f p.2):=by
 unfold nbs
 cases c
 ·simp only [Bool.false_eq_true,if_false]
  rw [← List.map_drop,List.zip_map]; rfl
 ·simp only [if_true]
  rw [← List.map_drop,← List.map_take,← List.map_append,List.zip_map]; rfl
theorem a34 {α:Type} (c:Bool) (l:List α):(nbs c l).length ≤ l.length:=by
 unfold nbs
 rw [List.length_zip]
 exact Nat.min_le_left ..
theorem a1u {α:Type} {c:Bool} {l:List α} {p:α × α} (h:p ∈ nbs c l):p.1 ∈ l ∧ p.2 ∈ l:=by
 unfold nbs at h
 obtain ⟨h1,h2⟩:=List.of_mem_zip (a:=p.1) (b:=p.2) h
 refine ⟨h1,?_⟩
 cases c
 ·simp only [Bool.false_eq_true,if_false] at h2
  exact List.mem_of_mem_drop h2
 ·simp only [if_true] at h2
  rcases List.mem_append.mp h2 with h | h
  ·exact List.mem_of_mem_drop h
  ·exact List.mem_of_mem_take h
theorem a4W:∀ (xs ys:List D),List.zipWith a0I xs ys = (xs.zip ys).map pr2
 | [],_=>by simp
 | _ :: _,[]=>by simp
 | x :: xs,y :: ys=>by
  rw [List.zipWith_cons_cons,List.zip_cons_cons,List.map_cons,a4W xs ys]
  rfl
noncomputable def lo (c:Bool):Nat:=if c then 3 else 2
noncomputable def hi (c:Bool):Nat:=if c then 8 else 9
theorem a8M (ds:List D):E5 ds (some 1) none = ds.drop 1:=by
 cases ds with
 | nil=>rfl
 | cons d r=>exact a90 (d :: r) 1 (by simp)
theorem b5A (ds:List D):E5 ds none (some 1) = ds.take 1:=by
 cases ds with
 | nil=>rfl
 | cons d r=>exact b5Y (d :: r) 1 (by simp)
end DL
namespace T
open PySem L2 DL
theorem b0W (ds:List D) (c:Bool) (fs:Option FS) (hl:ds.length + 1 ≤ sizeLine):a0J [.tup ds,.bl c] fs = some (.lst ((nbs c ds).map pr2),fs):=by
 refine u6 (s:=⟨[.val (.tup ds),.val (.bl c)],fs⟩) ?_
 show a2l ⟨[.val (.tup ds),.val (.bl c)],fs⟩ = _
 have h1:ds.length - 1 + min 1 ds.length ≤ sizeLine:=by omega
 cases c
 ·simp [a2l,c9,B0,i8,dOp,dUn,dC,dL,dV,d0,n8,dB,j7,c7,a6,a8,n9,o7,dCB,one,r8,t7,dIf,v4,dOr,C4,B8,B5,C3,t6,p9,p8,j8,k9,w6,t9,w8,A4,dTr,B4,ixT,ixL,a3Z,a7h,a82,a5W,a8w,dSl,dAt,dNo,dCF,Z5,V2,a8M,nbs,a4W]
 ·simp [a2l,c9,B0,i8,dOp,dUn,dC,dL,dV,d0,n8,dB,j7,c7,a6,a8,n9,o7,dCB,one,r8,t7,dIf,v4,dOr,C4,B8,B5,C3,t6,p9,p8,j8,k9,w6,t9,w8,A4,dTr,B4,ixT,ixL,a3Z,a7h,a82,a5W,a8w,dSl,dAt,dNo,dCF,Z5,V2,a8M,b5A,nbs,a4W,h1]
theorem b0O {f:DA} {s s1:DS} {m:Nat} (h:f s = some ([.int (m:Int)],s1)) (hm:m < 2 ^ 30):X6 f s = some (ups 0 m,s1):=by
 unfold X6
 rw [h,Option.bind_some]
 show (W7 [.int (m:Int)]).map _ = _
 rw [a2p hm]
 rfl
theorem b50 {n:Nat}:∀ (m:Nat) {f:FS},Fd n f → n + 8 * m < 2 ^ 27 → ∀ us:List D,us.length = m → ∃ (ps:List Pt) (f':FS),B6 (fun d=>some (.val d :: [.val .feed])) E8 (c7 LPl (a6 (dV 1) a8)) us (some f) = some (ps.map pt,some f') ∧ ps.length = m ∧ (∀ p ∈ ps,PtS 5 p) ∧ Fd (n + 8 * m) f':=by
 intro m
 induction m generalizing n with
 | zero=>
  intro f h hn us hu
  have:us = []:=List.eq_nil_of_length_eq_zero hu
  subst this
  exact ⟨[],f,rfl,rfl,fun p hp=>(by cases hp),h.mono (by omega)⟩
 | succ m ih=>
  intro f h hn us hu
  match us,hu with
  | d :: r,hu=>
   obtain ⟨a,f1,e1,s1,h1⟩:=a3h h (by omega)
   obtain ⟨ps,f2,e2,l2,s2,h2⟩:=ih (n:=n + 8) h1 (by omega) r (by simpa using hu)
   refine ⟨a :: ps,f2,?_,by simp [l2],fun p hp=>?_,h2.mono (by omega)⟩
   ·have el:c7 LPl (a6 (dV 1) a8) ⟨[.val d,.val .feed],some f⟩ = some (pt a,⟨[.val d,.val .feed],some f1⟩):=J7 rfl e1
    rw [B6,Option.bind_some,show E8 ⟨[.val d,.val .feed],some f⟩ = some (true,⟨[.val d,.val .feed],some f⟩) from rfl,Option.bind_some,if_pos rfl,el,Option.bind_some,e2]
    rfl
   ·rcases List.mem_cons.mp hp with z | z
    ·subst z; exact s1
    ·exact s2 p z
noncomputable def zD (z:Int × Int):D:=.tup [.int z.1,.int z.2]
noncomputable def W8:List (Int × Int):=[(1,0),(2,1),(1,1),(1,2),(0,1),(-1,2),(-1,1),(-2,1)]
theorem a9q:∀ (W:List (Int × Int)) {n:Nat} {f:FS},Fd n f → n + W.length < 2 ^ 27 → ∃ (K:List (Int × Int)) (f':FS),B6 (fun d=>some (.val d :: [.val .feed])) (dB (dOp pEq (c7 C2 (a6 (dV 1) (a6 (dC (.int 3)) a8))) (dC (.int 0)))) (dV 0) (W.map zD) (some f) = some (K.map zD,some f') ∧ K.Sublist W ∧ Fd (n + W.length) f'
 | [],n,f,h,_=>⟨[],f,rfl,List.Sublist.refl _,h⟩
 | w :: W,n,f,h,hn=>by
  rw [List.length_cons] at hn
  obtain ⟨r,f1,e1,a1,a2,h1⟩:=P7 3 h
  obtain ⟨K,f2,e2,sb,h2⟩:=a9q W h1 (by omega)
  have t:dB (dOp pEq (c7 C2 (a6 (dV 1) (a6 (dC (.int 3)) a8))) (dC (.int 0))) ⟨[.val (zD w),.val .feed],some f⟩ = some (decide (r = 0),⟨[.val (zD w),.val .feed],some f1⟩):=v8 (c6 (J7 rfl e1) rfl (W3 r 0))
  by_cases hr:r = 0
  ·rw [decide_eq_true hr] at t
   refine ⟨w :: K,f2,?_,sb.cons₂ w,h2.mono (by rw [List.length_cons]; omega)⟩
   rw [List.map_cons,B6,Option.bind_some,t,Option.bind_some,if_pos rfl]
   show (B6 _ _ _ (W.map zD) (some f1)).map _ = _
   rw [e2]
   rfl
  ·rw [decide_eq_false hr] at t
   refine ⟨K,f2,?_,sb.cons w,h2.mono (by rw [List.length_cons]; omega)⟩
   rw [List.map_cons,B6,Option.bind_some,t,Option.bind_some,if_neg Bool.false_ne_true]
   exact e2
theorem a9e (sl:List Sl) (fs:Option FS):∀ K:List (Int × Int),B6 (mk2 [] sl) E8 (n9 (a6 (dOp p9 (dC (.int 0)) (dL 0)) (a6 (dOp p9 (dC (.int 0)) (dL 1)) a8))) (K.map zD) fs = some ((K.map fun z=>(0 - z.1,0 - z.2)).map zD,fs)
 | []=>rfl
 | z :: r=>by
  have ih:=a9e sl fs r
  have e:mk2 [] sl (zD z) = some [.val (.int z.1),.val (.int z.2)]:=rfl
  have el:n9 (a6 (dOp p9 (dC (.int 0)) (dL 0)) (a6 (dOp p9 (dC (.int 0)) (dL 1)) a8)) ⟨[.val (.int z.1),.val (.int z.2)],fs⟩ = some (zD (0 - z.1,0 - z.2),⟨[.val (.int z.1),.val (.int z.2)],fs⟩):=T2 (c6 rfl rfl rfl) (c6 rfl rfl rfl)
  rw [List.map_cons,B6,e,Option.bind_some,show E8 ⟨[.val (.int z.1),.val (.int z.2)],fs⟩ = some (true,⟨[.val (.int z.1),.val (.int z.2)],fs⟩) from rfl,Option.bind_some,if_pos rfl,el,Option.bind_some,ih]
  rfl
noncomputable def F6 (s:Rat):Pt → List (Int × Int) → List Pt
 | _,[]=>[]
 | p,z :: r=>p :: F6 s (p.1 + (z.1:Rat) * s,p.2 + (z.2:Rat) * s) r
theorem a8Q (s:Rat):∀ (l:List (Int × Int)) (p:Pt),(F6 s p l).length = l.length
 | [],_=>rfl
 | z :: r,p=>by rw [F6,List.length_cons,a8Q s r,List.length_cons]
noncomputable def smz (z:Int × Int):Prop:=z.1.natAbs ≤ 2 ∧ z.2.natAbs ≤ 2
noncomputable abbrev LRo:DFn:=a46 LHu LG LP LF C2 C8 LPl
noncomputable abbrev lRo:DM:=a1H LHu LG LP LF C2 C8 LPl
noncomputable abbrev roS (x1 x2 x3:Sl) (s:Rat) (p:Pt) (x6 x7 x8:Sl) (f:FS):DS:=⟨[.val .feed,x1,x2,x3,.val (fr s),.val (pt p),x6,x7,x8],some f⟩
theorem a9l (x1 x2 x3:Sl) (s:Rat) (hs:Sz 4 s) (f:FS):∀ (l:List (Int × Int)) (p:Pt) (k:Nat) (acc:List D) (x7 x8:Sl),PtS k p → (∀ z ∈ l,smz z) → k + 8 * l.length ≤ 1000 → acc.length + l.length ≤ 50 →
  ∃ (p':Pt) (y7 y8:Sl),A9 (w6 2 (t9 (d0 7) (t9 (d0 8) w8))) lRo (l.map zD) (roS x1 x2 x3 s p (.own acc) x7 x8 f) = some (.next,roS x1 x2 x3 s p' (.own (acc ++ (F6 s p l).map pt)) y7 y8 f)
 | [],p,k,acc,x7,x8,_,_,_,_=>⟨p,x7,x8,by rw [F6,List.map_nil,List.map_nil,List.append_nil]; rfl⟩
 | z :: r,p,k,acc,x7,x8,hp,hz,hk,ha=>by
  rw [List.length_cons] at hk ha
  obtain ⟨z1,z2⟩:=hz z (List.mem_cons_self ..)
  have i3:∀ i:Int,i.natAbs ≤ 2 → Sz 3 (i:Rat):=fun i hi=>Sz.int (show i.natAbs < 2 ^ 3 by omega) (by decide)
  have m1:=T8 (z.1:Rat) s (some f) (i3 _ z1) hs (by decide)
  have m2:=T8 (z.2:Rat) s (some f) (i3 _ z2) hs (by decide)
  have b1:=(i3 _ z1).mul hs
  have b2:=(i3 _ z2).mul hs
  have g:=a8o p _ _ (some f) hp.x hp.y b1 b2 (by omega)
  obtain ⟨p',y7,y8,e⟩:=a9l x1 x2 x3 s hs f r (p.1 + (z.1:Rat) * s,p.2 + (z.2:Rat) * s) (k + 8) (acc ++ [pt p]) (.val (.int z.1)) (.val (.int z.2)) ⟨(hp.x.add b1).mono (by omega),(hp.y.add b2).mono (by omega)⟩ (fun w hw=>hz w (List.mem_cons_of_mem _ hw)) (by omega) (by rw [List.length_append,List.length_singleton]; omega)
  refine ⟨p',y7,y8,?_⟩
  have ll:acc.length < sizeLine:=Nat.lt_of_le_of_lt (by omega:acc.length ≤ 50) (by decide)
  rw [List.map_cons,M9 (s1:=roS x1 x2 x3 s p (.own acc) (.val (.int z.1)) (.val (.int z.2)) f) (s2:=roS x1 x2 x3 s (p.1 + (z.1:Rat) * s,p.2 + (z.2:Rat) * s) (.own (acc ++ [pt p])) (.val (.int z.1)) (.val (.int z.2)) f) rfl ?_,e,F6,List.map_cons,List.append_assoc]
  ·rfl
  ·show a1H LHu LG LP LF C2 C8 LPl _ = _
   unfold a1H
   rw [j5 (s1:=roS x1 x2 x3 s p (.own (acc ++ [pt p])) (.val (.int z.1)) (.val (.int z.2)) f) (Q4 (s1:=roS x1 x2 x3 s p (.own acc) (.val (.int z.1)) (.val (.int z.2)) f) rfl rfl rfl ll)]
   exact o9 (k6 (u8 rfl (u8 (k6 (u8 (T2 rfl rfl) (u8 rfl rfl)) m1) (u8 (k6 (u8 (T2 rfl rfl) (u8 rfl rfl)) m2) rfl))) g) rfl
noncomputable def okK (K:List (Int × Int)):Prop:=∃ a b r,K = a :: b :: r ∧ a.1 * b.2 - a.2 * b.1 ≠ 0 ∧ (∀ z ∈ K,smz z) ∧ K.length ≤ 8
theorem a74:(W8.all fun a=>decide (a.1.natAbs ≤ 2 ∧ a.2.natAbs ≤ 2) && W8.all fun b=>decide (a = b) || decide (a.1 * b.2 - a.2 * b.1 ≠ 0)) = true:=by decide +kernel
theorem a4v {a:Int × Int} (ha:a ∈ W8):smz a:=by
 have h:=List.all_eq_true.mp a74 a ha
 rw [Bool.and_eq_true] at h
 exact (of_decide_eq_true h.1:a.1.natAbs ≤ 2 ∧ a.2.natAbs ≤ 2)
theorem a80 {a b:Int × Int} (ha:a ∈ W8) (hb:b ∈ W8) (n:a ≠ b):a.1 * b.2 - a.2 * b.1 ≠ 0:=by
 have h:=List.all_eq_true.mp a74 a ha
 rw [Bool.and_eq_true] at h
 have h2:=List.all_eq_true.mp h.2 b hb
 rw [decide_eq_false n,Bool.false_or] at h2
 exact of_decide_eq_true h2
theorem b1w {K:List (Int × Int)} (h:K.Sublist W8) (h2:1 < K.length):okK K:=by
 have nd:W8.Nodup:=by decide
 match K,h,h2 with
 | a :: b :: r,h,_=>
  have hn:=nd.sublist h
  have ne:a ≠ b:=fun e=>by
   subst e
   simp at hn
  exact ⟨a,b,r,rfl,a80 (h.subset (List.mem_cons_self ..)) (h.subset (List.mem_cons_of_mem _ (List.mem_cons_self ..))) ne,fun z hz=>a4v (h.subset hz),h.length_le⟩
theorem b4G {r:Int} (h0:0 ≤ r) (h1:r < 5):∃ b:Int × Int,atI (W8.map zD) (2 + r) = some (zD b) ∧ okK [(1,0),b]:=by
 have k:∀ b:Int × Int,b ∈ W8 → (1,0) ≠ b → okK [(1,0),b]:=fun b hb n=>⟨(1,0),b,[],rfl,a80 (by decide) hb n,fun z hz=>by
  rcases List.mem_cons.mp hz with rfl | hz
  ·exact a4v (by decide)
  ·rw [List.mem_singleton.mp hz]; exact a4v hb,show 2 ≤ 8 by decide⟩
 have:r = 0 ∨ r = 1 ∨ r = 2 ∨ r = 3 ∨ r = 4:=by omega
 rcases this with rfl | rfl | rfl | rfl | rfl
 ·exact ⟨(1,1),rfl,k _ (by decide) (by decide)⟩
 ·exact ⟨(1,2),rfl,k _ (by decide) (by decide)⟩
 ·exact ⟨(0,1),rfl,k _ (by decide) (by decide)⟩
 ·exact ⟨(-1,2),rfl,k _ (by decide) (by decide)⟩
 ·exact ⟨(-1,1),rfl,k _ (by decide) (by decide)⟩
theorem b2D {s:Rat} (hs:0 < s) {K:List (Int × Int)} {r2:List (Int × Int)} (h:okK K) (h4:1 ≤ r2.length) (p:Pt):∃ a b c,a ∈ F6 s p (K ++ r2) ∧ b ∈ F6 s p (K ++ r2) ∧ c ∈ F6 s p (K ++ r2) ∧ a7 a b c ≠ 0:=by
 obtain ⟨a,b,r,rfl,hc,_,_⟩:=h
 obtain ⟨z,t,ht⟩:∃ z t,r ++ r2 = z :: t:=by
  cases hr:r ++ r2 with
  | nil=>have:=congrArg List.length hr; rw [List.length_append,List.length_nil] at this; omega
  | cons z t=>exact ⟨z,t,rfl⟩
 have e:a :: b :: r ++ r2 = a :: b :: z :: t:=by rw [List.cons_append,List.cons_append,ht]
 rw [e,F6,F6,F6]
 refine ⟨p,_,_,List.mem_cons_self ..,List.mem_cons_of_mem _ (List.mem_cons_self ..),List.mem_cons_of_mem _ (List.mem_cons_of_mem _ (List.mem_cons_self ..)),?_⟩
 have k:a7 p (p.1 + (a.1:Rat) * s,p.2 + (a.2:Rat) * s) (p.1 + (a.1:Rat) * s + (b.1:Rat) * s,p.2 + (a.2:Rat) * s + (b.2:Rat) * s) = s * s * ((a.1 * b.2 - a.2 * b.1:Int):Rat):=by
  rw [Rat.intCast_sub,Rat.intCast_mul,Rat.intCast_mul]
  unfold a7
  grind
 rw [k]
 intro z
 rcases Rat.mul_eq_zero.mp z with z | z
 ·rcases Rat.mul_eq_zero.mp z with z | z <;> (rw [z] at hs; exact absurd hs Rat.lt_irrefl)
 ·exact hc (Rat.intCast_eq_zero_iff.mp z)
theorem a9B:∀ {l m:List Pt},l.map pt = m.map pt → l = m
 | [],[],_=>rfl
 | [],_ :: _,h=>by cases h
 | _ :: _,[],h=>by cases h
 | a :: l,b :: m,h=>by
  simp only [List.map_cons,List.cons.injEq] at h
  rw [b1C h.1,a9B h.2]
theorem a8j {l:List Pt} (fs:Option FS) (hl:PL l) (l3:3 ≤ l.length) (l40:l.length ≤ 40) {a b c:Pt} (ha:a ∈ l) (hb:b ∈ l) (hc:c ∈ l) (h:a7 a b c ≠ 0) :
  ∃ fd:List Pt,LHu [.lst (l.map pt)] fs = some (.tup (fd.map pt),fs) ∧ 3 ≤ fd.length ∧ fd.length ≤ 41 ∧ (∀ q ∈ fd,q ∈ l) ∧ fd = l5 l:=by
 obtain ⟨fd,e,h1,h2,h3⟩:=b1j fs hl l3 l40 ha hb hc h
 have e2:=a8r fs hl (by omega) l40
 rw [e] at e2
 have e3:i4 l = .tup (fd.map pt):=(Prod.mk.inj (Option.some.inj e2)).1.symm
 refine ⟨fd,e,h1,h2,h3,?_⟩
 unfold i4 at e3
 split at e3
 ·cases e3
 ·exact (a9B (D.tup.inj e3)).symm
theorem a8W (s:Rat):∀ (l:List (Int × Int)) (p q:Pt),(∀ z ∈ l,smz z) → q ∈ F6 s p l → ∃ i j:Int,i.natAbs ≤ 2 * l.length ∧ j.natAbs ≤ 2 * l.length ∧ q = (p.1 + (i:Rat) * s,p.2 + (j:Rat) * s)
 | [],p,q,_,hq=>by cases hq
 | z :: r,p,q,hz,hq=>by
  rw [F6] at hq
  obtain ⟨z1,z2⟩:=hz z (List.mem_cons_self ..)
  rcases List.mem_cons.mp hq with rfl | hq
  ·exact ⟨0,0,by simp,by simp,Prod.ext (by grind) (by grind)⟩
  ·obtain ⟨i,j,hi,hj,e⟩:=a8W s r _ q (fun w hw=>hz w (List.mem_cons_of_mem _ hw)) hq
   refine ⟨z.1 + i,z.2 + j,by rw [List.length_cons]; omega,by rw [List.length_cons]; omega,?_⟩
   rw [e,Rat.intCast_add,Rat.intCast_add]
   exact Prod.ext (by grind) (by grind)
theorem a94 {s:Rat} (hs:Sz 4 s) {l:List (Int × Int)} {p:Pt} (hp:PtS 5 p) (hl:l.length ≤ 16) (hz:∀ z ∈ l,smz z):∀ q ∈ F6 s p l,PtS 16 q:=fun q hq=>by
 obtain ⟨i,j,hi,hj,rfl⟩:=a8W s l p q hz hq
 have m:∀ i:Int,i.natAbs ≤ 2 * l.length → Sz 10 ((i:Rat) * s):=fun i hi=>(Sz.int (k:=6) (show i.natAbs < 2 ^ 6 by omega) (by decide)).mul hs
 exact ⟨(hp.x.add (m i hi)).mono (by decide),(hp.y.add (m j hj)).mono (by decide)⟩
structure ShT (fd:List Pt):Prop where
 lo:3 ≤ fd.length
 hi:fd.length ≤ 41
 sz:∀ p ∈ fd,PtS 16 p
 src:∃ l0,fd = l5 l0 ∧ 1 ≤ l0.length ∧ l0.length ≤ 16 ∧ ∀ p ∈ l0,PtS 16 p
theorem b0x {n:Nat} {f:FS} (h:Fd n f) (hn:n < 2 ^ 25):∃ fd f',LRo [.feed] (some f) = some (.tup (fd.map pt),some f') ∧ ShT fd ∧ Fd (n + 40) f':=by
 obtain ⟨ps,f1,e1,l1,s1,h1⟩:=b50 3 h (by omega) (ups 0 3) (W5 ..)
 obtain ⟨a,b,c,rfl⟩:∃ a b c,ps = [a,b,c]:=by
  match ps,l1 with
  | [a,b,c],_=>exact ⟨a,b,c,rfl⟩
 have sa:=s1 a (List.mem_cons_self ..)
 have sb:=s1 b (List.mem_cons_of_mem _ (List.mem_cons_self ..))
 have sc:=s1 c (List.mem_cons_of_mem _ (List.mem_cons_of_mem _ (List.mem_cons_self ..)))
 obtain ⟨r2,f2,e2,a1,a2,h2⟩:=P7 3 h1
 have tn:=a0p a b c (some f2) sa.ps sb.ps sc.ps (by decide)
 have st1:E4 1 (G1 [0] (X6 (a6 (dC (.int 3)) a8)) E8 (c7 LPl (a6 (dV 1) a8))) ⟨[.val .feed,.no,.no,.no,.no,.no,.no,.no,.no],some f⟩ = some (.next,⟨[.val .feed,.own ([a,b,c].map pt),.no,.no,.no,.no,.no,.no,.no],some f1⟩):=by
  refine G8 (s1:=⟨[.val .feed,.no,.no,.no,.no,.no,.no,.no,.no],some f1⟩) ?_ (show 1 < 9 by decide)
  have rg:X6 (a6 (dC (.int 3)) a8) ⟨[.val .feed,.no,.no,.no,.no,.no,.no,.no,.no],some f⟩ = some (ups 0 3,⟨[.val .feed,.no,.no,.no,.no,.no,.no,.no,.no],some f⟩):=b0O (m:=3) rfl (by decide)
  unfold G1
  rw [rg,Option.bind_some,if_pos (by rw [W5]; decide)]
  show (B6 (fun d=>some (.val d :: [.val .feed])) E8 (c7 LPl (a6 (dV 1) a8)) (ups 0 3) (some f)).map _ = _
  rw [e1]
  rfl
 have eq0:dB (dOp pEq (c7 C2 (a6 (dV 0) (a6 (dC (.int 3)) a8))) (dC (.int 0))) ⟨[.val .feed,.own ([a,b,c].map pt),.no,.no,.no,.no,.no,.no,.no],some f1⟩ = some (decide (r2 = 0),⟨[.val .feed,.own ([a,b,c].map pt),.no,.no,.no,.no,.no,.no,.no],some f2⟩):=v8 (c6 (J7 rfl e2) rfl (W3 r2 0))
 have tn0:dB (dOp pNe (c7 C8 (a6 (dOp pIx (dL 1) (dC (.int 0))) (a6 (dOp pIx (dL 1) (dC (.int 1))) (a6 (dOp pIx (dL 1) (dC (.int 2))) a8)))) (dC (.int 0))) ⟨[.val .feed,.own ([a,b,c].map pt),.no,.no,.no,.no,.no,.no,.no],some f2⟩ = some (!decide (sgn (a7 a b c) = 0),⟨[.val .feed,.own ([a,b,c].map pt),.no,.no,.no,.no,.no,.no,.no],some f2⟩):=
  v8 (c6 (k6 (u8 (c6 rfl rfl rfl) (u8 (c6 rfl rfl rfl) (u8 (c6 rfl rfl rfl) rfl))) tn) rfl (T0 _ 0))
 by_cases c1:r2 = 0 ∧ ¬ sgn (a7 a b c) = 0
 ·obtain ⟨c1,c2⟩:=c1
  rw [decide_eq_true c1] at eq0
  rw [decide_eq_false c2] at tn0
  obtain ⟨fd,hu,u1,u2,u3,u4⟩:=a8j (l:=[a,b,c]) (some f2) (fun p hp=>(s1 p hp).mono (by decide)) (Nat.le_refl 3) (show 3 ≤ 40 by decide) (a:=a) (b:=b) (c:=c) (List.mem_cons_self ..) (List.mem_cons_of_mem _ (List.mem_cons_self ..)) (List.mem_cons_of_mem _ (List.mem_cons_of_mem _ (List.mem_cons_self ..))) (fun z=>c2 ((a3g _).mpr z))
  refine ⟨fd,f2,u6 (s:=⟨[.val .feed,.val (.lst ([a,b,c].map pt)),.no,.no,.no,.no,.no,.no,.no],some f2⟩) ?_,⟨u1,u2,fun p hp=>(s1 p (u3 p hp)).mono (by decide),[a,b,c],u4,by show 1 ≤ 3; decide,by show 3 ≤ 16; decide,fun p hp=>(s1 p hp).mono (by decide)⟩,h2.mono (by omega)⟩
  show a0k LHu LG LP LF C2 C8 LPl ⟨[.val .feed,.no,.no,.no,.no,.no,.no,.no,.no],some f⟩ = _
  unfold a0k
  rw [j5 st1]
  refine Y5 ?_
  rw [K1 (U6 eq0 tn0)]
  exact A2 (Y4 (sl':=[.val .feed,.val (.lst ([a,b,c].map pt)),.no,.no,.no,.no,.no,.no,.no]) rfl hu)
 ·have st2:∀ R:DM,n8 (v4 (dB (dOp pEq (c7 C2 (a6 (dV 0) (a6 (dC (.int 3)) a8))) (dC (.int 0)))) (dB (dOp pNe (c7 C8 (a6 (dOp pIx (dL 1) (dC (.int 0))) (a6 (dOp pIx (dL 1) (dC (.int 1))) (a6 (dOp pIx (dL 1) (dC (.int 2))) a8)))) (dC (.int 0))))) R o7 ⟨[.val .feed,.own ([a,b,c].map pt),.no,.no,.no,.no,.no,.no,.no],some f1⟩ = some (.next,⟨[.val .feed,.own ([a,b,c].map pt),.no,.no,.no,.no,.no,.no,.no],some f2⟩):=fun R=>by
   by_cases c2:r2 = 0
   ·have c3:sgn (a7 a b c) = 0:=Classical.byContradiction fun z=>c1 ⟨c2,z⟩
    rw [decide_eq_true c2] at eq0
    rw [decide_eq_true c3] at tn0
    exact R8 (U6 eq0 tn0)
   ·rw [decide_eq_false c2] at eq0
    exact R8 (a0s eq0)
  obtain ⟨K,f3,e3,sb3,h3⟩:=a9q W8 h2 (by show _ + 8 < _; omega)
  have l8:W8.length = 8:=rfl
  rw [l8] at h3
  have kept:∃ (K':List (Int × Int)) (f4:FS),okK K' ∧ Fd (n + 36) f4 ∧ i8 (dIf (dB (dOp (j8 (fun i j=>decide (j < i))) (dCB (one k9) (a6 (dL 3) a8)) (dC (.int 1)))) (dV 3) (r8 (t7 (a6 (dOp pIx (dL 2) (dC (.int 0))) (a6 (dOp pIx (dL 2) (dOp t6 (dC (.int 2)) (c7 C2 (a6 (dV 0) (a6 (dC (.int 5)) a8))))) a8))))) (d0 3) ⟨[.val .feed,.own ([a,b,c].map pt),.val (.lst (W8.map zD)),.own (K.map zD),.no,.no,.no,.no,.no],some f3⟩ = some (.next,⟨[.val .feed,.own ([a,b,c].map pt),.val (.lst (W8.map zD)),.val (.lst (K'.map zD)),.no,.no,.no,.no,.no],some f4⟩):=by
   have lt:dB (dOp (j8 (fun i j=>decide (j < i))) (dCB (one k9) (a6 (dL 3) a8)) (dC (.int 1))) ⟨[.val .feed,.own ([a,b,c].map pt),.val (.lst (W8.map zD)),.own (K.map zD),.no,.no,.no,.no,.no],some f3⟩ = some (decide ((1:Int) < ((K.map zD).length:Int)),⟨[.val .feed,.own ([a,b,c].map pt),.val (.lst (W8.map zD)),.own (K.map zD),.no,.no,.no,.no,.no],some f3⟩):=v8 (c6 (F0 (p:=k9) rfl rfl) rfl rfl)
   by_cases hk:(1:Int) < ((K.map zD).length:Int)
   ·rw [decide_eq_true hk] at lt
    exact ⟨K,f3,b1w sb3 (by rw [List.length_map] at hk; omega),h3.mono (by omega),o9 ((Y2 lt).trans rfl) rfl⟩
   ·rw [decide_eq_false hk] at lt
    obtain ⟨r4,f4,e4,b1,b2,h4⟩:=P7 5 h3
    obtain ⟨w,q,ok⟩:=b4G b1 b2
    exact ⟨[(1,0),w],f4,ok,h4.mono (by omega),o9 ((a1p lt).trans (S8 (a3a (c6 rfl rfl rfl) (c6 rfl (c6 rfl (J7 rfl e4) rfl) ((ixL _ _).trans q))))) rfl⟩
  obtain ⟨K',f4,ok,h4,st5⟩:=kept
  obtain ⟨r5,f5,e5,i1,i2,h5⟩:=P7 5 h4
  obtain ⟨r6,f6,e6,j1,j2,h6⟩:=P7 3 h5
  have bd:Bd 4 (1 + r6):=show (1 + r6).natAbs < 2 ^ 4 by omega
  have ef:=N8 (1 + r5) (1 + r6) (some f6) (by omega) bd (by decide)
  have ss:Sz 4 (Rat.divInt (1 + r5) (1 + r6)):=Sz.of_divInt (by omega) (by omega) (by omega)
  have sp:(0:Rat) < Rat.divInt (1 + r5) (1 + r6):=by
   rw [Rat.divInt_eq_div,Rat.div_def]
   exact Rat.mul_pos (Rat.intCast_pos.mpr (by omega)) (Rat.inv_pos.mpr (Rat.intCast_pos.mpr (by omega)))
  generalize Rat.divInt (1 + r5) (1 + r6) = sh at *
  have ok':=ok
  obtain ⟨w1,w2,kr,hK,_,ksm,kl⟩:=ok'
  have kneg:∀ z ∈ K'.map (fun z:Int × Int=>(0 - z.1,0 - z.2)),smz z:=fun z hz=>by
   obtain ⟨y,hy,rfl⟩:=List.mem_map.mp hz
   have:=ksm y hy
   unfold smz at this ⊢
   simp only
   omega
  have zsm:∀ z ∈ K' ++ K'.map (fun z:Int × Int=>(0 - z.1,0 - z.2)),smz z:=fun z hz=>by
   rcases List.mem_append.mp hz with hz | hz
   ·exact ksm z hz
   ·exact kneg z hz
  have lK:2 ≤ K'.length:=by rw [hK]; simp
  have lz:(K' ++ K'.map (fun z:Int × Int=>(0 - z.1,0 - z.2))).length = 2 * K'.length:=by rw [List.length_append,List.length_map]; omega
  obtain ⟨p',y7,y8,lp⟩:=a9l (.own ([a,b,c].map pt)) (.val (.lst (W8.map zD))) (.val (.lst (K'.map zD))) sh ss f6 (K' ++ K'.map (fun z:Int × Int=>(0 - z.1,0 - z.2))) a 5 [] .no .no sa zsm (by rw [lz]; omega) (by rw [lz,List.length_nil]; omega)
  rw [List.nil_append] at lp
  have wsz:∀ q ∈ F6 sh a (K' ++ K'.map (fun z:Int × Int=>(0 - z.1,0 - z.2))),PtS 16 q:=a94 ss sa (by rw [lz]; omega) zsm
  have wl:=a8Q sh (K' ++ K'.map (fun z:Int × Int=>(0 - z.1,0 - z.2))) a
  rw [lz] at wl
  obtain ⟨qa,qb,qc,ma,mb,mc,off⟩:=b2D sp (r2:=K'.map (fun z:Int × Int=>(0 - z.1,0 - z.2))) ok (by rw [List.length_map]; omega) a
  obtain ⟨fd,hu,u1,u2,u3,u4⟩:=a8j (some f6) (fun q hq=>(wsz q hq).mono (by decide)) (by omega) (by omega) ma mb mc off
  have zmap:(K' ++ K'.map (fun z:Int × Int=>(0 - z.1,0 - z.2))).map zD = K'.map zD ++ (K'.map (fun z:Int × Int=>(0 - z.1,0 - z.2))).map zD:=List.map_append
  generalize F6 sh a (K' ++ K'.map (fun z:Int × Int=>(0 - z.1,0 - z.2))) = wk at *
  refine ⟨fd,f6,u6 (s:=roS (.own ([a,b,c].map pt)) (.val (.lst (W8.map zD))) (.val (.lst (K'.map zD))) sh p' (.val (.lst (wk.map pt))) y7 y8 f6) ?_,⟨u1,u2,fun p hp=>wsz p (u3 p hp),wk,u4,by omega,by omega,wsz⟩,h6.mono (by omega)⟩
  show a0k LHu LG LP LF C2 C8 LPl ⟨[.val .feed,.no,.no,.no,.no,.no,.no,.no,.no],some f⟩ = _
  unfold a0k
  rw [j5 st1,j5 (st2 _),
   j5 (s1:=⟨[.val .feed,.own ([a,b,c].map pt),.own (W8.map zD),.no,.no,.no,.no,.no,.no],some f2⟩) (G8 (s1:=⟨[.val .feed,.own ([a,b,c].map pt),.no,.no,.no,.no,.no,.no,.no],some f2⟩) rfl (show 2 < 9 by decide)),
   j5 (s1:=⟨[.val .feed,.own ([a,b,c].map pt),.val (.lst (W8.map zD)),.own (K.map zD),.no,.no,.no,.no,.no],some f3⟩) (G8 (s1:=⟨[.val .feed,.own ([a,b,c].map pt),.val (.lst (W8.map zD)),.no,.no,.no,.no,.no,.no],some f3⟩) (by
    unfold G1
    rw [show K4 (dV 2) ⟨[.val .feed,.own ([a,b,c].map pt),.own (W8.map zD),.no,.no,.no,.no,.no,.no],some f2⟩ = some (W8.map zD,⟨[.val .feed,.own ([a,b,c].map pt),.val (.lst (W8.map zD)),.no,.no,.no,.no,.no,.no],some f2⟩) from rfl,Option.bind_some,if_pos (show (W8.map zD).length ≤ sizeLine by decide)]
    show (B6 (fun d=>some (.val d :: [.val .feed])) _ (dV 0) (W8.map zD) (some f2)).map _ = _
    rw [e3]
    rfl) (show 3 < 9 by decide)),j5 st5,
   j5 (s1:=⟨[.val .feed,.own ([a,b,c].map pt),.val (.lst (W8.map zD)),.val (.lst (K'.map zD)),.val (fr sh),.no,.no,.no,.no],some f6⟩) (o9 (Y4 (u8 (c6 rfl (J7 rfl e5) rfl) (u8 (c6 rfl (J7 rfl e6) rfl) rfl)) ef) rfl),
   j5 (s1:=roS (.own ([a,b,c].map pt)) (.val (.lst (W8.map zD))) (.val (.lst (K'.map zD))) sh a .no .no .no f6) (o9 (c6 rfl rfl rfl) rfl),
   j5 (s1:=roS (.own ([a,b,c].map pt)) (.val (.lst (W8.map zD))) (.val (.lst (K'.map zD))) sh a (.own []) .no .no f6) (G8 (s1:=roS (.own ([a,b,c].map pt)) (.val (.lst (W8.map zD))) (.val (.lst (K'.map zD))) sh a .no .no .no f6) rfl (show 6 < 9 by decide))]
  have neg:=a9e (roS (.own ([a,b,c].map pt)) (.val (.lst (W8.map zD))) (.val (.lst (K'.map zD))) sh a (.own []) .no .no f6).sl (some f6) K'
  have kz:(K'.map zD).length ≤ sizeLine:=Nat.le_trans (by rw [List.length_map]; exact kl) (show 8 ≤ sizeLine by decide)
  rw [j5 ((O6 (ds:=(K' ++ K'.map (fun z:Int × Int=>(0 - z.1,0 - z.2))).map zD) (s1:=roS (.own ([a,b,c].map pt)) (.val (.lst (W8.map zD))) (.val (.lst (K'.map zD))) sh a (.own []) .no .no f6) (by
   rw [zmap]
   exact S8 (a6E rfl (S8 (b0z (ds:=K'.map zD) (s1:=roS (.own ([a,b,c].map pt)) (.val (.lst (W8.map zD))) (.val (.lst (K'.map zD))) sh a (.own []) .no .no f6) rfl kz neg)) (if_pos (Nat.le_trans (by rw [List.length_map,List.length_map,List.length_map]; omega:_ ≤ 16) (by decide)))))).trans lp)]
  exact A2 (Y4 (sl':=(roS (.own ([a,b,c].map pt)) (.val (.lst (W8.map zD))) (.val (.lst (K'.map zD))) sh p' (.val (.lst (wk.map pt))) y7 y8 f6).sl) rfl hu)
theorem b4U {f:DA} {s s1:DS} {ds:List D} (h:f s = some (ds,s1)) (hz:ds.length ≤ sizeLine):t7 f s = some (ds,s1):=by
 unfold t7
 rw [h,Option.bind_some,if_pos hz]
theorem a2c {l:List Pt} (h:l.length < 2 ^ 20):(l5 l).length ≤ l.length:=by
 cases er:C5 l with
 | nil=>
  have:l5 l = []:=by
   unfold l5 N4
   show (m8 trB (C5 l)).dropLast ++ (m8 trB (C5 l).reverse).dropLast = []
   rw [er]; rfl
  rw [this]; exact Nat.zero_le _
 | cons p r=>
  by_cases hr:r = []
  ·have:l5 l = []:=by
    unfold l5 N4
    show (m8 trB (C5 l)).dropLast ++ (m8 trB (C5 l).reverse).dropLast = []
    rw [er,hr]; rfl
   rw [this]; exact Nat.zero_le _
  ·exact (a0w h er hr).len
theorem b33 {l m:List Pt} (h1:l.length < 2 ^ 20) (h2:m.length < 2 ^ 20) (h:∀ z,z ∈ l ↔ z ∈ m):l5 l = l5 m:=by
 unfold l5 N4
 show (m8 trB (C5 l)).dropLast ++ (m8 trB (C5 l).reverse).dropLast = (m8 trB (C5 m)).dropLast ++ (m8 trB (C5 m).reverse).dropLast
 rw [b3o h1 h2 h]
theorem a89 {l m:List Pt} (h1:l.length < 2 ^ 20) (h2:m.length < 2 ^ 20) (h:∀ z,z ∈ l ↔ z ∈ m):i4 l = i4 m:=by
 unfold i4
 rw [b33 h1 h2 h]
noncomputable def tk (l:List Pt) (i:Nat):Pt:=(l[i % l.length]?).getD (0,0)
theorem a3n {l:List Pt} {i:Nat} (h:0 < l.length):l[i % l.length]? = some (tk l i):=by
 unfold tk
 rw [List.getElem?_eq_getElem (Nat.mod_lt _ h)]
 rfl
theorem L9 {l:List Pt} {i:Nat} (h:i < l.length):l[i]? = some (tk l i):=by
 have:=a3n (l:=l) (i:=i) (by omega)
 rwa [Nat.mod_eq_of_lt h] at this
theorem G4 {l:List Pt} (i:Nat) (h:0 < l.length):tk l i ∈ l:=List.mem_of_getElem? (a3n (i:=i) h)
theorem a7a {l:List Pt} (h:0 < l.length) {i:Nat} (hi:i ≤ l.length):(l ++ [tk l 0])[i]? = some (tk l i):=by
 rcases Nat.lt_or_eq_of_le hi with w | w
 ·rw [List.getElem?_append_left w,L9 w]
 ·subst w
  rw [List.getElem?_append_right (Nat.le_refl _),Nat.sub_self]
  show some (tk l 0) = _
  unfold tk
  rw [Nat.mod_self,Nat.zero_mod]
theorem b5S {n i m:Nat} (hi:i < n) (hm:m < n):∃ j,j < n ∧ (i + j) % n = m:=by
 by_cases h:i ≤ m
 ·exact ⟨m - i,by omega,by rw [show i + (m - i) = m by omega,Nat.mod_eq_of_lt hm]⟩
 ·refine ⟨m + n - i,by omega,?_⟩
  rw [show i + (m + n - i) = m + n by omega,Nat.add_mod_right,Nat.mod_eq_of_lt hm]
theorem C0 {l:List Pt} (i:Nat):tk l (i % l.length) = tk l i:=by unfold tk; rw [Nat.mod_mod]
theorem a5S {l:List Pt} {p:Pt} (e:C5 l = [p]):l5 l = []:=by
 unfold l5 N4
 show (m8 trB (C5 l)).dropLast ++ (m8 trB (C5 l).reverse).dropLast = []
 rw [e]; rfl
theorem a35 {l:List Pt} (h:0 < l.length):∃ p r,C5 l = p :: r:=by
 cases e:C5 l with
 | cons p r=>exact ⟨p,r,rfl⟩
 | nil=>
  have:=rowP_in.mpr (G4 (l:=l) 0 h)
  rw [e] at this
  cases this
section
variable {S:Pt → Prop} {p:Pt} {C:List Pt} (R:Rnd S p C)
include R
theorem G2:0 < C.length:=by
 have:=R.hd
 cases C with
 | nil=>cases this
 | cons a r=>simp
theorem b5q:tk C 0 = p:=by
 have:=R.hd
 rw [List.head?_eq_getElem?,L9 (G2 R)] at this
 exact Option.some.inj this
theorem U5 (k:Nat):Nx S (tk C k) (tk C (k + 1)):=by
 have h0:=G2 R
 have hk:=Nat.mod_lt k h0
 have run:=R.run
 rw [← b5q R] at run
 have:=V0 run (a7a h0 (Nat.le_of_lt hk)) (a7a h0 hk)
 rw [C0] at this
 have e:tk C (k % C.length + 1) = tk C (k + 1):=by rw [← C0,Nat.mod_add_mod,C0]
 rw [e] at this
 exact this
theorem b08 {i j:Nat} (w:tk C i = tk C j):i % C.length = j % C.length:=by
 have h0:=G2 R
 have inj:∀ i j,i < C.length → j < C.length → tk C i = tk C j → i = j:=fun i j hi hj w=>by
  have nd:=R.nodup
  have a1:=L9 hi
  have a2:=L9 hj
  rw [List.getElem?_eq_getElem hi] at a1
  rw [List.getElem?_eq_getElem hj] at a2
  rcases Nat.lt_trichotomy i j with q | q | q
  ·exact absurd ((Option.some.inj a1).trans (w.trans (Option.some.inj a2).symm)) (List.pairwise_iff_getElem.mp nd i j hi hj q)
  ·exact q
  ·exact absurd ((Option.some.inj a2).trans (w.symm.trans (Option.some.inj a1).symm)) (List.pairwise_iff_getElem.mp nd j i hj hi q)
 exact inj _ _ (Nat.mod_lt _ h0) (Nat.mod_lt _ h0) (by rw [C0,C0]; exact w)
theorem a2J {k j:Nat} (h1:0 < j) (h2:j < C.length):tk C (k + j) ≠ tk C k:=fun w=>by
 have h0:=G2 R
 have:=b08 R w
 rw [← Nat.mod_add_mod] at this
 have hk:=Nat.mod_lt k h0
 by_cases c:k % C.length + j < C.length
 ·rw [Nat.mod_eq_of_lt c] at this; omega
 ·rw [Nat.mod_eq_sub_mod (by omega),Nat.mod_eq_of_lt (by omega)] at this; omega
theorem a0N (k:Nat) {j:Nat} (h1:2 ≤ j) (h2:j < C.length):0 < a7 (tk C k) (tk C (k + 1)) (tk C (k + j)):=by
 have h0:=G2 R
 have m:∀ i,S (tk C i):=fun i=>R.mem _ (G4 i h0)
 refine b3O (m _) (m _) (m _) (U5 R k) (U5 R (k + j)) (a2J R (by omega) h2) ?_
 have:=a2J R (k:=k + 1) (j:=j - 1) (by omega) (by omega)
 rwa [show k + 1 + (j - 1) = k + j by omega] at this
theorem a1q {q:Pt} (hq:q ∈ C) (k:Nat):∃ j,j < C.length ∧ q = tk C (k + j):=by
 have h0:=G2 R
 obtain ⟨m,hm⟩:=List.getElem?_of_mem hq
 have ml:=(List.getElem?_eq_some_iff.mp hm).1
 obtain ⟨j,j1,j2⟩:=b5S (i:=k % C.length) (m:=m) (Nat.mod_lt _ h0) ml
 refine ⟨j,j1,?_⟩
 rw [Nat.mod_add_mod] at j2
 rw [← C0,j2]
 have:=L9 ml
 rw [hm] at this
 exact Option.some.inj this
end
theorem a5V (φ:Pt → Rat):∀ (C:List Pt),C ≠ [] → ∃ c ∈ C,∀ x ∈ C,φ x ≤ φ c
 | [],h=>absurd rfl h
 | [a],_=>⟨a,by simp,fun x hx=>by rw [List.mem_singleton.mp hx]; exact Rat.le_refl⟩
 | a :: b :: r,_=>by
  obtain ⟨c,hc,h⟩:=a5V φ (b :: r) (by simp)
  by_cases q:φ a ≤ φ c
  ·exact ⟨c,List.mem_cons_of_mem _ hc,fun x hx=>by
    rcases List.mem_cons.mp hx with e | e
    ·rw [e]; exact q
    ·exact h x e⟩
  ·have q:φ c ≤ φ a:=by grind
   exact ⟨a,List.mem_cons_self ..,fun x hx=>by
    rcases List.mem_cons.mp hx with e | e
    ·rw [e]; exact Rat.le_refl
    ·exact Rat.le_trans (h x e) q⟩
noncomputable def aff (a b c:Rat) (q:Pt):Rat:=a * q.1 + b * q.2 + c
noncomputable def Ext (S:Pt → Prop) (v:Pt):Prop:=∃ a b c:Rat,∀ q,S q → q ≠ v → aff a b c q < aff a b c v
theorem b0l {S:Pt → Prop} {p v:Pt} {C:List Pt} (R:Rnd S p C) (h3:3 ≤ C.length) (sv:S v) (E:Ext S v):v ∈ C:=by
 obtain ⟨a,b,c,E⟩:=E
 have h0:=G2 R
 obtain ⟨m,hm,mx⟩:=a5V (aff a b c) C (fun w=>by rw [w] at h0; cases h0)
 by_cases q:m = v
 ·exact q ▸ hm
 ·have lt:=E m (R.mem m hm) q
  obtain ⟨k,hk,e⟩:=a1q R hm 0
  rw [Nat.zero_add] at e
  have N1:=U5 R k
  have N2:=U5 R (k + (C.length - 1))
  have e2:tk C (k + (C.length - 1) + 1) = tk C k:=by
   rw [show k + (C.length - 1) + 1 = k + C.length by omega,← C0,Nat.add_mod_right,C0]
  rw [e2] at N2
  have D:=a0N R k (j:=C.length - 1) (by omega) (by omega)
  have f1:=mx _ (G4 (l:=C) (k + 1) h0)
  have f2:=mx _ (G4 (l:=C) (k + (C.length - 1)) h0)
  have c1:=N1.lf v sv
  have c2:=N2.lf v sv
  rw [← e] at c1 c2 D
  generalize tk C (k + 1) = d at *
  generalize tk C (k + (C.length - 1)) = g at *
  have id1:a7 m d g * (aff a b c v - aff a b c m) = a7 g m v * (aff a b c d - aff a b c m) + a7 m d v * (aff a b c g - aff a b c m):=by
   unfold a7 aff; grind
  have p1:0 < a7 m d g * (aff a b c v - aff a b c m):=Rat.mul_pos D (by grind)
  have p2:0 ≤ a7 g m v * (aff a b c m - aff a b c d):=Rat.mul_nonneg c2 (by grind)
  have p3:0 ≤ a7 m d v * (aff a b c m - aff a b c g):=Rat.mul_nonneg c1 (by grind)
  grind
theorem b4r {l:List Pt} (hl:l.length < 2 ^ 20) {a b c:Pt} (ha:a ∈ l) (hb:b ∈ l) (hc:c ∈ l) (h:a7 a b c ≠ 0):3 ≤ (l5 l).length:=by
 have h0:0 < l.length:=List.length_pos_of_mem ha
 obtain ⟨p,r,e⟩:=a35 h0
 have hr:r ≠ []:=fun w=>by
  have one:∀ q ∈ l,q = p:=fun q hq=>by
   have:=rowP_in.mpr hq
   rw [e,w] at this
   simpa using this
  rw [one a ha,one b hb,one c hc] at h
  exact h (R9 p p)
 have R:=a0w hl e hr
 have q0:=G2 R
 have N:=U5 R 0
 have N2:=U5 R 1
 rcases Nat.lt_or_ge (l5 l).length 3 with w | w
 ·exfalso
  have cases12:(l5 l).length = 1 ∨ (l5 l).length = 2:=by omega
  rcases cases12 with q | q
  ·have:tk (l5 l) 1 = tk (l5 l) 0:=by rw [← C0 1,q]
   exact N.ne this
  ·have e2:tk (l5 l) 2 = tk (l5 l) 0:=by rw [← C0 2,q]
   rw [e2] at N2
   generalize tk (l5 l) 0 = x at *
   rw [Nat.zero_add] at N
   generalize tk (l5 l) 1 = y at *
   have z:∀ t ∈ l,a7 x y t = 0:=fun t ht=>by
    have k1:=N.lf t ht
    have k2:=N2.lf t ht
    have:a7 y x t = -a7 x y t:=by unfold a7; grind
    grind
   exact h (a21 N.ne (z a ha) (z b hb) (z c hc))
 ·exact w
theorem b4F {S:Pt → Prop} {p:Pt} {C:List Pt} (R:Rnd S p C) (h3:3 ≤ C.length) (k:Nat):∃ a b c:Rat,aff a b c (tk C k) = 0 ∧ ∀ j,0 < j → j < C.length → aff a b c (tk C (k + j)) < 0:=by
 have h0:=G2 R
 have e2:tk C (k + (C.length - 1) + 1) = tk C k:=by
  rw [show k + (C.length - 1) + 1 = k + C.length by omega,← C0,Nat.add_mod_right,C0]
 have L1:∀ j,2 ≤ j → j < C.length → 0 < a7 (tk C k) (tk C (k + 1)) (tk C (k + j)):=fun j a b=>a0N R k a b
 have L2:∀ j,0 < j → j < C.length - 1 → 0 < a7 (tk C (k + (C.length - 1))) (tk C k) (tk C (k + j)):=fun j a b=>by
  have:=a0N R (k + (C.length - 1)) (j:=j + 1) (by omega) (by omega)
  rw [e2] at this
  have e3:tk C (k + (C.length - 1) + (j + 1)) = tk C (k + j):=by
   rw [show k + (C.length - 1) + (j + 1) = k + j + C.length by omega,← C0,Nat.add_mod_right,C0]
  rwa [e3] at this
 generalize ev:tk C k = v at *
 generalize en:tk C (k + 1) = d at *
 generalize eg:tk C (k + (C.length - 1)) = g at *
 refine ⟨(d.2 - v.2) + (v.2 - g.2),-((d.1 - v.1) + (v.1 - g.1)),-(((d.2 - v.2) + (v.2 - g.2)) * v.1 - ((d.1 - v.1) + (v.1 - g.1)) * v.2),by unfold aff; grind,fun j h1 h2=>?_⟩
 have form:∀ q:Pt,aff ((d.2 - v.2) + (v.2 - g.2)) (-((d.1 - v.1) + (v.1 - g.1))) (-(((d.2 - v.2) + (v.2 - g.2)) * v.1 - ((d.1 - v.1) + (v.1 - g.1)) * v.2)) q = -(a7 v d q + a7 g v q):=fun q=>by unfold aff a7; grind
 rw [form]
 have a1:0 ≤ a7 v d (tk C (k + j)):=by
  rcases Nat.lt_or_ge j 2 with w | w
  ·have:j = 1:=by omega
   subst this
   rw [en,S7]; exact Rat.le_refl
  ·exact Rat.le_of_lt (L1 j w h2)
 have a2:0 ≤ a7 g v (tk C (k + j)):=by
  rcases Nat.lt_or_ge j (C.length - 1) with w | w
  ·exact Rat.le_of_lt (L2 j h1 w)
  ·have:j = C.length - 1:=by omega
   subst this
   rw [eg,R9]; exact Rat.le_refl
 have a3:0 < a7 v d (tk C (k + j)) ∨ 0 < a7 g v (tk C (k + j)):=by
  rcases Nat.lt_or_ge j 2 with w | w
  ·exact .inr (L2 j h1 (by omega))
  ·exact .inl (L1 j w h2)
 rcases a3 with w | w <;> grind
theorem b2c (a b u w:Pt) (s:Rat):a7 a b (l7 u w s) = (1 - s) * a7 a b u + s * a7 a b w:=by unfold a7 l7; grind
theorem b0K (a b c:Rat) (u w:Pt) (s:Rat):aff a b c (l7 u w s) = (1 - s) * aff a b c u + s * aff a b c w:=by unfold aff l7; grind
theorem b3n (a b q:Pt):a7 b a q = -a7 a b q:=by unfold a7; grind
noncomputable def xq (a b u w:Pt):Pt:=l7 u w (a7 a b u / (a7 a b u - a7 a b w))
theorem a2g {a b u w:Pt} (h:a7 a b u * a7 a b w < 0):∃ s:Rat,0 < s ∧ s < 1 ∧ xq a b u w = l7 u w s:=by
 refine ⟨_,?_,?_,rfl⟩
 ·by_cases p:0 < a7 a b u
  ·have n:a7 a b w < 0:=by
    refine Rat.not_le.mp fun z=>?_
    have:=Rat.mul_nonneg (Rat.le_of_lt p) z
    grind
   rw [Rat.div_def]
   exact Rat.mul_pos p (Rat.inv_pos.mpr (by grind))
  ·have p':a7 a b u ≤ 0:=by grind
   have pn:a7 a b u ≠ 0:=fun z=>by rw [z,Rat.zero_mul] at h; exact absurd h (by decide +kernel)
   have n:0 < a7 a b w:=by
    refine Rat.not_le.mp fun z=>?_
    have:=Rat.mul_nonneg (show 0 ≤ -a7 a b u by grind) (show 0 ≤ -a7 a b w by grind)
    grind
   have e:a7 a b u / (a7 a b u - a7 a b w) = (-a7 a b u) * (a7 a b w - a7 a b u)⁻¹:=by
    have h1:a7 a b u - a7 a b w ≠ 0:=by grind
    have h2:a7 a b w - a7 a b u ≠ 0:=by grind
    rw [Rat.div_def]
    grind
   rw [e]
   exact Rat.mul_pos (by grind) (Rat.inv_pos.mpr (by grind))
 ·by_cases p:0 < a7 a b u
  ·have n:a7 a b w < 0:=by
    refine Rat.not_le.mp fun z=>?_
    have:=Rat.mul_nonneg (Rat.le_of_lt p) z
    grind
   have hd:0 < a7 a b u - a7 a b w:=by grind
   have e:1 - a7 a b u / (a7 a b u - a7 a b w) = (-a7 a b w) * (a7 a b u - a7 a b w)⁻¹:=by
    have h1:a7 a b u - a7 a b w ≠ 0:=by grind
    rw [Rat.div_def]
    grind
   have:=Rat.mul_pos (show 0 < -a7 a b w by grind) (Rat.inv_pos.mpr hd)
   rw [← e] at this
   grind
  ·have p':a7 a b u ≤ 0:=by grind
   have pn:a7 a b u ≠ 0:=fun z=>by rw [z,Rat.zero_mul] at h; exact absurd h (by decide +kernel)
   have n:0 < a7 a b w:=by
    refine Rat.not_le.mp fun z=>?_
    have:=Rat.mul_nonneg (show 0 ≤ -a7 a b u by grind) (show 0 ≤ -a7 a b w by grind)
    grind
   have hd:0 < a7 a b w - a7 a b u:=by grind
   have e:1 - a7 a b u / (a7 a b u - a7 a b w) = a7 a b w * (a7 a b w - a7 a b u)⁻¹:=by
    have h1:a7 a b u - a7 a b w ≠ 0:=by grind
    have h2:a7 a b w - a7 a b u ≠ 0:=by grind
    rw [Rat.div_def]
    grind
   have:=Rat.mul_pos n (Rat.inv_pos.mpr hd)
   rw [← e] at this
   grind
noncomputable def Cl (C:List Pt) (a b q:Pt):Prop:=(q ∈ C ∧ 0 ≤ a7 a b q) ∨ ∃ k,a7 a b (tk C k) * a7 a b (tk C (k + 1)) < 0 ∧ q = xq a b (tk C k) (tk C (k + 1))
section
variable {S:Pt → Prop} {p:Pt} {C:List Pt} (R:Rnd S p C) (h3:3 ≤ C.length)
include R h3
theorem b3p (a b:Pt) (k:Nat):Ext (Cl C a b) (tk C k):=by
 have h0:=G2 R
 obtain ⟨x,y,z,e0,L⟩:=b4F R h3 k
 refine ⟨x,y,z,fun q hq n=>?_⟩
 rw [e0]
 have all:∀ m,tk C m = tk C k ∨ aff x y z (tk C m) < 0:=fun m=>by
  obtain ⟨j,j1,e⟩:=a1q R (G4 m h0) k
  rw [e]
  by_cases j0:j = 0
  ·subst j0; exact .inl rfl
  ·exact .inr (L j (by omega) j1)
 have le:∀ m,aff x y z (tk C m) ≤ 0:=fun m=>by
  rcases all m with w | w
  ·rw [w,e0]; exact Rat.le_refl
  ·exact Rat.le_of_lt w
 rcases hq with ⟨hq,_⟩ | ⟨m,hm,rfl⟩
 ·obtain ⟨j,j1,e⟩:=a1q R hq k
  rw [e] at n ⊢
  exact L j (Nat.pos_of_ne_zero fun w=>n (by rw [w]; rfl)) j1
 ·obtain ⟨s,s0,s1,e⟩:=a2g hm
  rw [e,b0K]
  have u:=le m
  have w:=le (m + 1)
  have ne:=a2J R (k:=m) (j:=1) (by decide) (by omega)
  have one:aff x y z (tk C m) < 0 ∨ aff x y z (tk C (m + 1)) < 0:=by
   rcases all m with q1 | q1
   ·rcases all (m + 1) with q2 | q2
    ·exact absurd (q2.trans q1.symm) ne
    ·exact .inr q2
   ·exact .inl q1
  have t1:0 ≤ (1 - s) * -aff x y z (tk C m):=Rat.mul_nonneg (by grind) (by grind)
  have t2:0 ≤ s * -aff x y z (tk C (m + 1)):=Rat.mul_nonneg (by grind) (by grind)
  rcases one with q | q
  ·have:=Rat.mul_pos (show 0 < 1 - s by grind) (show 0 < -aff x y z (tk C m) by grind)
   grind
  ·have:=Rat.mul_pos s0 (show 0 < -aff x y z (tk C (m + 1)) by grind)
   grind
theorem b1B {a b:Pt} (k:Nat) (hv:0 < a7 a b (tk C k)):∃ s:Rat,0 < s ∧ Cl C a b (l7 (tk C k) (tk C (k + 1)) s):=by
 have h0:=G2 R
 by_cases w:0 ≤ a7 a b (tk C (k + 1))
 ·exact ⟨1,by decide +kernel,.inl (by rw [Z4]; exact ⟨G4 _ h0,w⟩)⟩
 ·have n:a7 a b (tk C k) * a7 a b (tk C (k + 1)) < 0:=by
   have:=Rat.mul_pos hv (show 0 < -a7 a b (tk C (k + 1)) by grind)
   grind
  obtain ⟨s,s0,_,e⟩:=a2g n
  exact ⟨s,s0,.inr ⟨k,n,e.symm⟩⟩
theorem a9Q {a b:Pt} (k:Nat) (hv:0 < a7 a b (tk C (k + 1))):∃ s:Rat,s < 1 ∧ Cl C a b (l7 (tk C k) (tk C (k + 1)) s):=by
 have h0:=G2 R
 by_cases w:0 ≤ a7 a b (tk C k)
 ·exact ⟨0,by decide +kernel,.inl (by rw [Z7]; exact ⟨G4 _ h0,w⟩)⟩
 ·have n:a7 a b (tk C k) * a7 a b (tk C (k + 1)) < 0:=by
   have:=Rat.mul_pos hv (show 0 < -a7 a b (tk C k) by grind)
   grind
  obtain ⟨s,_,s1,e⟩:=a2g n
  exact ⟨s,s1,.inr ⟨k,n,e.symm⟩⟩
theorem b0C {a b:Pt} (k:Nat) (hv:0 < a7 a b (tk C k)):∃ x y z,Cl C a b x ∧ Cl C a b y ∧ Cl C a b z ∧ a7 x y z ≠ 0:=by
 have h0:=G2 R
 have e2:tk C (k + (C.length - 1) + 1) = tk C k:=by
  rw [show k + (C.length - 1) + 1 = k + C.length by omega,← C0,Nat.add_mod_right,C0]
 obtain ⟨s,s0,c1⟩:=b1B R h3 k hv
 obtain ⟨t,t1,c2⟩:=a9Q R h3 (k + (C.length - 1)) (by rw [e2]; exact hv)
 rw [e2] at c2
 have D:=a0N R k (j:=C.length - 1) (by omega) (by omega)
 refine ⟨tk C k,_,_,.inl ⟨G4 _ h0,Rat.le_of_lt hv⟩,c1,c2,?_⟩
 have e:a7 (tk C k) (l7 (tk C k) (tk C (k + 1)) s) (l7 (tk C (k + (C.length - 1))) (tk C k) t) = s * (1 - t) * a7 (tk C k) (tk C (k + 1)) (tk C (k + (C.length - 1))):=by unfold a7 l7; grind
 rw [e]
 have:=Rat.mul_pos (Rat.mul_pos s0 (show 0 < 1 - t by grind)) D
 grind
theorem a1U {a b:Pt} {A:List Pt} (hl:A.length < 2 ^ 20) (hA:∀ q,q ∈ A ↔ Cl C a b q) {m k:Nat} (hm:0 < a7 a b (tk C m)) (hk:0 ≤ a7 a b (tk C k)):3 ≤ (l5 A).length ∧ tk C k ∈ l5 A:=by
 have h0:=G2 R
 obtain ⟨x,y,z,x1,y1,z1,off⟩:=b0C R h3 m hm
 have t3:=b4r hl ((hA x).mpr x1) ((hA y).mpr y1) ((hA z).mpr z1) off
 refine ⟨t3,?_⟩
 have la:0 < A.length:=List.length_pos_of_mem ((hA x).mpr x1)
 obtain ⟨q,r,e⟩:=a35 la
 have hr:r ≠ []:=fun w=>by
  rw [a5S (by rw [e,w])] at t3
  exact absurd t3 (by decide)
 have RA:=a0w hl e hr
 obtain ⟨u,v,w,E⟩:=b3p R h3 a b k
 exact b0l RA t3 ((hA _).mpr (.inl ⟨G4 _ h0,hk⟩)) ⟨u,v,w,fun q hq=>E q ((hA q).mp hq)⟩
theorem b6q {a b:Pt} (ab:a ≠ b) {A B:List Pt} (lA:A.length < 2 ^ 20) (lB:B.length < 2 ^ 20) (hA:∀ q,q ∈ A ↔ Cl C a b q) (hB:∀ q,q ∈ B ↔ Cl C b a q) {v:Pt} (hv:v ∈ C):(3 ≤ (l5 A).length ∧ v ∈ l5 A) ∨ (3 ≤ (l5 B).length ∧ v ∈ l5 B):=by
 have h0:=G2 R
 obtain ⟨k,_,rfl⟩:=a1q R hv 0
 rw [Nat.zero_add]
 have off:∃ m,a7 a b (tk C m) ≠ 0:=by
  have D:=a0N R 0 (j:=2) (by decide) (by omega)
  by_cases z0:a7 a b (tk C 0) = 0
  ·by_cases z1:a7 a b (tk C 1) = 0
   ·by_cases z2:a7 a b (tk C 2) = 0
    ·have:=a21 (fun w=>ab w.symm) z0 z1 z2
     exact absurd this (by simp only [Nat.zero_add] at D; grind)
    ·exact ⟨2,z2⟩
   ·exact ⟨1,z1⟩
  ·exact ⟨0,z0⟩
 obtain ⟨m,hm⟩:=off
 have ba:=fun q=>b3n a b q
 by_cases p1:0 < a7 a b (tk C k)
 ·exact .inl (a1U R h3 lA hA p1 (Rat.le_of_lt p1))
 ·by_cases p2:a7 a b (tk C k) = 0
  ·by_cases q1:0 < a7 a b (tk C m)
   ·exact .inl (a1U R h3 lA hA q1 (by rw [p2]; exact Rat.le_refl))
   ·exact .inr (a1U R h3 lB hB (m:=m) (by rw [ba]; grind) (by rw [ba,p2]; decide +kernel))
  ·exact .inr (a1U R h3 lB hB (m:=k) (by rw [ba]; grind) (by rw [ba]; grind))
theorem a9C {a b q:Pt} (SC:∀ z ∈ C,S z) (hq:Cl C a b q) (k:Nat):0 ≤ a7 (tk C k) (tk C (k + 1)) q:=by
 have h0:=G2 R
 have N:=U5 R k
 rcases hq with ⟨hq,_⟩ | ⟨m,hm,rfl⟩
 ·exact N.lf q (SC q hq)
 ·obtain ⟨s,s0,s1,e⟩:=a2g hm
  rw [e,b2c]
  have t1:=Rat.mul_nonneg (show 0 ≤ 1 - s by grind) (N.lf _ (SC _ (G4 (l:=C) m h0)))
  have t2:=Rat.mul_nonneg (Rat.le_of_lt s0) (N.lf _ (SC _ (G4 (l:=C) (m + 1) h0)))
  grind
end
end T
namespace T
open DL
noncomputable def crs (u v:Pt):Rat:=u.1 * v.2 - u.2 * v.1
noncomputable def vec (a b:Pt):Pt:=(b.1 - a.1,b.2 - a.2)
noncomputable def nmX (a b c d:Pt):Rat:=(b.1 - a.1) * (c.1 * d.2 - c.2 * d.1) - (a.1 * b.2 - a.2 * b.1) * (d.1 - c.1)
noncomputable def nmY (a b c d:Pt):Rat:=(a.1 * b.2 - a.2 * b.1) * (c.2 - d.2) - (a.2 - b.2) * (c.1 * d.2 - c.2 * d.1)
noncomputable def xpt (a b c d:Pt):Pt:=(nmX a b c d / crs (vec a b) (vec c d),nmY a b c d / crs (vec a b) (vec c d))
end T
namespace T
open PySem L2 DL
noncomputable def cr (a b:Pt):Rat:=a.1 * b.2 - a.2 * b.1
noncomputable def chn:Pt → List Pt → Rat
 | _,[]=>0
 | a,b :: r=>cr a b + chn b r
noncomputable def rS:List Pt → Rat
 | []=>0
 | a :: r=>chn a (r ++ [a])
noncomputable abbrev X1 (x y l:Int):D:=.tup [.int x,.int y,.int l]
theorem a7U {k:Nat} {x y l x' y' l':Int} (fs:Option FS) (hx:Bd k x) (hy:Bd k y) (hl:Bd k l) (hx':Bd k x') (hy':Bd k y') (hl':Bd k l') (hk:k ≤ 2000):a0a [X1 x y l,X1 x' y' l'] fs = some (X1 (y * l' - l * y') (l * x' - x * l') (x * y' - y * x'),fs):=by
 have b1:=hx.bits (by omega)
 have b2:=hy.bits (by omega)
 have b3:=hl.bits (by omega)
 have c1:=hx'.bits (by omega)
 have c2:=hy'.bits (by omega)
 have c3:=hl'.bits (by omega)
 refine u6 (s:=⟨[.val (X1 x y l),.val (X1 x' y' l')],fs⟩) (A2 ?_)
 exact a75 (c6 (c6 (c6 rfl rfl rfl) (c6 rfl rfl rfl) (v3 b2 c3)) (c6 (c6 rfl rfl rfl) (c6 rfl rfl rfl) (v3 b3 c2)) rfl) (c6 (c6 (c6 rfl rfl rfl) (c6 rfl rfl rfl) (v3 b3 c1)) (c6 (c6 rfl rfl rfl) (c6 rfl rfl rfl) (v3 b1 c3)) rfl) (c6 (c6 (c6 rfl rfl rfl) (c6 rfl rfl rfl) (v3 b1 c2)) (c6 (c6 rfl rfl rfl) (c6 rfl rfl rfl) (v3 b2 c1)) rfl)
noncomputable abbrev FSg:DFn:=a5h a0a
noncomputable def lnA (a b:Pt):Int:=pY a * pL b - pL a * pY b
noncomputable def lnB (a b:Pt):Int:=pL a * pX b - pX a * pL b
noncomputable def lnC (a b:Pt):Int:=pX a * pY b - pY a * pX b
noncomputable abbrev lnT (a b:Pt):D:=X1 (lnA a b) (lnB a b) (lnC a b)
theorem a1M {k:Nat} {a b:Pt} (ha:Ps k a) (hb:Ps k b):Bd (k + k + 1) (lnA a b) ∧ Bd (k + k + 1) (lnB a b) ∧ Bd (k + k + 1) (lnC a b):=
 ⟨((ha.y.mul hb.l).sub (ha.l.mul hb.y)).mono (by omega),((ha.l.mul hb.x).sub (ha.x.mul hb.l)).mono (by omega),((ha.x.mul hb.y).sub (ha.y.mul hb.x)).mono (by omega)⟩
theorem a5O {k:Nat} {a b:Pt} (fs:Option FS) (ha:Ps k a) (hb:Ps k b) (hk:k ≤ 900):FSg [pt a,pt b] fs = some (lnT a b,fs):=by
 have e:=a7U fs ha.x ha.y ha.l hb.x hb.y hb.l (by omega)
 exact u6 (s:=⟨[.val (pt a),.val (pt b)],fs⟩) (A2 (k6 rfl e))
theorem a8V {q a b:Rat} (hq:q ≠ 0) (hb:b ≠ 0):(q * a) / (q * b) = a / b:=by
 have hz:q * b ≠ 0:=fun z=>by
  rcases Rat.mul_eq_zero.mp z with z | z
  ·exact hq z
  ·exact hb z
 have e1:=Rat.div_mul_cancel (a:=q * a) hz
 have e2:=Rat.div_mul_cancel (a:=a) hb
 have:(q * a / (q * b) - a / b) * (q * b) = 0:=by grind
 rcases Rat.mul_eq_zero.mp this with z | z
 ·grind
 ·exact absurd z hz
theorem a6b {a b c d:Pt} (hW:crs (vec a b) (vec c d) ≠ 0):lnA a b * lnB c d - lnB a b * lnA c d ≠ 0 ∧ (Rat.divInt (lnB a b * lnC c d - lnC a b * lnB c d) (lnA a b * lnB c d - lnB a b * lnA c d),Rat.divInt (lnC a b * lnA c d - lnA a b * lnC c d) (lnA a b * lnB c d - lnB a b * lnA c d)) = xpt a b c d:=by
 have P:(pL a:Rat) * pL b * (pL c * pL d) ≠ 0:=fun z=>by
  rcases Rat.mul_eq_zero.mp z with z | z
  ·rcases Rat.mul_eq_zero.mp z with z | z
   ·exact U0 a z
   ·exact U0 b z
  ·rcases Rat.mul_eq_zero.mp z with z | z
   ·exact U0 c z
   ·exact U0 d z
 have eD:((lnA a b * lnB c d - lnB a b * lnA c d:Int):Rat) = ((pL a:Rat) * pL b * (pL c * pL d)) * crs (vec a b) (vec c d):=by
  unfold lnA lnB crs vec
  simp only [Rat.intCast_sub,Rat.intCast_mul,M5,M8]
  grind
 have eX:((lnB a b * lnC c d - lnC a b * lnB c d:Int):Rat) = ((pL a:Rat) * pL b * (pL c * pL d)) * nmX a b c d:=by
  unfold lnB lnC nmX
  simp only [Rat.intCast_sub,Rat.intCast_mul,M5,M8]
  grind
 have eY:((lnC a b * lnA c d - lnA a b * lnC c d:Int):Rat) = ((pL a:Rat) * pL b * (pL c * pL d)) * nmY a b c d:=by
  unfold lnA lnC nmY
  simp only [Rat.intCast_sub,Rat.intCast_mul,M5,M8]
  grind
 refine ⟨fun z=>?_,?_⟩
 ·rw [z] at eD
  rcases Rat.mul_eq_zero.mp eD.symm with q | q
  ·exact P q
  ·exact hW q
 ·unfold xpt
  rw [Rat.divInt_eq_div,Rat.divInt_eq_div,eD,eX,eY,a8V P hW,a8V P hW]
theorem b24 {k:Nat} {a b c d:Pt} (ha:Ps k a) (hb:Ps k b) (hc:Ps k c) (hd:Ps k d) (hW:crs (vec a b) (vec c d) ≠ 0):PtS (4 * k + 3) (xpt a b c d):=by
 obtain ⟨h1,h2,h3⟩:=a1M ha hb
 obtain ⟨g1,g2,g3⟩:=a1M hc hd
 obtain ⟨hz,q⟩:=a6b hW
 rw [← q]
 exact ⟨Sz.of_divInt hz (((h2.mul g3).sub (h3.mul g2)).mono (by omega)) (((h1.mul g2).sub (h2.mul g1)).mono (by omega)),Sz.of_divInt hz (((h3.mul g1).sub (h1.mul g3)).mono (by omega)) (((h1.mul g2).sub (h2.mul g1)).mono (by omega))⟩
noncomputable abbrev FCr:DFn:=a37 FL a0a
theorem b3z {k:Nat} {a b c d:Pt} (fs:Option FS) (ha:Ps k a) (hb:Ps k b) (hc:Ps k c) (hd:Ps k d) (hk:k ≤ 400) (hW:crs (vec a b) (vec c d) ≠ 0):FCr [lnT a b,lnT c d] fs = some (pt (xpt a b c d),fs):=by
 obtain ⟨h1,h2,h3⟩:=a1M ha hb
 obtain ⟨g1,g2,g3⟩:=a1M hc hd
 have e:=a7U fs h1 h2 h3 g1 g2 g3 (by omega)
 obtain ⟨hz,q⟩:=a6b hW
 have l:=b2M (lnB a b * lnC c d - lnC a b * lnB c d) (lnC a b * lnA c d - lnA a b * lnC c d) (lnA a b * lnB c d - lnB a b * lnA c d) fs hz ((h1.mul g2).sub (h2.mul g1)) (by omega)
 rw [q] at l
 exact u6 (s:=⟨[.val (lnT a b),.val (lnT c d)],fs⟩) (A2 (k6 (u8 (k6 rfl e) rfl) l))
theorem a16 (x:Rat):A8 (sgn x) = true:=by
 unfold sgn
 split
 ·decide
 ·split <;> decide
theorem a7N (a b u w:Pt):crs (vec a b) (vec u w) = a7 a b w - a7 a b u:=by unfold crs vec a7; grind
theorem a7w {a b u w:Pt} (h:a7 a b u * a7 a b w < 0):crs (vec a b) (vec u w) ≠ 0 ∧ xpt a b u w = xq a b u w:=by
 have hw:a7 a b w - a7 a b u ≠ 0:=fun z=>by
  have e:a7 a b w = a7 a b u:=by grind
  rw [e] at h
  have:=W6 (a7 a b u)
  grind
 refine ⟨by rw [a7N]; exact hw,?_⟩
 have hw2:a7 a b u - a7 a b w ≠ 0:=by grind
 unfold xpt xq l7
 rw [a7N]
 have s:a7 a b u / (a7 a b u - a7 a b w) = -a7 a b u / (a7 a b w - a7 a b u):=by
  rw [Rat.div_def,Rat.div_def]; grind
 rw [s]
 refine Prod.ext ?_ ?_
 ·show nmX a b u w / (a7 a b w - a7 a b u) = u.1 + -a7 a b u / (a7 a b w - a7 a b u) * (w.1 - u.1)
  have e:nmX a b u w = u.1 * (a7 a b w - a7 a b u) - a7 a b u * (w.1 - u.1):=by unfold nmX a7; grind
  rw [e,Rat.div_def,Rat.div_def]
  generalize a7 a b w - a7 a b u = W at *
  grind
 ·show nmY a b u w / (a7 a b w - a7 a b u) = u.2 + -a7 a b u / (a7 a b w - a7 a b u) * (w.2 - u.2)
  have e:nmY a b u w = u.2 * (a7 a b w - a7 a b u) - a7 a b u * (w.2 - u.2):=by unfold nmY a7; grind
  rw [e,Rat.div_def,Rat.div_def]
  generalize a7 a b w - a7 a b u = W at *
  grind
theorem a5o (x:Rat):sgn x = -1 ↔ x < 0:=by
 unfold sgn
 by_cases h:0 < x
 ·rw [if_pos h]; exact ⟨fun z=>absurd z (by decide),fun z=>by grind⟩
 ·rw [if_neg h]
  by_cases h2:x < 0
  ·rw [if_pos h2]; exact ⟨fun _=>h2,fun _=>rfl⟩
  ·rw [if_neg h2]; exact ⟨fun z=>absurd z (by decide),fun z=>absurd z h2⟩
theorem a0L (x:Rat):(0 < x ∧ sgn x = 1) ∨ (x < 0 ∧ sgn x = -1) ∨ (x = 0 ∧ sgn x = 0):=by
 unfold sgn
 by_cases h:0 < x
 ·rw [if_pos h]; exact .inl ⟨h,rfl⟩
 ·rw [if_neg h]
  by_cases h2:x < 0
  ·rw [if_pos h2]; exact .inr (.inl ⟨h2,rfl⟩)
  ·rw [if_neg h2]; exact .inr (.inr ⟨by grind,rfl⟩)
theorem a1T (x y:Rat):sgn x * sgn y = -1 ↔ x * y < 0:=by
 rcases a0L x with ⟨a,e⟩ | ⟨a,e⟩ | ⟨a,e⟩ <;> rcases a0L y with ⟨b,e'⟩ | ⟨b,e'⟩ | ⟨b,e'⟩ <;> rw [e,e']
 ·have:=Rat.mul_pos a b; exact ⟨fun z=>absurd z (by decide),fun z=>by grind⟩
 ·have:=Rat.mul_pos a (show 0 < -y by grind); exact ⟨fun _=>by grind,fun _=>rfl⟩
 ·rw [b]; exact ⟨fun z=>absurd z (by decide),fun z=>by grind⟩
 ·have:=Rat.mul_pos (show 0 < -x by grind) b; exact ⟨fun _=>by grind,fun _=>rfl⟩
 ·have:=Rat.mul_pos (show 0 < -x by grind) (show 0 < -y by grind); exact ⟨fun z=>absurd z (by decide),fun z=>by grind⟩
 ·rw [b]; exact ⟨fun z=>absurd z (by decide),fun z=>by grind⟩
 ·rw [a]; exact ⟨fun z=>absurd z (by decide),fun z=>by grind⟩
 ·rw [a]; exact ⟨fun z=>absurd z (by decide),fun z=>by grind⟩
 ·rw [a]; exact ⟨fun z=>absurd z (by decide),fun z=>by grind⟩
noncomputable def cl1 (a b:Pt) (q:Pt × Pt):List Pt:=(if sgn (a7 a b q.1) = -1 then [] else [q.1]) ++ (if sgn (a7 a b q.1) * sgn (a7 a b q.2) = -1 then [xq a b q.1 q.2] else [])
noncomputable def clL (a b:Pt) (qs:List (Pt × Pt)):List Pt:=qs.flatMap (cl1 a b)
theorem a8R (a b:Pt) (q:Pt × Pt):(cl1 a b q).length ≤ 2:=by
 unfold cl1
 rw [List.length_append]
 split <;> split <;> simp
theorem a1o (a b:Pt):∀ qs:List (Pt × Pt),(clL a b qs).length ≤ 2 * qs.length
 | []=>Nat.le_refl _
 | q :: r=>by
  have h:=a1o a b r
  have h1:=a8R a b q
  unfold clL at *
  rw [List.flatMap_cons,List.length_append,List.length_cons]
  omega
noncomputable abbrev FEk:DFn:=a1G a0J
theorem a8m (fd:List Pt) (fs:Option FS) (hl:fd.length ≤ 41):FEk [.tup (fd.map pt)] fs = some (.lst ((nbs true fd).map fun q=>.tup [pt q.1,pt q.2]),fs):=by
 have e:=b0W (fd.map pt) true fs (Nat.le_trans (by rw [List.length_map]; omega:_ ≤ 42) (show 42 ≤ sizeLine by decide))
 rw [b4v,List.map_map] at e
 exact u6 (s:=⟨[.val (.tup (fd.map pt))],fs⟩) (A2 (k6 (u8 rfl (u8 rfl rfl)) e))
noncomputable abbrev FCk:DFn:=a2O FTn FCr FSg FEk
theorem b3Q {a b u w:Pt} (ha:PtS 16 a) (hb:PtS 16 b) (hu:PtS 16 u) (hw:PtS 16 w) (h:a7 a b u * a7 a b w < 0):PtS 300 (xq a b u w):=by
 obtain ⟨h1,h2⟩:=a7w h
 rw [← h2]
 exact (b24 ha.ps hb.ps hu.ps hw.ps h1).mono (by decide)
noncomputable abbrev qS (x0:Sl) (a b:Pt) (ln:D) (acc:List Pt) (x5 x6 x7:Sl) (fs:Option FS):DS:=⟨[x0,.val (pt a),.val (pt b),.val ln,.own (acc.map pt),x5,x6,x7],fs⟩
theorem b1V {a b u w:Pt} (x0 x7:Sl) (acc:List Pt) (fs:Option FS) (ha:PtS 16 a) (hb:PtS 16 b) (hu:PtS 16 u) (hw:PtS 16 w) (hl:acc.length ≤ 100) :
  a1b FTn FCr FSg FEk (qS x0 a b (lnT a b) acc (.val (pt u)) (.val (pt w)) x7 fs) = some (.next,qS x0 a b (lnT a b) (acc ++ cl1 a b (u,w)) (.val (pt u)) (.val (pt w)) (.val (.int (sgn (a7 a b u)))) fs):=by
 have t1:=a1h a b u fs ha.ps hb.ps hu.ps (by decide)
 have t2:=a1h a b w fs ha.ps hb.ps hw.ps (by decide)
 have bits1:=a16 (a7 a b u)
 have bits2:=a16 (a7 a b w)
 have ls:∀ l:List Pt,l.length ≤ 101 → (l.map pt).length < sizeLine:=fun l h=>by rw [List.length_map]; exact Nat.lt_of_le_of_lt h (by decide)
 unfold a1b
 rw [j5 (s1:=qS x0 a b (lnT a b) acc (.val (pt u)) (.val (pt w)) (.val (.int (sgn (a7 a b u)))) fs) (o9 (k6 rfl t1) rfl)]
 have c1:dB (dOp pNe (dL 7) (dUn p8 (dC (.int 1)))) (qS x0 a b (lnT a b) acc (.val (pt u)) (.val (pt w)) (.val (.int (sgn (a7 a b u)))) fs) = some (!decide (sgn (a7 a b u) = -1),qS x0 a b (lnT a b) acc (.val (pt u)) (.val (pt w)) (.val (.int (sgn (a7 a b u)))) fs):=v8 (c6 rfl rfl (T0 _ (-1)))
 have st:∀ acc1:List Pt,acc1.length ≤ 101 → n8 (dB (dOp pEq (dOp k0 (dL 7) (c7 FTn (a6 (dV 1) (a6 (dV 2) (a6 (dV 6) a8))))) (dUn p8 (dC (.int 1))))) (F5 4 (c7 FCr (a6 (dV 3) (a6 (c7 FSg (a6 (dV 5) (a6 (dV 6) a8))) a8)))) o7 (qS x0 a b (lnT a b) acc1 (.val (pt u)) (.val (pt w)) (.val (.int (sgn (a7 a b u)))) fs)
   = some (.next,qS x0 a b (lnT a b) (acc1 ++ (if sgn (a7 a b u) * sgn (a7 a b w) = -1 then [xq a b u w] else [])) (.val (pt u)) (.val (pt w)) (.val (.int (sgn (a7 a b u)))) fs):=fun acc1 h1=>by
  have c2:dB (dOp pEq (dOp k0 (dL 7) (c7 FTn (a6 (dV 1) (a6 (dV 2) (a6 (dV 6) a8))))) (dUn p8 (dC (.int 1)))) (qS x0 a b (lnT a b) acc1 (.val (pt u)) (.val (pt w)) (.val (.int (sgn (a7 a b u)))) fs) = some (decide (sgn (a7 a b u) * sgn (a7 a b w) = -1),qS x0 a b (lnT a b) acc1 (.val (pt u)) (.val (pt w)) (.val (.int (sgn (a7 a b u)))) fs):=
   v8 (c6 (c6 rfl (k6 rfl t2) (v3 bits1 bits2)) rfl (W3 _ (-1)))
  by_cases h:sgn (a7 a b u) * sgn (a7 a b w) = -1
  ·rw [decide_eq_true h] at c2
   rw [K1 c2,if_pos h]
   obtain ⟨q1,q2⟩:=a7w ((a1T _ _).mp h)
   have e1:=a5O fs hu.ps hw.ps (by decide)
   have e2:=b3z fs ha.ps hb.ps hu.ps hw.ps (by decide) q1
   rw [q2] at e2
   have:=Q4 (i:=4) (s:=qS x0 a b (lnT a b) acc1 (.val (pt u)) (.val (pt w)) (.val (.int (sgn (a7 a b u)))) fs) (s1:=qS x0 a b (lnT a b) acc1 (.val (pt u)) (.val (pt w)) (.val (.int (sgn (a7 a b u)))) fs) (ds:=acc1.map pt) (ds0:=acc1.map pt) (d:=pt (xq a b u w)) (f:=c7 FCr (a6 (dV 3) (a6 (c7 FSg (a6 (dV 5) (a6 (dV 6) a8))) a8))) rfl (k6 (y0 rfl (y0 (k6 rfl e1) rfl)) e2) rfl (ls acc1 h1)
   rw [this]
   show _ = some (Fl.next,qS x0 a b (lnT a b) (acc1 ++ [xq a b u w]) (.val (pt u)) (.val (pt w)) (.val (.int (sgn (a7 a b u)))) fs)
   unfold qS
   rw [List.map_append]
   rfl
  ·rw [decide_eq_false h] at c2
   rw [P4 c2,if_neg h,List.append_nil]
   rfl
 unfold cl1
 by_cases h:sgn (a7 a b u) = -1
 ·rw [decide_eq_true h] at c1
  rw [j5 (R8 c1),st acc (by omega)]
  show _ = some (Fl.next,qS x0 a b (lnT a b) (acc ++ ((if sgn (a7 a b u) = -1 then [] else [u]) ++ _)) _ _ _ fs)
  rw [if_pos h,List.nil_append]
 ·rw [decide_eq_false h] at c1
  have ap:n8 (dB (dOp pNe (dL 7) (dUn p8 (dC (.int 1))))) (F5 4 (dV 5)) o7 (qS x0 a b (lnT a b) acc (.val (pt u)) (.val (pt w)) (.val (.int (sgn (a7 a b u)))) fs) = some (.next,qS x0 a b (lnT a b) (acc ++ [u]) (.val (pt u)) (.val (pt w)) (.val (.int (sgn (a7 a b u)))) fs):=by
   rw [K1 c1]
   have:=Q4 (i:=4) (s:=qS x0 a b (lnT a b) acc (.val (pt u)) (.val (pt w)) (.val (.int (sgn (a7 a b u)))) fs) (s1:=qS x0 a b (lnT a b) acc (.val (pt u)) (.val (pt w)) (.val (.int (sgn (a7 a b u)))) fs) (ds:=acc.map pt) (ds0:=acc.map pt) (d:=pt u) (f:=dV 5) rfl rfl rfl (ls acc (by omega))
   rw [this]
   unfold qS
   rw [List.map_append]
   rfl
  rw [j5 ap,st (acc ++ [u]) (by rw [List.length_append,List.length_singleton]; omega)]
  show _ = some (Fl.next,qS x0 a b (lnT a b) (acc ++ ((if sgn (a7 a b u) = -1 then [] else [u]) ++ _)) _ _ _ fs)
  rw [if_neg h,List.append_assoc]
theorem a9E {a b:Pt} (x0:Sl) (fs:Option FS) (ha:PtS 16 a) (hb:PtS 16 b):∀ (qs:List (Pt × Pt)) (acc:List Pt) (x5 x6 x7:Sl),(∀ q ∈ qs,PtS 16 q.1 ∧ PtS 16 q.2) → acc.length + 2 * qs.length ≤ 100 → ∃ y5 y6 y7,A9 (w6 2 (t9 (d0 5) (t9 (d0 6) w8))) (a1b FTn FCr FSg FEk) (qs.map fun q=>.tup [pt q.1,pt q.2]) (qS x0 a b (lnT a b) acc x5 x6 x7 fs) = some (.next,qS x0 a b (lnT a b) (acc ++ clL a b qs) y5 y6 y7 fs)
 | [],acc,x5,x6,x7,_,_=>⟨x5,x6,x7,by unfold clL; rw [List.flatMap_nil,List.append_nil]; rfl⟩
 | q :: r,acc,x5,x6,x7,h,hl=>by
  obtain ⟨h1,h2⟩:=h q (List.mem_cons_self ..)
  rw [List.length_cons] at hl
  have l1:=a8R a b q
  obtain ⟨y5,y6,y7,e⟩:=a9E x0 fs ha hb r (acc ++ cl1 a b q) (.val (pt q.1)) (.val (pt q.2)) (.val (.int (sgn (a7 a b q.1)))) (fun z hz=>h z (List.mem_cons_of_mem _ hz)) (by rw [List.length_append]; omega)
  refine ⟨y5,y6,y7,?_⟩
  rw [List.map_cons,M9 (s1:=qS x0 a b (lnT a b) acc (.val (pt q.1)) (.val (pt q.2)) x7 fs) rfl (b1V x0 x7 acc fs ha hb h1 h2 (by omega)),e]
  unfold clL
  rw [List.flatMap_cons,List.append_assoc]
theorem b4m {a b:Pt} {fd:List Pt} (fs:Option FS) (ha:PtS 16 a) (hb:PtS 16 b) (hf:∀ p ∈ fd,PtS 16 p) (hl:fd.length ≤ 16):FCk [.tup (fd.map pt),pt a,pt b] fs = some (.lst ((clL a b (nbs true fd)).map pt),fs):=by
 have nl:=a34 true fd
 obtain ⟨y5,y6,y7,e⟩:=a9E (.val (.tup (fd.map pt))) fs ha hb (nbs true fd) [] .no .no .no (fun q hq=>⟨hf _ (a1u hq).1,hf _ (a1u hq).2⟩) (by rw [List.length_nil]; omega)
 rw [List.nil_append] at e
 have s:=a5O fs ha.ps hb.ps (by decide)
 refine u6 (s:=⟨[.val (.tup (fd.map pt)),.val (pt a),.val (pt b),.val (lnT a b),.val (.lst ((clL a b (nbs true fd)).map pt)),y5,y6,y7],fs⟩) ?_
 show a3Q FTn FCr FSg FEk ⟨[.val (.tup (fd.map pt)),.val (pt a),.val (pt b),.no,.no,.no,.no,.no],fs⟩ = _
 unfold a3Q
 rw [j5 (s1:=⟨[.val (.tup (fd.map pt)),.val (pt a),.val (pt b),.val (lnT a b),.no,.no,.no,.no],fs⟩) (o9 (k6 rfl s) rfl)]
 rw [j5 (s1:=qS (.val (.tup (fd.map pt))) a b (lnT a b) [] .no .no .no fs) (G8 (i:=4) (s1:=⟨[.val (.tup (fd.map pt)),.val (pt a),.val (pt b),.val (lnT a b),.no,.no,.no,.no],fs⟩) (ds:=[]) rfl (by show 4 < 8; decide))]
 rw [j5 ((O6 (ds:=(nbs true fd).map fun q=>.tup [pt q.1,pt q.2]) (k6 rfl (a8m fd fs (by omega)))).trans e)]
 exact A2 rfl
theorem a1a {fd:List Pt} (h0:0 < fd.length) (q:Pt × Pt):q ∈ nbs true fd ↔ ∃ k,q = (tk fd k,tk fd (k + 1)):=by
 have l2:(fd.drop 1 ++ fd.take 1).length = fd.length:=by rw [List.length_append,List.length_drop,List.length_take]; omega
 have g2:∀ i,i < fd.length → (fd.drop 1 ++ fd.take 1)[i]? = some (tk fd (i + 1)):=fun i hi=>by
  by_cases c:i + 1 < fd.length
  ·rw [List.getElem?_append_left (by rw [List.length_drop]; omega),List.getElem?_drop,Nat.add_comm 1 i,L9 c]
  ·have ei:i + 1 = fd.length:=by omega
   rw [List.getElem?_append_right (by rw [List.length_drop]; omega),List.length_drop,show i - (fd.length - 1) = 0 by omega,List.getElem?_take_of_lt (by decide),L9 h0]
   rw [← C0 (i + 1),ei,Nat.mod_self]
 unfold nbs
 simp only [if_true]
 constructor
 ·intro h
  obtain ⟨i,hi⟩:=List.getElem?_of_mem h
  have il:=(List.getElem?_eq_some_iff.mp hi).1
  rw [List.length_zip,l2,Nat.min_self] at il
  rw [List.getElem?_zip_eq_some] at hi
  refine ⟨i,Prod.ext ?_ ?_⟩
  ·have:=hi.1; rw [L9 il] at this; exact (Option.some.inj this).symm
  ·have:=hi.2; rw [g2 i il] at this; exact (Option.some.inj this).symm
 ·rintro ⟨k,rfl⟩
  have kl:=Nat.mod_lt k h0
  refine List.mem_of_getElem? (i:=k % fd.length) (List.getElem?_zip_eq_some.mpr ⟨a3n h0,?_⟩)
  rw [g2 _ kl]
  show some (tk fd (k % fd.length + 1)) = some (tk fd (k + 1))
  rw [← C0 (k % fd.length + 1),Nat.mod_add_mod,C0]
theorem a4J {fd:List Pt} (h0:0 < fd.length) (a b q:Pt):q ∈ clL a b (nbs true fd) ↔ Cl fd a b q:=by
 unfold clL Cl
 rw [List.mem_flatMap]
 constructor
 ·rintro ⟨e,he,hq⟩
  obtain ⟨k,rfl⟩:=(a1a h0 e).mp he
  unfold cl1 at hq
  rcases List.mem_append.mp hq with w | w
  ·by_cases c:sgn (a7 a b (tk fd k)) = -1
   ·rw [if_pos c] at w; cases w
   ·rw [if_neg c] at w
    have:q = tk fd k:=List.mem_singleton.mp w
    subst this
    exact .inl ⟨G4 k h0,Rat.not_lt.mp fun z=>c ((a5o _).mpr z)⟩
  ·by_cases c:sgn (a7 a b (tk fd k)) * sgn (a7 a b (tk fd (k + 1))) = -1
   ·rw [if_pos c] at w
    exact .inr ⟨k,(a1T _ _).mp c,List.mem_singleton.mp w⟩
   ·rw [if_neg c] at w; cases w
 ·rintro (⟨hq,hc⟩ | ⟨k,hk,rfl⟩)
  ·obtain ⟨k,hk⟩:=List.getElem?_of_mem hq
   have kl:=(List.getElem?_eq_some_iff.mp hk).1
   have e:q = tk fd k:=by rw [L9 kl] at hk; exact (Option.some.inj hk).symm
   refine ⟨(tk fd k,tk fd (k + 1)),(a1a h0 _).mpr ⟨k,rfl⟩,?_⟩
   unfold cl1
   have n:¬ sgn (a7 a b (tk fd k)) = -1:=fun z=>by
    have:=(a5o _).mp z
    rw [e] at hc
    exact absurd this (Rat.not_lt.mpr hc)
   show q ∈ (if sgn (a7 a b (tk fd k)) = -1 then [] else [tk fd k]) ++ _
   rw [if_neg n,e]
   simp
  ·refine ⟨(tk fd k,tk fd (k + 1)),(a1a h0 _).mpr ⟨k,rfl⟩,?_⟩
   unfold cl1
   refine List.mem_append.mpr (.inr ?_)
   show _ ∈ (if sgn (a7 a b (tk fd k)) * sgn (a7 a b (tk fd (k + 1))) = -1 then _ else _)
   rw [if_pos ((a1T _ _).mpr hk)]
   simp
theorem a2h {a b:Pt} {fd:List Pt} (h0:0 < fd.length) (ha:PtS 16 a) (hb:PtS 16 b) (hf:∀ p ∈ fd,PtS 16 p) {q:Pt} (hq:Cl fd a b q):PtS 300 q:=by
 rcases hq with ⟨hq,_⟩ | ⟨k,hk,rfl⟩
 ·exact (hf q hq).mono (by decide)
 ·exact b3Q ha hb (hf _ (G4 k h0)) (hf _ (G4 (k + 1) h0)) hk
noncomputable abbrev FCo:DFn:=a20 SHO FCk
theorem a9b {a b:Pt} {fd:List Pt} (fs:Option FS) (ha:PtS 16 a) (hb:PtS 16 b) (hf:∀ p ∈ fd,PtS 16 p) (h0:0 < fd.length) (hl:fd.length ≤ 16):FCo [.tup (fd.map pt),pt a,pt b] fs = some (i4 (clL a b (nbs true fd)),fs):=by
 have e:=b4m fs ha hb hf hl
 have ln:=a1o a b (nbs true fd)
 have nl:=a34 true fd
 have s:=b1X (k:=600) (by decide) (.lst ((clL a b (nbs true fd)).map pt)) (clL a b (nbs true fd)) fs rfl (fun z hz=>(a2h h0 ha hb hf ((a4J h0 a b z).mp hz)).ps) (by omega)
 exact u6 (s:=⟨[.val (.tup (fd.map pt)),.val (pt a),.val (pt b)],fs⟩) (A2 (k6 (y0 (k6 rfl e) rfl) s))
noncomputable abbrev LAp:DFn:=a2L LS F7 LX
theorem a4l {a b:Pt} (fs:Option FS) (ha:PtS 16 a) (hb:PtS 16 b):LAp [pt a,pt b] fs = some (.tup [fr (b.1 - a.1),fr (b.2 - a.2)],fs):=by
 have x1:=lxy a fs ha.ps (by decide)
 have x2:=lxy b fs hb.ps (by decide)
 have m1:=a0q a.1 fs
 have m2:=a0q a.2 fs
 have s1:=Q1 b.1 (-a.1) fs hb.x ha.x.neg (by decide)
 have s2:=Q1 b.2 (-a.2) fs hb.y ha.y.neg (by decide)
 rw [← Rat.sub_eq_add_neg] at s1 s2
 refine u6 (s:=⟨[.val (pt a),.val (pt b),.val (fr a.1),.val (fr a.2),.val (fr b.1),.val (fr b.2)],fs⟩) ?_
 show a25 LS F7 LX ⟨[.val (pt a),.val (pt b),.no,.no,.no,.no],fs⟩ = _
 unfold a25
 rw [j5 (s1:=⟨[.val (pt a),.val (pt b),.val (fr a.1),.val (fr a.2),.no,.no],fs⟩) (o9 (k6 rfl x1) rfl)]
 rw [j5 (s1:=⟨[.val (pt a),.val (pt b),.val (fr a.1),.val (fr a.2),.val (fr b.1),.val (fr b.2)],fs⟩) (o9 (k6 rfl x2) rfl)]
 exact A2 (T2 (k6 (y0 rfl (y0 (k6 rfl m1) rfl)) s1) (k6 (y0 rfl (y0 (k6 rfl m2) rfl)) s2))
noncomputable abbrev LAt:DFn:=a4L LS F7 LP
theorem a6C {x y z w:Rat} (fs:Option FS) (hx:Sz 33 x) (hy:Sz 33 y) (hz:Sz 33 z) (hw:Sz 33 w):LAt [.tup [fr x,fr y],.tup [fr z,fr w]] fs = some (fr (x * w - y * z),fs):=by
 have p1:=T8 x w fs hx hw (by decide)
 have p2:=T8 y z fs hy hz (by decide)
 have m:=a0q (y * z) fs
 have s:=Q1 (x * w) (-(y * z)) fs (hx.mul hw) (hy.mul hz).neg (by decide)
 rw [← Rat.sub_eq_add_neg] at s
 refine u6 (s:=⟨[.val (.tup [fr x,fr y]),.val (.tup [fr z,fr w])],fs⟩) ?_
 show a2q LS F7 LP ⟨[.val (.tup [fr x,fr y]),.val (.tup [fr z,fr w])],fs⟩ = _
 unfold a2q
 exact A2 (k6 (y0 (k6 (y0 (c6 rfl rfl rfl) (y0 (c6 rfl rfl rfl) rfl)) p1) (y0 (k6 (y0 (k6 (y0 (c6 rfl rfl rfl) (y0 (c6 rfl rfl rfl) rfl)) p2) rfl) m) rfl)) s)
noncomputable abbrev LLp:DFn:=a1P LG LP LF LAt LAp
theorem a8p {t d:Rat} (hd:d ≠ 0):Rat.divInt (t.num * d.den) (t.den * d.num) = t / d:=by
 have ht:=a0h t
 have hn:=a0h d
 have td:((t.den:Int):Rat) ≠ 0:=fun z=>F1 t (Rat.intCast_eq_zero_iff.mp z)
 have dd:((d.den:Int):Rat) ≠ 0:=fun z=>F1 d (Rat.intCast_eq_zero_iff.mp z)
 rw [Rat.divInt_eq_div,Rat.intCast_mul,Rat.intCast_mul,ht,hn,Rat.div_def,Rat.div_def]
 grind
theorem b0v {a b u w:Pt} (fs:Option FS) (ha:PtS 16 a) (hb:PtS 16 b) (hu:PtS 16 u) (hw:PtS 16 w) (h:a7 a b u * a7 a b w < 0):LLp [pt u,pt w,pt a,pt b] fs = some (pt (xq a b u w),fs):=by
 have d1:=a4l fs hu hw
 have d2:=a4l fs hu ha
 have d3:=a4l fs ha hb
 have z:∀ {x y:Rat},Sz 16 x → Sz 16 y → Sz 33 (y - x):=fun {x y} hx hy=>(hy.sub hx).mono (by decide)
 have t1:=a6C fs (z hu.x ha.x) (z hu.y ha.y) (z ha.x hb.x) (z ha.y hb.y)
 have t2:=a6C fs (z hu.x hw.x) (z hu.y hw.y) (z ha.x hb.x) (z ha.y hb.y)
 have e1:(a.1 - u.1) * (b.2 - a.2) - (a.2 - u.2) * (b.1 - a.1) = a7 a b u:=by unfold a7; grind
 have e2:(w.1 - u.1) * (b.2 - a.2) - (w.2 - u.2) * (b.1 - a.1) = a7 a b u - a7 a b w:=by unfold a7; grind
 have zt:Sz 133 (a7 a b u):=by rw [← e1]; exact (((z hu.x ha.x).mul (z ha.y hb.y)).sub ((z hu.y ha.y).mul (z ha.x hb.x))).mono (by decide)
 have zd:Sz 133 (a7 a b u - a7 a b w):=by rw [← e2]; exact (((z hu.x hw.x).mul (z ha.y hb.y)).sub ((z hu.y hw.y).mul (z ha.x hb.x))).mono (by decide)
 rw [e1] at t1
 rw [e2] at t2
 have hd:a7 a b u - a7 a b w ≠ 0:=fun y=>by
  have e:a7 a b w = a7 a b u:=by grind
  rw [e] at h
  have:=W6 (a7 a b u)
  grind
 have hdn:((a7 a b u).den:Int) * (a7 a b u - a7 a b w).num ≠ 0:=Int.mul_ne_zero (F1 _) (fun y=>hd (Rat.num_eq_zero.mp y))
 have f:=N8 ((a7 a b u).num * (a7 a b u - a7 a b w).den) ((a7 a b u).den * (a7 a b u - a7 a b w).num) fs hdn (zt.den.mul zd.num) (by decide)
 have zs:Sz 266 (a7 a b u / (a7 a b u - a7 a b w)):=by
  rw [← a8p hd]
  exact Sz.of_divInt hdn (zt.num.mul zd.den) (zt.den.mul zd.num)
 rw [a8p hd] at f
 have p1:=T8 (a7 a b u / (a7 a b u - a7 a b w)) (w.1 - u.1) fs zs (z hu.x hw.x) (by decide)
 have p2:=T8 (a7 a b u / (a7 a b u - a7 a b w)) (w.2 - u.2) fs zs (z hu.y hw.y) (by decide)
 have g:=a8o u _ _ fs hu.x hu.y (zs.mul (z hu.x hw.x)) (zs.mul (z hu.y hw.y)) (by decide)
 have b1:=zt.num.bits (by decide); have b2:=zd.den.bits (by decide); have b3:=zt.den.bits (by decide); have b4:=zd.num.bits (by decide)
 show a1P LG LP LF LAt LAp [pt u,pt w,pt a,pt b] fs = some (pt (u.1 + a7 a b u / (a7 a b u - a7 a b w) * (w.1 - u.1),u.2 + a7 a b u / (a7 a b u - a7 a b w) * (w.2 - u.2)),fs)
 generalize a7 a b u / (a7 a b u - a7 a b w) = sh at *
 generalize a7 a b u - a7 a b w = bo at *
 generalize a7 a b u = tp at *
 refine u6 (s:=⟨[.val (pt u),.val (pt w),.val (pt a),.val (pt b),.val (.tup [fr (w.1 - u.1),fr (w.2 - u.2)]),.val (.tup [fr (a.1 - u.1),fr (a.2 - u.2)]),.val (.tup [fr (b.1 - a.1),fr (b.2 - a.2)]),.val (fr tp),.val (fr bo),.val (fr sh)],fs⟩) ?_
 show a2P LG LP LF LAt LAp ⟨[.val (pt u),.val (pt w),.val (pt a),.val (pt b),.no,.no,.no,.no,.no,.no],fs⟩ = _
 unfold a2P
 rw [j5 (s1:=⟨[.val (pt u),.val (pt w),.val (pt a),.val (pt b),.val (.tup [fr (w.1 - u.1),fr (w.2 - u.2)]),.no,.no,.no,.no,.no],fs⟩) (o9 (k6 rfl d1) rfl)]
 rw [j5 (s1:=⟨[.val (pt u),.val (pt w),.val (pt a),.val (pt b),.val (.tup [fr (w.1 - u.1),fr (w.2 - u.2)]),.val (.tup [fr (a.1 - u.1),fr (a.2 - u.2)]),.no,.no,.no,.no],fs⟩) (o9 (k6 rfl d2) rfl)]
 rw [j5 (s1:=⟨[.val (pt u),.val (pt w),.val (pt a),.val (pt b),.val (.tup [fr (w.1 - u.1),fr (w.2 - u.2)]),.val (.tup [fr (a.1 - u.1),fr (a.2 - u.2)]),.val (.tup [fr (b.1 - a.1),fr (b.2 - a.2)]),.no,.no,.no],fs⟩) (o9 (k6 rfl d3) rfl)]
 rw [j5 (s1:=⟨[.val (pt u),.val (pt w),.val (pt a),.val (pt b),.val (.tup [fr (w.1 - u.1),fr (w.2 - u.2)]),.val (.tup [fr (a.1 - u.1),fr (a.2 - u.2)]),.val (.tup [fr (b.1 - a.1),fr (b.2 - a.2)]),.val (fr tp),.no,.no],fs⟩) (o9 (k6 rfl t1) rfl)]
 rw [j5 (s1:=⟨[.val (pt u),.val (pt w),.val (pt a),.val (pt b),.val (.tup [fr (w.1 - u.1),fr (w.2 - u.2)]),.val (.tup [fr (a.1 - u.1),fr (a.2 - u.2)]),.val (.tup [fr (b.1 - a.1),fr (b.2 - a.2)]),.val (fr tp),.val (fr bo),.no],fs⟩) (o9 (k6 rfl t2) rfl)]
 rw [j5 (s1:=⟨[.val (pt u),.val (pt w),.val (pt a),.val (pt b),.val (.tup [fr (w.1 - u.1),fr (w.2 - u.2)]),.val (.tup [fr (a.1 - u.1),fr (a.2 - u.2)]),.val (.tup [fr (b.1 - a.1),fr (b.2 - a.2)]),.val (fr tp),.val (fr bo),.val (fr sh)],fs⟩) (o9 (k6 (y0 (c6 (c6 rfl rfl (X7 tp)) (c6 rfl rfl (M1 bo)) (v3 b1 b2)) (y0 (c6 (c6 rfl rfl (M1 tp)) (c6 rfl rfl (X7 bo)) (v3 b3 b4)) rfl)) f) rfl)]
 exact A2 (k6 (y0 rfl (y0 (k6 (y0 rfl (y0 (c6 rfl rfl rfl) rfl)) p1) (y0 (k6 (y0 rfl (y0 (c6 rfl rfl rfl) rfl)) p2) rfl))) g)
theorem a3b (x y:Rat):sgn x * sgn y < 0 ↔ x * y < 0:=by
 rw [← a1T]
 rcases a0L x with ⟨_,e⟩ | ⟨_,e⟩ | ⟨_,e⟩ <;> rcases a0L y with ⟨_,e'⟩ | ⟨_,e'⟩ | ⟨_,e'⟩ <;> rw [e,e'] <;> decide
theorem a9s (x:Rat):0 ≤ sgn x ↔ 0 ≤ x:=by
 rcases a0L x with ⟨a,e⟩ | ⟨a,e⟩ | ⟨a,e⟩ <;> rw [e]
 ·exact ⟨fun _=>Rat.le_of_lt a,fun _=>by decide⟩
 ·exact ⟨fun z=>absurd z (by decide),fun z=>absurd a (Rat.not_lt.mpr z)⟩
 ·rw [a]; exact ⟨fun _=>Rat.le_refl,fun _=>by decide⟩
noncomputable def kpF (a b:Pt) (fd:List Pt):List Pt:=fd.filter fun v=>decide (0 ≤ sgn (a7 a b v))
noncomputable def kp1 (a b:Pt) (fd:List Pt) (k:Nat):List Pt:=if sgn (a7 a b (tk fd (k + (fd.length - 1)))) * sgn (a7 a b (tk fd k)) < 0 then [xq a b (tk fd (k + (fd.length - 1))) (tk fd k)] else []
noncomputable def kpL (a b:Pt) (fd:List Pt):List Pt:=kpF a b fd ++ (List.range fd.length).flatMap (kp1 a b fd)
theorem a5D {fd:List Pt} (h0:0 < fd.length) (k:Nat):tk fd (k + (fd.length - 1) + 1) = tk fd k:=by
 rw [show k + (fd.length - 1) + 1 = k + fd.length by omega,← C0,Nat.add_mod_right,C0]
theorem a2H {fd:List Pt} (h0:0 < fd.length) (a b q:Pt):q ∈ kpL a b fd ↔ Cl fd a b q:=by
 unfold kpL kpF Cl
 rw [List.mem_append,List.mem_filter,List.mem_flatMap]
 constructor
 ·rintro (⟨h1,h2⟩ | ⟨k,hk,hq⟩)
  ·exact .inl ⟨h1,(a9s _).mp (of_decide_eq_true h2)⟩
  ·unfold kp1 at hq
   by_cases c:sgn (a7 a b (tk fd (k + (fd.length - 1)))) * sgn (a7 a b (tk fd k)) < 0
   ·rw [if_pos c] at hq
    refine .inr ⟨k + (fd.length - 1),?_,?_⟩
    ·rw [a5D h0]; exact (a3b _ _).mp c
    ·rw [a5D h0]; exact List.mem_singleton.mp hq
   ·rw [if_neg c] at hq; cases hq
 ·rintro (⟨h1,h2⟩ | ⟨k,hk,rfl⟩)
  ·exact .inl ⟨h1,decide_eq_true ((a9s _).mpr h2)⟩
  ·refine .inr ⟨(k + 1) % fd.length,List.mem_range.mpr (Nat.mod_lt _ h0),?_⟩
   have e1:tk fd ((k + 1) % fd.length) = tk fd (k + 1):=C0 _
   have e2:tk fd ((k + 1) % fd.length + (fd.length - 1)) = tk fd k:=by
    rw [← C0,Nat.mod_add_mod,show k + 1 + (fd.length - 1) = k + fd.length by omega,Nat.add_mod_right,C0]
   unfold kp1
   rw [e1,e2,if_pos ((a3b _ _).mpr hk)]
   simp
theorem b6k (a b:Pt) (fd:List Pt) (k:Nat):(kp1 a b fd k).length ≤ 1:=by unfold kp1; split <;> simp
theorem a2t (a b:Pt) (fd:List Pt):∀ r:List Nat,(r.flatMap (kp1 a b fd)).length ≤ r.length
 | []=>Nat.le_refl _
 | k :: r=>by
  have:=a2t a b fd r
  have h:=b6k a b fd k
  rw [List.flatMap_cons,List.length_append,List.length_cons]
  omega
theorem a29 (a b:Pt) (fd:List Pt):(kpL a b fd).length ≤ 2 * fd.length:=by
 unfold kpL kpF
 have h1:=List.length_filter_le (fun v=>decide (0 ≤ sgn (a7 a b v))) fd
 have h2:=a2t a b fd (List.range fd.length)
 rw [List.length_range] at h2
 rw [List.length_append]
 omega
noncomputable abbrev LCu:DFn:=a4s LHu C8 LLp
section
variable {a b:Pt} {fd:List Pt} (fs:Option FS) (ha:PtS 16 a) (hb:PtS 16 b) (hf:∀ p ∈ fd,PtS 16 p) (h0:0 < fd.length) (hl:fd.length ≤ 16)
include ha hb
theorem a8f:∀ l:List Pt,(∀ p ∈ l,PtS 16 p) → B6 (fun d=>some (.val d :: [.val (pt a),.val (pt b)])) (dB (dOp (j8 (fun i j=>decide (j ≤ i))) (c7 C8 (a6 (dV 1) (a6 (dV 2) (a6 (dV 0) a8)))) (dC (.int 0)))) (dV 0) (l.map pt) fs = some ((kpF a b l).map pt,fs)
 | [],_=>rfl
 | v :: r,h=>by
  have ih:=a8f r fun p hp=>h p (List.mem_cons_of_mem _ hp)
  have T:=a0p a b v fs ha.ps hb.ps (h v (List.mem_cons_self ..)).ps (by decide)
  have c:dB (dOp (j8 (fun i j=>decide (j ≤ i))) (c7 C8 (a6 (dV 1) (a6 (dV 2) (a6 (dV 0) a8)))) (dC (.int 0))) ⟨[.val (pt v),.val (pt a),.val (pt b)],fs⟩ = some (decide (0 ≤ sgn (a7 a b v)),⟨[.val (pt v),.val (pt a),.val (pt b)],fs⟩):=v8 (c6 (k6 rfl T) rfl rfl)
  unfold kpF at *
  rw [List.map_cons,B6,Option.bind_some,c,Option.bind_some,List.filter_cons]
  cases w:decide (0 ≤ sgn (a7 a b v)) with
  | true=>
   rw [if_pos rfl,show dV 0 ⟨[.val (pt v),.val (pt a),.val (pt b)],fs⟩ = some (pt v,⟨[.val (pt v),.val (pt a),.val (pt b)],fs⟩) from rfl,Option.bind_some,ih]
   rfl
  | false=>
   rw [if_neg (show ¬ (false = true) by decide),ih]
   rfl
include hf h0 hl
noncomputable abbrev gS (a b:Pt) (fd acc:List Pt) (x4 x5 x6:Sl) (fs:Option FS):DS:=⟨[.val (.tup (fd.map pt)),.val (pt a),.val (pt b),.own (acc.map pt),x4,x5,x6],fs⟩
theorem a92 (acc:List Pt) (k:Nat) (hk:k < fd.length) (la:acc.length ≤ 100) (x5 x6:Sl):a18 LHu C8 LLp (gS a b fd acc (.val (.int (k:Int))) x5 x6 fs) = some (.next,gS a b fd (acc ++ kp1 a b fd k) (.val (.int (k:Int))) (.val (pt (tk fd (k + (fd.length - 1))))) (.val (pt (tk fd k))) fs):=by
 have su:=hf _ (G4 (l:=fd) (k + (fd.length - 1)) h0)
 have sw:=hf _ (G4 (l:=fd) k h0)
 have iy:atI (fd.map pt) ((k:Int) - 1) = some (pt (tk fd (k + (fd.length - 1)))):=by
  by_cases t0:k = 0
  ·rw [t0]
   unfold atI ixN
   rw [if_neg (by decide),if_pos (by rw [List.length_map]; omega)]
   show (fd.map pt)[(((0:Nat):Int) - 1 + ((fd.map pt).length:Int)).toNat]? = _
   rw [List.length_map,show (((0:Nat):Int) - 1 + (fd.length:Int)).toNat = fd.length - 1 by omega,List.getElem?_map,L9 (by omega),Nat.zero_add]
   rfl
  ·rw [show (k:Int) - 1 = ((k - 1:Nat):Int) by omega]
   have e:tk fd (k + (fd.length - 1)) = tk fd (k - 1):=by
    rw [show k + (fd.length - 1) = k - 1 + fd.length by omega,← C0,Nat.add_mod_right,C0]
   rw [e]
   exact a1i (by rw [List.getElem?_map,L9 (by omega)]; rfl)
 have iz:atI (fd.map pt) (k:Int) = some (pt (tk fd k)):=a1i (by rw [List.getElem?_map,L9 hk]; rfl)
 generalize eu:tk fd (k + (fd.length - 1)) = u at *
 generalize ew:tk fd k = w at *
 have t1:=a0p a b u fs ha.ps hb.ps su.ps (by decide)
 have t2:=a0p a b w fs ha.ps hb.ps sw.ps (by decide)
 have b1:=a16 (a7 a b u)
 have b2:=a16 (a7 a b w)
 unfold a18
 rw [j5 (s1:=gS a b fd acc (.val (.int (k:Int))) (.val (pt u)) (.val (pt w)) fs) (b2O (y0 (c6 (x:=.tup (fd.map pt)) rfl (c6 rfl rfl rfl) ((ixT _ _).trans iy)) (y0 (c6 (x:=.tup (fd.map pt)) rfl rfl ((ixT _ _).trans iz)) rfl)) rfl)]
 have c:dB (dOp (j8 (fun i j=>decide (i < j))) (dOp k0 (c7 C8 (a6 (dV 1) (a6 (dV 2) (a6 (dV 5) a8)))) (c7 C8 (a6 (dV 1) (a6 (dV 2) (a6 (dV 6) a8))))) (dC (.int 0))) (gS a b fd acc (.val (.int (k:Int))) (.val (pt u)) (.val (pt w)) fs) = some (decide (sgn (a7 a b u) * sgn (a7 a b w) < 0),gS a b fd acc (.val (.int (k:Int))) (.val (pt u)) (.val (pt w)) fs):=
  v8 (c6 (c6 (k6 rfl t1) (k6 rfl t2) (v3 b1 b2)) rfl rfl)
 unfold kp1
 rw [eu,ew]
 by_cases h:sgn (a7 a b u) * sgn (a7 a b w) < 0
 ·rw [decide_eq_true h] at c
  rw [K1 c,if_pos h]
  have e:=b0v fs ha hb su sw ((a3b _ _).mp h)
  have:=Q4 (i:=3) (s:=gS a b fd acc (.val (.int (k:Int))) (.val (pt u)) (.val (pt w)) fs) (s1:=gS a b fd acc (.val (.int (k:Int))) (.val (pt u)) (.val (pt w)) fs) (ds:=acc.map pt) (ds0:=acc.map pt) (d:=pt (xq a b u w)) (f:=c7 LLp (a6 (dV 5) (a6 (dV 6) (a6 (dV 1) (a6 (dV 2) a8))))) rfl (k6 rfl e) rfl (by rw [List.length_map]; exact Nat.lt_of_le_of_lt la (by decide))
  rw [this]
  unfold gS
  rw [List.map_append]
  rfl
 ·rw [decide_eq_false h] at c
  rw [P4 c,if_neg h,List.append_nil]
  rfl
theorem a7Y:LCu [.tup (fd.map pt),pt a,pt b] fs = some (i4 (kpL a b fd),fs):=by
 have c:=a8f fs ha hb fd hf
 have fl:=List.length_filter_le (fun v=>decide (0 ≤ sgn (a7 a b v))) fd
 obtain ⟨s',e,x4,x5,x6,rfl⟩:=a3R (t:=d0 4) (b:=a18 LHu C8 LLp) (fun i s=>∃ x4 x5 x6,s = gS a b fd (kpF a b fd ++ (List.range i).flatMap (kp1 a b fd)) x4 x5 x6 fs) (ups 0 fd.length) 0 (gS a b fd (kpF a b fd) .no .no .no fs) ⟨_,_,_,by rw [List.range_zero,List.flatMap_nil,List.append_nil]⟩ (by
  rintro i d s hd ⟨x4,x5,x6,rfl⟩
  obtain ⟨rfl,hi⟩:=a5M hd
  rw [Nat.zero_add,Int.zero_add]
  have lr:=a2t a b fd (List.range i)
  rw [List.length_range] at lr
  have T:=a92 fs ha hb hf h0 hl (kpF a b fd ++ (List.range i).flatMap (kp1 a b fd)) i hi (by rw [List.length_append]; unfold kpF; omega) x5 x6
  refine ⟨_,_,rfl,.inl T,.val (.int (i:Int)),.val (pt (tk fd (i + (fd.length - 1)))),.val (pt (tk fd i)),?_⟩
  rw [List.range_succ,List.flatMap_append,List.flatMap_cons,List.flatMap_nil,List.append_nil,List.append_assoc])
 rw [Nat.zero_add,W5] at e
 have ln:=a29 a b fd
 have PLk:PL (kpL a b fd):=fun p hp=>a2h h0 ha hb hf ((a2H h0 a b p).mp hp)
 have len:dCB (one k9) (a6 (dL 0) a8) (gS a b fd (kpF a b fd) .no .no .no fs) = some (.int (fd.length:Int),gS a b fd (kpF a b fd) .no .no .no fs):=by
  refine F0 (x:=.tup (fd.map pt)) rfl ?_
  show some (D.int ((fd.map pt).length:Nat)) = _
  rw [List.length_map]
 have ne:pNe (.lst ((kpL a b fd).map pt)) (.lst []) = some (.bl (!decide (kpL a b fd = []))):=by
  have e1:=a3t PLk
  have e2:A1 (.lst []) = true:=rfl
  show (if A1 (.lst ((kpL a b fd).map pt)) && A1 (.lst []) then some (D.bl (!PyData.eqv (D.lst ((kpL a b fd).map pt)).py (D.lst []).py)) else none) = _
  rw [e1,e2]
  cases kpL a b fd with
  | nil=>rfl
  | cons p r=>rfl
 have run:a2E LHu C8 LLp ⟨[.val (.tup (fd.map pt)),.val (pt a),.val (pt b),.no,.no,.no,.no],fs⟩ = j7 (dIf (dB (dOp pNe (dL 3) (r8 (t7 a8)))) (c7 LHu (a6 (dV 3) a8)) (dC .non)) (gS a b fd (kpL a b fd) x4 x5 x6 fs):=by
  unfold a2E
  rw [j5 (s1:=gS a b fd (kpF a b fd) .no .no .no fs) (G8 (i:=3) (s1:=⟨[.val (.tup (fd.map pt)),.val (pt a),.val (pt b),.no,.no,.no,.no],fs⟩) (ds:=(kpF a b fd).map pt) (a1v (idx:=[1,2]) (fi:=K4 (dV 0)) (s:=⟨[.val (.tup (fd.map pt)),.val (pt a),.val (pt b),.no,.no,.no,.no],fs⟩) (s1:=⟨[.val (.tup (fd.map pt)),.val (pt a),.val (pt b),.no,.no,.no,.no],fs⟩) (ds:=fd.map pt) rfl (by rw [List.length_map]; exact Nat.le_trans hl (by decide)) c) (by show 3 < 7; decide))]
  rw [j5 ((a6u (y0 len rfl) (a2p (by omega))).trans e)]
  rfl
 by_cases h:kpL a b fd = []
 ·have hh:i4 (kpL a b fd) = .non:=by
   rw [h]
   unfold i4
   have:l5 ([]:List Pt) = []:=rfl
   rw [this]
   rfl
  rw [hh]
  refine u6 (s:=gS a b fd (kpL a b fd) x4 x5 x6 fs) (run.trans (A2 ((a1p (v8 (c6 (s1:=gS a b fd (kpL a b fd) x4 x5 x6 fs) rfl rfl (ne.trans (by rw [decide_eq_true h]; rfl))))).trans rfl)))
 ·have hu:=a8r fs PLk (List.length_pos_iff.mpr h) (by omega)
  refine u6 (s:=⟨[.val (.tup (fd.map pt)),.val (pt a),.val (pt b),.val (.lst ((kpL a b fd).map pt)),x4,x5,x6],fs⟩) (run.trans (A2 ((Y2 (v8 (c6 (s1:=gS a b fd (kpL a b fd) x4 x5 x6 fs) rfl rfl (ne.trans (by rw [decide_eq_false h]; rfl))))).trans (Y4 (sl':=[.val (.tup (fd.map pt)),.val (pt a),.val (pt b),.val (.lst ((kpL a b fd).map pt)),x4,x5,x6]) rfl hu))))
end
theorem a6D {k:Nat} {l:List Pt} (h:∀ z ∈ l,Ps k z) (hk:k ≤ 1920:=by decide):Ok 2 (l.length * 4) (.tup (l.map pt)):=by
 have:=OkL.all (k:=1) (n:=3) (ds:=l.map pt) (fun d hd=>by
  obtain ⟨z,hz,rfl⟩:=List.mem_map.mp hd
  exact Ok.pt (h z hz) hk)
 rw [List.length_map] at this
 exact Ok.tup this
theorem b5P (a b:Pt):PyData.eqv (pt a).py (pt b).py = decide (a = b):=by
 unfold pt
 simp only [D.py,D.pys,PyData.eqv,PyData.eqvAll,Bool.beq_eq_decide_eq,Bool.and_true]
 rw [Bool.eq_iff_iff]
 simp only [Bool.and_eq_true,decide_eq_true_iff]
 constructor
 ·rintro ⟨h1,h2,h3⟩; exact a8G h1 h2 h3
 ·rintro rfl; exact ⟨rfl,rfl,rfl⟩
theorem b23 (bs:List Bool):pIn (.bl false) (.lst (bs.map .bl)) = some (.bl (!bs.all id)):=by
 have h1:A1 (.bl false) = true:=rfl
 have h2:A1 (.lst (bs.map .bl)) = true:=by
  have:=Ok.lst (OkL.all (k:=0) (n:=0) (ds:=bs.map D.bl) (fun d hd=>by
   obtain ⟨b,_,rfl⟩:=List.mem_map.mp hd
   exact Ok.bl b))
  exact this.eq
 simp only [pIn,a0C,h1,h2,Bool.and_self,if_true,id]
 congr 2
 clear h2
 induction bs with
 | nil=>rfl
 | cons b r ih=>
  simp only [List.map_cons,inD,D.pys,D.py,List.any_cons,List.all_cons] at ih ⊢
  cases b
  ·rfl
  ·simpa [PyData.eqv] using ih
section
variable {k:Nat} (hk:k ≤ 1900) {l:List Pt} (P:∀ p ∈ l,Ps k p) (h3:3 ≤ l.length) (hl:l.length < 2 ^ 20) (fs:Option FS)
include hk P h3 hl
end
theorem b3J {fd:List Pt} (S:ShT fd):∃ p,Rnd (fun q=>q ∈ fd) p fd:=by
 obtain ⟨l0,rfl,_,lh,_⟩:=S.src
 have h3:=S.lo
 have hl:l0.length < 2 ^ 20:=by omega
 have hln:=a2c hl
 obtain ⟨p,r,e⟩:=a35 (l:=l0) (by omega)
 have hr:r ≠ []:=fun w=>by
  rw [a5S (by rw [e,w])] at h3
  exact absurd h3 (by decide)
 have R:=a0w hl e hr
 exact ⟨p,R.hd,a3m (fun a b h=>Nx.sub h fun q hq=>R.mem q hq) R.run,fun z hz=>hz,R.nb⟩
theorem a9n {fd:List Pt} (S:ShT fd):fd.length ≤ 16:=by
 obtain ⟨l0,ef,_,lh,_⟩:=S.src
 rw [ef]
 exact Nat.le_trans (a2c (by omega)) lh
theorem a8q {l:List Pt} (h:∀ z ∈ l,PtS 300 z) (hl:l.length ≤ 40):Ok 2 160 (i4 l):=by
 unfold i4
 split
 ·exact Ok.non.mono (by decide) (by decide)
 ·have:=a6D (k:=600) (l:=l5 l) (fun z hz=>(h z (a3D hz)).ps) (by decide)
  have hh:=a2c (l:=l) (by omega)
  exact this.mono (by decide) (by omega)
theorem a5C (v:Pt):∀ L:List Pt,((D.pys (L.map pt)).any fun y=>PyData.eqv y (pt v).py) = decide (v ∈ L)
 | []=>rfl
 | a :: r=>by
  simp only [List.map_cons,D.pys,List.any_cons]
  rw [b5P,a5C v r,Bool.eq_iff_iff]
  simp only [Bool.or_eq_true,decide_eq_true_iff,List.mem_cons]
  exact ⟨fun h=>h.imp Eq.symm id,fun h=>h.imp Eq.symm id⟩
theorem b5L {v:Pt} {L:List Pt} (hv:PtS 300 v) (hL:∀ p ∈ L,PtS 300 p):pIn (pt v) (.lst (L.map pt)) = some (.bl (decide (v ∈ L))):=by
 have e1:=(Ok.pt hv.ps (by decide)).eq
 have e2:=a3t (fd:=L) hL
 show (if A1 (pt v) && A1 (.lst (L.map pt)) then some (D.bl (id (inD (pt v) (L.map pt)))) else none) = _
 rw [e1,e2]
 show some (D.bl (inD (pt v) (L.map pt))) = _
 unfold inD
 rw [a5C]
noncomputable abbrev FBk:DFn:=a2Z FTn FEk
theorem b5f {fd:List Pt} {o:Pt} (fs:Option FS) (hf:∀ p ∈ fd,PtS 16 p) (hl:fd.length ≤ 16) (h0:0 < fd.length) (ho:PtS 300 o) (hin:∀ k,0 ≤ a7 (tk fd k) (tk fd (k + 1)) o):FBk [.tup (fd.map pt),pt o] fs = some (.bl true,fs):=by
 have lp:∀ (qs:List (Pt × Pt)) (x2 x3:Sl),(∀ q ∈ qs,q ∈ nbs true fd) → ∃ y2 y3,A9 (w6 2 (t9 (d0 2) (t9 (d0 3) w8))) (a6d FTn FEk) (qs.map fun q=>.tup [pt q.1,pt q.2]) ⟨[.val (.tup (fd.map pt)),.val (pt o),x2,x3],fs⟩ = some (.next,⟨[.val (.tup (fd.map pt)),.val (pt o),y2,y3],fs⟩):=by
  intro qs
  induction qs with
  | nil=>intro x2 x3 _; exact ⟨x2,x3,rfl⟩
  | cons q r ih=>
   intro x2 x3 h
   have hq:=h q (List.mem_cons_self ..)
   have T:=a1h q.1 q.2 o fs ((hf _ (a1u hq).1).ps.mono (by decide:32 ≤ 600)) ((hf _ (a1u hq).2).ps.mono (by decide:32 ≤ 600)) ho.ps (by decide)
   obtain ⟨k,e⟩:=(a1a h0 q).mp hq
   have n:¬ sgn (a7 q.1 q.2 o) = -1:=fun z=>by
    have:=(a5o _).mp z
    rw [e] at this
    exact absurd this (Rat.not_lt.mpr (hin k))
   obtain ⟨y2,y3,e2⟩:=ih (.val (pt q.1)) (.val (pt q.2)) fun z hz=>h z (List.mem_cons_of_mem _ hz)
   refine ⟨y2,y3,?_⟩
   rw [List.map_cons,M9 (s1:=⟨[.val (.tup (fd.map pt)),.val (pt o),.val (pt q.1),.val (pt q.2)],fs⟩) rfl (R8 (v8 (c6 (k6 rfl T) rfl ((W3 _ (-1)).trans (by rw [decide_eq_false n]))))),e2]
 obtain ⟨y2,y3,e⟩:=lp (nbs true fd) .no .no fun q hq=>hq
 refine u6 (s:=⟨[.val (.tup (fd.map pt)),.val (pt o),y2,y3],fs⟩) ?_
 show a4C FTn FEk ⟨[.val (.tup (fd.map pt)),.val (pt o),.no,.no],fs⟩ = _
 unfold a4C
 rw [j5 ((O6 (ds:=(nbs true fd).map fun q=>.tup [pt q.1,pt q.2]) (k6 rfl (a8m fd fs (by omega)))).trans e)]
 exact A2 rfl
noncomputable def crn (A:List Pt):List Pt:=if (l5 A).length < 3 then [] else l5 A
theorem a17 {A:List Pt} {q:Pt} (h:q ∈ crn A):q ∈ A:=by
 unfold crn at h
 split at h
 ·cases h
 ·exact a3D h
theorem a5X {A:List Pt} (h:A.length < 2 ^ 20):(crn A).length ≤ A.length:=by
 unfold crn
 split
 ·exact Nat.zero_le _
 ·exact a2c h
theorem b3b (A:List Pt) (s:DS) {f:DE} (h:f s = some (i4 A,s)):dCF (one a06) (a6 (a0A f (n9 a8)) a8) s = some ((crn A).map pt,s):=by
 have e:a0A f (n9 a8) s = some (.tup ((crn A).map pt),s):=by
  unfold a0A
  rw [h,Option.bind_some]
  unfold i4 crn
  by_cases c:(l5 A).length < 3
  ·rw [if_pos c,if_pos c]; rfl
  ·rw [if_neg c,if_neg c]
   cases w:l5 A with
   | nil=>rw [w] at c; exact absurd (by decide) c
   | cons p r=>rfl
 unfold dCF
 rw [u8 e (show a8 s = some ([],s) from rfl)]
 rfl
noncomputable abbrev E3:DM:=a9v FBk LCu FCo LPl C2 LRo Q7
noncomputable abbrev E2:DM:=a1O FBk LCu FCo LPl C2 LRo Q7
noncomputable abbrev E1:DM:=a0n FBk LCu FCo LPl C2 LRo Q7
noncomputable abbrev nS (x0 x2:Sl) (fd:List Pt) (x4 x5 x6 x7 x8 x9 x10 x11 x12 x13:Sl) (fs:Option FS):DS:=⟨[x0,.val .feed,x2,.val (.tup (fd.map pt)),x4,x5,x6,x7,x8,x9,x10,x11,x12,x13],fs⟩
theorem a87 {x0 x2 x4 x5 x6 x7 x8 x9 x10 x11:Sl} {fd:List Pt} {fs:Option FS} (acc A:List Pt) (h:acc.length + (crn A).length ≤ 1000):E3 (nS x0 x2 fd x4 x5 x6 x7 x8 x9 x10 x11 (.own (acc.map pt)) (.val (i4 A)) fs) = some (.next,nS x0 x2 fd x4 x5 x6 x7 x8 x9 x10 x11 (.own ((acc ++ crn A).map pt)) (.val (i4 A)) fs):=by
 show E4 12 _ _ = _
 refine (G8 (i:=12) (s1:=nS x0 x2 fd x4 x5 x6 x7 x8 x9 x10 x11 (.own (acc.map pt)) (.val (i4 A)) fs) (ds:=(acc ++ crn A).map pt) (a6E (x:=.lst (acc.map pt)) (y:=.lst ((crn A).map pt)) (s1:=nS x0 x2 fd x4 x5 x6 x7 x8 x9 x10 x11 (.own (acc.map pt)) (.val (i4 A)) fs) rfl (S8 (b3b A _ rfl)) ?_) (by show 12 < 14; decide)).trans rfl
 rw [List.map_append]
 exact if_pos (by rw [List.length_map,List.length_map]; exact Nat.le_trans h (by decide))
theorem b56 {fd:List Pt} (S:ShT fd) {a b:Pt} (ha:PtS 16 a) (hb:PtS 16 b) (x0 x2 x4 x5 x6 x9 x10 x11 x12 x13:Sl) (fs:Option FS) :
  ∃ y9 y10 y11 y12 y13,E2 (nS x0 x2 fd x4 x5 x6 (.val (pt a)) (.val (pt b)) x9 x10 x11 x12 x13 fs) = some (.next,nS x0 x2 fd x4 x5 x6 (.val (pt a)) (.val (pt b)) y9 y10 y11 y12 y13 fs):=by
 have c0:dB (dOp pNe (dL 7) (dL 8)) (nS x0 x2 fd x4 x5 x6 (.val (pt a)) (.val (pt b)) x9 x10 x11 x12 x13 fs) = some (!decide (a = b),nS x0 x2 fd x4 x5 x6 (.val (pt a)) (.val (pt b)) x9 x10 x11 x12 x13 fs):=v8 (c6 rfl rfl (a2A ha.ps hb.ps (by decide) (by decide)))
 by_cases ab:a = b
 ·rw [decide_eq_true ab] at c0
  exact ⟨x9,x10,x11,x12,x13,(P4 c0).trans rfl⟩
 rw [decide_eq_false ab] at c0
 obtain ⟨p,R⟩:=b3J S
 have h3:=S.lo
 have h0:0 < fd.length:=by omega
 have l16:=a9n S
 have hf:=S.sz
 have nl:=a34 true fd
 have a1:=a9b fs ha hb hf h0 l16
 have a2:=a9b fs hb ha hf h0 l16
 have b1:=a7Y fs ha hb hf h0 l16
 have b2:=a7Y fs hb ha hf h0 l16
 have lA:=a1o a b (nbs true fd)
 have lB:=a1o b a (nbs true fd)
 have kA:=a29 a b fd
 have kB:=a29 b a fd
 have inA:=fun q=>a4J h0 a b q
 have inB:=fun q=>a4J h0 b a q
 rw [a89 (l:=kpL a b fd) (m:=clL a b (nbs true fd)) (by omega) (by omega) (fun q=>(a2H h0 a b q).trans (inA q).symm)] at b1
 rw [a89 (l:=kpL b a fd) (m:=clL b a (nbs true fd)) (by omega) (by omega) (fun q=>(a2H h0 b a q).trans (inB q).symm)] at b2
 have sA:∀ q ∈ clL a b (nbs true fd),PtS 300 q:=fun q hq=>a2h h0 ha hb hf ((inA q).mp hq)
 have sB:∀ q ∈ clL b a (nbs true fd),PtS 300 q:=fun q hq=>a2h h0 hb ha hf ((inB q).mp hq)
 have cor:=fun v hv=>b6q R h3 ab (A:=clL a b (nbs true fd)) (B:=clL b a (nbs true fd)) (by omega) (by omega) inA inB (v:=v) hv
 have wA:∀ q ∈ clL a b (nbs true fd),∀ k,0 ≤ a7 (tk fd k) (tk fd (k + 1)) q:=fun q hq k=>a9C R h3 (fun z hz=>hz) ((inA q).mp hq) k
 have wB:∀ q ∈ clL b a (nbs true fd),∀ k,0 ≤ a7 (tk fd k) (tk fd (k + 1)) q:=fun q hq k=>a9C R h3 (fun z hz=>hz) ((inB q).mp hq) k
 have lA':(clL a b (nbs true fd)).length ≤ 32:=by omega
 have lB':(clL b a (nbs true fd)).length ≤ 32:=by omega
 generalize clL a b (nbs true fd) = A at *
 generalize clL b a (nbs true fd) = B at *
 have okF:Ok 3 322 (.lst [i4 A,i4 B]):=(Ok.lst (OkL.cons (a8q sA (by omega)) (OkL.cons (a8q sB (by omega)) OkL.nil))).mono (by decide) (by decide)
 have rF:=okF.repr (by decide) (by decide)
 have okS:Ok 2 64 (.tup (fd.map pt)):=(a6D (k:=32) (fun z hz=>(hf z hz).ps) (by decide)).mono (by decide) (by omega)
 have rS:=okS.repr (by decide) (by decide)
 generalize (D.tup (fd.map pt)).py.shown = kept at *
 generalize (D.lst [i4 A,i4 B]).py.shown = due at *
 have cA:=a5X (A:=A) (by omega)
 have cB:=a5X (A:=B) (by omega)
 have all1:∀ v ∈ fd,v ∈ crn A ++ crn B:=fun v hv=>by
  rw [List.mem_append]
  rcases cor v hv with ⟨w1,w2⟩ | ⟨w1,w2⟩
  ·left; unfold crn; rw [if_neg (by omega)]; exact w2
  ·right; unfold crn; rw [if_neg (by omega)]; exact w2
 have sC:∀ q ∈ crn A ++ crn B,PtS 300 q:=fun q hq=>by
  rcases List.mem_append.mp hq with w | w
  ·exact sA q (a17 w)
  ·exact sB q (a17 w)
 have wC:∀ q ∈ crn A ++ crn B,∀ k,0 ≤ a7 (tk fd k) (tk fd (k + 1)) q:=fun q hq=>by
  rcases List.mem_append.mp hq with w | w
  ·exact wA q (a17 w)
  ·exact wB q (a17 w)
 have lC:(crn A ++ crn B).length ≤ 64:=by rw [List.length_append]; omega
 refine ⟨.val (.str kept),.val (.lst [i4 A,i4 B]),.own [i4 A,i4 B],.val (.lst ((crn A ++ crn B).map pt)),.val (i4 B),?_⟩
 show a1O FBk LCu FCo LPl C2 LRo Q7 _ = _
 unfold a1O
 rw [K1 c0]
 rw [j5 (s1:=nS x0 x2 fd x4 x5 x6 (.val (pt a)) (.val (pt b)) (.val (.str kept)) x10 x11 x12 x13 fs) (o9 (F0 rfl rS) rfl)]
 rw [j5 (s1:=nS x0 x2 fd x4 x5 x6 (.val (pt a)) (.val (pt b)) (.val (.str kept)) (.own [i4 A,i4 B]) x11 x12 x13 fs) (G8 (i:=10) (s1:=nS x0 x2 fd x4 x5 x6 (.val (pt a)) (.val (pt b)) (.val (.str kept)) x10 x11 x12 x13 fs) (ds:=[i4 A,i4 B]) (a3a (k6 rfl a1) (k6 rfl a2)) (by show 10 < 14; decide))]
 rw [j5 (s1:=nS x0 x2 fd x4 x5 x6 (.val (pt a)) (.val (pt b)) (.val (.str kept)) (.own [i4 A,i4 B]) (.own [i4 A,i4 B]) x12 x13 fs) (G8 (i:=11) (s1:=nS x0 x2 fd x4 x5 x6 (.val (pt a)) (.val (pt b)) (.val (.str kept)) (.own [i4 A,i4 B]) x11 x12 x13 fs) (ds:=[i4 A,i4 B]) (a3a (k6 rfl b1) (k6 rfl b2)) (by show 11 < 14; decide))]
 rw [j5 (s1:=nS x0 x2 fd x4 x5 x6 (.val (pt a)) (.val (pt b)) (.val (.str kept)) (.own [i4 A,i4 B]) (.own [i4 A,i4 B]) x12 x13 fs) (R8 (V7 (s1:=nS x0 x2 fd x4 x5 x6 (.val (pt a)) (.val (pt b)) (.val (.str kept)) (.own [i4 A,i4 B]) (.own [i4 A,i4 B]) x12 x13 fs)
  (v8 (c6 (s1:=nS x0 x2 fd x4 x5 x6 (.val (pt a)) (.val (pt b)) (.val (.str kept)) (.own [i4 A,i4 B]) (.own [i4 A,i4 B]) x12 x13 fs) (F0 rfl rF) (F0 rfl rF) (a8E _))) (v8 (c6 (s1:=nS x0 x2 fd x4 x5 x6 (.val (pt a)) (.val (pt b)) (.val (.str kept)) (.own [i4 A,i4 B]) (.own [i4 A,i4 B]) x12 x13 fs) (F0 rfl rS) rfl (a8E _)))))]
 rw [j5 (s1:=nS x0 x2 fd x4 x5 x6 (.val (pt a)) (.val (pt b)) (.val (.str kept)) (.own [i4 A,i4 B]) (.own [i4 A,i4 B]) (.own (([]:List Pt).map pt)) x13 fs) (G8 (i:=12) (s1:=nS x0 x2 fd x4 x5 x6 (.val (pt a)) (.val (pt b)) (.val (.str kept)) (.own [i4 A,i4 B]) (.own [i4 A,i4 B]) x12 x13 fs) (ds:=[]) rfl (by show 12 < 14; decide))]
 have lp:A9 (d0 13) E3 [i4 A,i4 B] (nS x0 x2 fd x4 x5 x6 (.val (pt a)) (.val (pt b)) (.val (.str kept)) (.val (.lst [i4 A,i4 B])) (.own [i4 A,i4 B]) (.own (([]:List Pt).map pt)) x13 fs) = some (.next,nS x0 x2 fd x4 x5 x6 (.val (pt a)) (.val (pt b)) (.val (.str kept)) (.val (.lst [i4 A,i4 B])) (.own [i4 A,i4 B]) (.own ((crn A ++ crn B).map pt)) (.val (i4 B)) fs):=by
  rw [M9 (s1:=nS x0 x2 fd x4 x5 x6 (.val (pt a)) (.val (pt b)) (.val (.str kept)) (.val (.lst [i4 A,i4 B])) (.own [i4 A,i4 B]) (.own (([]:List Pt).map pt)) (.val (i4 A)) fs) rfl (a87 [] A (by rw [List.length_nil]; omega)),List.nil_append]
  rw [M9 (s1:=nS x0 x2 fd x4 x5 x6 (.val (pt a)) (.val (pt b)) (.val (.str kept)) (.val (.lst [i4 A,i4 B])) (.own [i4 A,i4 B]) (.own ((crn A).map pt)) (.val (i4 B)) fs) rfl (a87 (crn A) B (by omega))]
  rfl
 rw [j5 ((O6 (s1:=nS x0 x2 fd x4 x5 x6 (.val (pt a)) (.val (pt b)) (.val (.str kept)) (.val (.lst [i4 A,i4 B])) (.own [i4 A,i4 B]) (.own (([]:List Pt).map pt)) x13 fs) (ds:=[i4 A,i4 B]) rfl).trans lp)]
 have m1:=a5p (idx:=[12]) (fe:=dOp pIn (dL 0) (dL 1)) (g:=fun _=>.bl true) [.val (.lst ((crn A ++ crn B).map pt))] fs (fd.map pt) (fun d hd=>by
  obtain ⟨z,hz,rfl⟩:=List.mem_map.mp hd
  exact ⟨_,c6 rfl rfl ((b5L ((hf z hz).mono (by decide)) sC).trans (by rw [decide_eq_true (all1 z hz)])),rfl⟩)
 have m2:=a5p (idx:=[3]) (fe:=c7 FBk (a6 (dV 1) (a6 (dV 0) a8))) (g:=fun _=>.bl true) [.val (.tup (fd.map pt))] fs ((crn A ++ crn B).map pt) (fun d hd=>by
  obtain ⟨z,hz,rfl⟩:=List.mem_map.mp hd
  exact ⟨_,k6 rfl (b5f fs hf l16 h0 (sC z hz) (wC z hz)),rfl⟩)
 have tr:∀ l:List D,pIn (.bl false) (.lst (l.map fun _=>D.bl true)) = some (.bl false):=fun l=>by
  have:=b23 (l.map fun _=>true)
  rw [List.map_map] at this
  rw [show l.map (fun _=>D.bl true) = l.map (D.bl ∘ fun _=>true) from rfl,this]
  simp
 generalize crn A ++ crn B = C at *
 have d1:dB (dOp pIn (dC (.bl false)) (r8 (a4i [12] (G1 [12] (K4 (dV 3)) E8 (dOp pIn (dL 0) (dL 1)))))) (nS x0 x2 fd x4 x5 x6 (.val (pt a)) (.val (pt b)) (.val (.str kept)) (.val (.lst [i4 A,i4 B])) (.own [i4 A,i4 B]) (.own (C.map pt)) (.val (i4 B)) fs) = some (false,nS x0 x2 fd x4 x5 x6 (.val (pt a)) (.val (pt b)) (.val (.str kept)) (.val (.lst [i4 A,i4 B])) (.own [i4 A,i4 B]) (.val (.lst (C.map pt))) (.val (i4 B)) fs):=
  v8 (c6 rfl (S8 (show G1 [12] (K4 (dV 3)) E8 (dOp pIn (dL 0) (dL 1)) (nS x0 x2 fd x4 x5 x6 (.val (pt a)) (.val (pt b)) (.val (.str kept)) (.val (.lst [i4 A,i4 B])) (.own [i4 A,i4 B]) (.val (.lst (C.map pt))) (.val (i4 B)) fs) = _ from a1v (idx:=[12]) (fi:=K4 (dV 3)) (s:=nS x0 x2 fd x4 x5 x6 (.val (pt a)) (.val (pt b)) (.val (.str kept)) (.val (.lst [i4 A,i4 B])) (.own [i4 A,i4 B]) (.val (.lst (C.map pt))) (.val (i4 B)) fs) (s1:=nS x0 x2 fd x4 x5 x6 (.val (pt a)) (.val (pt b)) (.val (.str kept)) (.val (.lst [i4 A,i4 B])) (.own [i4 A,i4 B]) (.val (.lst (C.map pt))) (.val (i4 B)) fs) (ds:=fd.map pt) rfl (by rw [List.length_map]; exact Nat.le_trans l16 (by decide)) m1)) (tr _))
 have d2:dB (dOp pIn (dC (.bl false)) (r8 (G1 [3] (K4 (dV 12)) E8 (c7 FBk (a6 (dV 1) (a6 (dV 0) a8)))))) (nS x0 x2 fd x4 x5 x6 (.val (pt a)) (.val (pt b)) (.val (.str kept)) (.val (.lst [i4 A,i4 B])) (.own [i4 A,i4 B]) (.val (.lst (C.map pt))) (.val (i4 B)) fs) = some (false,nS x0 x2 fd x4 x5 x6 (.val (pt a)) (.val (pt b)) (.val (.str kept)) (.val (.lst [i4 A,i4 B])) (.own [i4 A,i4 B]) (.val (.lst (C.map pt))) (.val (i4 B)) fs):=
  v8 (c6 rfl (S8 (a1v (idx:=[3]) (fi:=K4 (dV 12)) (s:=nS x0 x2 fd x4 x5 x6 (.val (pt a)) (.val (pt b)) (.val (.str kept)) (.val (.lst [i4 A,i4 B])) (.own [i4 A,i4 B]) (.val (.lst (C.map pt))) (.val (i4 B)) fs) (s1:=nS x0 x2 fd x4 x5 x6 (.val (pt a)) (.val (pt b)) (.val (.str kept)) (.val (.lst [i4 A,i4 B])) (.own [i4 A,i4 B]) (.val (.lst (C.map pt))) (.val (i4 B)) fs) (ds:=C.map pt) rfl (by rw [List.length_map]; exact Nat.le_trans lC (by decide)) m2)) (tr _))
 exact R8 (V7 d1 d2)
theorem a5u {l:List Pt} {i:Int} (h1:-(l.length:Int) ≤ i) (h2:i < l.length):∃ y,y ∈ l ∧ atI (l.map pt) i = some (pt y):=by
 unfold atI ixN
 rw [List.length_map]
 by_cases h:0 ≤ i
 ·rw [if_pos h,if_pos h2]
  obtain ⟨y,hy⟩:∃ y,l[i.toNat]? = some y:=⟨_,List.getElem?_eq_getElem (by omega)⟩
  exact ⟨y,List.mem_of_getElem? hy,by show (l.map pt)[i.toNat]? = _; rw [List.getElem?_map,hy]; rfl⟩
 ·rw [if_neg h,if_pos h1]
  obtain ⟨y,hy⟩:∃ y,l[(i + (l.length:Int)).toNat]? = some y:=⟨_,List.getElem?_eq_getElem (by omega)⟩
  exact ⟨y,List.mem_of_getElem? hy,by show (l.map pt)[(i + (l.length:Int)).toNat]? = _; rw [List.getElem?_map,hy]; rfl⟩
theorem a8Y {fd:List Pt} (S:ShT fd) (x0 x2 x4 x5 x6:Sl) (fs:Option FS):∀ (qs:List (Pt × Pt)) (x7 x8 x9 x10 x11 x12 x13:Sl),(∀ q ∈ qs,PtS 16 q.1 ∧ PtS 16 q.2) → ∃ y7 y8 y9 y10 y11 y12 y13,A9 (w6 2 (t9 (d0 7) (t9 (d0 8) w8))) E2 (qs.map fun q=>.tup [pt q.1,pt q.2]) (nS x0 x2 fd x4 x5 x6 x7 x8 x9 x10 x11 x12 x13 fs) = some (.next,nS x0 x2 fd x4 x5 x6 y7 y8 y9 y10 y11 y12 y13 fs)
 | [],x7,x8,x9,x10,x11,x12,x13,_=>⟨x7,x8,x9,x10,x11,x12,x13,rfl⟩
 | q :: r,x7,x8,x9,x10,x11,x12,x13,h=>by
  obtain ⟨h1,h2⟩:=h q (List.mem_cons_self ..)
  obtain ⟨z9,z10,z11,z12,z13,e⟩:=b56 S h1 h2 x0 x2 x4 x5 x6 x9 x10 x11 x12 x13 fs
  obtain ⟨y7,y8,y9,y10,y11,y12,y13,e2⟩:=a8Y S x0 x2 x4 x5 x6 fs r (.val (pt q.1)) (.val (pt q.2)) z9 z10 z11 z12 z13 fun z hz=>h z (List.mem_cons_of_mem _ hz)
  refine ⟨y7,y8,y9,y10,y11,y12,y13,?_⟩
  rw [List.map_cons,M9 (s1:=nS x0 x2 fd x4 x5 x6 (.val (pt q.1)) (.val (pt q.2)) x9 x10 x11 x12 x13 fs) rfl e,e2]
theorem b6l {n:Nat} {f:FS} (h:Fd n f) (hn:n < 2 ^ 20) (x0 x2 x3 x4 x5 x6 x7 x8 x9 x10 x11 x12 x13:Sl):∃ y3 y4 y5 y6 y7 y8 y9 y10 y11 y12 y13 f',E1 ⟨[x0,.val .feed,x2,x3,x4,x5,x6,x7,x8,x9,x10,x11,x12,x13],some f⟩ = some (.next,⟨[x0,.val .feed,x2,y3,y4,y5,y6,y7,y8,y9,y10,y11,y12,y13],some f'⟩) ∧ Fd (n + 60) f':=by
 obtain ⟨fd,f1,e1,S,h1⟩:=b0x h (by omega)
 have lo:=S.lo
 obtain ⟨r,f2,e2,a1,a2,h2⟩:=P7 (fd.length:Int) h1 (by omega) (by omega) (by have:=a9n S; omega)
 obtain ⟨fr',f3,e3,s3,h3⟩:=a3h h2 (by omega)
 obtain ⟨nw,f4,e4,s4,h4⟩:=a3h h3 (by omega)
 obtain ⟨u,hu,iu⟩:=a5u (l:=fd) (i:=r - 1) (by omega) (by omega)
 obtain ⟨v,hv,iv⟩:=a5u (l:=fd) (i:=r) (by omega) (by omega)
 obtain ⟨w,hw,iw⟩:=a5u (l:=fd) (i:=r - 2) (by omega) (by omega)
 have s16:∀ {p:Pt},PtS 5 p → PtS 16 p:=fun h=>h.mono (by decide)
 obtain ⟨y7,y8,y9,y10,y11,y12,y13,e5⟩:=a8Y S x0 x2 (.val (.int r)) (.val (pt fr')) (.val (.lst ([(u,v),(v,w),(v,fr'),(nw,fr')].map fun q=>.tup [pt q.1,pt q.2]))) (some f4) [(u,v),(v,w),(v,fr'),(nw,fr')] x7 x8 x9 x10 x11 x12 x13 (by
  intro q hq
  simp only [List.mem_cons,List.not_mem_nil,or_false] at hq
  rcases hq with rfl | rfl | rfl | rfl
  ·exact ⟨S.sz _ hu,S.sz _ hv⟩
  ·exact ⟨S.sz _ hv,S.sz _ hw⟩
  ·exact ⟨S.sz _ hv,s16 s3⟩
  ·exact ⟨s16 s4,s16 s3⟩)
 refine ⟨.val (.tup (fd.map pt)),.val (.int r),.val (pt fr'),.val (.lst ([(u,v),(v,w),(v,fr'),(nw,fr')].map fun q=>.tup [pt q.1,pt q.2])),y7,y8,y9,y10,y11,y12,y13,f4,?_,h4.mono (by omega)⟩
 show a0n FBk LCu FCo LPl C2 LRo Q7 _ = _
 unfold a0n
 rw [j5 (s1:=nS x0 x2 fd x4 x5 x6 x7 x8 x9 x10 x11 x12 x13 (some f1)) (o9 (J7 rfl e1) rfl)]
 have len:dCB (one k9) (a6 (dL 3) a8) (nS x0 x2 fd x4 x5 x6 x7 x8 x9 x10 x11 x12 x13 (some f1)) = some (.int (fd.length:Int),nS x0 x2 fd x4 x5 x6 x7 x8 x9 x10 x11 x12 x13 (some f1)):=by
  refine F0 (x:=.tup (fd.map pt)) rfl ?_
  show some (D.int ((fd.map pt).length:Nat)) = _
  rw [List.length_map]
 rw [j5 (s1:=nS x0 x2 fd (.val (.int r)) x5 x6 x7 x8 x9 x10 x11 x12 x13 (some f2)) (o9 (J7 (y0 rfl (y0 len rfl)) e2) rfl)]
 rw [j5 (s1:=nS x0 x2 fd (.val (.int r)) (.val (pt fr')) x6 x7 x8 x9 x10 x11 x12 x13 (some f3)) (o9 (J7 rfl e3) rfl)]
 have g:∀ (i:Int) (y:Pt) (e:DE),e (nS x0 x2 fd (.val (.int r)) (.val (pt fr')) x6 x7 x8 x9 x10 x11 x12 x13 (some f3)) = some (.int i,nS x0 x2 fd (.val (.int r)) (.val (pt fr')) x6 x7 x8 x9 x10 x11 x12 x13 (some f3)) → atI (fd.map pt) i = some (pt y) → dOp pIx (dL 3) e (nS x0 x2 fd (.val (.int r)) (.val (pt fr')) x6 x7 x8 x9 x10 x11 x12 x13 (some f3)) = some (pt y,nS x0 x2 fd (.val (.int r)) (.val (pt fr')) x6 x7 x8 x9 x10 x11 x12 x13 (some f3)):=fun i y e h1 h2=>c6 (x:=.tup (fd.map pt)) rfl h1 ((ixT _ _).trans h2)
 rw [j5 (s1:=nS x0 x2 fd (.val (.int r)) (.val (pt fr')) (.own ([(u,v),(v,w),(v,fr')].map fun q=>.tup [pt q.1,pt q.2])) x7 x8 x9 x10 x11 x12 x13 (some f3)) (G8 (i:=6) (s1:=nS x0 x2 fd (.val (.int r)) (.val (pt fr')) x6 x7 x8 x9 x10 x11 x12 x13 (some f3)) (ds:=[(u,v),(v,w),(v,fr')].map fun q=>.tup [pt q.1,pt q.2])
  (b4U (y0 (T2 (g (r - 1) u _ (c6 rfl rfl rfl) iu) (g r v _ rfl iv)) (y0 (T2 (g r v _ rfl iv) (g (r - 2) w _ (c6 rfl rfl rfl) iw)) (y0 (T2 (g r v _ rfl iv) rfl) rfl))) (by show 3 ≤ sizeLine; decide)) (by show 6 < 14; decide))]
 rw [j5 (s1:=nS x0 x2 fd (.val (.int r)) (.val (pt fr')) (.own ([(u,v),(v,w),(v,fr'),(nw,fr')].map fun q=>.tup [pt q.1,pt q.2])) x7 x8 x9 x10 x11 x12 x13 (some f4)) (Q4 (i:=6) (s:=nS x0 x2 fd (.val (.int r)) (.val (pt fr')) (.own ([(u,v),(v,w),(v,fr')].map fun q=>.tup [pt q.1,pt q.2])) x7 x8 x9 x10 x11 x12 x13 (some f3)) (s1:=nS x0 x2 fd (.val (.int r)) (.val (pt fr')) (.own ([(u,v),(v,w),(v,fr')].map fun q=>.tup [pt q.1,pt q.2])) x7 x8 x9 x10 x11 x12 x13 (some f4)) (ds:=[(u,v),(v,w),(v,fr')].map fun q=>.tup [pt q.1,pt q.2]) (ds0:=[(u,v),(v,w),(v,fr')].map fun q=>.tup [pt q.1,pt q.2]) (d:=.tup [pt nw,pt fr']) rfl (T2 (J7 rfl e4) rfl) rfl (by show 3 < sizeLine; decide))]
 exact (O6 (s1:=nS x0 x2 fd (.val (.int r)) (.val (pt fr')) (.val (.lst ([(u,v),(v,w),(v,fr'),(nw,fr')].map fun q=>.tup [pt q.1,pt q.2]))) x7 x8 x9 x10 x11 x12 x13 (some f4)) (ds:=[(u,v),(v,w),(v,fr'),(nw,fr')].map fun q=>.tup [pt q.1,pt q.2]) rfl).trans e5
theorem b4z {m1 m2 m3 m4 m5 m6 m7:DFn} {ns:List Int} {f0 f':FS} {x2 x3 x4 x5 x6 x7 x8 x9 x10 x11 x12 x13:Sl} (e0:m7 [.scr ns] none = some (.feed,some f0))
  (e:A9 (d0 2) (a0n m1 m2 m3 m4 m5 m6 m7) (ups 0 5) ⟨[.val (.scr ns),.val .feed,.no,.no,.no,.no,.no,.no,.no,.no,.no,.no,.no,.no],some f0⟩ = some (.next,⟨[.val (.scr ns),.val .feed,x2,x3,x4,x5,x6,x7,x8,x9,x10,x11,x12,x13],some f'⟩)):a2i m1 m2 m3 m4 m5 m6 m7 [.scr ns] none = some (.bl true,some f'):=by
 refine u6 (s:=⟨[.val (.scr ns),.val .feed,x2,x3,x4,x5,x6,x7,x8,x9,x10,x11,x12,x13],some f'⟩) ?_
 show a2D m1 m2 m3 m4 m5 m6 m7 ⟨[.val (.scr ns),.no,.no,.no,.no,.no,.no,.no,.no,.no,.no,.no,.no,.no],none⟩ = _
 unfold a2D
 rw [j5 (s1:=⟨[.val (.scr ns),.val .feed,.no,.no,.no,.no,.no,.no,.no,.no,.no,.no,.no,.no],some f0⟩) (o9 (J7 rfl e0) rfl)]
 rw [j5 ((a6u rfl (a2p (n:=5) (by decide))).trans e)]
 exact A2 rfl
theorem math (ns:List Int) (hl:ns.length ≤ 63):∃ fs',a2i FBk LCu FCo LPl C2 LRo Q7 [.scr ns] none = some (.bl true,fs'):=by
 obtain ⟨s',e,x2,x3,x4,x5,x6,x7,x8,x9,x10,x11,x12,x13,f',rfl,hf⟩:=a3R (t:=d0 2) (b:=E1) (fun i s=>∃ x2 x3 x4 x5 x6 x7 x8 x9 x10 x11 x12 x13 f,s = ⟨[.val (.scr ns),.val .feed,x2,x3,x4,x5,x6,x7,x8,x9,x10,x11,x12,x13],some f⟩ ∧ Fd (60 * i) f) (ups 0 5) 0
  ⟨[.val (.scr ns),.val .feed,.no,.no,.no,.no,.no,.no,.no,.no,.no,.no,.no,.no],some ⟨ns,0,0,0,0⟩⟩ ⟨_,_,_,_,_,_,_,_,_,_,_,_,_,rfl,Fd.zero ns⟩ (by
   rintro i d s hd ⟨x2,x3,x4,x5,x6,x7,x8,x9,x10,x11,x12,x13,f,rfl,hf⟩
   obtain ⟨rfl,hi⟩:=a5M hd
   obtain ⟨y3,y4,y5,y6,y7,y8,y9,y10,y11,y12,y13,f',e,h'⟩:=b6l hf (by omega) (.val (.scr ns)) (.val (.int (0 + (i:Int)))) x3 x4 x5 x6 x7 x8 x9 x10 x11 x12 x13
   exact ⟨_,_,rfl,.inl e,_,_,_,_,_,_,_,_,_,_,_,_,f',rfl,h'.mono (by omega)⟩)
 exact ⟨_,b4z (b1a ns hl) e⟩
end T
namespace T
open PySem PySem.Spec L2 DL
noncomputable def top (i:Nat):Stmt:=PySem.Challenge.pw_widelines_k10_what_is_cut_off.main.body.getD i (.Pass ⟨0,0,0,0⟩)
noncomputable abbrev a4A:Stmt:=top 23
theorem sc_law_feed:FnScope ["_law_script"] ["_law_script"] (m9 a4A):=⟨rfl,rfl,rfl,by decide +kernel,rfl,by decide +kernel,by decide +kernel⟩
set_option maxHeartbeats 4000000 in
section
variable {P:Program} {w:World} {K:PySem.W.Frag} {mg:Str → Option Value} {base:Heap}
theorem b3k {f:Addr} {fd:FuncData} (B:Blt mg) (F:GF K mg "_law_feed" a4A f fd):Cal P w K mg base 1 "_law_feed" ["_law_script"] (Q7):=
 w4 F (fun _ _ _ _ _ _=>on1 fun _=>rfl) sc_law_feed fun cdv A outer s H E g hr=>
  have nd:=sc_law_feed.nd
  (j9 (p7 (b0H (pv 0))))
noncomputable abbrev a4t:Stmt:=top 25
theorem sc_law_fraction:FnScope ["_law_top", "_law_bottom", "_law_one", "_law_other"] ["_law_top", "_law_bottom"] (m9 a4t):=⟨rfl,rfl,rfl,by decide +kernel,rfl,by decide +kernel,by decide +kernel⟩
set_option maxHeartbeats 4000000 in
theorem b11 {f:Addr} {fd:FuncData} (B:Blt mg) (F:GF K mg "_law_fraction" a4t f fd):Cal P w K mg base 1 "_law_fraction" ["_law_top", "_law_bottom"] (B3):=
 w4 F (fun _ _ _ _ _ _=>on2 fun _ _=>rfl) sc_law_fraction fun cdv A outer s H E g hr=>
  have nd:=sc_law_fraction.nd
  (j3 (l6 (i:=2) nd rfl (by first | exact Or.inl rfl | exact Or.inr rfl) (D2 a1z a1Y (by rfl) B.abs a1e (bc (a9 (pv 0)) A5))) (j3 (l6 (i:=3) nd rfl (by first | exact Or.inl rfl | exact Or.inr rfl) (D2 a1z a1Y (by rfl) B.abs a1e (bc (a9 (pv 1)) A5))) (j3 (a0m PassesOwn.never (v7 R4 (B9 (fun i j=>decide (j < i))) (a9 (pv 3)) (EO.b b0) (u7 _)) (j9 (a9k (i:=2) (j:=3) rfl nd rfl rfl (by decide) rfl rfl (ac (c8 (pv 3)) (ac (i9 P9 Q5 (a9 (pv 2)) (a9 (pv 3))) i0)) rfl))) (j3 (D7 (v7 K6 (B9 (fun i j=>decide (i < j))) (a9 (pv 1)) (EO.b b0) (u7 _)) (j9 (l6 (i:=2) nd rfl (by first | exact Or.inl rfl | exact Or.inr rfl) (i9 D6 D5 (EO.b b0) (a9 (pv 2))))) D3) (j9 (p7 (C9 (ac (i9 P6 O0 (a9 (pv 0)) (a9 (pv 2))) (ac (i9 P6 O0 (a9 (pv 1)) (a9 (pv 2))) i0)))))))))
noncomputable abbrev a36:Stmt:=top 33
theorem sc_law_lesser:FnScope ["_law_one", "_law_other", "_law_first"] ["_law_one", "_law_other"] (m9 a36):=⟨rfl,rfl,rfl,by decide +kernel,rfl,by decide +kernel,by decide +kernel⟩
set_option maxHeartbeats 4000000 in
theorem b28 {f:Addr} {fd:FuncData} (B:Blt mg) (F:GF K mg "_law_lesser" a36 f fd):Cal P w K mg base 1 "_law_lesser" ["_law_one", "_law_other"] (F3):=
 w4 F (fun _ _ _ _ _ _=>on2 fun _ _=>rfl) sc_law_lesser fun cdv A outer s H E g hr=>
  have nd:=sc_law_lesser.nd
  (j3 (l6 (i:=2) nd rfl (by first | exact Or.inl rfl | exact Or.inr rfl) (i9 D6 D5 (EO.b (i9 o0 o6 (EO.b (i7 i5 i6 (a9 (pv 0)) (EO.b b0) (fun _ _=>rfl))) (EO.b (i7 i5 i6 (a9 (pv 1)) (EO.b b0) (fun _ _=>rfl))))) (EO.b (i9 o0 o6 (EO.b (i7 i5 i6 (a9 (pv 1)) (EO.b b0) (fun _ _=>rfl))) (EO.b (i7 i5 i6 (a9 (pv 0)) (EO.b b0) (fun _ _=>rfl))))))) (j9 (p7 (b4h (P5 K6 (B9 (fun i j=>decide (i < j))) (a9 (pv 2)) (EO.b b0) (u7 _)) (a3E (b53 (P5 (X0 (u64 hr)) a0i (a9 (pv 2)) (EO.b b0) (u7 _)) (a3E (P5 K6 (B9 (fun i j=>decide (i < j))) (EO.b (i9 o0 o6 (EO.b (i7 i5 i6 (a9 (pv 0)) (EO.b b0) (fun _ _=>rfl))) (EO.b (i7 i5 i6 (a9 (pv 1)) (EO.b b0) (fun _ _=>rfl))))) (EO.b (i9 o0 o6 (EO.b (i7 i5 i6 (a9 (pv 1)) (EO.b b0) (fun _ _=>rfl))) (EO.b (i7 i5 i6 (a9 (pv 0)) (EO.b b0) (fun _ _=>rfl))))) (u7 _)))))))))
noncomputable abbrev a4X:Stmt:=top 32
theorem sc_law_turn:FnScope ["_law_a", "_law_b", "_law_c", "_law_first", "_law_second"] ["_law_a", "_law_b", "_law_c"] (m9 a4X):=⟨rfl,rfl,rfl,by decide +kernel,rfl,by decide +kernel,by decide +kernel⟩
set_option maxHeartbeats 4000000 in
theorem b3B {f:Addr} {fd:FuncData} (B:Blt mg) (F:GF K mg "_law_turn" a4X f fd):Cal P w K mg base 1 "_law_turn" ["_law_a", "_law_b", "_law_c"] (C8):=
 w4 F (fun _ _ _ _ _ _=>on3 fun _ _ _=>rfl) sc_law_turn fun cdv A outer s H E g hr=>
  have nd:=sc_law_turn.nd
  (j3 (l6 (i:=3) nd rfl (by first | exact Or.inl rfl | exact Or.inr rfl) (i9 o0 o6 (EO.b (i9 D6 D5 (EO.b (i9 o0 o6 (EO.b (i7 i5 i6 (a9 (pv 1)) (EO.b b0) (fun _ _=>rfl))) (EO.b (i7 i5 i6 (a9 (pv 0)) (EO.b b0) (fun _ _=>rfl))))) (EO.b (i9 o0 o6 (EO.b (i7 i5 i6 (a9 (pv 0)) (EO.b b0) (fun _ _=>rfl))) (EO.b (i7 i5 i6 (a9 (pv 1)) (EO.b b0) (fun _ _=>rfl))))))) (EO.b (i9 D6 D5 (EO.b (i9 o0 o6 (EO.b (i7 i5 i6 (a9 (pv 2)) (EO.b b0) (fun _ _=>rfl))) (EO.b (i7 i5 i6 (a9 (pv 0)) (EO.b b0) (fun _ _=>rfl))))) (EO.b (i9 o0 o6 (EO.b (i7 i5 i6 (a9 (pv 0)) (EO.b b0) (fun _ _=>rfl))) (EO.b (i7 i5 i6 (a9 (pv 2)) (EO.b b0) (fun _ _=>rfl))))))))) (j3 (l6 (i:=4) nd rfl (by first | exact Or.inl rfl | exact Or.inr rfl) (i9 o0 o6 (EO.b (i9 D6 D5 (EO.b (i9 o0 o6 (EO.b (i7 i5 i6 (a9 (pv 1)) (EO.b b0) (fun _ _=>rfl))) (EO.b (i7 i5 i6 (a9 (pv 0)) (EO.b b0) (fun _ _=>rfl))))) (EO.b (i9 o0 o6 (EO.b (i7 i5 i6 (a9 (pv 0)) (EO.b b0) (fun _ _=>rfl))) (EO.b (i7 i5 i6 (a9 (pv 1)) (EO.b b0) (fun _ _=>rfl))))))) (EO.b (i9 D6 D5 (EO.b (i9 o0 o6 (EO.b (i7 i5 i6 (a9 (pv 2)) (EO.b b0) (fun _ _=>rfl))) (EO.b (i7 i5 i6 (a9 (pv 0)) (EO.b b0) (fun _ _=>rfl))))) (EO.b (i9 o0 o6 (EO.b (i7 i5 i6 (a9 (pv 0)) (EO.b b0) (fun _ _=>rfl))) (EO.b (i7 i5 i6 (a9 (pv 2)) (EO.b b0) (fun _ _=>rfl))))))))) (j9 (p7 (i9 D6 D5 (EO.b (a0U a5z a60 (by rfl) B.int a8T (bc (EO.b (P5 R4 (B9 (fun i j=>decide (j < i))) (a9 (pv 3)) (a9 (pv 4)) (u7 _))) A5))) (EO.b (a0U a5z a60 (by rfl) B.int a8T (bc (EO.b (P5 K6 (B9 (fun i j=>decide (i < j))) (a9 (pv 3)) (a9 (pv 4)) (u7 _))) A5))))))))
noncomputable abbrev a43:Stmt:=top 26
theorem sc_law_sum:FnScope ["_law_one", "_law_other", "_law_top"] ["_law_one", "_law_other"] (m9 a43):=⟨rfl,rfl,rfl,by decide +kernel,rfl,by decide +kernel,by decide +kernel⟩
set_option maxHeartbeats 4000000 in
theorem b1z {m_law_fraction:DFn} (C_law_fraction:Cal P w K mg base 1 "_law_fraction" ["_law_top", "_law_bottom"] m_law_fraction) {f:Addr} {fd:FuncData} (B:Blt mg) (F:GF K mg "_law_sum" a43 f fd):Cal P w K mg base 2 "_law_sum" ["_law_one", "_law_other"] (N9 m_law_fraction):=
 w4 F (fun _ _ _ _ _ _=>on2 fun _ _=>rfl) sc_law_sum fun cdv A outer s H E g hr=>
  have nd:=sc_law_sum.nd
  (j3 (l6 (i:=2) nd rfl (by first | exact Or.inl rfl | exact Or.inr rfl) (i9 G9 J4 (EO.b (i9 o0 o6 (EO.b (i7 i5 i6 (a9 (pv 0)) (EO.b b0) (fun _ _=>rfl))) (EO.b (i7 i5 i6 (a9 (pv 1)) (EO.b b0) (fun _ _=>rfl))))) (EO.b (i9 o0 o6 (EO.b (i7 i5 i6 (a9 (pv 1)) (EO.b b0) (fun _ _=>rfl))) (EO.b (i7 i5 i6 (a9 (pv 0)) (EO.b b0) (fun _ _=>rfl))))))) (j9 (p7 (j6 C_law_fraction _ hr (by decide) (by rfl) (ac (c8 (pv 2)) (ac (i9 o0 o6 (EO.b (i7 i5 i6 (a9 (pv 0)) (EO.b b0) (fun _ _=>rfl))) (EO.b (i7 i5 i6 (a9 (pv 1)) (EO.b b0) (fun _ _=>rfl)))) i0)) (c5 (c5 j4))))))
noncomputable abbrev a39:Stmt:=top 28
theorem sc_law_minus:FnScope ["_law_one"] ["_law_one"] (m9 a39):=⟨rfl,rfl,rfl,by decide +kernel,rfl,by decide +kernel,by decide +kernel⟩
set_option maxHeartbeats 4000000 in
theorem a9P {f:Addr} {fd:FuncData} (B:Blt mg) (F:GF K mg "_law_minus" a39 f fd):Cal P w K mg base 1 "_law_minus" ["_law_one"] (F7):=
 w4 F (fun _ _ _ _ _ _=>on1 fun _=>rfl) sc_law_minus fun cdv A outer s H E g hr=>
  have nd:=sc_law_minus.nd
  (j9 (p7 (C9 (ac (i9 D6 D5 (EO.b b0) (EO.b (i7 i5 i6 (a9 (pv 0)) (EO.b b0) (fun _ _=>rfl)))) (ac (i7 i5 i6 (a9 (pv 0)) (EO.b b0) (fun _ _=>rfl)) i0)))))
noncomputable abbrev a5e:Stmt:=top 27
theorem sc_law_product:FnScope ["_law_one", "_law_other"] ["_law_one", "_law_other"] (m9 a5e):=⟨rfl,rfl,rfl,by decide +kernel,rfl,by decide +kernel,by decide +kernel⟩
set_option maxHeartbeats 4000000 in
theorem b1f {m_law_fraction:DFn} (C_law_fraction:Cal P w K mg base 1 "_law_fraction" ["_law_top", "_law_bottom"] m_law_fraction) {f:Addr} {fd:FuncData} (B:Blt mg) (F:GF K mg "_law_product" a5e f fd):Cal P w K mg base 2 "_law_product" ["_law_one", "_law_other"] (V5 m_law_fraction):=
 w4 F (fun _ _ _ _ _ _=>on2 fun _ _=>rfl) sc_law_product fun cdv A outer s H E g hr=>
  have nd:=sc_law_product.nd
  (j9 (p7 (j6 C_law_fraction _ hr (by decide) (by rfl) (ac (i9 o0 o6 (EO.b (i7 i5 i6 (a9 (pv 0)) (EO.b b0) (fun _ _=>rfl))) (EO.b (i7 i5 i6 (a9 (pv 1)) (EO.b b0) (fun _ _=>rfl)))) (ac (i9 o0 o6 (EO.b (i7 i5 i6 (a9 (pv 0)) (EO.b b0) (fun _ _=>rfl))) (EO.b (i7 i5 i6 (a9 (pv 1)) (EO.b b0) (fun _ _=>rfl)))) i0)) (c5 (c5 j4)))))
noncomputable abbrev a3P:Stmt:=top 30
theorem sc_law_xy:FnScope ["_law_one"] ["_law_one"] (m9 a3P):=⟨rfl,rfl,rfl,by decide +kernel,rfl,by decide +kernel,by decide +kernel⟩
set_option maxHeartbeats 4000000 in
theorem b4J {m_law_fraction:DFn} (C_law_fraction:Cal P w K mg base 1 "_law_fraction" ["_law_top", "_law_bottom"] m_law_fraction) {f:Addr} {fd:FuncData} (B:Blt mg) (F:GF K mg "_law_xy" a3P f fd):Cal P w K mg base 2 "_law_xy" ["_law_one"] (V3 m_law_fraction):=
 w4 F (fun _ _ _ _ _ _=>on1 fun _=>rfl) sc_law_xy fun cdv A outer s H E g hr=>
  have nd:=sc_law_xy.nd
  (j9 (p7 (C9 (ac (j6 C_law_fraction _ hr (by decide) (by rfl) (ac (i7 i5 i6 (a9 (pv 0)) (EO.b b0) (fun _ _=>rfl)) (ac (i7 i5 i6 (a9 (pv 0)) (EO.b b0) (fun _ _=>rfl)) i0)) (c5 (c5 j4))) (ac (j6 C_law_fraction _ hr (by decide) (by rfl) (ac (i7 i5 i6 (a9 (pv 0)) (EO.b b0) (fun _ _=>rfl)) (ac (i7 i5 i6 (a9 (pv 0)) (EO.b b0) (fun _ _=>rfl)) i0)) (c5 (c5 j4))) i0)))))
noncomputable abbrev a4b:Stmt:=top 36
theorem sc_law_squared:FnScope ["_law_a", "_law_b", "_law_x", "_law_y"] ["_law_a", "_law_b"] (m9 a4b):=⟨rfl,rfl,rfl,by decide +kernel,rfl,by decide +kernel,by decide +kernel⟩
set_option maxHeartbeats 4000000 in
theorem a9L {m_law_sum:DFn} {m_law_product:DFn} {m_law_minus:DFn} {m_law_xy:DFn} (C_law_sum:Cal P w K mg base 2 "_law_sum" ["_law_one", "_law_other"] m_law_sum) (C_law_product:Cal P w K mg base 2 "_law_product" ["_law_one", "_law_other"] m_law_product) (C_law_minus:Cal P w K mg base 1 "_law_minus" ["_law_one"] m_law_minus) (C_law_xy:Cal P w K mg base 2 "_law_xy" ["_law_one"] m_law_xy) {f:Addr} {fd:FuncData} (B:Blt mg) (F:GF K mg "_law_squared" a4b f fd):Cal P w K mg base 3 "_law_squared" ["_law_a", "_law_b"] (a0H m_law_sum m_law_product m_law_minus m_law_xy):=
 w4 F (fun _ _ _ _ _ _=>on2 fun _ _=>rfl) sc_law_squared fun cdv A outer s H E g hr=>
  have nd:=sc_law_squared.nd
  (j3 (l6 (i:=2) nd rfl (by first | exact Or.inl rfl | exact Or.inr rfl) (j6 C_law_sum _ hr (by decide) (by rfl) (ac (i7 i5 i6 (EO.b (j6 C_law_xy _ hr (by decide) (by rfl) (ac (c8 (pv 1)) i0) (c5 j4))) (EO.b b0) (fun _ _=>rfl)) (ac (j6 C_law_minus _ hr (by decide) (by rfl) (ac (i7 i5 i6 (EO.b (j6 C_law_xy _ hr (by decide) (by rfl) (ac (c8 (pv 0)) i0) (c5 j4))) (EO.b b0) (fun _ _=>rfl)) i0) (c5 j4)) i0)) (c5 (c5 j4)))) (j3 (l6 (i:=3) nd rfl (by first | exact Or.inl rfl | exact Or.inr rfl) (j6 C_law_sum _ hr (by decide) (by rfl) (ac (i7 i5 i6 (EO.b (j6 C_law_xy _ hr (by decide) (by rfl) (ac (c8 (pv 1)) i0) (c5 j4))) (EO.b b0) (fun _ _=>rfl)) (ac (j6 C_law_minus _ hr (by decide) (by rfl) (ac (i7 i5 i6 (EO.b (j6 C_law_xy _ hr (by decide) (by rfl) (ac (c8 (pv 0)) i0) (c5 j4))) (EO.b b0) (fun _ _=>rfl)) i0) (c5 j4)) i0)) (c5 (c5 j4)))) (j9 (p7 (j6 C_law_sum _ hr (by decide) (by rfl) (ac (j6 C_law_product _ hr (by decide) (by rfl) (ac (c8 (pv 2)) (ac (c8 (pv 2)) i0)) (c5 (c5 j4))) (ac (j6 C_law_product _ hr (by decide) (by rfl) (ac (c8 (pv 3)) (ac (c8 (pv 3)) i0)) (c5 (c5 j4))) i0)) (c5 (c5 j4)))))))
noncomputable abbrev a4a:Stmt:=top 37
theorem sc_law_farther:FnScope ["_law_here", "_law_best", "_law_one", "_law_side"] ["_law_here", "_law_best", "_law_one"] (m9 a4a):=⟨rfl,rfl,rfl,by decide +kernel,rfl,by decide +kernel,by decide +kernel⟩
set_option maxHeartbeats 4000000 in
theorem b1R {m_law_sum:DFn} {m_law_minus:DFn} {m_law_squared:DFn} {m_law_turn:DFn} (C_law_sum:Cal P w K mg base 2 "_law_sum" ["_law_one", "_law_other"] m_law_sum) (C_law_minus:Cal P w K mg base 1 "_law_minus" ["_law_one"] m_law_minus) (C_law_squared:Cal P w K mg base 3 "_law_squared" ["_law_a", "_law_b"] m_law_squared) (C_law_turn:Cal P w K mg base 1 "_law_turn" ["_law_a", "_law_b", "_law_c"] m_law_turn) {f:Addr} {fd:FuncData} (B:Blt mg) (F:GF K mg "_law_farther" a4a f fd):Cal P w K mg base 4 "_law_farther" ["_law_here", "_law_best", "_law_one"] (a1N m_law_sum m_law_minus m_law_squared m_law_turn):=
 w4 F (fun _ _ _ _ _ _=>on3 fun _ _ _=>rfl) sc_law_farther fun cdv A outer s H E g hr=>
  have nd:=sc_law_farther.nd
  (j3 (l6 (i:=3) nd rfl (by first | exact Or.inl rfl | exact Or.inr rfl) (j6 C_law_turn _ hr (by decide) (by rfl) (ac (c8 (pv 0)) (ac (c8 (pv 1)) (ac (c8 (pv 2)) i0))) (c5 (c5 (c5 j4))))) (j3 (D7 (v7 (L8 (u64 hr)) M2 (a9 (pv 3)) (EO.b b0) (u7 _)) (j9 (p7 (P5 K6 (B9 (fun i j=>decide (i < j))) (a9 (pv 3)) (EO.b b0) (u7 _)))) D3) (j9 (p7 (P5 K6 (B9 (fun i j=>decide (i < j))) (EO.b (i7 i5 i6 (EO.b (j6 C_law_sum _ hr (by decide) (by rfl) (ac (j6 C_law_squared _ hr (by decide) (by rfl) (ac (c8 (pv 0)) (ac (c8 (pv 1)) i0)) (c5 (c5 j4))) (ac (j6 C_law_minus _ hr (by decide) (by rfl) (ac (j6 C_law_squared _ hr (by decide) (by rfl) (ac (c8 (pv 0)) (ac (c8 (pv 2)) i0)) (c5 (c5 j4))) i0) (c5 j4)) i0)) (c5 (c5 j4)))) (EO.b b0) (fun _ _=>rfl))) (EO.b b0) (u7 _))))))
noncomputable abbrev a3N:Stmt:=top 38
theorem sc_law_hull:FnScope ["_law_some", "_law_first", "_law_one", "_law_found", "_law_here", "_law_best"] ["_law_some"] (m9 a3N):=⟨rfl,rfl,rfl,by decide +kernel,rfl,by decide +kernel,by decide +kernel⟩
set_option maxHeartbeats 4000000 in
theorem b0F {m_law_farther:DFn} {m_law_lesser:DFn} (C_law_farther:Cal P w K mg base 4 "_law_farther" ["_law_here", "_law_best", "_law_one"] m_law_farther) (C_law_lesser:Cal P w K mg base 1 "_law_lesser" ["_law_one", "_law_other"] m_law_lesser) {f:Addr} {fd:FuncData} (B:Blt mg) (F:GF K mg "_law_hull" a3N f fd):Cal P w K mg base 5 "_law_hull" ["_law_some"] (a1V m_law_farther m_law_lesser):=
 w4 F (fun _ _ _ _ _ _=>on1 fun _=>rfl) sc_law_hull fun cdv A outer s H E g hr=>
  have nd:=sc_law_hull.nd
  (j3 (l6 (i:=1) nd rfl (by first | exact Or.inl rfl | exact Or.inr rfl) (i7 i5 i6 (a9 (pv 0)) (EO.b b0) (fun _ _=>rfl))) (j3 (P0 PassesOwn.never rfl (c8 (pv 0)) (D1 (A3 (i:=2) nd rfl (by first | exact Or.inl rfl | exact Or.inr rfl))) (j9 (D7 (a1d (EO.b (j6 C_law_lesser _ hr (by decide) (by rfl) (ac (c8 (pv 2)) (ac (c8 (pv 1)) i0)) (c5 (c5 j4))))) (j9 (l6 (i:=1) nd rfl (by first | exact Or.inl rfl | exact Or.inr rfl) (c8 (pv 2)))) D3))) (j3 (N3 (i:=3) nd rfl (by first | exact Or.inl rfl | exact Or.inr rfl) (G7 i0)) (j3 (l6 (i:=4) nd rfl (by first | exact Or.inl rfl | exact Or.inr rfl) (c8 (pv 1))) (j3 (a0m PassesOwn.never (WO.t (a0o (v7 (L8 (u64 hr)) M2 (a9 (pv 4)) (a9 (pv 1)) (u7 _)) (a0V (v7 (X0 (u64 hr)) a0i (a9 (pv 3)) (EO.b (FO.v (G7 i0))) (u7 _))))) (j3 (R3 (pv 3) (c8 (pv 4))) (j3 (l6 (i:=5) nd rfl (by first | exact Or.inl rfl | exact Or.inr rfl) a0j) (j3 (P0 PassesOwn.never rfl (c8 (pv 0)) (D1 (A3 (i:=2) nd rfl (by first | exact Or.inl rfl | exact Or.inr rfl))) (j9 (D7 (WO.t (a01 (v7 (L8 (u64 hr)) M2 (a9 (pv 2)) (a9 (pv 4)) (u7 _)) (a0S (WO.t (a0o (v7 a7p a72 (a9 (pv 5)) (EO.b a0j) (u7 _)) (a0V (a1d (EO.b (j6 C_law_farther _ hr (by decide) (by rfl) (ac (c8 (pv 4)) (ac (c8 (pv 5)) (ac (c8 (pv 2)) i0))) (c5 (c5 (c5 j4)))))))))))) (j9 (l6 (i:=5) nd rfl (by first | exact Or.inl rfl | exact Or.inr rfl) (c8 (pv 2)))) D3))) (j9 (l6 (i:=4) nd rfl (by first | exact Or.inl rfl | exact Or.inr rfl) (a0y (WO.t (a0o (v7 a7p a72 (a9 (pv 5)) (EO.b a0j) (u7 _)) (a0V (v7 R4 (B9 (fun i j=>decide (j < i))) (EO.b (D2 K0 K2 (by rfl) B.len J9 (bc (a9 (pv 3)) A5))) (EO.b (D2 K0 K2 (by rfl) B.len J9 (bc (a9 (pv 0)) A5))) (u7 _))))) (c8 (pv 1)) (c8 (pv 5))))))))) (j9 (p7 (a0y (v7 R4 (B9 (fun i j=>decide (j < i))) (EO.b (D2 K0 K2 (by rfl) B.len J9 (bc (a9 (pv 3)) A5))) (EO.b b0) (u7 _)) (a0U a3J a3f (by rfl) B.tuple a2I (bc (a9 (pv 3)) A5)) a0j))))))))
noncomputable abbrev a4o:Stmt:=top 29
theorem sc_law_at:FnScope ["_law_x", "_law_y", "_law_bottom", "_law_top", "_law_other", "_law_part_of_both"] ["_law_x", "_law_y"] (m9 a4o):=⟨rfl,rfl,rfl,by decide +kernel,rfl,by decide +kernel,by decide +kernel⟩
set_option maxHeartbeats 4000000 in
theorem b4P {m_law_fraction:DFn} (C_law_fraction:Cal P w K mg base 1 "_law_fraction" ["_law_top", "_law_bottom"] m_law_fraction) {f:Addr} {fd:FuncData} (B:Blt mg) (F:GF K mg "_law_at" a4o f fd):Cal P w K mg base 2 "_law_at" ["_law_x", "_law_y"] (X4 m_law_fraction):=
 w4 F (fun _ _ _ _ _ _=>on2 fun _ _=>rfl) sc_law_at fun cdv A outer s H E g hr=>
  have nd:=sc_law_at.nd
  (j3 (l6 (i:=2) nd rfl (by first | exact Or.inl rfl | exact Or.inr rfl) (i9 o0 o6 (EO.b (i7 i5 i6 (a9 (pv 0)) (EO.b b0) (fun _ _=>rfl))) (EO.b (i7 i5 i6 (a9 (pv 1)) (EO.b b0) (fun _ _=>rfl))))) (j3 (l6 (i:=3) nd rfl (by first | exact Or.inl rfl | exact Or.inr rfl) (j6 C_law_fraction _ hr (by decide) (by rfl) (ac (i9 o0 o6 (EO.b (i7 i5 i6 (a9 (pv 0)) (EO.b b0) (fun _ _=>rfl))) (EO.b (i7 i5 i6 (a9 (pv 1)) (EO.b b0) (fun _ _=>rfl)))) (ac (c8 (pv 2)) i0)) (c5 (c5 j4)))) (j3 (l6 (i:=4) nd rfl (by first | exact Or.inl rfl | exact Or.inr rfl) (j6 C_law_fraction _ hr (by decide) (by rfl) (ac (i9 o0 o6 (EO.b (i7 i5 i6 (a9 (pv 1)) (EO.b b0) (fun _ _=>rfl))) (EO.b (i7 i5 i6 (a9 (pv 0)) (EO.b b0) (fun _ _=>rfl)))) (ac (c8 (pv 2)) i0)) (c5 (c5 j4)))) (j3 (l6 (i:=5) nd rfl (by first | exact Or.inl rfl | exact Or.inr rfl) (j6 C_law_fraction _ hr (by decide) (by rfl) (ac (i7 i5 i6 (a9 (pv 3)) (EO.b b0) (fun _ _=>rfl)) (ac (i7 i5 i6 (a9 (pv 4)) (EO.b b0) (fun _ _=>rfl)) i0)) (c5 (c5 j4)))) (j3 (l6 (i:=2) nd rfl (by first | exact Or.inl rfl | exact Or.inr rfl) (i9 o0 o6 (EO.b (i7 i5 i6 (a9 (pv 3)) (EO.b b0) (fun _ _=>rfl))) (EO.b (i7 i5 i6 (a9 (pv 5)) (EO.b b0) (fun _ _=>rfl))))) (j9 (p7 (C9 (ac (i9 o0 o6 (EO.b (i7 i5 i6 (a9 (pv 3)) (EO.b b0) (fun _ _=>rfl))) (EO.b (i9 P6 O0 (a9 (pv 2)) (EO.b (i7 i5 i6 (a9 (pv 3)) (EO.b b0) (fun _ _=>rfl)))))) (ac (i9 o0 o6 (EO.b (i7 i5 i6 (a9 (pv 4)) (EO.b b0) (fun _ _=>rfl))) (EO.b (i9 P6 O0 (a9 (pv 2)) (EO.b (i7 i5 i6 (a9 (pv 4)) (EO.b b0) (fun _ _=>rfl)))))) (ac (c8 (pv 2)) i0)))))))))))
noncomputable abbrev a3w:Stmt:=top 24
theorem sc_law_draw:FnScope ["_law_feed_here", "_law_many", "_law_count", "_law_digit", "_law_cells", "_law_cell", "_law_mixed"] ["_law_feed_here", "_law_many"] (m9 a3w):=⟨rfl,rfl,rfl,by decide +kernel,rfl,by decide +kernel,by decide +kernel⟩
set_option maxHeartbeats 4000000 in
theorem b2Y {f:Addr} {fd:FuncData} (B:Blt mg) (F:GF K mg "_law_draw" a3w f fd):Cal P w K mg base 1 "_law_draw" ["_law_feed_here", "_law_many"] (C2):=
 w4 F (fun _ _ _ _ _ _=>on2 fun _ _=>rfl) sc_law_draw fun cdv A outer s H E g hr=>
  have nd:=sc_law_draw.nd
  (j3 (l6 (i:=2) nd rfl (by first | exact Or.inl rfl | exact Or.inr rfl) (i9 G9 J4 (EO.b (T6 (L3 hr) (pv 0))) (EO.b b0))) (j3 (a1C (L3 hr) (pv 0) (c8 (pv 2))) (j3 (D7 (v7 R4 (B9 (fun i j=>decide (j < i))) (EO.b (T6 (L3 hr) (pv 0))) (EO.b b0) (u7 _)) (j3 (l6 (i:=3) nd rfl (by first | exact Or.inl rfl | exact Or.inr rfl) (i9 P9 Q5 (EO.b (T6 (L3 hr) (pv 0))) (a9 (pv 1)))) (j3 (a1C (L3 hr) (pv 0) (i9 P6 O0 (EO.b (T6 (L3 hr) (pv 0))) (a9 (pv 1)))) (j9 (p7 (c8 (pv 3)))))) D3) (j3 (l6 (i:=4) nd rfl (by first | exact Or.inl rfl | exact Or.inr rfl) (T6 (L3 hr) (pv 0))) (j3 (l6 (i:=5) nd rfl (by first | exact Or.inl rfl | exact Or.inr rfl) (a0y (v7 R4 (B9 (fun i j=>decide (j < i))) (EO.b (D2 K0 K2 (by rfl) B.len J9 (bc (a9 (pv 4)) A5))) (EO.b b0) (u7 _)) (i7 i5 i6 (a9 (pv 4)) (EO.b (i9 P9 Q5 (EO.b (T6 (L3 hr) (pv 0))) (EO.b (D2 K0 K2 (by rfl) B.len J9 (bc (a9 (pv 4)) A5))))) (fun _ _=>rfl)) b0)) (j3 (a1C (L3 hr) (pv 0) (i9 G9 J4 (EO.b (T6 (L3 hr) (pv 0))) (EO.b b0))) (j3 (D7 (WO.t (a01 (v7 a7g (B9 (fun i j=>decide (j ≤ i))) (a9 (pv 5)) (EO.b (i9 b39 b2G (EO.b b0) (EO.b b0))) (u7 _)) (a0S (v7 b4c (B9 (fun i j=>decide (i ≤ j))) (EO.b (T6 (L3 hr) (pv 0))) (EO.b (D2 K0 K2 (by rfl) B.len J9 (bc (a9 (pv 4)) A5))) (u7 _))))) (j3 (a1C (L3 hr) (pv 0) (i9 P6 O0 (a9 (pv 5)) (a9 (pv 1)))) (j9 (p7 (i9 P9 Q5 (a9 (pv 5)) (a9 (pv 1)))))) D3) (j3 (l6 (i:=6) nd rfl (by first | exact Or.inl rfl | exact Or.inr rfl) (i9 P9 Q5 (EO.b (i9 o0 o6 (EO.b (i9 G9 J4 (EO.b (i9 G9 J4 (EO.b (i9 G9 J4 (EO.b (i9 P9 Q5 (a9 (pv 5)) (EO.b b0))) (EO.b (i9 o0 o6 (EO.b (i9 o0 o6 (EO.b b0) (a9 (pv 2)))) (a9 (pv 2)))))) (EO.b (i9 o0 o6 (EO.b b0) (a9 (pv 2)))))) (EO.b b0))) (EO.b b0))) (EO.b b0))) (j3 (l6 (i:=6) nd rfl (by first | exact Or.inl rfl | exact Or.inr rfl) (i9 P9 Q5 (EO.b (i9 G9 J4 (EO.b (i9 o0 o6 (EO.b (i9 P6 O0 (a9 (pv 6)) (EO.b b0))) (EO.b b0))) (EO.b (i9 o0 o6 (EO.b b0) (a9 (pv 2)))))) (EO.b b0))) (j9 (p7 (i9 P9 Q5 (EO.b (i9 P6 O0 (a9 (pv 6)) (EO.b b0))) (a9 (pv 1))))))))))))))
noncomputable abbrev a4U:Stmt:=top 34
theorem sc_law_number:FnScope ["_law_feed_here", "_law_top", "_law_bottom"] ["_law_feed_here"] (m9 a4U):=⟨rfl,rfl,rfl,by decide +kernel,rfl,by decide +kernel,by decide +kernel⟩
set_option maxHeartbeats 4000000 in
theorem b43 {m_law_fraction:DFn} {m_law_draw:DFn} (C_law_fraction:Cal P w K mg base 1 "_law_fraction" ["_law_top", "_law_bottom"] m_law_fraction) (C_law_draw:Cal P w K mg base 1 "_law_draw" ["_law_feed_here", "_law_many"] m_law_draw) {f:Addr} {fd:FuncData} (B:Blt mg) (F:GF K mg "_law_number" a4U f fd):Cal P w K mg base 2 "_law_number" ["_law_feed_here"] (a1x m_law_fraction m_law_draw):=
 w4 F (fun _ _ _ _ _ _=>on1 fun _=>rfl) sc_law_number fun cdv A outer s H E g hr=>
  have nd:=sc_law_number.nd
  (j3 (l6 (i:=1) nd rfl (by first | exact Or.inl rfl | exact Or.inr rfl) (j6 C_law_draw _ hr (by decide) (by rfl) (ac (c8 (pv 0)) (ac (i7 i5 i6 (EO.b (FO.v (G7 (ac b0 (ac b0 (ac b0 i0)))))) (EO.b (j6 C_law_draw _ hr (by decide) (by rfl) (ac (c8 (pv 0)) (ac b0 i0)) (c5 (c5 j4)))) (fun _ _=>rfl)) i0)) (c5 (c5 j4)))) (j3 (l6 (i:=2) nd rfl (by first | exact Or.inl rfl | exact Or.inr rfl) (i7 i5 i6 (EO.b (FO.v (G7 (ac b0 (ac b0 (ac b0 (ac b0 (ac b0 (ac b0 i0))))))))) (EO.b (j6 C_law_draw _ hr (by decide) (by rfl) (ac (c8 (pv 0)) (ac b0 i0)) (c5 (c5 j4)))) (fun _ _=>rfl))) (j9 (p7 (j6 C_law_fraction _ hr (by decide) (by rfl) (ac (i9 o0 o6 (a9 (pv 1)) (EO.b (i9 D6 D5 (EO.b b0) (EO.b (i9 o0 o6 (EO.b b0) (EO.b (j6 C_law_draw _ hr (by decide) (by rfl) (ac (c8 (pv 0)) (ac b0 i0)) (c5 (c5 j4))))))))) (ac (c8 (pv 2)) i0)) (c5 (c5 j4)))))))
noncomputable abbrev a4f:Stmt:=top 35
theorem sc_law_place:FnScope ["_law_feed_here"] ["_law_feed_here"] (m9 a4f):=⟨rfl,rfl,rfl,by decide +kernel,rfl,by decide +kernel,by decide +kernel⟩
set_option maxHeartbeats 4000000 in
theorem b6o {m_law_at:DFn} {m_law_number:DFn} (C_law_at:Cal P w K mg base 2 "_law_at" ["_law_x", "_law_y"] m_law_at) (C_law_number:Cal P w K mg base 2 "_law_number" ["_law_feed_here"] m_law_number) {f:Addr} {fd:FuncData} (B:Blt mg) (F:GF K mg "_law_place" a4f f fd):Cal P w K mg base 3 "_law_place" ["_law_feed_here"] (a1J m_law_at m_law_number):=
 w4 F (fun _ _ _ _ _ _=>on1 fun _=>rfl) sc_law_place fun cdv A outer s H E g hr=>
  have nd:=sc_law_place.nd
  (j9 (p7 (j6 C_law_at _ hr (by decide) (by rfl) (ac (j6 C_law_number _ hr (by decide) (by rfl) (ac (c8 (pv 0)) i0) (c5 j4)) (ac (j6 C_law_number _ hr (by decide) (by rfl) (ac (c8 (pv 0)) i0) (c5 j4)) i0)) (c5 (c5 j4)))))
noncomputable abbrev a5b:Stmt:=top 31
theorem sc_law_gone:FnScope ["_law_one", "_law_x", "_law_y", "_law_first", "_law_second"] ["_law_one", "_law_x", "_law_y"] (m9 a5b):=⟨rfl,rfl,rfl,by decide +kernel,rfl,by decide +kernel,by decide +kernel⟩
set_option maxHeartbeats 4000000 in
theorem b3R {m_law_at:DFn} {m_law_sum:DFn} {m_law_xy:DFn} (C_law_at:Cal P w K mg base 2 "_law_at" ["_law_x", "_law_y"] m_law_at) (C_law_sum:Cal P w K mg base 2 "_law_sum" ["_law_one", "_law_other"] m_law_sum) (C_law_xy:Cal P w K mg base 2 "_law_xy" ["_law_one"] m_law_xy) {f:Addr} {fd:FuncData} (B:Blt mg) (F:GF K mg "_law_gone" a5b f fd):Cal P w K mg base 3 "_law_gone" ["_law_one", "_law_x", "_law_y"] (a14 m_law_at m_law_sum m_law_xy):=
 w4 F (fun _ _ _ _ _ _=>on3 fun _ _ _=>rfl) sc_law_gone fun cdv A outer s H E g hr=>
  have nd:=sc_law_gone.nd
  (j3 (a2y (j6 C_law_xy _ hr (by decide) (by rfl) (ac (c8 (pv 0)) i0) (c5 j4)) (V4 rfl (K5 (D1 (A3 (i:=3) nd rfl (by first | exact Or.inl rfl | exact Or.inr rfl))) (K5 (D1 (A3 (i:=4) nd rfl (by first | exact Or.inl rfl | exact Or.inr rfl))) T9)))) (j9 (p7 (j6 C_law_at _ hr (by decide) (by rfl) (ac (j6 C_law_sum _ hr (by decide) (by rfl) (ac (c8 (pv 3)) (ac (c8 (pv 1)) i0)) (c5 (c5 j4))) (ac (j6 C_law_sum _ hr (by decide) (by rfl) (ac (c8 (pv 4)) (ac (c8 (pv 2)) i0)) (c5 (c5 j4))) i0)) (c5 (c5 j4))))))
noncomputable abbrev a31:Stmt:=top 39
theorem sc_law_round_shape:FnScope ["_law_feed_here", "_law_some", "_law_ways", "_law_kept", "_law_share", "_law_here", "_law_found", "_law_x", "_law_y"] ["_law_feed_here"] (m9 a31):=⟨rfl,rfl,rfl,by decide +kernel,rfl,by decide +kernel,by decide +kernel⟩
set_option maxHeartbeats 4000000 in
theorem b2V {m_law_hull:DFn} {m_law_gone:DFn} {m_law_product:DFn} {m_law_fraction:DFn} {m_law_draw:DFn} {m_law_turn:DFn} {m_law_place:DFn} (C_law_hull:Cal P w K mg base 5 "_law_hull" ["_law_some"] m_law_hull) (C_law_gone:Cal P w K mg base 3 "_law_gone" ["_law_one", "_law_x", "_law_y"] m_law_gone) (C_law_product:Cal P w K mg base 2 "_law_product" ["_law_one", "_law_other"] m_law_product) (C_law_fraction:Cal P w K mg base 1 "_law_fraction" ["_law_top", "_law_bottom"] m_law_fraction) (C_law_draw:Cal P w K mg base 1 "_law_draw" ["_law_feed_here", "_law_many"] m_law_draw) (C_law_turn:Cal P w K mg base 1 "_law_turn" ["_law_a", "_law_b", "_law_c"] m_law_turn) (C_law_place:Cal P w K mg base 3 "_law_place" ["_law_feed_here"] m_law_place) {f:Addr} {fd:FuncData} (B:Blt mg) (F:GF K mg "_law_round_shape" a31 f fd):Cal P w K mg base 6 "_law_round_shape" ["_law_feed_here"] (a46 m_law_hull m_law_gone m_law_product m_law_fraction m_law_draw m_law_turn m_law_place):=
 w4 F (fun _ _ _ _ _ _=>on1 fun _=>rfl) sc_law_round_shape fun cdv A outer s H E g hr=>
  have nd:=sc_law_round_shape.nd
  (j3 (a3T (i:=1) nd rfl (by first | exact Or.inl rfl | exact Or.inr rfl) (a3A (N':=["_law_k", "_law_feed_here"]) (idx:=[0]) rfl (Y0 (by rfl) (.cons rfl .nil) (by decide +kernel) rfl (by decide +kernel) (by rfl) (.cons rfl (by first | exact Or.inl rfl | exact Or.inr rfl) (by first | exact Or.inl rfl | exact Or.inr rfl) .nil)) (b1U (by rfl) B.range b0) (fun _ _ _ _=>A3 (i:=0) (show List.Nodup (["_law_k", "_law_feed_here"]:List Str) by decide +kernel) rfl (Or.inl rfl)) (fun _ _ _ _ _=>a0O) (fun _ _ _ _ _=>(j6 C_law_place _ hr (by decide) (by rfl) (ac (c8 (pv 1)) i0) (c5 j4))))) (j3 (D7 (WO.t (a01 (v7 (X0 (u64 hr)) a0i (EO.b (j6 C_law_draw _ hr (by decide) (by rfl) (ac (c8 (pv 0)) (ac b0 i0)) (c5 (c5 j4)))) (EO.b b0) (u7 _)) (a0S (v7 (L8 (u64 hr)) M2 (EO.b (j6 C_law_turn _ hr (by decide) (by rfl) (ac (i7 i5 i6 (a9 (pv 1)) (EO.b b0) (fun _ _=>rfl)) (ac (i7 i5 i6 (a9 (pv 1)) (EO.b b0) (fun _ _=>rfl)) (ac (i7 i5 i6 (a9 (pv 1)) (EO.b b0) (fun _ _=>rfl)) i0))) (c5 (c5 (c5 j4))))) (EO.b b0) (u7 _))))) (j9 (p7 (j6 C_law_hull _ hr (by decide) (by rfl) (ac (c8 (pv 1)) i0) (c5 j4)))) D3) (j3 (N3 (i:=2) nd rfl (by first | exact Or.inl rfl | exact Or.inr rfl) (G7 (ac (C9 (ac b0 (ac b0 i0))) (ac (C9 (ac b0 (ac b0 i0))) (ac (C9 (ac b0 (ac b0 i0))) (ac (C9 (ac b0 (ac b0 i0))) (ac (C9 (ac b0 (ac b0 i0))) (ac (C9 (ac (K7 K9 L0 (EO.b b0)) (ac b0 i0))) (ac (C9 (ac (K7 K9 L0 (EO.b b0)) (ac b0 i0))) (ac (C9 (ac (K7 K9 L0 (EO.b b0)) (ac b0 i0))) i0)))))))))) (j3 (a3T (i:=3) nd rfl (by first | exact Or.inl rfl | exact Or.inr rfl) (a3A (N':=["_law_pair", "_law_feed_here"]) (idx:=[0]) rfl (Y0 (by rfl) (.cons rfl .nil) (by decide +kernel) rfl (by decide +kernel) (by rfl) (.cons rfl (by first | exact Or.inl rfl | exact Or.inr rfl) (by first | exact Or.inl rfl | exact Or.inr rfl) .nil)) (a0g (c8 (pv 2))) (fun _ _ _ _=>A3 (i:=0) (show List.Nodup (["_law_pair", "_law_feed_here"]:List Str) by decide +kernel) rfl (Or.inl rfl)) (fun _ _ _ _ _=>(a64 (v7 (X0 (u64 hr)) a0i (EO.b (j6 C_law_draw _ hr (by decide) (by rfl) (ac (c8 (pv 1)) (ac b0 i0)) (c5 (c5 j4)))) (EO.b b0) (u7 _)))) (fun _ _ _ _ _=>(c8 (pv 0))))) (j3 (l6 (i:=3) nd rfl (by first | exact Or.inl rfl | exact Or.inr rfl) (a0y (v7 R4 (B9 (fun i j=>decide (j < i))) (EO.b (D2 K0 K2 (by rfl) B.len J9 (bc (a9 (pv 3)) A5))) (EO.b b0) (u7 _)) (c8 (pv 3)) (FO.v (G7 (ac (i7 i5 i6 (a9 (pv 2)) (EO.b b0) (fun _ _=>rfl)) (ac (i7 i5 i6 (a9 (pv 2)) (EO.b (i9 G9 J4 (EO.b b0) (EO.b (j6 C_law_draw _ hr (by decide) (by rfl) (ac (c8 (pv 0)) (ac b0 i0)) (c5 (c5 j4)))))) (fun _ _=>rfl)) i0)))))) (j3 (l6 (i:=4) nd rfl (by first | exact Or.inl rfl | exact Or.inr rfl) (j6 C_law_fraction _ hr (by decide) (by rfl) (ac (i9 G9 J4 (EO.b b0) (EO.b (j6 C_law_draw _ hr (by decide) (by rfl) (ac (c8 (pv 0)) (ac b0 i0)) (c5 (c5 j4))))) (ac (i9 G9 J4 (EO.b b0) (EO.b (j6 C_law_draw _ hr (by decide) (by rfl) (ac (c8 (pv 0)) (ac b0 i0)) (c5 (c5 j4))))) i0)) (c5 (c5 j4)))) (j3 (l6 (i:=5) nd rfl (by first | exact Or.inl rfl | exact Or.inr rfl) (i7 i5 i6 (a9 (pv 1)) (EO.b b0) (fun _ _=>rfl))) (j3 (N3 (i:=6) nd rfl (by first | exact Or.inl rfl | exact Or.inr rfl) (G7 i0)) (j3 (P0 PassesOwn.never rfl (FO.v (a88 a2T a7M (a9 (pv 3)) (EO.b (FO.v (b1G (caps:=[]) (idx:=[]) rfl (b3j (by rfl) .nil (by decide +kernel) rfl (by decide +kernel) (by rfl) .nil) (a0g (c8 (pv 3))) (show List.Nodup (["_law_x", "_law_y"]:List Str) by decide +kernel) (fun _ _ _ _=>rfl) (fun _ _ _ _=>rfl) (fun _ _ _ _ _=>a0O) (fun _ _ _ _ _=>(C9 (ac (i9 D6 D5 (EO.b b0) (a9 (pv 0))) (ac (i9 D6 D5 (EO.b b0) (a9 (pv 1))) i0))))))))) (V4 rfl (K5 (D1 (A3 (i:=7) nd rfl (by first | exact Or.inl rfl | exact Or.inr rfl))) (K5 (D1 (A3 (i:=8) nd rfl (by first | exact Or.inl rfl | exact Or.inr rfl))) T9))) (j3 (R3 (pv 6) (c8 (pv 5))) (j9 (l6 (i:=5) nd rfl (by first | exact Or.inl rfl | exact Or.inr rfl) (j6 C_law_gone _ hr (by decide) (by rfl) (ac (c8 (pv 5)) (ac (j6 C_law_product _ hr (by decide) (by rfl) (ac (C9 (ac (c8 (pv 7)) (ac b0 i0))) (ac (c8 (pv 4)) i0)) (c5 (c5 j4))) (ac (j6 C_law_product _ hr (by decide) (by rfl) (ac (C9 (ac (c8 (pv 8)) (ac b0 i0))) (ac (c8 (pv 4)) i0)) (c5 (c5 j4))) i0))) (c5 (c5 (c5 j4)))))))) (j9 (p7 (j6 C_law_hull _ hr (by decide) (by rfl) (ac (c8 (pv 6)) i0) (c5 j4)))))))))))))
noncomputable abbrev a4H:Stmt:=top 5
theorem sc_is_lesser:FnScope ["one", "other", "here", "there"] ["one", "other"] (m9 a4H):=⟨rfl,rfl,rfl,by decide +kernel,rfl,by decide +kernel,by decide +kernel⟩
set_option maxHeartbeats 4000000 in
theorem b2p {f:Addr} {fd:FuncData} (B:Blt mg) (F:GF K mg "is_lesser" a4H f fd):Cal P w K mg base 1 "is_lesser" ["one", "other"] (J6):=
 w4 F (fun _ _ _ _ _ _=>on2 fun _ _=>rfl) sc_is_lesser fun cdv A outer s H E g hr=>
  have nd:=sc_is_lesser.nd
  (j3 (l6 (i:=2) nd rfl (by first | exact Or.inl rfl | exact Or.inr rfl) (i9 o0 o6 (EO.b (i7 i5 i6 (a9 (pv 0)) (EO.b b0) (fun _ _=>rfl))) (EO.b (i7 i5 i6 (a9 (pv 1)) (EO.b b0) (fun _ _=>rfl))))) (j3 (l6 (i:=3) nd rfl (by first | exact Or.inl rfl | exact Or.inr rfl) (i9 o0 o6 (EO.b (i7 i5 i6 (a9 (pv 1)) (EO.b b0) (fun _ _=>rfl))) (EO.b (i7 i5 i6 (a9 (pv 0)) (EO.b b0) (fun _ _=>rfl))))) (j3 (D7 (v7 (L8 (u64 hr)) M2 (a9 (pv 2)) (a9 (pv 3)) (u7 _)) (j9 (p7 (P5 K6 (B9 (fun i j=>decide (i < j))) (a9 (pv 2)) (a9 (pv 3)) (u7 _)))) D3) (j9 (p7 (P5 K6 (B9 (fun i j=>decide (i < j))) (EO.b (i9 o0 o6 (EO.b (i7 i5 i6 (a9 (pv 0)) (EO.b b0) (fun _ _=>rfl))) (EO.b (i7 i5 i6 (a9 (pv 1)) (EO.b b0) (fun _ _=>rfl))))) (EO.b (i9 o0 o6 (EO.b (i7 i5 i6 (a9 (pv 1)) (EO.b b0) (fun _ _=>rfl))) (EO.b (i7 i5 i6 (a9 (pv 0)) (EO.b b0) (fun _ _=>rfl))))) (u7 _)))))))
noncomputable abbrev a2w:Stmt:=top 12
theorem sc_merged:FnScope ["ones", "others", "goes_ahead", "told", "taken", "one"] ["ones", "others", "goes_ahead"] (m9 a2w):=⟨rfl,rfl,rfl,by decide +kernel,rfl,by decide +kernel,by decide +kernel⟩
set_option maxHeartbeats 4000000 in
theorem b5n {m_is_lesser:DFn} (C_is_lesser:Cal P w K mg base 1 "is_lesser" ["one", "other"] m_is_lesser) {f:Addr} {fd:FuncData} (B:Blt mg) (F:GF K mg "merged" a2w f fd):Cal P w K mg base 2 "merged" ["ones", "others", "goes_ahead"] (W4 m_is_lesser):=
 w4 F (fun _ _ _ _ _ _=>on3 fun _ _ _=>rfl) sc_merged fun cdv A outer s H E g hr=>
  have nd:=sc_merged.nd
  (j3 (N3 (i:=3) nd rfl (by first | exact Or.inl rfl | exact Or.inr rfl) (G7 i0)) (j3 (l6 (i:=4) nd rfl (by first | exact Or.inl rfl | exact Or.inr rfl) b0) (j3 (P0 PassesOwn.never rfl (c8 (pv 0)) (D1 (A3 (i:=5) nd rfl (by first | exact Or.inl rfl | exact Or.inr rfl))) (j3 (a0m PassesOwn.never (WO.t (a01 (v7 K6 (B9 (fun i j=>decide (i < j))) (a9 (pv 4)) (EO.b (D2 K0 K2 (by rfl) B.len J9 (bc (a9 (pv 1)) A5))) (u7 _)) (a0S (a1d (EO.b (b1y (b0e C_is_lesser (by decide) rfl b6t) hr (pv 2) (ac (i7 i5 i6 (a9 (pv 1)) (a9 (pv 4)) (fun _ _=>rfl)) (ac (c8 (pv 5)) i0)) (c5 (c5 j4)))))))) (j3 (R3 (pv 3) (i7 i5 i6 (a9 (pv 1)) (a9 (pv 4)) (fun _ _=>rfl))) (j9 (l6 (i:=4) nd rfl (by first | exact Or.inl rfl | exact Or.inr rfl) (i9 G9 J4 (a9 (pv 4)) (EO.b b0)))))) (j9 (R3 (pv 3) (c8 (pv 5)))))) (j9 (p7 (i9 G9 J4 (a9 (pv 3)) (EO.b (T7 (a9 (pv 1)) (T5 (a9 (pv 4))) S9))))))))
noncomputable abbrev a45:Stmt:=top 11
theorem sc_in_order:FnScope ["some", "goes_ahead", "middle"] ["some", "goes_ahead"] (m9 a45):=⟨rfl,rfl,rfl,by decide +kernel,rfl,by decide +kernel,by decide +kernel⟩
set_option maxHeartbeats 4000000 in
theorem a6e {m_merged:DFn} (C_merged:Cal P w K mg base 2 "merged" ["ones", "others", "goes_ahead"] m_merged) {f:Addr} {fd:FuncData} (B:Blt mg) (F:GF K mg "in_order" a45 f fd):∀ n:Nat,Cal P w K mg base (2 + n) "in_order" ["some", "goes_ahead"] (a0c m_merged n)
 | 0=>⟨f,fd,b4x,F.m,F.F.kp,F.F.binds (fun _ _ _ _ _ _=>on2 fun _ _=>rfl)⟩
 | n + 1=>
  have C_in_order:=a6e C_merged B F n
  w4 F (fun _ _ _ _ _ _=>on2 fun _ _=>rfl) sc_in_order fun cdv A outer s H E g hr=>
  have nd:=sc_in_order.nd
  (j3 (D7 (v7 K6 (B9 (fun i j=>decide (i < j))) (EO.b (D2 K0 K2 (by rfl) B.len J9 (bc (a9 (pv 0)) A5))) (EO.b b0) (u7 _)) (j9 (p7 (FO.v (a5B a8L a7j (by rfl) B.list a8v (bc (a9 (pv 0)) A5))))) D3) (j3 (l6 (i:=2) nd rfl (by first | exact Or.inl rfl | exact Or.inr rfl) (i9 P6 O0 (EO.b (D2 K0 K2 (by rfl) B.len J9 (bc (a9 (pv 0)) A5))) (EO.b b0))) (j9 (p7 (j6 C_merged _ hr (Nat.le_trans (by decide) (Nat.le_add_right 2 _)) (by rfl) (ac (j6 C_in_order _ hr (Nat.le_refl _) (by rfl) (ac (T7 (a9 (pv 0)) S9 (T5 (a9 (pv 2)))) (ac (c8 (pv 1)) i0)) (c5 (c5 j4))) (ac (j6 C_in_order _ hr (Nat.le_refl _) (by rfl) (ac (T7 (a9 (pv 0)) (T5 (a9 (pv 2))) S9) (ac (c8 (pv 1)) i0)) (c5 (c5 j4))) (ac (c8 (pv 1)) i0))) (c5 (c5 (c5 j4))))))))
noncomputable abbrev a4I:Stmt:=top 6
theorem sc_sign:FnScope ["number"] ["number"] (m9 a4I):=⟨rfl,rfl,rfl,by decide +kernel,rfl,by decide +kernel,by decide +kernel⟩
set_option maxHeartbeats 4000000 in
theorem b5T {f:Addr} {fd:FuncData} (B:Blt mg) (F:GF K mg "sign" a4I f fd):Cal P w K mg base 1 "sign" ["number"] (V8):=
 w4 F (fun _ _ _ _ _ _=>on1 fun _=>rfl) sc_sign fun cdv A outer s H E g hr=>
  have nd:=sc_sign.nd
  (j3 (D7 (v7 R4 (B9 (fun i j=>decide (j < i))) (a9 (pv 0)) (EO.b b0) (u7 _)) (j9 (p7 b0)) D3) (j3 (D7 (v7 K6 (B9 (fun i j=>decide (i < j))) (a9 (pv 0)) (EO.b b0) (u7 _)) (j9 (p7 (K7 K9 L0 (EO.b b0)))) D3) (j9 (p7 b0))))
noncomputable abbrev a2V:Stmt:=top 7
theorem sc_turn:FnScope ["a", "b", "c", "spread"] ["a", "b", "c"] (m9 a2V):=⟨rfl,rfl,rfl,by decide +kernel,rfl,by decide +kernel,by decide +kernel⟩
set_option maxHeartbeats 4000000 in
theorem b1W {m_sign:DFn} (C_sign:Cal P w K mg base 1 "sign" ["number"] m_sign) {f:Addr} {fd:FuncData} (B:Blt mg) (F:GF K mg "turn" a2V f fd):Cal P w K mg base 2 "turn" ["a", "b", "c"] (a0D m_sign):=
 w4 F (fun _ _ _ _ _ _=>on3 fun _ _ _=>rfl) sc_turn fun cdv A outer s H E g hr=>
  have nd:=sc_turn.nd
  (j3 (l6 (i:=3) nd rfl (by first | exact Or.inl rfl | exact Or.inr rfl) (i9 o0 o6 (EO.b (i7 i5 i6 (a9 (pv 0)) (EO.b b0) (fun _ _=>rfl))) (EO.b (i9 D6 D5 (EO.b (i9 o0 o6 (EO.b (i7 i5 i6 (a9 (pv 1)) (EO.b b0) (fun _ _=>rfl))) (EO.b (i7 i5 i6 (a9 (pv 2)) (EO.b b0) (fun _ _=>rfl))))) (EO.b (i9 o0 o6 (EO.b (i7 i5 i6 (a9 (pv 2)) (EO.b b0) (fun _ _=>rfl))) (EO.b (i7 i5 i6 (a9 (pv 1)) (EO.b b0) (fun _ _=>rfl))))))))) (j3 (l6 (i:=3) nd rfl (by first | exact Or.inl rfl | exact Or.inr rfl) (i9 D6 D5 (a9 (pv 3)) (EO.b (i9 o0 o6 (EO.b (i7 i5 i6 (a9 (pv 0)) (EO.b b0) (fun _ _=>rfl))) (EO.b (i9 D6 D5 (EO.b (i9 o0 o6 (EO.b (i7 i5 i6 (a9 (pv 1)) (EO.b b0) (fun _ _=>rfl))) (EO.b (i7 i5 i6 (a9 (pv 2)) (EO.b b0) (fun _ _=>rfl))))) (EO.b (i9 o0 o6 (EO.b (i7 i5 i6 (a9 (pv 2)) (EO.b b0) (fun _ _=>rfl))) (EO.b (i7 i5 i6 (a9 (pv 1)) (EO.b b0) (fun _ _=>rfl))))))))))) (j3 (l6 (i:=3) nd rfl (by first | exact Or.inl rfl | exact Or.inr rfl) (i9 G9 J4 (a9 (pv 3)) (EO.b (i9 o0 o6 (EO.b (i7 i5 i6 (a9 (pv 0)) (EO.b b0) (fun _ _=>rfl))) (EO.b (i9 D6 D5 (EO.b (i9 o0 o6 (EO.b (i7 i5 i6 (a9 (pv 1)) (EO.b b0) (fun _ _=>rfl))) (EO.b (i7 i5 i6 (a9 (pv 2)) (EO.b b0) (fun _ _=>rfl))))) (EO.b (i9 o0 o6 (EO.b (i7 i5 i6 (a9 (pv 2)) (EO.b b0) (fun _ _=>rfl))) (EO.b (i7 i5 i6 (a9 (pv 1)) (EO.b b0) (fun _ _=>rfl))))))))))) (j9 (p7 (j6 C_sign _ hr (by decide) (by rfl) (ac (c8 (pv 3)) i0) (c5 j4)))))))
noncomputable abbrev a3p:Stmt:=top 18
theorem sc_bow:FnScope ["row", "kept", "one"] ["row"] (m9 a3p):=⟨rfl,rfl,rfl,by decide +kernel,rfl,by decide +kernel,by decide +kernel⟩
set_option maxHeartbeats 4000000 in
theorem b3r {m_turn:DFn} (C_turn:Cal P w K mg base 2 "turn" ["a", "b", "c"] m_turn) {f:Addr} {fd:FuncData} (B:Blt mg) (F:GF K mg "bow" a3p f fd):Cal P w K mg base 3 "bow" ["row"] (V6 m_turn):=
 w4 F (fun _ _ _ _ _ _=>on1 fun _=>rfl) sc_bow fun cdv A outer s H E g hr=>
  have nd:=sc_bow.nd
  (j3 (N3 (i:=1) nd rfl (by first | exact Or.inl rfl | exact Or.inr rfl) (G7 i0)) (j3 (P0 PassesOwn.never rfl (c8 (pv 0)) (D1 (A3 (i:=2) nd rfl (by first | exact Or.inl rfl | exact Or.inr rfl))) (j3 (a0m PassesOwn.never (WO.t (a01 (v7 R4 (B9 (fun i j=>decide (j < i))) (EO.b (D2 K0 K2 (by rfl) B.len J9 (bc (a9 (pv 1)) A5))) (EO.b b0) (u7 _)) (a0S (v7 (L8 (u64 hr)) M2 (EO.b (j6 C_turn _ hr (by decide) (by rfl) (ac (i7 i5 i6 (a9 (pv 1)) (EO.b (K7 K9 L0 (EO.b b0))) (fun _ _=>rfl)) (ac (i7 i5 i6 (a9 (pv 1)) (EO.b (K7 K9 L0 (EO.b b0))) (fun _ _=>rfl)) (ac (c8 (pv 2)) i0))) (c5 (c5 (c5 j4))))) (EO.b b0) (u7 _))))) (j9 (b2m (pv 1)))) (j9 (R3 (pv 1) (c8 (pv 2)))))) (j9 (p7 (c8 (pv 1))))))
noncomputable abbrev a4G:Stmt:=top 17
theorem sc_shape_of:FnScope ["some", "unlike", "one", "row", "corners"] ["some"] (m9 a4G):=⟨rfl,rfl,rfl,by decide +kernel,rfl,by decide +kernel,by decide +kernel⟩
set_option maxHeartbeats 4000000 in
theorem b4A {m_in_order:DFn} {m_bow:DFn} (C_in_order:Cal P w K mg base 66 "in_order" ["some", "goes_ahead"] m_in_order) (C_bow:Cal P w K mg base 3 "bow" ["row"] m_bow) (V_is_lesser:FnV K mg "is_lesser") {f:Addr} {fd:FuncData} (B:Blt mg) (F:GF K mg "shape_of" a4G f fd):Cal P w K mg base 67 "shape_of" ["some"] (a26 m_in_order m_bow):=
 w4 F (fun _ _ _ _ _ _=>on1 fun _=>rfl) sc_shape_of fun cdv A outer s H E g hr=>
  have nd:=sc_shape_of.nd
  (b0V (iS:=0) (iU:=1) (iO:=2) (iR:=3) PassesOwn.never rfl hr nd (by decide) (by decide) C_in_order (by decide) rfl (by rfl) V_is_lesser (by rfl) (by rfl) B.list (fun _=>pv 1) (fun _=>pv 2) (pv 0) a7T rfl (by first | exact Or.inl rfl | exact Or.inr rfl) rfl (by first | exact Or.inl rfl | exact Or.inr rfl) rfl (by first | exact Or.inl rfl | exact Or.inr rfl) (j3 (l6 (i:=4) nd rfl (by first | exact Or.inl rfl | exact Or.inr rfl) (i9 G9 J4 (EO.b (T7 (EO.b (j6 C_bow _ hr (by decide) (by rfl) (ac (c8 (pv 3)) i0) (c5 j4))) S9 (T5 (EO.b (K7 K9 L0 (EO.b b0)))))) (EO.b (T7 (EO.b (j6 C_bow _ hr (by decide) (by rfl) (ac (FO.v (b0s rfl (by rfl) B.list (by rfl) B.reversed (bc (a9 (pv 3)) A5))) i0) (c5 j4))) S9 (T5 (EO.b (K7 K9 L0 (EO.b b0)))))))) (j3 (D7 (v7 K6 (B9 (fun i j=>decide (i < j))) (EO.b (D2 K0 K2 (by rfl) B.len J9 (bc (a9 (pv 4)) A5))) (EO.b b0) (u7 _)) (j9 (p7 a0j)) D3) (j9 (p7 (a0U a3J a3f (by rfl) B.tuple a2I (bc (a9 (pv 4)) A5)))))))
noncomputable abbrev a27:Stmt:=top 13
theorem sc_upright:FnScope ["one", "other"] ["one", "other"] (m9 a27):=⟨rfl,rfl,rfl,by decide +kernel,rfl,by decide +kernel,by decide +kernel⟩
set_option maxHeartbeats 4000000 in
theorem b2N {f:Addr} {fd:FuncData} (B:Blt mg) (F:GF K mg "upright" a27 f fd):Cal P w K mg base 1 "upright" ["one", "other"] (a0a):=
 w4 F (fun _ _ _ _ _ _=>on2 fun _ _=>rfl) sc_upright fun cdv A outer s H E g hr=>
  have nd:=sc_upright.nd
  (j9 (p7 (C9 (ac (i9 D6 D5 (EO.b (i9 o0 o6 (EO.b (i7 i5 i6 (a9 (pv 0)) (EO.b b0) (fun _ _=>rfl))) (EO.b (i7 i5 i6 (a9 (pv 1)) (EO.b b0) (fun _ _=>rfl))))) (EO.b (i9 o0 o6 (EO.b (i7 i5 i6 (a9 (pv 0)) (EO.b b0) (fun _ _=>rfl))) (EO.b (i7 i5 i6 (a9 (pv 1)) (EO.b b0) (fun _ _=>rfl)))))) (ac (i9 D6 D5 (EO.b (i9 o0 o6 (EO.b (i7 i5 i6 (a9 (pv 0)) (EO.b b0) (fun _ _=>rfl))) (EO.b (i7 i5 i6 (a9 (pv 1)) (EO.b b0) (fun _ _=>rfl))))) (EO.b (i9 o0 o6 (EO.b (i7 i5 i6 (a9 (pv 0)) (EO.b b0) (fun _ _=>rfl))) (EO.b (i7 i5 i6 (a9 (pv 1)) (EO.b b0) (fun _ _=>rfl)))))) (ac (i9 D6 D5 (EO.b (i9 o0 o6 (EO.b (i7 i5 i6 (a9 (pv 0)) (EO.b b0) (fun _ _=>rfl))) (EO.b (i7 i5 i6 (a9 (pv 1)) (EO.b b0) (fun _ _=>rfl))))) (EO.b (i9 o0 o6 (EO.b (i7 i5 i6 (a9 (pv 0)) (EO.b b0) (fun _ _=>rfl))) (EO.b (i7 i5 i6 (a9 (pv 1)) (EO.b b0) (fun _ _=>rfl)))))) i0))))))
noncomputable abbrev a5r:Stmt:=top 14
theorem sc_straight:FnScope ["a", "b"] ["a", "b"] (m9 a5r):=⟨rfl,rfl,rfl,by decide +kernel,rfl,by decide +kernel,by decide +kernel⟩
set_option maxHeartbeats 4000000 in
theorem b4l {m_upright:DFn} (C_upright:Cal P w K mg base 1 "upright" ["one", "other"] m_upright) {f:Addr} {fd:FuncData} (B:Blt mg) (F:GF K mg "straight" a5r f fd):Cal P w K mg base 2 "straight" ["a", "b"] (a5h m_upright):=
 w4 F (fun _ _ _ _ _ _=>on2 fun _ _=>rfl) sc_straight fun cdv A outer s H E g hr=>
  have nd:=sc_straight.nd
  (j9 (p7 (j6 C_upright _ hr (by decide) (by rfl) (ac (c8 (pv 0)) (ac (c8 (pv 1)) i0)) (c5 (c5 j4)))))
noncomputable abbrev a4S:Stmt:=top 9
theorem sc_neighbours:FnScope ["row", "closed"] ["row", "closed"] (m9 a4S):=⟨rfl,rfl,rfl,by decide +kernel,rfl,by decide +kernel,by decide +kernel⟩
set_option maxHeartbeats 4000000 in
theorem b3I {f:Addr} {fd:FuncData} (B:Blt mg) (F:GF K mg "neighbours" a4S f fd):Cal P w K mg base 1 "neighbours" ["row", "closed"] (a0J):=
 w4 F (fun _ _ _ _ _ _=>on2 fun _ _=>rfl) sc_neighbours fun cdv A outer s H E g hr=>
  have nd:=sc_neighbours.nd
  (j3 (D7 (a1d (a9 (pv 1))) (j9 (p7 (FO.v (a57 rfl (by rfl) B.list (by rfl) B.zip (bc (a9 (pv 0)) (bc (EO.b (i9 G9 J4 (EO.b (T7 (a9 (pv 0)) (T5 (EO.b b0)) S9)) (EO.b (T7 (a9 (pv 0)) S9 (T5 (EO.b b0)))))) A5)))))) D3) (j9 (p7 (FO.v (a57 rfl (by rfl) B.list (by rfl) B.zip (bc (a9 (pv 0)) (bc (EO.b (T7 (a9 (pv 0)) (T5 (EO.b b0)) S9)) A5)))))))
noncomputable abbrev a4j:Stmt:=top 10
theorem sc_edges:FnScope ["corners"] ["corners"] (m9 a4j):=⟨rfl,rfl,rfl,by decide +kernel,rfl,by decide +kernel,by decide +kernel⟩
set_option maxHeartbeats 4000000 in
theorem b1Y {m_neighbours:DFn} (C_neighbours:Cal P w K mg base 1 "neighbours" ["row", "closed"] m_neighbours) {f:Addr} {fd:FuncData} (B:Blt mg) (F:GF K mg "edges" a4j f fd):Cal P w K mg base 2 "edges" ["corners"] (a1G m_neighbours):=
 w4 F (fun _ _ _ _ _ _=>on1 fun _=>rfl) sc_edges fun cdv A outer s H E g hr=>
  have nd:=sc_edges.nd
  (j9 (p7 (j6 C_neighbours _ hr (by decide) (by rfl) (ac (c8 (pv 0)) (ac S6 i0)) (c5 (c5 j4)))))
noncomputable abbrev a2x:Stmt:=top 1
theorem sc_divisor_of_two:FnScope ["one", "other", "greater", "rest", "left_over"] ["one", "other"] (m9 a2x):=⟨rfl,rfl,rfl,by decide +kernel,rfl,by decide +kernel,by decide +kernel⟩
set_option maxHeartbeats 4000000 in
theorem b3Z {f:Addr} {fd:FuncData} (B:Blt mg) (F:GF K mg "divisor_of_two" a2x f fd):Cal P w K mg base 1 "divisor_of_two" ["one", "other"] (L7):=
 w4 F (fun _ _ _ _ _ _=>on2 fun _ _=>rfl) sc_divisor_of_two fun cdv A outer s H E g hr=>
  have nd:=sc_divisor_of_two.nd
  (j3 (l6 (i:=2) nd rfl (by first | exact Or.inl rfl | exact Or.inr rfl) (D2 a1z a1Y (by rfl) B.abs a1e (bc (a9 (pv 0)) A5))) (j3 (l6 (i:=3) nd rfl (by first | exact Or.inl rfl | exact Or.inr rfl) (D2 a1z a1Y (by rfl) B.abs a1e (bc (a9 (pv 1)) A5))) (j3 (a0m PassesOwn.never (v7 (L8 (u64 hr)) M2 (a9 (pv 3)) (EO.b b0) (u7 _)) (j3 (l6 (i:=4) nd rfl (by first | exact Or.inl rfl | exact Or.inr rfl) (i9 P9 Q5 (a9 (pv 2)) (a9 (pv 3)))) (j3 (l6 (i:=2) nd rfl (by first | exact Or.inl rfl | exact Or.inr rfl) (c8 (pv 3))) (j9 (l6 (i:=3) nd rfl (by first | exact Or.inl rfl | exact Or.inr rfl) (c8 (pv 4))))))) (j9 (p7 (c8 (pv 2)))))))
noncomputable abbrev a4D:Stmt:=top 2
theorem sc_divisor:FnScope ["parts", "shared", "part"] ["parts"] (m9 a4D):=⟨rfl,rfl,rfl,by decide +kernel,rfl,by decide +kernel,by decide +kernel⟩
set_option maxHeartbeats 4000000 in
theorem b5C {m_divisor_of_two:DFn} (C_divisor_of_two:Cal P w K mg base 1 "divisor_of_two" ["one", "other"] m_divisor_of_two) {f:Addr} {fd:FuncData} (B:Blt mg) (F:GF K mg "divisor" a4D f fd):Cal P w K mg base 2 "divisor" ["parts"] (W1 m_divisor_of_two):=
 w4 F (fun _ _ _ _ _ _=>on1 fun _=>rfl) sc_divisor fun cdv A outer s H E g hr=>
  have nd:=sc_divisor.nd
  (j3 (l6 (i:=1) nd rfl (by first | exact Or.inl rfl | exact Or.inr rfl) b0) (j3 (P0 PassesOwn.never rfl (c8 (pv 0)) (D1 (A3 (i:=2) nd rfl (by first | exact Or.inl rfl | exact Or.inr rfl))) (j9 (l6 (i:=1) nd rfl (by first | exact Or.inl rfl | exact Or.inr rfl) (j6 C_divisor_of_two _ hr (by decide) (by rfl) (ac (c8 (pv 1)) (ac (c8 (pv 2)) i0)) (c5 (c5 j4)))))) (j9 (p7 (c8 (pv 1))))))
noncomputable abbrev a2U:Stmt:=top 3
theorem sc_lowest:FnScope ["parts", "shared"] ["parts"] (m9 a2U):=⟨rfl,rfl,rfl,by decide +kernel,rfl,by decide +kernel,by decide +kernel⟩
set_option maxHeartbeats 4000000 in
theorem b5V {m_divisor:DFn} (C_divisor:Cal P w K mg base 2 "divisor" ["parts"] m_divisor) {f:Addr} {fd:FuncData} (B:Blt mg) (F:GF K mg "lowest" a2U f fd):Cal P w K mg base 3 "lowest" ["parts"] (a4g m_divisor):=
 w4 F (fun _ _ _ _ _ _=>on1 fun _=>rfl) sc_lowest fun cdv A outer s H E g hr=>
  have nd:=sc_lowest.nd
  (j3 (l6 (i:=1) nd rfl (by first | exact Or.inl rfl | exact Or.inr rfl) (j6 C_divisor _ hr (by decide) (by rfl) (ac (c8 (pv 0)) i0) (c5 j4))) (j3 (D7 (v7 K6 (B9 (fun i j=>decide (i < j))) (EO.b (i7 i5 i6 (a9 (pv 0)) (EO.b (K7 K9 L0 (EO.b b0))) (fun _ _=>rfl))) (EO.b b0) (u7 _)) (j9 (l6 (i:=1) nd rfl (by first | exact Or.inl rfl | exact Or.inr rfl) (K7 K9 L0 (a9 (pv 1))))) D3) (j9 (p7 (a0U a3J a3f (by rfl) B.tuple a2I (bc (EO.b (FO.v (a3u (N':=["part", "shared"]) (idx:=[1]) rfl (Y0 (by rfl) (.cons rfl .nil) (by decide +kernel) rfl (by decide +kernel) (by rfl) (.cons rfl (by first | exact Or.inl rfl | exact Or.inr rfl) (by first | exact Or.inl rfl | exact Or.inr rfl) .nil)) (a0g (c8 (pv 0))) (fun _ _ _ _=>A3 (i:=0) (show List.Nodup (["part", "shared"]:List Str) by decide +kernel) rfl (Or.inl rfl)) (fun _ _ _ _ _=>a0O) (fun _ _ _ _ _=>(i9 P6 O0 (a9 (pv 0)) (a9 (pv 1))))))) A5))))))
noncomputable abbrev a4e:Stmt:=top 15
theorem sc_crossing:FnScope ["line", "other"] ["line", "other"] (m9 a4e):=⟨rfl,rfl,rfl,by decide +kernel,rfl,by decide +kernel,by decide +kernel⟩
set_option maxHeartbeats 4000000 in
theorem a9T {m_lowest:DFn} {m_upright:DFn} (C_lowest:Cal P w K mg base 3 "lowest" ["parts"] m_lowest) (C_upright:Cal P w K mg base 1 "upright" ["one", "other"] m_upright) {f:Addr} {fd:FuncData} (B:Blt mg) (F:GF K mg "crossing" a4e f fd):Cal P w K mg base 4 "crossing" ["line", "other"] (a37 m_lowest m_upright):=
 w4 F (fun _ _ _ _ _ _=>on2 fun _ _=>rfl) sc_crossing fun cdv A outer s H E g hr=>
  have nd:=sc_crossing.nd
  (j9 (p7 (j6 C_lowest _ hr (by decide) (by rfl) (ac (j6 C_upright _ hr (by decide) (by rfl) (ac (c8 (pv 0)) (ac (c8 (pv 1)) i0)) (c5 (c5 j4))) i0) (c5 j4))))
noncomputable abbrev a4P:Stmt:=top 20
theorem sc_clipped:FnScope ["corners", "a", "b", "line", "kept", "one", "other", "here"] ["corners", "a", "b"] (m9 a4P):=⟨rfl,rfl,rfl,by decide +kernel,rfl,by decide +kernel,by decide +kernel⟩
set_option maxHeartbeats 4000000 in
theorem b1I {m_turn:DFn} {m_crossing:DFn} {m_straight:DFn} {m_edges:DFn} (C_turn:Cal P w K mg base 2 "turn" ["a", "b", "c"] m_turn) (C_crossing:Cal P w K mg base 4 "crossing" ["line", "other"] m_crossing) (C_straight:Cal P w K mg base 2 "straight" ["a", "b"] m_straight) (C_edges:Cal P w K mg base 2 "edges" ["corners"] m_edges) {f:Addr} {fd:FuncData} (B:Blt mg) (F:GF K mg "clipped" a4P f fd):Cal P w K mg base 5 "clipped" ["corners", "a", "b"] (a2O m_turn m_crossing m_straight m_edges):=
 w4 F (fun _ _ _ _ _ _=>on3 fun _ _ _=>rfl) sc_clipped fun cdv A outer s H E g hr=>
  have nd:=sc_clipped.nd
  (j3 (l6 (i:=3) nd rfl (by first | exact Or.inl rfl | exact Or.inr rfl) (j6 C_straight _ hr (by decide) (by rfl) (ac (c8 (pv 1)) (ac (c8 (pv 2)) i0)) (c5 (c5 j4)))) (j3 (N3 (i:=4) nd rfl (by first | exact Or.inl rfl | exact Or.inr rfl) (G7 i0)) (j3 (P0 PassesOwn.never rfl (j6 C_edges _ hr (by decide) (by rfl) (ac (c8 (pv 0)) i0) (c5 j4)) (V4 rfl (K5 (D1 (A3 (i:=5) nd rfl (by first | exact Or.inl rfl | exact Or.inr rfl))) (K5 (D1 (A3 (i:=6) nd rfl (by first | exact Or.inl rfl | exact Or.inr rfl))) T9))) (j3 (l6 (i:=7) nd rfl (by first | exact Or.inl rfl | exact Or.inr rfl) (j6 C_turn _ hr (by decide) (by rfl) (ac (c8 (pv 1)) (ac (c8 (pv 2)) (ac (c8 (pv 5)) i0))) (c5 (c5 (c5 j4))))) (j3 (D7 (v7 (L8 (u64 hr)) M2 (a9 (pv 7)) (EO.b (K7 K9 L0 (EO.b b0))) (u7 _)) (j9 (R3 (pv 4) (c8 (pv 5)))) D3) (j9 (D7 (v7 (X0 (u64 hr)) a0i (EO.b (i9 o0 o6 (a9 (pv 7)) (EO.b (j6 C_turn _ hr (by decide) (by rfl) (ac (c8 (pv 1)) (ac (c8 (pv 2)) (ac (c8 (pv 6)) i0))) (c5 (c5 (c5 j4))))))) (EO.b (K7 K9 L0 (EO.b b0))) (u7 _)) (j9 (R3 (pv 4) (j6 C_crossing _ hr (by decide) (by rfl) (ac (c8 (pv 3)) (ac (j6 C_straight _ hr (by decide) (by rfl) (ac (c8 (pv 5)) (ac (c8 (pv 6)) i0)) (c5 (c5 j4))) i0)) (c5 (c5 j4))))) D3))))) (j9 (p7 (c8 (pv 4)))))))
noncomputable abbrev a3F:Stmt:=top 19
theorem sc_cut_off:FnScope ["shape", "a", "b"] ["shape", "a", "b"] (m9 a3F):=⟨rfl,rfl,rfl,by decide +kernel,rfl,by decide +kernel,by decide +kernel⟩
set_option maxHeartbeats 4000000 in
theorem b4K {m_shape_of:DFn} {m_clipped:DFn} (C_shape_of:Cal P w K mg base 67 "shape_of" ["some"] m_shape_of) (C_clipped:Cal P w K mg base 5 "clipped" ["corners", "a", "b"] m_clipped) {f:Addr} {fd:FuncData} (B:Blt mg) (F:GF K mg "cut_off" a3F f fd):Cal P w K mg base 68 "cut_off" ["shape", "a", "b"] (a20 m_shape_of m_clipped):=
 w4 F (fun _ _ _ _ _ _=>on3 fun _ _ _=>rfl) sc_cut_off fun cdv A outer s H E g hr=>
  have nd:=sc_cut_off.nd
  (j9 (p7 (j6 C_shape_of _ hr (by decide) (by rfl) (ac (j6 C_clipped _ hr (by decide) (by rfl) (ac (c8 (pv 0)) (ac (c8 (pv 1)) (ac (c8 (pv 2)) i0))) (c5 (c5 (c5 j4)))) i0) (c5 j4))))
noncomputable abbrev a41:Stmt:=top 41
theorem sc_law_apart:FnScope ["_law_a", "_law_b", "_law_x", "_law_y", "_law_far_x", "_law_far_y"] ["_law_a", "_law_b"] (m9 a41):=⟨rfl,rfl,rfl,by decide +kernel,rfl,by decide +kernel,by decide +kernel⟩
set_option maxHeartbeats 4000000 in
theorem b1o {m_law_sum:DFn} {m_law_minus:DFn} {m_law_xy:DFn} (C_law_sum:Cal P w K mg base 2 "_law_sum" ["_law_one", "_law_other"] m_law_sum) (C_law_minus:Cal P w K mg base 1 "_law_minus" ["_law_one"] m_law_minus) (C_law_xy:Cal P w K mg base 2 "_law_xy" ["_law_one"] m_law_xy) {f:Addr} {fd:FuncData} (B:Blt mg) (F:GF K mg "_law_apart" a41 f fd):Cal P w K mg base 3 "_law_apart" ["_law_a", "_law_b"] (a2L m_law_sum m_law_minus m_law_xy):=
 w4 F (fun _ _ _ _ _ _=>on2 fun _ _=>rfl) sc_law_apart fun cdv A outer s H E g hr=>
  have nd:=sc_law_apart.nd
  (j3 (a2y (j6 C_law_xy _ hr (by decide) (by rfl) (ac (c8 (pv 0)) i0) (c5 j4)) (V4 rfl (K5 (D1 (A3 (i:=2) nd rfl (by first | exact Or.inl rfl | exact Or.inr rfl))) (K5 (D1 (A3 (i:=3) nd rfl (by first | exact Or.inl rfl | exact Or.inr rfl))) T9)))) (j3 (a2y (j6 C_law_xy _ hr (by decide) (by rfl) (ac (c8 (pv 1)) i0) (c5 j4)) (V4 rfl (K5 (D1 (A3 (i:=4) nd rfl (by first | exact Or.inl rfl | exact Or.inr rfl))) (K5 (D1 (A3 (i:=5) nd rfl (by first | exact Or.inl rfl | exact Or.inr rfl))) T9)))) (j9 (p7 (C9 (ac (j6 C_law_sum _ hr (by decide) (by rfl) (ac (c8 (pv 4)) (ac (j6 C_law_minus _ hr (by decide) (by rfl) (ac (c8 (pv 2)) i0) (c5 j4)) i0)) (c5 (c5 j4))) (ac (j6 C_law_sum _ hr (by decide) (by rfl) (ac (c8 (pv 5)) (ac (j6 C_law_minus _ hr (by decide) (by rfl) (ac (c8 (pv 3)) i0) (c5 j4)) i0)) (c5 (c5 j4))) i0)))))))
noncomputable abbrev a5q:Stmt:=top 42
theorem sc_law_athwart:FnScope ["_law_one", "_law_other"] ["_law_one", "_law_other"] (m9 a5q):=⟨rfl,rfl,rfl,by decide +kernel,rfl,by decide +kernel,by decide +kernel⟩
set_option maxHeartbeats 4000000 in
theorem b41 {m_law_sum:DFn} {m_law_minus:DFn} {m_law_product:DFn} (C_law_sum:Cal P w K mg base 2 "_law_sum" ["_law_one", "_law_other"] m_law_sum) (C_law_minus:Cal P w K mg base 1 "_law_minus" ["_law_one"] m_law_minus) (C_law_product:Cal P w K mg base 2 "_law_product" ["_law_one", "_law_other"] m_law_product) {f:Addr} {fd:FuncData} (B:Blt mg) (F:GF K mg "_law_athwart" a5q f fd):Cal P w K mg base 3 "_law_athwart" ["_law_one", "_law_other"] (a4L m_law_sum m_law_minus m_law_product):=
 w4 F (fun _ _ _ _ _ _=>on2 fun _ _=>rfl) sc_law_athwart fun cdv A outer s H E g hr=>
  have nd:=sc_law_athwart.nd
  (j9 (p7 (j6 C_law_sum _ hr (by decide) (by rfl) (ac (j6 C_law_product _ hr (by decide) (by rfl) (ac (i7 i5 i6 (a9 (pv 0)) (EO.b b0) (fun _ _=>rfl)) (ac (i7 i5 i6 (a9 (pv 1)) (EO.b b0) (fun _ _=>rfl)) i0)) (c5 (c5 j4))) (ac (j6 C_law_minus _ hr (by decide) (by rfl) (ac (j6 C_law_product _ hr (by decide) (by rfl) (ac (i7 i5 i6 (a9 (pv 0)) (EO.b b0) (fun _ _=>rfl)) (ac (i7 i5 i6 (a9 (pv 1)) (EO.b b0) (fun _ _=>rfl)) i0)) (c5 (c5 j4))) i0) (c5 j4)) i0)) (c5 (c5 j4)))))
noncomputable abbrev a2Y:Stmt:=top 40
theorem sc_law_line_place:FnScope ["_law_a", "_law_b", "_law_c", "_law_d", "_law_first", "_law_second", "_law_third", "_law_top", "_law_bottom", "_law_share"] ["_law_a", "_law_b", "_law_c", "_law_d"] (m9 a2Y):=⟨rfl,rfl,rfl,by decide +kernel,rfl,by decide +kernel,by decide +kernel⟩
set_option maxHeartbeats 4000000 in
theorem b0P {m_law_gone:DFn} {m_law_product:DFn} {m_law_fraction:DFn} {m_law_athwart:DFn} {m_law_apart:DFn} (C_law_gone:Cal P w K mg base 3 "_law_gone" ["_law_one", "_law_x", "_law_y"] m_law_gone) (C_law_product:Cal P w K mg base 2 "_law_product" ["_law_one", "_law_other"] m_law_product) (C_law_fraction:Cal P w K mg base 1 "_law_fraction" ["_law_top", "_law_bottom"] m_law_fraction) (C_law_athwart:Cal P w K mg base 3 "_law_athwart" ["_law_one", "_law_other"] m_law_athwart) (C_law_apart:Cal P w K mg base 3 "_law_apart" ["_law_a", "_law_b"] m_law_apart) {f:Addr} {fd:FuncData} (B:Blt mg) (F:GF K mg "_law_line_place" a2Y f fd):Cal P w K mg base 4 "_law_line_place" ["_law_a", "_law_b", "_law_c", "_law_d"] (a1P m_law_gone m_law_product m_law_fraction m_law_athwart m_law_apart):=
 w4 F (fun _ _ _ _ _ _=>on4 fun _ _ _ _=>rfl) sc_law_line_place fun cdv A outer s H E g hr=>
  have nd:=sc_law_line_place.nd
  (j3 (l6 (i:=4) nd rfl (by first | exact Or.inl rfl | exact Or.inr rfl) (j6 C_law_apart _ hr (by decide) (by rfl) (ac (c8 (pv 0)) (ac (c8 (pv 1)) i0)) (c5 (c5 j4)))) (j3 (l6 (i:=5) nd rfl (by first | exact Or.inl rfl | exact Or.inr rfl) (j6 C_law_apart _ hr (by decide) (by rfl) (ac (c8 (pv 0)) (ac (c8 (pv 2)) i0)) (c5 (c5 j4)))) (j3 (l6 (i:=6) nd rfl (by first | exact Or.inl rfl | exact Or.inr rfl) (j6 C_law_apart _ hr (by decide) (by rfl) (ac (c8 (pv 2)) (ac (c8 (pv 3)) i0)) (c5 (c5 j4)))) (j3 (l6 (i:=7) nd rfl (by first | exact Or.inl rfl | exact Or.inr rfl) (j6 C_law_athwart _ hr (by decide) (by rfl) (ac (c8 (pv 5)) (ac (c8 (pv 6)) i0)) (c5 (c5 j4)))) (j3 (l6 (i:=8) nd rfl (by first | exact Or.inl rfl | exact Or.inr rfl) (j6 C_law_athwart _ hr (by decide) (by rfl) (ac (c8 (pv 4)) (ac (c8 (pv 6)) i0)) (c5 (c5 j4)))) (j3 (l6 (i:=9) nd rfl (by first | exact Or.inl rfl | exact Or.inr rfl) (j6 C_law_fraction _ hr (by decide) (by rfl) (ac (i9 o0 o6 (EO.b (i7 i5 i6 (a9 (pv 7)) (EO.b b0) (fun _ _=>rfl))) (EO.b (i7 i5 i6 (a9 (pv 8)) (EO.b b0) (fun _ _=>rfl)))) (ac (i9 o0 o6 (EO.b (i7 i5 i6 (a9 (pv 7)) (EO.b b0) (fun _ _=>rfl))) (EO.b (i7 i5 i6 (a9 (pv 8)) (EO.b b0) (fun _ _=>rfl)))) i0)) (c5 (c5 j4)))) (j9 (p7 (j6 C_law_gone _ hr (by decide) (by rfl) (ac (c8 (pv 0)) (ac (j6 C_law_product _ hr (by decide) (by rfl) (ac (c8 (pv 9)) (ac (i7 i5 i6 (a9 (pv 4)) (EO.b b0) (fun _ _=>rfl)) i0)) (c5 (c5 j4))) (ac (j6 C_law_product _ hr (by decide) (by rfl) (ac (c8 (pv 9)) (ac (i7 i5 i6 (a9 (pv 4)) (EO.b b0) (fun _ _=>rfl)) i0)) (c5 (c5 j4))) i0))) (c5 (c5 (c5 j4))))))))))))
noncomputable abbrev a3q:Stmt:=top 43
theorem sc_law_cut:FnScope ["_law_shape", "_law_a", "_law_b", "_law_kept", "_law_k", "_law_one", "_law_other"] ["_law_shape", "_law_a", "_law_b"] (m9 a3q):=⟨rfl,rfl,rfl,by decide +kernel,rfl,by decide +kernel,by decide +kernel⟩
set_option maxHeartbeats 4000000 in
theorem b5b {m_law_hull:DFn} {m_law_turn:DFn} {m_law_line_place:DFn} (C_law_hull:Cal P w K mg base 5 "_law_hull" ["_law_some"] m_law_hull) (C_law_turn:Cal P w K mg base 1 "_law_turn" ["_law_a", "_law_b", "_law_c"] m_law_turn) (C_law_line_place:Cal P w K mg base 4 "_law_line_place" ["_law_a", "_law_b", "_law_c", "_law_d"] m_law_line_place) {f:Addr} {fd:FuncData} (B:Blt mg) (F:GF K mg "_law_cut" a3q f fd):Cal P w K mg base 6 "_law_cut" ["_law_shape", "_law_a", "_law_b"] (a4s m_law_hull m_law_turn m_law_line_place):=
 w4 F (fun _ _ _ _ _ _=>on3 fun _ _ _=>rfl) sc_law_cut fun cdv A outer s H E g hr=>
  have nd:=sc_law_cut.nd
  (j3 (a3T (i:=3) nd rfl (by first | exact Or.inl rfl | exact Or.inr rfl) (a3A (N':=["_law_one", "_law_a", "_law_b"]) (idx:=[1,2]) rfl (Y0 (by rfl) (.cons rfl (.cons rfl .nil)) (by decide +kernel) rfl (by decide +kernel) (by rfl) (.cons rfl (by first | exact Or.inl rfl | exact Or.inr rfl) (by first | exact Or.inl rfl | exact Or.inr rfl) (.cons rfl (by first | exact Or.inl rfl | exact Or.inr rfl) (by first | exact Or.inl rfl | exact Or.inr rfl) .nil))) (a0g (c8 (pv 0))) (fun _ _ _ _=>A3 (i:=0) (show List.Nodup (["_law_one", "_law_a", "_law_b"]:List Str) by decide +kernel) rfl (Or.inl rfl)) (fun _ _ _ _ _=>(a64 (v7 a7g (B9 (fun i j=>decide (j ≤ i))) (EO.b (j6 C_law_turn _ hr (by decide) (by rfl) (ac (c8 (pv 1)) (ac (c8 (pv 2)) (ac (c8 (pv 0)) i0))) (c5 (c5 (c5 j4))))) (EO.b b0) (u7 _)))) (fun _ _ _ _ _=>(c8 (pv 0))))) (j3 (a84 PassesOwn.never rfl (by rfl) B.range (D2 K0 K2 (by rfl) B.len J9 (bc (a9 (pv 0)) A5)) (D1 (A3 (i:=4) nd rfl (by first | exact Or.inl rfl | exact Or.inr rfl))) (j3 (a9k (i:=5) (j:=6) rfl nd rfl rfl (by decide) rfl rfl (ac (i7 i5 i6 (a9 (pv 0)) (EO.b (i9 D6 D5 (a9 (pv 4)) (EO.b b0))) (fun _ _=>rfl)) (ac (i7 i5 i6 (a9 (pv 0)) (a9 (pv 4)) (fun _ _=>rfl)) i0)) rfl) (j9 (D7 (v7 K6 (B9 (fun i j=>decide (i < j))) (EO.b (i9 o0 o6 (EO.b (j6 C_law_turn _ hr (by decide) (by rfl) (ac (c8 (pv 1)) (ac (c8 (pv 2)) (ac (c8 (pv 5)) i0))) (c5 (c5 (c5 j4))))) (EO.b (j6 C_law_turn _ hr (by decide) (by rfl) (ac (c8 (pv 1)) (ac (c8 (pv 2)) (ac (c8 (pv 6)) i0))) (c5 (c5 (c5 j4))))))) (EO.b b0) (u7 _)) (j9 (R3 (pv 3) (j6 C_law_line_place _ hr (by decide) (by rfl) (ac (c8 (pv 5)) (ac (c8 (pv 6)) (ac (c8 (pv 1)) (ac (c8 (pv 2)) i0)))) (c5 (c5 (c5 (c5 j4))))))) D3)))) (j9 (p7 (a0y (v7 (L8 (u64 hr)) M2 (a9 (pv 3)) (EO.b (FO.v (G7 i0))) (u7 _)) (j6 C_law_hull _ hr (by decide) (by rfl) (ac (c8 (pv 3)) i0) (c5 j4)) a0j)))))
noncomputable abbrev a2F:Stmt:=top 21
theorem sc_belongs:FnScope ["shape", "one", "a", "b"] ["shape", "one"] (m9 a2F):=⟨rfl,rfl,rfl,by decide +kernel,rfl,by decide +kernel,by decide +kernel⟩
set_option maxHeartbeats 4000000 in
theorem b2R {m_turn:DFn} {m_edges:DFn} (C_turn:Cal P w K mg base 2 "turn" ["a", "b", "c"] m_turn) (C_edges:Cal P w K mg base 2 "edges" ["corners"] m_edges) {f:Addr} {fd:FuncData} (B:Blt mg) (F:GF K mg "belongs" a2F f fd):Cal P w K mg base 3 "belongs" ["shape", "one"] (a2Z m_turn m_edges):=
 w4 F (fun _ _ _ _ _ _=>on2 fun _ _=>rfl) sc_belongs fun cdv A outer s H E g hr=>
  have nd:=sc_belongs.nd
  (j3 (P0 PassesOwn.never rfl (j6 C_edges _ hr (by decide) (by rfl) (ac (c8 (pv 0)) i0) (c5 j4)) (V4 rfl (K5 (D1 (A3 (i:=2) nd rfl (by first | exact Or.inl rfl | exact Or.inr rfl))) (K5 (D1 (A3 (i:=3) nd rfl (by first | exact Or.inl rfl | exact Or.inr rfl))) T9))) (j9 (D7 (v7 (X0 (u64 hr)) a0i (EO.b (j6 C_turn _ hr (by decide) (by rfl) (ac (c8 (pv 2)) (ac (c8 (pv 3)) (ac (c8 (pv 1)) i0))) (c5 (c5 (c5 j4))))) (EO.b (K7 K9 L0 (EO.b b0))) (u7 _)) (j9 (p7 S6)) D3))) (j9 (p7 S6)))
noncomputable abbrev a3l:Stmt:=top 44
theorem sc_law:FnScope ["_law_script", "_law_feed_here", "_law_k", "_law_shape", "_law_at_here", "_law_far", "_law_lines_here", "_law_a", "_law_b", "_law_kept", "_law_found", "_law_due", "_law_corners", "_law_half"] ["_law_script"] (m9 a3l):=⟨rfl,rfl,rfl,by decide +kernel,rfl,by decide +kernel,by decide +kernel⟩
set_option maxHeartbeats 4000000 in
theorem b5s {m_belongs:DFn} {m_law_cut:DFn} {m_cut_off:DFn} {m_law_place:DFn} {m_law_draw:DFn} {m_law_round_shape:DFn} {m_law_feed:DFn} (C_belongs:Cal P w K mg base 3 "belongs" ["shape", "one"] m_belongs) (C_law_cut:Cal P w K mg base 6 "_law_cut" ["_law_shape", "_law_a", "_law_b"] m_law_cut) (C_cut_off:Cal P w K mg base 68 "cut_off" ["shape", "a", "b"] m_cut_off) (C_law_place:Cal P w K mg base 3 "_law_place" ["_law_feed_here"] m_law_place) (C_law_draw:Cal P w K mg base 1 "_law_draw" ["_law_feed_here", "_law_many"] m_law_draw) (C_law_round_shape:Cal P w K mg base 6 "_law_round_shape" ["_law_feed_here"] m_law_round_shape) (C_law_feed:Cal P w K mg base 1 "_law_feed" ["_law_script"] m_law_feed) {f:Addr} {fd:FuncData} (B:Blt mg) (F:Fun K "law" "law" a3l f fd):FnD P w K mg base 69 f fd ["_law_script"] (a2i m_belongs m_law_cut m_cut_off m_law_place m_law_draw m_law_round_shape m_law_feed):=
 a50 F sc_law fun cdv A outer s H E g hr=>
  have nd:=sc_law.nd
  (j3 (l6 (i:=1) nd rfl (by first | exact Or.inl rfl | exact Or.inr rfl) (j6 C_law_feed _ hr (by decide) (by rfl) (ac (c8 (pv 0)) i0) (c5 j4))) (j3 (a84 PassesOwn.never rfl (by rfl) B.range b0 (D1 (A3 (i:=2) nd rfl (by first | exact Or.inl rfl | exact Or.inr rfl))) (j3 (l6 (i:=3) nd rfl (by first | exact Or.inl rfl | exact Or.inr rfl) (j6 C_law_round_shape _ hr (by decide) (by rfl) (ac (c8 (pv 1)) i0) (c5 j4))) (j3 (l6 (i:=4) nd rfl (by first | exact Or.inl rfl | exact Or.inr rfl) (j6 C_law_draw _ hr (by decide) (by rfl) (ac (c8 (pv 1)) (ac (D2 K0 K2 (by rfl) B.len J9 (bc (a9 (pv 3)) A5)) i0)) (c5 (c5 j4)))) (j3 (l6 (i:=5) nd rfl (by first | exact Or.inl rfl | exact Or.inr rfl) (j6 C_law_place _ hr (by decide) (by rfl) (ac (c8 (pv 1)) i0) (c5 j4))) (j3 (N3 (i:=6) nd rfl (by first | exact Or.inl rfl | exact Or.inr rfl) (G7 (ac (C9 (ac (i7 i5 i6 (a9 (pv 3)) (EO.b (i9 D6 D5 (a9 (pv 4)) (EO.b b0))) (fun _ _=>rfl)) (ac (i7 i5 i6 (a9 (pv 3)) (a9 (pv 4)) (fun _ _=>rfl)) i0))) (ac (C9 (ac (i7 i5 i6 (a9 (pv 3)) (a9 (pv 4)) (fun _ _=>rfl)) (ac (i7 i5 i6 (a9 (pv 3)) (EO.b (i9 D6 D5 (a9 (pv 4)) (EO.b b0))) (fun _ _=>rfl)) i0))) (ac (C9 (ac (i7 i5 i6 (a9 (pv 3)) (a9 (pv 4)) (fun _ _=>rfl)) (ac (c8 (pv 5)) i0))) i0))))) (j3 (R3 (pv 6) (C9 (ac (j6 C_law_place _ hr (by decide) (by rfl) (ac (c8 (pv 1)) i0) (c5 j4)) (ac (c8 (pv 5)) i0)))) (j9 (P0 PassesOwn.never rfl (c8 (pv 6)) (V4 rfl (K5 (D1 (A3 (i:=7) nd rfl (by first | exact Or.inl rfl | exact Or.inr rfl))) (K5 (D1 (A3 (i:=8) nd rfl (by first | exact Or.inl rfl | exact Or.inr rfl))) T9))) (j9 (D7 (v7 (L8 (u64 hr)) M2 (a9 (pv 7)) (a9 (pv 8)) (u7 _)) (j3 (l6 (i:=9) nd rfl (by first | exact Or.inl rfl | exact Or.inr rfl) (D2 (a09 (u66 hr) hr.gd) a1D (by rfl) B.repr a1S (bc (a9 (pv 3)) A5))) (j3 (N3 (i:=10) nd rfl (by first | exact Or.inl rfl | exact Or.inr rfl) (G7 (ac (j6 C_cut_off _ hr (by decide) (by rfl) (ac (c8 (pv 3)) (ac (c8 (pv 7)) (ac (c8 (pv 8)) i0))) (c5 (c5 (c5 j4)))) (ac (j6 C_cut_off _ hr (by decide) (by rfl) (ac (c8 (pv 3)) (ac (c8 (pv 8)) (ac (c8 (pv 7)) i0))) (c5 (c5 (c5 j4)))) i0)))) (j3 (N3 (i:=11) nd rfl (by first | exact Or.inl rfl | exact Or.inr rfl) (G7 (ac (j6 C_law_cut _ hr (by decide) (by rfl) (ac (c8 (pv 3)) (ac (c8 (pv 7)) (ac (c8 (pv 8)) i0))) (c5 (c5 (c5 j4)))) (ac (j6 C_law_cut _ hr (by decide) (by rfl) (ac (c8 (pv 3)) (ac (c8 (pv 8)) (ac (c8 (pv 7)) i0))) (c5 (c5 (c5 j4)))) i0)))) (j3 (D7 (WO.t (a0o (v7 (L8 (u64 hr)) M2 (EO.b (D2 (a09 (u66 hr) hr.gd) a1D (by rfl) B.repr a1S (bc (a9 (pv 10)) A5))) (EO.b (D2 (a09 (u66 hr) hr.gd) a1D (by rfl) B.repr a1S (bc (a9 (pv 11)) A5))) (u7 _)) (a0V (v7 (L8 (u64 hr)) M2 (EO.b (D2 (a09 (u66 hr) hr.gd) a1D (by rfl) B.repr a1S (bc (a9 (pv 3)) A5))) (a9 (pv 9)) (u7 _))))) (j9 (p7 S6)) D3) (j3 (N3 (i:=12) nd rfl (by first | exact Or.inl rfl | exact Or.inr rfl) (G7 i0)) (j3 (P0 PassesOwn.never rfl (c8 (pv 10)) (D1 (A3 (i:=13) nd rfl (by first | exact Or.inl rfl | exact Or.inr rfl))) (j9 (N3 (i:=12) nd rfl (by first | exact Or.inl rfl | exact Or.inr rfl) (a88 a2T a7M (a9 (pv 12)) (EO.b (FO.v (a5B a8L a7j (by rfl) B.list a8v (bc (EO.b (b1e (c8 (pv 13)) (a3E (C9 i0)))) A5)))))))) (j9 (D7 (WO.t (a0o (v7 (a24 (u64 hr)) a47 (EO.b S6) (EO.b (FO.v (b1J [12] (a3u (N':=["_law_one", "_law_corners"]) (idx:=[12]) rfl (Y0 (by rfl) (.cons rfl .nil) (by decide +kernel) rfl (by decide +kernel) (by rfl) (.cons rfl (by first | exact Or.inl rfl | exact Or.inr rfl) (by first | exact Or.inl rfl | exact Or.inr rfl) .nil)) (a0g (c8 (pv 3))) (fun _ _ _ _=>A3 (i:=0) (show List.Nodup (["_law_one", "_law_corners"]:List Str) by decide +kernel) rfl (Or.inl rfl)) (fun _ _ _ _ _=>a0O) (fun _ _ _ _ _=>(P5 (a24 (u64 hr)) a47 (a9 (pv 0)) (a9 (pv 1)) (by rfl))))))) (by rfl)) (a0V (v7 (a24 (u64 hr)) a47 (EO.b S6) (EO.b (FO.v (a3u (N':=["_law_one", "_law_shape"]) (idx:=[3]) rfl (Y0 (by rfl) (.cons rfl .nil) (by decide +kernel) rfl (by decide +kernel) (by rfl) (.cons rfl (by first | exact Or.inl rfl | exact Or.inr rfl) (by first | exact Or.inl rfl | exact Or.inr rfl) .nil)) (a0g (c8 (pv 12))) (fun _ _ _ _=>A3 (i:=0) (show List.Nodup (["_law_one", "_law_shape"]:List Str) by decide +kernel) rfl (Or.inl rfl)) (fun _ _ _ _ _=>a0O) (fun _ _ _ _ _=>(j6 C_belongs _ hr (by decide) (by rfl) (ac (c8 (pv 1)) (ac (c8 (pv 0)) i0)) (c5 (c5 j4))))))) (by rfl))))) (j9 (p7 S6)) D3)))))))) D3)))))))))) (j9 (p7 S6))))
end
noncomputable abbrev whole:DFn:=(a2i (a2Z (a0D V8) (a1G a0J)) (a4s (a1V (a1N (N9 B3) F7 (a0H (N9 B3) (V5 B3) F7 (V3 B3)) C8) F3) C8 (a1P (a14 (X4 B3) (N9 B3) (V3 B3)) (V5 B3) B3 (a4L (N9 B3) F7 (V5 B3)) (a2L (N9 B3) F7 (V3 B3)))) (a20 (a26 (a0c (W4 J6) 64) (V6 (a0D V8))) (a2O (a0D V8) (a37 (a4g (W1 L7)) a0a) (a5h a0a) (a1G a0J))) (a1J (X4 B3) (a1x B3 C2)) C2 (a46 (a1V (a1N (N9 B3) F7 (a0H (N9 B3) (V5 B3) F7 (V3 B3)) C8) F3) (a14 (X4 B3) (N9 B3) (V3 B3)) (V5 B3) B3 C2 C8 (a1J (X4 B3) (a1x B3 C2))) Q7)
set_option maxHeartbeats 4000000 in
theorem all_mk {l:PySem.W.OpenLaw} {w:World} {K:PySem.W.Frag} {h:Heap} {mg:Str → Option Value} {fa:Addr} (X:K.In h) (G:h.Ns mainGlobals mg) (hfa:mg "law" = some (.ref fa)) {f1 f2 f3 f4 f5 f6 f7 f8 f9 f10 f11 f12 f13 f14 f15 f16 f17 f18 f19 f20 f21 f22 f23 f24 f25 f26 f27 f28 f29 f30 f31 f32 f33 f34 f35 f36 f37 f38 f39 f40:Addr} {d1 d2 d3 d4 d5 d6 d7 d8 d9 d10 d11 d12 d13 d14 d15 d16 d17 d18 d19 d20 d21 d22 d23 d24 d25 d26 d27 d28 d29 d30 d31 d32 d33 d34 d35 d36 d37 d38 d39 d40:FuncData} {pf_is_lesser:Addr}
  (g1:GF K mg "_law_feed" a4A f1 d1)
  (g2:GF K mg "_law_fraction" a4t f2 d2)
  (g3:GF K mg "_law_lesser" a36 f3 d3)
  (g4:GF K mg "_law_turn" a4X f4 d4)
  (g5:GF K mg "_law_sum" a43 f5 d5)
  (g6:GF K mg "_law_minus" a39 f6 d6)
  (g7:GF K mg "_law_product" a5e f7 d7)
  (g8:GF K mg "_law_xy" a3P f8 d8)
  (g9:GF K mg "_law_squared" a4b f9 d9)
  (g10:GF K mg "_law_farther" a4a f10 d10)
  (g11:GF K mg "_law_hull" a3N f11 d11)
  (g12:GF K mg "_law_at" a4o f12 d12)
  (g13:GF K mg "_law_draw" a3w f13 d13)
  (g14:GF K mg "_law_number" a4U f14 d14)
  (g15:GF K mg "_law_place" a4f f15 d15)
  (g16:GF K mg "_law_gone" a5b f16 d16)
  (g17:GF K mg "_law_round_shape" a31 f17 d17)
  (g18:GF K mg "is_lesser" a4H f18 d18)
  (g19:GF K mg "merged" a2w f19 d19)
  (g20:GF K mg "in_order" a45 f20 d20)
  (g21:GF K mg "sign" a4I f21 d21)
  (g22:GF K mg "turn" a2V f22 d22)
  (g23:GF K mg "bow" a3p f23 d23)
  (g24:GF K mg "shape_of" a4G f24 d24)
  (g25:GF K mg "upright" a27 f25 d25)
  (g26:GF K mg "straight" a5r f26 d26)
  (g27:GF K mg "neighbours" a4S f27 d27)
  (g28:GF K mg "edges" a4j f28 d28)
  (g29:GF K mg "divisor_of_two" a2x f29 d29)
  (g30:GF K mg "divisor" a4D f30 d30)
  (g31:GF K mg "lowest" a2U f31 d31)
  (g32:GF K mg "crossing" a4e f32 d32)
  (g33:GF K mg "clipped" a4P f33 d33)
  (g34:GF K mg "cut_off" a3F f34 d34)
  (g35:GF K mg "_law_apart" a41 f35 d35)
  (g36:GF K mg "_law_athwart" a5q f36 d36)
  (g37:GF K mg "_law_line_place" a2Y f37 d37)
  (g38:GF K mg "_law_cut" a3q f38 d38)
  (g39:GF K mg "belongs" a2F f39 d39)
  (g40:GF K mg "law" a3l f40 d40)
  (gv_is_lesser:PySem.W.nsIn K mainGlobals "is_lesser" = some (some (.ref pf_is_lesser)))
  (B:Blt mg) :
  ∃ fd:FuncData,(∀ (s:Shared) (v:Value),BindsTo s fd ⟨[v],[]⟩ [("_law_script",v)]) ∧ ∀ base:Heap,K.In base → base.Ns mainGlobals mg → FnOk l.prog w K mg base CX0 69 fa fd ["_law_script"] (spD K 1 whole):=by
 have e:=hfa.symm.trans g40.m
 cases e
 refine ⟨d40,b0n g40.F fun _ _ _ _ _ _ _ _=>.of_eq rfl,fun base _ _=>?_⟩
 have V_is_lesser:FnV K mg "is_lesser" := ⟨_,PySem.W.mg_of X G gv_is_lesser,gv_is_lesser⟩
 have C_law_feed:=b3k (P:=l.prog) (w:=w) (base:=base) B g1
 have C_law_fraction:=b11 (P:=l.prog) (w:=w) (base:=base) B g2
 have C_law_lesser:=b28 (P:=l.prog) (w:=w) (base:=base) B g3
 have C_law_turn:=b3B (P:=l.prog) (w:=w) (base:=base) B g4
 have C_law_sum:=b1z C_law_fraction B g5
 have C_law_minus:=a9P (P:=l.prog) (w:=w) (base:=base) B g6
 have C_law_product:=b1f C_law_fraction B g7
 have C_law_xy:=b4J C_law_fraction B g8
 have C_law_squared:=a9L C_law_sum C_law_product C_law_minus C_law_xy B g9
 have C_law_farther:=b1R C_law_sum C_law_minus C_law_squared C_law_turn B g10
 have C_law_hull:=b0F C_law_farther C_law_lesser B g11
 have C_law_at:=b4P C_law_fraction B g12
 have C_law_draw:=b2Y (P:=l.prog) (w:=w) (base:=base) B g13
 have C_law_number:=b43 C_law_fraction C_law_draw B g14
 have C_law_place:=b6o C_law_at C_law_number B g15
 have C_law_gone:=b3R C_law_at C_law_sum C_law_xy B g16
 have C_law_round_shape:=b2V C_law_hull C_law_gone C_law_product C_law_fraction C_law_draw C_law_turn C_law_place B g17
 have C_is_lesser:=b2p (P:=l.prog) (w:=w) (base:=base) B g18
 have C_merged:=b5n C_is_lesser B g19
 have C_in_order:=a6e C_merged B g20 64
 have C_sign:=b5T (P:=l.prog) (w:=w) (base:=base) B g21
 have C_turn:=b1W C_sign B g22
 have C_bow:=b3r C_turn B g23
 have C_shape_of:=b4A C_in_order C_bow V_is_lesser B g24
 have C_upright:=b2N (P:=l.prog) (w:=w) (base:=base) B g25
 have C_straight:=b4l C_upright B g26
 have C_neighbours:=b3I (P:=l.prog) (w:=w) (base:=base) B g27
 have C_edges:=b1Y C_neighbours B g28
 have C_divisor_of_two:=b3Z (P:=l.prog) (w:=w) (base:=base) B g29
 have C_divisor:=b5C C_divisor_of_two B g30
 have C_lowest:=b5V C_divisor B g31
 have C_crossing:=a9T C_lowest C_upright B g32
 have C_clipped:=b1I C_turn C_crossing C_straight C_edges B g33
 have C_cut_off:=b4K C_shape_of C_clipped B g34
 have C_law_apart:=b1o C_law_sum C_law_minus C_law_xy B g35
 have C_law_athwart:=b41 C_law_sum C_law_minus C_law_product B g36
 have C_law_line_place:=b0P C_law_gone C_law_product C_law_fraction C_law_athwart C_law_apart B g37
 have C_law_cut:=b5b C_law_hull C_law_turn C_law_line_place B g38
 have C_belongs:=b2R C_turn C_edges B g39
 exact b5s C_belongs C_law_cut C_cut_off C_law_place C_law_draw C_law_round_shape C_law_feed B g40.F
end T
open PySem PySem.W PyProof.Rows
set_option maxRecDepth 100000 in
set_option maxHeartbeats 0 in
theorem PySem.Challenge.cw_widelines_k10_what_is_cut_off_holds : PySem.Challenge.rw_widelines_k10_what_is_cut_off.Holds := by
 w_on; o_law; k_head; (case hw=>w_witness2)
 k_fill
 refine DL.walkD (l:=PySem.Challenge.rw_widelines_k10_what_is_cut_off) (m:=T.whole) (k:=69) rfl rfl ⟨rfl,by decide,by decide,rfl⟩ (fun w h Y=>PySem.W.kIn_of Y) ?F T.math
 case F=>
  intro w mg fa h KX G hmg
  refine' T.all_mk KX G hmg (DL.gf_mk KX G ?_ ?_ ?_ ?_) (DL.gf_mk KX G ?_ ?_ ?_ ?_) (DL.gf_mk KX G ?_ ?_ ?_ ?_) (DL.gf_mk KX G ?_ ?_ ?_ ?_) (DL.gf_mk KX G ?_ ?_ ?_ ?_) (DL.gf_mk KX G ?_ ?_ ?_ ?_) (DL.gf_mk KX G ?_ ?_ ?_ ?_) (DL.gf_mk KX G ?_ ?_ ?_ ?_) (DL.gf_mk KX G ?_ ?_ ?_ ?_) (DL.gf_mk KX G ?_ ?_ ?_ ?_) (DL.gf_mk KX G ?_ ?_ ?_ ?_) (DL.gf_mk KX G ?_ ?_ ?_ ?_) (DL.gf_mk KX G ?_ ?_ ?_ ?_) (DL.gf_mk KX G ?_ ?_ ?_ ?_) (DL.gf_mk KX G ?_ ?_ ?_ ?_) (DL.gf_mk KX G ?_ ?_ ?_ ?_) (DL.gf_mk KX G ?_ ?_ ?_ ?_) (DL.gf_mk KX G ?_ ?_ ?_ ?_) (DL.gf_mk KX G ?_ ?_ ?_ ?_) (DL.gf_mk KX G ?_ ?_ ?_ ?_) (DL.gf_mk KX G ?_ ?_ ?_ ?_) (DL.gf_mk KX G ?_ ?_ ?_ ?_) (DL.gf_mk KX G ?_ ?_ ?_ ?_) (DL.gf_mk KX G ?_ ?_ ?_ ?_) (DL.gf_mk KX G ?_ ?_ ?_ ?_) (DL.gf_mk KX G ?_ ?_ ?_ ?_) (DL.gf_mk KX G ?_ ?_ ?_ ?_) (DL.gf_mk KX G ?_ ?_ ?_ ?_) (DL.gf_mk KX G ?_ ?_ ?_ ?_) (DL.gf_mk KX G ?_ ?_ ?_ ?_) (DL.gf_mk KX G ?_ ?_ ?_ ?_) (DL.gf_mk KX G ?_ ?_ ?_ ?_) (DL.gf_mk KX G ?_ ?_ ?_ ?_) (DL.gf_mk KX G ?_ ?_ ?_ ?_) (DL.gf_mk KX G ?_ ?_ ?_ ?_) (DL.gf_mk KX G ?_ ?_ ?_ ?_) (DL.gf_mk KX G ?_ ?_ ?_ ?_) (DL.gf_mk KX G ?_ ?_ ?_ ?_) (DL.gf_mk KX G ?_ ?_ ?_ ?_) (DL.gf_mk KX G ?_ ?_ ?_ ?_) ?_ (DL.blt_mk KX G ?_ ?_ ?_ ?_ ?_ ?_ ?_ ?_ ?_ ?_ ?_ ?_ ?_ ?_ ?_ ?_ ?_ ?_ ?_)
  all_goals try k_is
