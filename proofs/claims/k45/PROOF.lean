import PyProof.Rows.All
import Wide.All
import OpenK.AllK
import Wide.FinOn
import Lean
import PyProof.EqAt
import PyProof.EqKinds
import PyProof.TupleCall
import PySem.Challenge.RW_widelines_k45_whole_marks_share_by_share
def PySem.W.Fast.tw2199849585257486572 : Unit := ()
def PySem.W.Fast.tw2069059459296735337 : Unit := ()
def PySem.W.Fast.tw8555781645228607567 : Unit := ()
def PySem.W.Fast.tw10649983888111854790 : Unit := ()
def PySem.W.Fast.tw11862532993416563140 : Unit := ()
def PySem.W.Fast.tw12448043073232626985 : Unit := ()
def PySem.W.Fast.tw17193259366499132849 : Unit := ()
def PySem.W.Fast.tw3606466251859286973 : Unit := ()
def PySem.W.Fast.tw1009930790428530390 : Unit := ()
def PySem.W.Fast.tw7783552717954513942 : Unit := ()
def PySem.W.Fast.tw13239462643876858103 : Unit := ()
def PySem.W.Fast.tw10857962726418887881 : Unit := ()
def PySem.W.Fast.tw17055214086390767902 : Unit := ()
def PySem.W.Fast.tw5985595361657314611 : Unit := ()
def PySem.W.Fast.tw5208428726190320229 : Unit := ()
def PySem.W.Fast.tw15431651881993784068 : Unit := ()
def PySem.W.Fast.tw16526800108013405213 : Unit := ()
def PySem.W.Fast.tw5296921132562282399 : Unit := ()
def PySem.W.Fast.tw302524150087969988 : Unit := ()
def PySem.W.Fast.tw15883998429202308897 : Unit := ()
def PySem.W.Fast.tw13655691742817303575 : Unit := ()
def PySem.W.Fast.tw8025262895369572426 : Unit := ()
def PySem.W.Fast.tw12564755594050981802 : Unit := ()
def PySem.W.Fast.tw321782843731673975 : Unit := ()
def PySem.W.Fast.tw3516456883309667581 : Unit := ()
def PySem.W.Fast.tw8863029774961605605 : Unit := ()
def PySem.W.Fast.tw1193469322854240281 : Unit := ()
def PySem.W.Fast.tw5514099339212118489 : Unit := ()
def PySem.W.Fast.tw3850472291518668257 : Unit := ()
def PySem.W.Fast.tw17920617249373582912 : Unit := ()
def PySem.W.Fast.tw11288871659393353032 : Unit := ()
def PySem.W.Fast.tw4886233167830100651 : Unit := ()
def PySem.W.Fast.tw12092894546910372285 : Unit := ()
local macro_rules | `(tactic| omega) => `(tactic| first | with_reducible assumption | decide | omega +splitMinMax)
theorem PySem.W.Fast.te2069059459296735337 : True := True.intro
set_option Elab.async false
set_option linter.all false
set_option maxRecDepth 100000
set_option bootstrap.genMatcherCode false
set_option genSizeOf false
noncomputable section
namespace L2
open PySem PySem.Spec PyProof.Rows
abbrev Key:=Sum Int Str
def a72:Key→Value→Bool
 |.inl k,v=>Value.isInt k v
 |.inr x,v=>Value.isStrOf x v
def b3a (w:World):Key→Int
 |.inl k=>hashInt k
 |.inr x=>hashStr w x
theorem Q2:∀ {k:Key}{v:Value},a72 k v=true→(∃ i t,k=Sum.inl i∧v=Value.int i t)∨(∃ x t,k=Sum.inr x∧v=Value.str x t)
 |.inl i,v,h=>by
  obtain⟨t,e⟩:=Value.isInt_shape (k:=i) (v:=v) h
  exact .inl ⟨i,t,rfl,e⟩
 |.inr x,v,h=>by
  obtain⟨t,e⟩:=Value.isStrOf_shape (x:=x) (v:=v) h
  exact .inr ⟨x,t,rfl,e⟩
theorem b1D (a b:Int):decide ((Sum.inl a:Key)=Sum.inl b)=(a == b):=by
 by_cases e:a=b
 ·subst e;simp
 ·have h:¬ (Sum.inl a:Key)=Sum.inl b:=fun q=>e (Sum.inl.inj q)
  rw[decide_eq_false h]
  exact(beq_eq_false_iff_ne.mpr e).symm
theorem b2Y (a b:Str):decide ((Sum.inr a:Key)=Sum.inr b)=decide (a=b):=by
 by_cases e:a=b
 ·subst e;simp
 ·have h:¬ (Sum.inr a:Key)=Sum.inr b:=fun q=>e (Sum.inr.inj q)
  rw[decide_eq_false h,decide_eq_false e]
theorem a9V (a:Int) (b:Str):decide ((Sum.inl a:Key)=Sum.inr b)=false:=decide_eq_false (fun q=>nomatch q)
theorem b0V (a:Str) (b:Int):decide ((Sum.inr a:Key)=Sum.inl b)=false:=decide_eq_false (fun q=>nomatch q)
def a30 (prog:Program) (w:World):PySem.KeyKind prog w Key where
 is:=a72
 hash:=b3a w
 inj:=fun v a b ha hb=>by
  rcases Q2 ha with ⟨i,t,rfl,rfl⟩ | ⟨x,t,rfl,rfl⟩
  ·rcases Q2 hb with ⟨j,u,rfl,e⟩ | ⟨y,u,rfl,e⟩
   ·injection e with e1 _;rw[e1]
   ·exact nomatch e
  ·rcases Q2 hb with ⟨j,u,rfl,e⟩ | ⟨y,u,rfl,e⟩
   ·exact nomatch e
   ·injection e with e1 _;rw[e1]
 byValue:=fun k v h=>by
  rcases Q2 h with ⟨i,t,rfl,rfl⟩ | ⟨x,t,rfl,rfl⟩ <;> rfl
 pyHash:=fun hv h=>by
  rcases Q2 hv with ⟨i,t,rfl,rfl⟩ | ⟨x,t,rfl,rfl⟩
  ·exact wpAny_pyHash_int h
  ·exact wpAny_pyHash_str h
 eqBool:=fun hu hv h=>by
  rcases Q2 hu with ⟨i,t,rfl,rfl⟩ | ⟨x,t,rfl,rfl⟩
  ·rcases Q2 hv with ⟨j,u,rfl,rfl⟩ | ⟨y,u,rfl,rfl⟩
   ·rw[b1D] at h;exact wpAny_eqBool_int h
   ·rw[a9V] at h;exact SeqAt.EqAt.int_str i t y u _ _ _ _ h
  ·rcases Q2 hv with ⟨j,u,rfl,rfl⟩ | ⟨y,u,rfl,rfl⟩
   ·rw[b0V] at h;exact SeqAt.EqAt.str_int x t j u _ _ _ _ h
   ·rw[b2Y] at h;exact wpAny_eqBool_str h
 «strs»:=fun k x t v h=>by
  rcases Q2 h with ⟨i,u,rfl,e⟩ | ⟨y,u,rfl,e⟩
  ·exact nomatch e
  ·injection e with e1 _
   subst e1
   cases v <;> rfl
inductive V where
 | non | bl (b:Bool) | int (i:Int) | str (x:Str) | byt (b:Array UInt8) | flt (b:UInt64) | ref (a:Addr) | ty (n:String)
 deriving DecidableEq
def RelV:V→Value→Prop
 |.non,u=>u=Value.none
 |.bl b,u=>u=Value.bool b
 |.int i,u=>∃ t,u=Value.int i t
 |.str x,u=>∃ t,u=Value.str x t
 |.byt b,u=>∃ t,u=Value.bytes b t
 |.flt b,u=>∃ t,u=Value.float b t
 |.ref a,u=>u=Value.ref a
 |.ty n,u=>u=Value.type n
abbrev Vals:List V→List Value→Prop:=Paired RelV
theorem Vals.length {xs:List V}{us:List Value}(r:Vals xs us):xs.length=us.length:=Paired.length r
theorem Vals.get:∀ {xs:List V}{us:List Value}{i:Nat}{x:V},Vals xs us→xs[i]? = some x→∃ u,us[i]? = some u∧RelV x u
 |_,_,_,_,.nil,e=>by simp at e
 |_,_,0,_,.cons r _,e=>by simp at e;subst e;exact⟨_,rfl,r⟩
 |_,_,i+1,x,.cons _ t,e=>by
  obtain⟨u,h1,h2⟩:=Vals.get (i:=i) (x:=x) t (by simpa using e)
  exact⟨u,by simpa using h1,h2⟩
theorem Vals.set {x:V}{u:Value}(r:RelV x u):∀ {xs:List V}{us:List Value}(i:Nat),Vals xs us→Vals (xs.set i x) (us.set i u)
 |_,_,_,.nil=>.nil
 |_,_,0,.cons _ t=>.cons r t
 |_,_,i+1,.cons q t=>.cons q (Vals.set r i t)
theorem Vals.append:∀ {xs ys:List V}{us ws:List Value},Vals xs us→Vals ys ws→Vals (xs++ys) (us++ws):=by
 intro xs ys us ws h s
 induction h with
 |nil=>exact s
 |cons r t ih=>exact .cons r ih
theorem Vals.take:∀ {xs:List V}{us:List Value}(n:Nat),Vals xs us→Vals (xs.take n) (us.take n)
 |_,_,0,_=>.nil
 |_,_,_+1,.nil=>.nil
 |_,_,n+1,.cons r t=>.cons r (Vals.take n t)
theorem Vals.drop:∀ {xs:List V}{us:List Value}(n:Nat),Vals xs us→Vals (xs.drop n) (us.drop n)
 |_,_,0,r=>r
 |_,_,_+1,.nil=>.nil
 |_,_,n+1,.cons _ t=>Vals.drop n t
def a5H:Option V→Option Value→Prop
 |some v,some u=>RelV v u
 |none,none=>True
 |_,_=>False
def KV {κ:Type}:List (κ × V)→List (κ × Value)→Prop:=Paired fun (p:κ × V) (q:κ × Value)=>p.1=q.1∧RelV p.2 q.2
def kV:Key→V
 |.inl i=>.int i
 |.inr x=>.str x
inductive HO where
 | lst (xs:List V)
 | tup (xs:List V)
 | dK (kvs:List (Key × V)) | dT (kvs:List (List Key × V))
 | set (S:Int→Bool) (n:Nat)
 | ins (C dx:Addr) (fs:List (Str × V))
 | own (x:Addr)
 | xd (fs:List (Str × V))
 | met (f x:Addr)
 | rng (lo hi:Int)
 | frz (o:Obj) (u:HO)
 | tbl (ps:Array Value)
 | ext (φ:Heap→Prop)
abbrev Hp:=Addr→Option HO
def upd (H:Hp) (a:Addr) (o:HO):Hp:=fun b=>if b=a then some o else H b
theorem B9 {H:Hp}{a:Addr}{o:HO}:upd H a o a=some o:=by unfold upd;rw[if_pos rfl]
theorem u3 {H:Hp}{a b:Addr}{o:HO}(h:b≠a):upd H a o b=H b:=by unfold upd;rw[if_neg h]
theorem M9 {H:Hp}{a b:Addr}{o:HO}(h:H a=some o) (h':H b=none):a≠b:=by
 intro e;subst e;rw[h] at h';cases h'
section
variable (P:Program) (w:World)
def ObjOk (H:Hp) (h:Heap) (a:Addr):HO→Prop
 |.lst xs=>xs.length≤sizeLine∧∃ (its:List Value) (n:Nat),Vals xs its∧h.get? a=some { cls:=.type "list",data:=.seq its.toArray n }
 |.tup xs=>xs.length≤sizeLine∧∃ its:List Value,Vals xs its∧IsTup h a its.toArray
 |.dK kvs=>kvs.length≤sizeLine∧(a == sysModules)=false∧∃ vs,KV kvs vs∧h.DictOf (a30 P w) a vs
 |.dT kvs=>kvs.length≤sizeLine∧(a == sysModules)=false∧∃ xs:List (List Key × Addr × Value),
   Paired (fun (p:List Key × V) (q:List Key × Addr × Value)=>p.1=q.1∧H q.2.1=some (.tup (p.1.map kV))∧RelV p.2 q.2.2) kvs xs ∧
   ∃ o es ep,h.get? a=some o∧o.ExactDict∧o.data = .dict es ep∧es.toList=xs.map (entryOfKey (tupleKind (a30 P w)))∧(xs.map (·.1)).Nodup
 |.set S n=>h.SetOf (intKind P w) a S n
 |.ins C dx fs=>H dx=some (.own a)∧fs.length≤1000∧dx≠a∧h.get? a=some (PySem.W.instObj C dx) ∧
   ∃ mA,h.Ns1 dx mA∧(∀ f,a5H (fs.lookup f) (mA f))∧PySem.Within mA (fs.map (·.1))
 |.own _=>∃ o,h.get? a=some o
 |.xd fs=>∃ mA,h.Ns1 a mA∧∀ f,a5H (fs.lookup f) (mA f)
 |.rng lo hi=>∃ t u v,h.get? a=some { cls:=.type "range",data:=.fields #[.int lo t,.int hi u,.int 1 v] }
 |.frz o u=>h.get? a=some o∧ObjOk H h a u
 |.tbl ps=>h.get? a=some { cls:=.none,data:=.fields ps }
 |.met f x=>h.get? a=some (PySem.W.methodObj (.ref f) (.ref x))
 |.ext φ=>φ h∧(∃ o,h.get? a=some o)∧∀ h1 h2:Heap,φ h1→(∀ o,h1.get? a=some o→h2.get? a=some o)→φ h2
def HOk (H:Hp) (h:Heap):Prop:=∀ a o,H a=some o→ObjOk P w H h a o
end
section
variable {P:Program}{w:World}{H H':Hp}{h h':Heap}{a:Addr}{o:HO}
theorem ObjOk.lt (x:ObjOk P w H h a o):a<h.objs.size:=by
 cases o with
 |lst xs=>obtain⟨_,_,_,_,e⟩:=x;exact Heap.lt_size e
 |tup xs=>obtain⟨_,_,_,p⟩:=x;exact p.lt
 |dK kvs=>obtain⟨_,_,_,_,o,_,_,e,_⟩:=x;exact Heap.lt_size e
 |dT kvs=>obtain⟨_,_,_,_,o,_,_,e,_⟩:=x;exact Heap.lt_size e
 |set S n=>obtain⟨o,_,_,_,e,_⟩:=x;exact Heap.lt_size e
 |ins C dx fs=>obtain⟨_,_,_,e,_⟩:=x;exact Heap.lt_size e
 |own y=>obtain⟨_,e⟩:=x;exact Heap.lt_size e
 |xd fs=>obtain⟨_,⟨_,_,_,e,_⟩,_⟩:=x;exact Heap.lt_size e
 |rng lo hi=>obtain⟨_,_,_,e⟩:=x;exact Heap.lt_size e
 |frz ob u=>obtain⟨e,_⟩:=x;exact Heap.lt_size e
 |tbl ps=>exact Heap.lt_size (show h.get? a=some _ from x)
 |met f y=>exact Heap.lt_size (show h.get? a=some _ from x)
 |ext φ=>obtain⟨_,⟨_,e⟩,_⟩:=x;exact Heap.lt_size e
theorem Paired.mapP {α β:Type}{F G:α→β→Prop}:∀ {l₁:List α}{l₂:List β},Paired F l₁ l₂→(∀ a b,F a b→G a b)→Paired G l₁ l₂:=by
 intro l₁ l₂ h f
 induction h with
 |nil=>exact .nil
 |cons r t ih=>exact .cons (f _ _ r) ih
theorem ObjOk.stay (x:ObjOk P w H h a o) (k:∀ b u,(b=a∨H b=some (.own a))→h.get? b=some u→h'.get? b=some u)
  (ho:∀ b,H b=some (.own a)→H' b=some (.own a)) (ht:∀ b xs,H b=some (.tup xs)→H' b=some (.tup xs)):ObjOk P w H' h' a o:=by
 induction o with
 |lst xs=>obtain⟨z,its,n,r,e⟩:=x;exact⟨z,its,n,r,k _ _ (.inl rfl) e⟩
 |tup xs=>obtain⟨z,its,r,ob,e,c⟩:=x;exact⟨z,its,r,ob,k _ _ (.inl rfl) e,c⟩
 |dK kvs=>obtain⟨z,y,vs,r,ob,es,ep,e,c⟩:=x;exact⟨z,y,vs,r,ob,es,ep,k _ _ (.inl rfl) e,c⟩
 |dT kvs=>
  obtain⟨z,y,xs,r,ob,es,ep,e,c⟩:=x
  exact⟨z,y,xs,Paired.mapP r fun p q z=>⟨z.1,ht _ _ z.2.1,z.2.2⟩,ob,es,ep,k _ _ (.inl rfl) e,c⟩
 |set S n=>obtain⟨ob,es,ep,t,e,c⟩:=x;exact⟨ob,es,ep,t,k _ _ (.inl rfl) e,c⟩
 |ins C dx fs=>
  obtain⟨d,z,ne,e,mA,⟨od,es,ep,e2,c⟩,r⟩:=x
  exact⟨ho _ d,z,ne,k _ _ (.inl rfl) e,mA,⟨od,es,ep,k _ _ (.inr d) e2,c⟩,r⟩
 |own y=>obtain⟨ob,e⟩:=x;exact⟨ob,k _ _ (.inl rfl) e⟩
 |xd fs=>obtain⟨mA,⟨od,es,ep,e,c⟩,r⟩:=x;exact⟨mA,⟨od,es,ep,k _ _ (.inl rfl) e,c⟩,r⟩
 |rng lo hi=>obtain⟨t,u,v,e⟩:=x;exact⟨t,u,v,k _ _ (.inl rfl) e⟩
 |frz ob u ih=>obtain⟨e,q⟩:=x;exact⟨k _ _ (.inl rfl) e,ih q⟩
 |tbl ps=>
  have e:h.get? a=some { cls:=.none,data:=.fields ps }:=x
  show h'.get? a=some { cls:=.none,data:=.fields ps }
  exact k a _ (.inl rfl) e
 |met f y=>
  have e:h.get? a=some (PySem.W.methodObj (.ref f) (.ref y)):=x
  show h'.get? a=some (PySem.W.methodObj (.ref f) (.ref y))
  exact k a _ (.inl rfl) e
 |ext φ=>obtain⟨p,⟨o,e⟩,st⟩:=x;exact⟨st _ _ p fun o q=>k _ _ (.inl rfl) q,⟨o,k _ _ (.inl rfl) e⟩,st⟩
theorem HOk.lt (x:HOk P w H h) (e:H a=some o):a<h.objs.size:=(x a o e).lt
theorem HOk.fresh (x:HOk P w H h) (e:h.objs.size≤a):H a=none:=by
 cases q:H a with
 |none=>rfl
 |some u=>exact absurd (Nat.lt_of_lt_of_le (x.lt q) e) (Nat.lt_irrefl _)
theorem HOk.kept (x:HOk P w H h) (k:∀ b u,h.get? b=some u→h'.get? b=some u):HOk P w H h':=fun a o e=>
 (x a o e).stay (fun b u _ q=>k b u q) (fun _ q=>q) fun _ _ q=>q
theorem HOk.laid (x:HOk P w H h) (k:∀ b u,h.get? b=some u→h'.get? b=some u) (hp:h.objs.size≤a) (new:ObjOk P w (upd H a o) h' a o):HOk P w (upd H a o) h':=fun b u e=>by
 have hn:=x.fresh hp
 by_cases hb:b=a
 ·subst hb;rw[B9] at e;cases e;exact new
 ·rw[u3 hb] at e
  exact(x b u e).stay (fun c v _ q=>k c v q) (fun c q=>by rw[u3 (M9 q hn)];exact q) fun c xs q=>by rw[u3 (M9 q hn)];exact q
end
def Rd (H:Hp) (a:Addr) (u:HO):Prop:=H a=some u∨∃ o,H a=some (.frz o u)
theorem Rd.ok {P:Program}{w:World}{H:Hp}{h:Heap}{a:Addr}{u:HO}(r:Rd H a u) (x:HOk P w H h):ObjOk P w H h a u:=by
 rcases r with r | ⟨o,r⟩
 ·exact x a u r
 ·obtain⟨_,q⟩:=x a _ r
  exact q
def Mut:Option HO→Prop
 |some (.lst _)=>True
 |some (.dK _)=>True
 |some (.dT _)=>True
 |some (.set _ _)=>True
 |some (.ins _ _ _)=>True
 |some (.ext _)=>True
 |_=>False
section
variable {P:Program}{w:World}{H:Hp}{h h':Heap}{x e:Addr}{o':HO}
theorem HOk.write (ok:HOk P w H h) (mu:Mut (H x)) (he:e=x∨H e=some (.own x)) (k:∀ b u,b≠e→h.get? b=some u→h'.get? b=some u) (heo:∃ u,h'.get? e=some u)
  (new:ObjOk P w (upd H x o') h' x o'):HOk P w (upd H x o') h':=fun b u q=>by
 have nown:∀ c y,H c=some (.own y)→c≠x:=fun c y r z=>by subst z;rw[r] at mu;exact mu
 have ntup:∀ c xs,H c=some (.tup xs)→c≠x:=fun c xs r z=>by subst z;rw[r] at mu;exact mu
 by_cases hb:b=x
 ·subst hb;rw[B9] at q;cases q;exact new
 ·rw[u3 hb] at q
  by_cases hbe:b=e
  ·have q':H b=some (.own x):=by
    rcases he with z | z
    ·exact absurd (hbe.trans z) hb
    ·rw[hbe];exact z
   rw[q] at q';cases q'
   obtain⟨v,hv⟩:=heo
   exact⟨v,by rw[hbe];exact hv⟩
  ·refine(ok b u q).stay (fun c v hc r=>k c v ?_ r) (fun c r=>by rw[u3 (nown c b r)];exact r) fun c xs r=>by rw[u3 (ntup c xs r)];exact r
   rcases hc with rfl | hc
   ·exact hbe
   ·rintro rfl
    rcases he with z | z
    ·exact nown c b hc z
    ·rw[hc] at z;cases z;exact hb rfl
end
structure Un (fs ex:List Addr) (H H':Hp) (h h':Heap):Prop where
 keep:∀ b o,h.get? b=some o→H b=none→b ∉ fs→b ∉ ex→h'.get? b=some o
 slot:∀ b o,h.get? b=some o→H b=none→b∈fs→b ∉ ex→∃ sl,h'.get? b=some { o with slots:=sl }
 free:∀ b o,h.get? b=some o→H b=none→b ∉ ex→H' b=none
 there:∀ b o,h.get? b=some o→b ∉ ex→∃ o',h'.get? b=some o'
 tups:∀ b xs,H b=some (.tup xs)→H' b=some (.tup xs)
 frzs:∀ b o u,H b=some (.frz o u)→H' b=some (.frz o u)
 tbls:∀ b ps,H b=some (.tbl ps)→∃ more,H' b=some (.tbl (ps++more))
section
variable {fs fs' ex ex':List Addr}{H H1 H2:Hp}{h h1 h2 h':Heap}{a x e:Addr}{o:HO}
theorem Un.any (u:Un fs ex H H1 h h1) {b:Addr}{ob:Obj}(q:h.get? b=some ob) (n:H b=none) (hx:b ∉ ex):∃ sl,h1.get? b=some { ob with slots:=sl }:=by
 by_cases hb:b∈fs
 ·exact u.slot b ob q n hb hx
 ·exact⟨ob.slots,u.keep b ob q n hb hx⟩
theorem Un.kept (k:∀ b u,h.get? b=some u→h'.get? b=some u):Un fs ex H H h h':=
 ⟨fun b ob q _ _ _=>k b ob q,fun b ob q _ _ _=>⟨ob.slots,k b ob q⟩,fun _ _ _ n _=>n,fun b ob q _=>⟨ob,k b ob q⟩,fun _ _ q=>q,fun _ _ _ q=>q,fun _ ps q=>⟨#[],by rw[q];simp⟩⟩
theorem Un.refl:Un fs ex H H h h:=Un.kept fun _ _ q=>q
theorem Un.laid (k:∀ b u,h.get? b=some u→h'.get? b=some u) (hp:h.objs.size≤a) (hn:H a=none):Un fs ex H (upd H a o) h h' where
 keep:=fun b u q _ _ _=>k b u q
 slot:=fun b u q _ _ _=>⟨u.slots,k b u q⟩
 free:=fun b u q n _=>by rw[u3 (Nat.ne_of_lt (Nat.lt_of_lt_of_le (Heap.lt_size q) hp))];exact n
 there:=fun b u q _=>⟨u,k b u q⟩
 tups:=fun b xs q=>by rw[u3 (M9 q hn)];exact q
 frzs:=fun b u xs q=>by rw[u3 (M9 q hn)];exact q
 tbls:=fun b ps q=>⟨#[],by rw[u3 (M9 q hn),q];simp⟩
theorem Un.write (mu:Mut (H x)) (he:e=x∨H e=some (.own x)) (k:∀ b u,b≠e→h.get? b=some u→h'.get? b=some u) (heo:∃ u,h'.get? e=some u):Un fs ex H (upd H x o) h h':=by
 have hx:∀ b,H b=none→b≠x:=fun b n z=>by subst z;rw[n] at mu;exact mu
 have hb:∀ b,H b=none→b≠e:=fun b n z=>by
  subst z
  rcases he with r | r
  ·exact hx b n r
  ·rw[n] at r;cases r
 have hm:∀ b u,H b=some u→¬ Mut (some u)→b≠x:=fun b u q nm z=>by subst z;rw[q] at mu;exact nm mu
 refine⟨fun b u q n _ _=>k b u (hb b n) q,fun b u q n _ _=>⟨u.slots,k b u (hb b n) q⟩,fun b u q n _=>by rw[u3 (hx b n)];exact n,fun b u q _=>?_,
  fun b xs q=>by rw[u3 (hm b _ q fun z=>z)];exact q,fun b u xs q=>by rw[u3 (hm b _ q fun z=>z)];exact q,fun b ps q=>⟨#[],by rw[u3 (hm b _ q fun z=>z),q];simp⟩⟩
 by_cases hbe:b=e
 ·subst hbe;exact heo
 ·exact⟨u,k b u hbe q⟩
end
def trk (h:Heap) (H:Hp):List Addr:=(List.range h.objs.size).filter fun a=>(H a).isSome
def R4 (h:Heap) (H:Hp):Heap:=PySem.W.hideAll h (trk h H)
theorem b2k (h:Heap) (H:Hp):(R4 h H).objs.size=h.objs.size:=PySem.W.hideAll_size _ _
theorem b4c {h:Heap}{H:Hp}{b:Addr}{o:Obj}(e:h.get? b=some o) (n:H b=none):(R4 h H).get? b=some o:=
 PySem.W.hideAll_get _ e fun hm=>by
  have q:(H b).isSome=true:=(List.mem_filter.mp hm).2
  rw[n] at q;simp at q
theorem b2E {h:Heap}{H:Hp}{b:Addr}{o:Obj}(e:(R4 h H).get? b=some o):h.get? b=some o∧H b=none:=by
 have e':h.get? b=some o:=PySem.W.of_hideAll (trk h H) e
 refine⟨e',?_⟩
 cases q:H b with
 |none=>rfl
 |some x=>
  have hm:b∈trk h H:=List.mem_filter.mpr ⟨List.mem_range.mpr (Heap.lt_size e'),by simp[q]⟩
  have z:(R4 h H).get? b=none:=PySem.W.hideAll_none (trk h H) hm
  rw[z] at e;cases e
structure Mod (K:PySem.W.Frag) (mg:Str→Option Value) (base:Heap):Prop where
 kin:K.In base
 glob:base.Ns mainGlobals mg
 blt:∃ mb,base.Ns builtinsNs mb∧∀ x:Str,x ≠ "__name__" → mb x=bootBuiltins x
 nolimit:base.NoLimit
structure Cx where
 prog:Program
 w:World
 K:PySem.W.Frag
 mg:Str→Option Value
 base:Heap
 A:Around
 N:List Str
 s₀:Shared
 H₀:Hp
 env:Env
 outer:List Env
 stack:List Env
 ex:List Addr
 fn:Str→Bool
 calm:Bool
 pn:List (Addr × Obj)
 xe:Value→Shared→Prop
def frs (l:List Env):List Addr:=l.filterMap (·.frame)
abbrev Cx.fs (X:Cx):List Addr:=frs X.outer
def Vis (sc:Scope) (x:Str):Prop:=sc.names.lookup x=some .local∨sc.names.lookup x=some .cell∨sc.names.lookup x=some .free
def Loc (sc:Scope) (x:Str):Prop:=sc.names.lookup x=some .local∨sc.names.lookup x=some .cell
def b1T (env:Env) (h:Heap) (m:Str→Option Value) (x:Str) (u:Value):Prop:=
 (env.kindOf x=some .local∧m x=some u)∨((env.kindOf x=some .cell∨env.kindOf x=some .free)∧∃ c,env.cells.lookup x=some c∧h.IsCell c (some u))
structure Cx.Ok (X:Cx):Prop where
 mod:Mod X.K X.mg X.base
 kind:X.env.scope.kind = .function
 glob:X.env.globals=mainGlobals
 blt:X.env.builtins=builtinsNs
 above:X.s₀.heap.objs.size≤X.env.locals
 inj:∀ x y c,X.env.cells.lookup x=some c→X.env.cells.lookup y=some c→x=y
 has:∀ x,(X.env.kindOf x=some .cell∨X.env.kindOf x=some .free)→∃ c,X.env.cells.lookup x=some c
 cab:∀ x c,X.fn x=true→X.env.cells.lookup x=some c→X.s₀.heap.objs.size≤c
 hd:X.calm=true→X.A.handled=none
 frames:X.A.frames=some X.stack
 stk:X.stack=X.outer∨(X.stack=X.env::X.outer∧X.env.frame=some X.env.locals)
 exf:∀ b∈X.ex,b≠X.env.locals∧∀ x c,X.env.cells.lookup x=some c→c≠b
 bs:∀ b o,X.base.get? b=some o→X.s₀.heap.get? b=some o∧X.H₀ b=none
 bsz:X.base.objs.size≤X.s₀.heap.objs.size
 noex:∀ b o,X.base.get? b=some o→b ∉ X.ex
 exfs:∀ b∈X.ex,b ∉ X.fs
 funs:X.s₀.heap.FunFrames X.base X.outer
 frf:∀ b∈X.fs,X.H₀ b=none
structure Inv (X:Cx) (pins:List (Addr × Obj)) (σ:List (Option V)) (H:Hp) (s:Shared):Prop where
 ok:X.Ok
 os:s.os=X.s₀.os
 bare:AllBare s.gens
 base:Un X.fs X.ex X.H₀ H X.s₀.heap s.heap
 loc:∃ m,s.heap.Ns X.env.locals m∧∀ (i:Nat) (x:Str) (v:V),X.N[i]? = some x→σ[i]? = some (some v)→Vis X.env.scope x→∃ u,RelV v u∧b1T X.env s.heap m x u
 cell:∀ x c,X.env.cells.lookup x=some c→∃ v,s.heap.IsCell c v
 free:H X.env.locals=none
 freeC:∀ x c,X.env.cells.lookup x=some c→H c=none
 pin:∀ p∈X.pn++pins,s.heap.get? p.1=some p.2∧H p.1=none∧p.1≠X.env.locals∧p.1 ∉ X.fs∧∀ v,p.2.data ≠ .cell v
 hok:HOk X.prog X.w H s.heap
 len:σ.length=X.N.length
section
variable {X:Cx}{pins:List (Addr × Obj)}{σ:List (Option V)}{H H':Hp}{s:Shared}{h':Heap}
theorem Cx.Ok.nofr (ok:X.Ok) {b:Addr}{o:Obj}(e:X.base.get? b=some o):b ∉ X.fs:=fun hb=>by
 have:=(ok.funs.mem hb).1
 rw[e] at this;cases this
theorem Inv.bs (I:Inv X pins σ H s):∀ b o,X.base.get? b=some o→s.heap.get? b=some o∧H b=none:=fun b o e=>
 ⟨I.base.keep b o (I.ok.bs b o e).1 (I.ok.bs b o e).2 (I.ok.nofr e) (I.ok.noex b o e),I.base.free b o (I.ok.bs b o e).1 (I.ok.bs b o e).2 (I.ok.noex b o e)⟩
theorem Inv.bk (I:Inv X pins σ H s):∀ b o,X.base.get? b=some o→s.heap.get? b=some o:=fun b o e=>(I.bs b o e).1
theorem Inv.mod (I:Inv X pins σ H s):Mod X.K X.mg X.base:=I.ok.mod
theorem Inv.kIn (I:Inv X pins σ H s):X.K.In s.heap:=I.ok.mod.kin.keeps I.bk
theorem Inv.lt (I:Inv X pins σ H s):X.env.locals<s.heap.objs.size:=let ⟨_,hn,_⟩:=I.loc;hn.lt
theorem Inv.sz (I:Inv X pins σ H s):X.s₀.heap.objs.size≤s.heap.objs.size:=Nat.le_trans I.ok.above (Nat.le_of_lt I.lt)
theorem Inv.nofs (I:Inv X pins σ H s) {a:Addr}(h:s.heap.objs.size≤a):a ∉ X.fs:=fun hb=>by
 obtain⟨_,o,ho,_⟩:=I.ok.funs.mem hb
 exact absurd (Nat.lt_of_lt_of_le (Heap.lt_size ho) (Nat.le_trans I.sz h)) (Nat.lt_irrefl _)
theorem Inv.cne (I:Inv X pins σ H s):∀ x c,X.env.cells.lookup x=some c→c≠X.env.locals:=fun x c e z=>by
 obtain⟨v,o,ho,hd⟩:=I.cell x c e
 obtain⟨m,⟨o',es,ep,ho',hd',_⟩,_⟩:=I.loc
 rw[z,ho'] at ho;cases ho;rw[hd'] at hd;cases hd
theorem Inv.funs (I:Inv X pins σ H s):s.heap.FunFrames X.base X.outer:=by
 have all:∀ (l:List Env),(∀ b∈frs l,b∈X.fs)→X.s₀.heap.FunFrames X.base l→s.heap.FunFrames X.base l:=by
  intro l
  induction l with
  |nil=>intro _ _;trivial
  |cons env r ih=>
   intro hs hl
   obtain⟨hk,⟨L,o,hf,hn,ho,hd⟩,hr⟩:=hl
   have hL:L∈X.fs:=hs L (by unfold frs;rw[List.filterMap_cons,hf];exact List.mem_cons_self)
   obtain⟨sl,e⟩:=I.base.slot L o ho (I.ok.frf L hL) hL fun z=>I.ok.exfs L z hL
   exact⟨hk,⟨L,_,hf,hn,e,hd⟩,ih (fun b hb=>hs b (by unfold frs;rw[List.filterMap_cons,hf];exact List.mem_cons_of_mem _ hb)) hr⟩
 exact all X.outer (fun _ hb=>hb) I.ok.funs
theorem Inv.stack (I:Inv X pins σ H s):s.heap.FunFrames X.base X.stack:=by
 rcases I.ok.stk with e | ⟨e,hf⟩
 ·rw[e];exact I.funs
 ·rw[e]
  obtain⟨m,hn,_⟩:=I.loc
  refine .cons (by rw[I.ok.kind];decide) hf hn ?_ I.funs
  exact Heap.get?_none_of_le (Nat.le_trans I.ok.bsz I.ok.above)
theorem Inv.stkSub (I:Inv X pins σ H s):∀ b∈frs X.stack,b∈X.env.locals::X.fs:=fun b hb=>by
 rcases I.ok.stk with e | ⟨e,hf⟩
 ·rw[e] at hb;exact List.mem_cons_of_mem _ hb
 ·rw[e] at hb
  unfold frs at hb
  rw[List.filterMap_cons,hf] at hb
  exact hb
theorem Inv.stkFree (I:Inv X pins σ H s):∀ b∈frs X.stack,H b=none:=fun b hb=>by
 rcases List.mem_cons.mp (I.stkSub b hb) with e | hb
 ·rw[e];exact I.free
 ·obtain⟨_,o,ho,_⟩:=I.ok.funs.mem hb
  exact I.base.free b o ho (I.ok.frf b hb) fun z=>I.ok.exfs b z hb
theorem Inv.step {g':Array GenState}{t':Nat}{d':Drawn}{ch:List Addr}(I:Inv X pins σ H s)
  (hch:∀ b∈ch,(b∈X.ex∨X.s₀.heap.objs.size≤b)∧b≠X.env.locals∧(∀ x c,X.env.cells.lookup x=some c→c≠b)∧∀ p∈X.pn++pins,p.1≠b)
  (keep:∀ b o,b≠X.env.locals→b ∉ X.fs→b ∉ ch→s.heap.get? b=some o→H b=none→h'.get? b=some o)
  (slot:∀ b o,b≠X.env.locals→b∈X.fs→b ∉ ch→s.heap.get? b=some o→H b=none→∃ sl,h'.get? b=some { o with slots:=sl }) (free:∀ b o,b ∉ ch→s.heap.get? b=some o→H b=none→H' b=none)
  (there:∀ b o,b ∉ ch→s.heap.get? b=some o→∃ o',h'.get? b=some o')
  (tups:∀ b xs,H b=some (.tup xs)→H' b=some (.tup xs)) (frzs:∀ b o u,H b=some (.frz o u)→H' b=some (.frz o u)) (tbls:∀ b ps,H b=some (.tbl ps)→∃ more,H' b=some (.tbl (ps++more)))
  (ns:∀ m,s.heap.Ns X.env.locals m→h'.Ns X.env.locals m) (hok:HOk X.prog X.w H' h') (hg:AllBare g') :
  Inv X pins σ H' { s with heap:=h',gens:=g',drawn:=d',toks:=t' }:=by
 have neL:∀ b o,X.s₀.heap.get? b=some o→b≠X.env.locals:=fun b o e=>Nat.ne_of_lt (Nat.lt_of_lt_of_le (Heap.lt_size e) I.ok.above)
 have neC:∀ b o,X.s₀.heap.get? b=some o→b ∉ X.ex→b ∉ ch:=fun b o e hx hb=>by
  rcases(hch b hb).1 with z | z
  ·exact hx z
  ·exact absurd (Nat.lt_of_lt_of_le (Heap.lt_size e) z) (Nat.lt_irrefl _)
 have cellK:∀ x c,X.env.cells.lookup x=some c→∀ v,s.heap.IsCell c v→h'.IsCell c v:=fun x c e v hQ__=>by
  obtain⟨o,ho,hd⟩:=hQ__
  have nch:c ∉ ch:=fun z=>(hch c z).2.2.1 x c e rfl
  by_cases hc:c∈X.fs
  ·obtain⟨sl,q⟩:=slot c o (I.cne x c e) hc nch ho (I.freeC x c e)
   exact⟨_,q,hd⟩
  ·exact⟨o,keep c o (I.cne x c e) hc nch ho (I.freeC x c e),hd⟩
 refine⟨I.ok,I.os,hg,⟨fun b o e n hb hx=>?_,fun b o e n hb hx=>?_,fun b o e n hx=>?_,fun b o e hx=>?_,fun b xs e=>tups b xs (I.base.tups b xs e),fun b o xs e=>frzs b o xs (I.base.frzs b o xs e),fun b ps e=>?_⟩,?_,fun x c e=>?_,?_,fun x c e=>?_,fun p hp=>?_,hok,I.len⟩
 ·exact keep b o (neL b o e) hb (neC b o e hx) (I.base.keep b o e n hb hx) (I.base.free b o e n hx)
 ·obtain⟨sl,e1⟩:=I.base.slot b o e n hb hx
  obtain⟨sl',e2⟩:=slot b _ (neL b o e) hb (neC b o e hx) e1 (I.base.free b o e n hx)
  exact⟨sl',e2⟩
 ·obtain⟨o',e1⟩:=I.base.there b o e hx
  exact free b o' (neC b o e hx) e1 (I.base.free b o e n hx)
 ·obtain⟨o',e1⟩:=I.base.there b o e hx
  exact there b o' (neC b o e hx) e1
 ·obtain⟨m1,e1⟩:=I.base.tbls b ps e
  obtain⟨m2,e2⟩:=tbls b _ e1
  exact⟨m1++m2,by rw[e2,Array.append_assoc]⟩
 ·obtain⟨m,hn,hl⟩:=I.loc
  refine⟨m,ns m hn,fun i x v e1 e2 e3=>?_⟩
  obtain⟨u,r,l⟩:=hl i x v e1 e2 e3
  refine⟨u,r,?_⟩
  rcases l with l | ⟨k,c,e,z⟩
  ·exact .inl l
  ·exact .inr ⟨k,c,e,cellK x c e _ z⟩
 ·obtain⟨v,z⟩:=I.cell x c e
  exact⟨v,cellK x c e v z⟩
 ·obtain⟨m,⟨o,_,_,ho,_⟩,_⟩:=I.loc
  exact free _ o (fun z=>(hch _ z).2.1 rfl) ho I.free
 ·obtain⟨v,o,ho,hd⟩:=I.cell x c e
  exact free c o (fun z=>(hch c z).2.2.1 x c e rfl) ho (I.freeC x c e)
 ·obtain⟨e,n,ne,nf,d⟩:=I.pin p hp
  have nch:p.1 ∉ ch:=fun z=>(hch p.1 z).2.2.2 p hp rfl
  exact⟨keep p.1 p.2 ne nf nch e n,free p.1 p.2 nch e n,ne,nf,d⟩
theorem Inv.un {t':Nat}(I:Inv X pins σ H s) (u:Un X.fs [] H H' s.heap h') (hok:HOk X.prog X.w H' h'):Inv X pins σ H' { s with heap:=h',toks:=t' }:=by
 obtain⟨m,⟨o,es,ep,ho,r⟩,_⟩:=id I.loc
 obtain⟨sl,hL⟩:=u.any ho I.free (by simp)
 exact I.step (g':=s.gens) (d':=s.drawn) (ch:=[]) (fun _ z=>nomatch z) (fun b o _ hb _ e n=>u.keep b o e n hb (by simp)) (fun b o _ hb _ e n=>u.slot b o e n hb (by simp)) (fun b o _ e n=>u.free b o e n (by simp)) (fun b o _ e=>u.there b o e (by simp)) u.tups u.frzs u.tbls (fun m' hm=>by
  obtain⟨o',es',ep',ho',r'⟩:=hm
  rw[ho] at ho';cases ho'
  exact⟨_,es',ep',hL,r'⟩) hok I.bare
theorem Inv.call {g':Array GenState}{t':Nat}{d':Drawn}{ch:List Addr}(I:Inv X pins σ H s) (u:Un (frs X.stack) ch H H' s.heap h') (hok:HOk X.prog X.w H' h') (hg:AllBare g')
  (hch:∀ b∈ch,(b∈X.ex∨X.s₀.heap.objs.size≤b)∧b≠X.env.locals∧(∀ x c,X.env.cells.lookup x=some c→c≠b)∧∀ p∈X.pn++pins,p.1≠b) :
  Inv X pins σ H' { s with heap:=h',gens:=g',drawn:=d',toks:=t' }:=by
 obtain⟨m,⟨o,es,ep,ho,r⟩,_⟩:=id I.loc
 obtain⟨sl,hL⟩:=u.any ho I.free fun z=>(hch _ z).2.1 rfl
 exact I.step (ch:=ch) hch (fun b o hL hb hc e n=>u.keep b o e n (fun z=>(List.mem_cons.mp (I.stkSub b z)).elim hL hb) hc) (fun b o _ _ hc e n=>u.any e n hc) (fun b o hc e n=>u.free b o e n hc) (fun b o hc e=>u.there b o e hc) u.tups u.frzs u.tbls (fun m' hm=>by
  obtain⟨o',es',ep',ho',r'⟩:=hm
  rw[ho] at ho';cases ho'
  exact⟨_,es',ep',hL,r'⟩) hok hg
theorem Inv.turned {t':Nat}{it:Addr}(I:Inv X pins σ H s) (k:∀ b o,b≠it→s.heap.get? b=some o→h'.get? b=some o) (hn:H it=none) (hL:it≠X.env.locals)
  (h1:it∈X.ex∨X.s₀.heap.objs.size≤it) (h2:∀ x c,X.env.cells.lookup x=some c→c≠it) (h3:∀ p∈X.pn++pins,p.1≠it):Inv X pins σ H { s with heap:=h',toks:=t' }:=by
 have nit:∀ b u,H b=some u→b≠it:=fun b u e z=>by rw[z,hn] at e;cases e
 refine I.step (g':=s.gens) (d':=s.drawn) (ch:=[it]) (fun b hb=>?_) (fun b o _ _ hc e _=>k b o (fun z=>hc (by simp[z])) e) (fun b o _ _ hc e _=>⟨o.slots,k b o (fun z=>hc (by simp[z])) e⟩) (fun _ _ _ _ n=>n)
  (fun b o hc e=>⟨o,k b o (fun z=>hc (by simp[z])) e⟩) (fun _ _ e=>e) (fun _ _ _ e=>e) (fun b ps e=>⟨#[],by rw[e];simp⟩) (fun m hm=>?_) (fun b u e=>?_) I.bare
 ·have e:b=it:=by simpa using hb
  subst e
  exact⟨h1,hL,h2,h3⟩
 ·obtain⟨o,es,ep,ho,r⟩:=hm
  exact⟨o,es,ep,k _ o (Ne.symm hL) ho,r⟩
 ·refine(I.hok b u e).stay (fun c v hc q=>k c v ?_ q) (fun _ q=>q) fun _ _ q=>q
  rcases hc with z | z
  ·rw[z];exact nit b u e
  ·exact nit c _ z
theorem Inv.tok (I:Inv X pins σ H s) (t:Nat):Inv X pins σ H { s with toks:=t }:=I.un (h':=s.heap) (t':=t) Un.refl I.hok
theorem Inv.kept {t':Nat}(I:Inv X pins σ H s) (k:∀ b u,s.heap.get? b=some u→h'.get? b=some u):Inv X pins σ H { s with heap:=h',toks:=t' }:=I.un (Un.kept k) (I.hok.kept k)
theorem Inv.laid {a:Addr}{o:HO}{t':Nat}(I:Inv X pins σ H s) (k:∀ b u,s.heap.get? b=some u→h'.get? b=some u) (hp:s.heap.objs.size≤a) (new:ObjOk X.prog X.w (upd H a o) h' a o) :
  Inv X pins σ (upd H a o) { s with heap:=h',toks:=t' }:=I.un (Un.laid k hp (I.hok.fresh hp)) (I.hok.laid k hp new)
theorem Inv.write {x e:Addr}{o:HO}{t':Nat}(I:Inv X pins σ H s) (mu:Mut (H x)) (he:e=x∨H e=some (.own x)) (k:∀ b u,b≠e→s.heap.get? b=some u→h'.get? b=some u) (heo:∃ u,h'.get? e=some u)
  (new:ObjOk X.prog X.w (upd H x o) h' x o):Inv X pins σ (upd H x o) { s with heap:=h',toks:=t' }:=I.un (Un.write mu he k heo) (I.hok.write mu he k heo new)
theorem Inv.weak {σ':List (Option V)}(I:Inv X pins σ H s) (hl:σ'.length=σ.length) (w:∀ (i:Nat) v,σ'[i]? = some (some v)→σ[i]? = some (some v)):Inv X pins σ' H s:=
 ⟨I.ok,I.os,I.bare,I.base,let ⟨m,hn,hl'⟩:=I.loc;⟨m,hn,fun i x v e1 e2 e3=>hl' i x v e1 (w i v e2) e3⟩,I.cell,I.free,I.freeC,I.pin,I.hok,hl.trans I.len⟩
theorem Inv.pins_of {pins':List (Addr × Obj)}(I:Inv X pins σ H s) (h:∀ p∈pins',s.heap.get? p.1=some p.2∧H p.1=none∧p.1≠X.env.locals∧p.1 ∉ X.fs∧∀ v,p.2.data ≠ .cell v):Inv X pins' σ H s:=
 ⟨I.ok,I.os,I.bare,I.base,I.loc,I.cell,I.free,I.freeC,fun p hp=>(List.mem_append.mp hp).elim (fun z=>I.pin p (List.mem_append_left _ z)) (h p),I.hok,I.len⟩
theorem a5u {N:List Str}(hN:N.Nodup) {i j:Nat}{x:Str}(a:N[i]? = some x) (b:N[j]? = some x):i=j:=by
 obtain⟨h1,e1⟩:=List.getElem?_eq_some_iff.mp a
 obtain⟨h2,e2⟩:=List.getElem?_eq_some_iff.mp b
 exact(List.getElem_inj hN).mp (e1.trans e2.symm)
theorem b1L {M:Model}{A:Around}{E:Value→Shared→Prop}{i:Nat}{x:Str}{v:V}{u:Value}{Q:Unit→Shared→Prop}(I:Inv X pins σ H s) (hN:X.N.Nodup) (hi:X.N[i]? = some x) (hx:Loc X.env.scope x) (r:RelV v u)
  (h:∀ s',Inv X pins (σ.set i (some v)) H s'→(∃ a,Heap.SameBut a s.heap s'.heap∧(a=X.env.locals∨X.env.cells.lookup x=some a))→Q () s') (hf:X.fn x=true∨X.env.scope.names.lookup x=some .local:=by first | exact .inl rfl | exact .inr rfl | assumption):wpAny M A (storeName X.env x u) Q E s:=by
 obtain⟨m,hn,hl⟩:=id I.loc
 have hcls:(X.env.scope.kind == .class||(X.env.scope.kind == .module&&X.env.locals != X.env.globals))=false:=by rw[I.ok.kind];rfl
 have hiσ:i<σ.length:=by rw[I.len];exact(List.getElem?_eq_some_iff.mp hi).1
 have cne:=I.cne
 have tracked:∀ {a:Addr}{h':Heap},(∃ o,s.heap.get? a=some o∧H a=none)→Heap.SameBut a s.heap h'→HOk X.prog X.w H h':=fun {a h'} ha hs b ob e=>by
  obtain⟨_,_,hfree⟩:=ha
  refine(I.hok b ob e).stay (fun c w' hc q=>(hs.2 c ?_).trans q) (fun _ q=>q) fun _ _ q=>q
  rintro rfl
  rcases hc with rfl | hc
  ·rw[hfree] at e;cases e
  ·rw[hfree] at hc;cases hc
 rcases hx with hk | hk
 ·refine wpAny_storeName_local hk hn (fun h' hn' hs=>?_) hcls
  obtain⟨oL,_,_,hoL,_⟩:=id hn
  refine h _ ⟨I.ok,I.os,I.bare,⟨fun b o e n hb hx=>?_,fun b o e n hb hx=>?_,I.base.free,fun b o e hx=>?_,I.base.tups,I.base.frzs,I.base.tbls⟩,⟨_,hn',fun j y v' e1 e2 e3=>?_⟩,fun y c e=>?_,I.free,I.freeC,fun p hp=>?_,tracked ⟨oL,hoL,I.free⟩ hs,by simpa using I.len⟩ ⟨_,hs,.inl rfl⟩
  ·exact(hs.2 b (Nat.ne_of_lt (Nat.lt_of_lt_of_le (Heap.lt_size e) I.ok.above))).trans (I.base.keep b o e n hb hx)
  ·obtain⟨sl,e1⟩:=I.base.slot b o e n hb hx
   exact⟨sl,(hs.2 b (Nat.ne_of_lt (Nat.lt_of_lt_of_le (Heap.lt_size e) I.ok.above))).trans e1⟩
  ·obtain⟨o',e1⟩:=I.base.there b o e hx
   exact⟨o',(hs.2 b (Nat.ne_of_lt (Nat.lt_of_lt_of_le (Heap.lt_size e) I.ok.above))).trans e1⟩
  ·by_cases hj:j=i
   ·subst hj
    rw[hi] at e1;cases e1
    rw[List.getElem?_set_self hiσ] at e2
    cases e2
    exact⟨u,r,.inl ⟨hk,by simp⟩⟩
   ·rw[List.getElem?_set_ne (Ne.symm hj)] at e2
    obtain⟨u',r',q⟩:=hl j y v' e1 e2 e3
    refine⟨u',r',?_⟩
    rcases q with ⟨k,e⟩ | ⟨k,c,e,z⟩
    ·refine .inl ⟨k,?_⟩
     have:y≠x:=fun e=>hj (a5u hN e1 (e▸hi))
     simp[this,e]
    ·exact .inr ⟨k,c,e,z.sameBut hs (cne y c e)⟩
  ·obtain⟨w',z⟩:=I.cell y c e
   exact⟨w',z.sameBut hs (cne y c e)⟩
  ·obtain⟨e,n,ne,nf,d⟩:=I.pin p hp
   exact⟨(hs.2 p.1 ne).trans e,n,ne,nf,d⟩
 ·have hfn:X.fn x=true:=by
   rcases hf with z | z
   ·exact z
   ·rw[z] at hk;cases hk
  obtain⟨c,hc⟩:=I.ok.has x (.inl hk)
  obtain⟨w',z⟩:=I.cell x c hc
  refine wpAny_storeName_cell I.ok.kind hk hc z (fun h' hc' hs=>?_)
  obtain⟨oc,hoc,hocd⟩:=id z
  refine h { s with heap:=h' } ⟨I.ok,I.os,I.bare,⟨fun b o e n hb hx=>?_,fun b o e n hb hx=>?_,I.base.free,fun b o e hx=>?_,I.base.tups,I.base.frzs,I.base.tbls⟩,⟨m,hn.sameBut hs (Ne.symm (cne x c hc)),fun j y v' e1 e2 e3=>?_⟩,fun y c' e=>?_,I.free,I.freeC,fun p hp=>?_,tracked ⟨oc,hoc,I.freeC x c hc⟩ hs,by simpa using I.len⟩ ⟨c,hs,.inr hc⟩
  ·exact(hs.2 b (Nat.ne_of_lt (Nat.lt_of_lt_of_le (Heap.lt_size e) (I.ok.cab x c hfn hc)))).trans (I.base.keep b o e n hb hx)
  ·obtain⟨sl,e1⟩:=I.base.slot b o e n hb hx
   exact⟨sl,(hs.2 b (Nat.ne_of_lt (Nat.lt_of_lt_of_le (Heap.lt_size e) (I.ok.cab x c hfn hc)))).trans e1⟩
  ·obtain⟨o',e1⟩:=I.base.there b o e hx
   exact⟨o',(hs.2 b (Nat.ne_of_lt (Nat.lt_of_lt_of_le (Heap.lt_size e) (I.ok.cab x c hfn hc)))).trans e1⟩
  ·by_cases hj:j=i
   ·subst hj
    rw[hi] at e1;cases e1
    rw[List.getElem?_set_self hiσ] at e2
    cases e2
    exact⟨u,r,.inr ⟨.inl hk,c,hc,hc'⟩⟩
   ·rw[List.getElem?_set_ne (Ne.symm hj)] at e2
    obtain⟨u',r',q⟩:=hl j y v' e1 e2 e3
    refine⟨u',r',?_⟩
    rcases q with q | ⟨k,c',e,z'⟩
    ·exact .inl q
    ·refine .inr ⟨k,c',e,z'.sameBut hs ?_⟩
     rintro rfl
     exact hj (a5u hN e1 (I.ok.inj _ _ _ e hc▸hi))
  ·by_cases hcc:c'=c
   ·subst hcc;exact⟨_,hc'⟩
   ·obtain⟨w2,z2⟩:=I.cell y c' e
    exact⟨w2,z2.sameBut hs hcc⟩
  ·obtain⟨e,n,ne,nf,d⟩:=I.pin p hp
   refine⟨(hs.2 p.1 ?_).trans e,n,ne,nf,d⟩
   intro q
   rw[q,hoc] at e
   have q':oc=p.2:=Option.some.inj e
   exact d w' (by rw[←q'];exact hocd)
theorem a1M {M:Model}{A:Around}{E:Value→Shared→Prop}{i:Nat}{x:Str}{v:V}{u:Value}{Q:Unit→Shared→Prop}(I:Inv X pins σ H s) (hN:X.N.Nodup) (hi:X.N[i]? = some x) (hx:Loc X.env.scope x) (r:RelV v u)
  (h:∀ s',Inv X pins (σ.set i (some v)) H s'→Q () s') (hf:X.fn x=true∨X.env.scope.names.lookup x=some .local:=by first | exact .inl rfl | exact .inr rfl | assumption):wpAny M A (storeName X.env x u) Q E s:=
 b1L I hN hi hx r (fun s' I' _=>h s' I') hf
theorem Inv.call' {s':Shared}{ch:List Addr}(I:Inv X pins σ H s) (ho:s'.os=s.os) (u:Un (frs X.stack) ch H H' s.heap s'.heap) (hok:HOk X.prog X.w H' s'.heap) (hg:AllBare s'.gens)
  (hch:∀ b∈ch,(b∈X.ex∨X.s₀.heap.objs.size≤b)∧b≠X.env.locals∧(∀ x c,X.env.cells.lookup x=some c→c≠b)∧∀ p∈X.pn++pins,p.1≠b):Inv X pins σ H' s':=by
 obtain⟨h',g',d',t',o'⟩:=s'
 have e:o'=s.os:=ho
 subst e
 exact I.call (g':=g') (t':=t') (d':=d') u hok hg hch
end
abbrev XK:=Value→Option Addr→Hp→Prop
abbrev St:=List (Option V)
abbrev VK:=V→Hp→Prop
abbrev TE:=St→Hp→VK→Prop
abbrev TT:=St→Hp→(Bool→Hp→Prop)→Prop
abbrev TA:=St→Hp→(List V→Hp→Prop)→Prop
structure Ends where
 nx:St→Hp→Prop
 rt:VK
 bk:St→Hp→Prop:=fun _ _=>False
 ct:St→Hp→Prop:=fun _ _=>False
abbrev TS:=Ends→St→Hp→Prop
def EP (X:Cx) (pins:List (Addr × Obj)) (σ:St) (Q:VK) (u:Value) (s':Shared):Prop:=∃ v H',Inv X pins σ H' s'∧RelV v u∧Q v H'
def TP (X:Cx) (pins:List (Addr × Obj)) (σ:St) (Q:Bool→Hp→Prop) (b:Bool) (s':Shared):Prop:=∃ H',Inv X pins σ H' s'∧Q b H'
def AP (X:Cx) (pins:List (Addr × Obj)) (σ:St) (Q:List V→Hp→Prop) (us:List Value) (s':Shared):Prop:=∃ vs H',Inv X pins σ H' s'∧Vals vs us∧Q vs H'
def SP (X:Cx) (pins:List (Addr × Obj)) (D:Ends) (f:Flow) (s':Shared):Prop:=
 match f with
 |.next=>∃ σ' H',Inv X pins σ' H' s'∧D.nx σ' H'
 |.brk=>∃ σ' H',Inv X pins σ' H' s'∧D.bk σ' H'
 |.cont=>∃ σ' H',Inv X pins σ' H' s'∧D.ct σ' H'
 |.ret u=>∃ v σ' H',Inv X pins σ' H' s'∧RelV v u∧D.rt v H'
def PE (X:Cx) (e:Expr) (t:TE):Prop:=
 ∀ (pins:List (Addr × Obj)) (s:Shared) (σ:St) (H:Hp) (Q:VK),Inv X pins σ H s→t σ H Q→wpAny (model X.prog X.w) X.A (eval e X.env) (EP X pins σ Q) X.xe s
def PT (X:Cx) (e:Expr) (t:TT):Prop:=
 ∀ (pins:List (Addr × Obj)) (s:Shared) (σ:St) (H:Hp) (Q:Bool→Hp→Prop),Inv X pins σ H s→t σ H Q→wpAny (model X.prog X.w) X.A (isTrue e X.env (eval e X.env)) (TP X pins σ Q) X.xe s
def PW (X:Cx) (e:Expr) (t:TT):Prop:=
 ∀ (whole:Sem Value) (pins:List (Addr × Obj)) (s:Shared) (σ:St) (H:Hp) (Q:Bool→Hp→Prop),Inv X pins σ H s→t σ H Q→wpAny (model X.prog X.w) X.A (isTrue e X.env whole) (TP X pins σ Q) X.xe s
theorem PW.pt {X:Cx}{e:Expr}{t:TT}(h:PW X e t):PT X e t:=h _
def PA (X:Cx) (es:List Expr) (t:TA):Prop:=
 ∀ (pos:Pos) (pins:List (Addr × Obj)) (s:Shared) (σ:St) (H:Hp) (Q:List V→Hp→Prop),Inv X pins σ H s→t σ H Q→wpAny (model X.prog X.w) X.A (spliced (backTo pos (starEach es X.env))) (AP X pins σ Q) X.xe s
def PS (X:Cx) (st:Stmt) (t:TS):Prop:=
 ∀ (pins:List (Addr × Obj)) (s:Shared) (σ:St) (H:Hp) (D:Ends),Inv X pins σ H s→t D σ H→wpAny (model X.prog X.w) X.A (exec st X.env) (SP X pins D) X.xe s
def PSs (X:Cx) (st:List Stmt) (t:TS):Prop:=
 ∀ (pins:List (Addr × Obj)) (s:Shared) (σ:St) (H:Hp) (D:Ends),Inv X pins σ H s→t D σ H→wpAny (model X.prog X.w) X.A (execs st X.env) (SP X pins D) X.xe s
theorem thn {α:Type}{t:Sem α}{Q Q':α→Shared→Prop}{M:Model}{A:Around}{E:Value→Shared→Prop}{s:Shared}(h:wpAny M A t Q E s) (hQ:∀ a s,Q a s→Q' a s):wpAny M A t Q' E s:=wpAny_mono h hQ fun _ _ x=>x
section
variable {X:Cx}
def R8 (i:Nat):TE:=fun σ H Q=>∃ v,σ[i]? = some (some v)∧Q v H
def tC (v:V):TE:=fun _ H Q=>Q v H
theorem a8W {i:Nat}{x:Str}{pos:Pos}(hN:X.N[i]? = some x) (hv:Vis X.env.scope x) (hd:(x == ("__debug__" : Str))=false:=by decide) (hcd:(x == ("__classdict__" : Str))=false:=by decide):PE X (.Name x pos) (R8 i):=by
 intro pins s σ H Q I h
 obtain⟨v,e,h⟩:=h
 obtain⟨m,hn,hl⟩:=I.loc
 obtain⟨u,r,l⟩:=hl i x v hN e hv
 have fin:EP X pins σ Q u s:=⟨v,H,I,r,h⟩
 rcases l with ⟨hk,hm⟩ | ⟨hk,c,hc,hcell⟩
 ·exact wpAny_Name (wpAny_loadName_local I.ok.kind hk hn hm fin) hd
 ·rcases hk with hk | hk
  ·exact wpAny_Name (wpAny_loadName_cell I.ok.kind hk hc hcell fin) hd
  ·exact wpAny_Name (wpAny_loadName_free I.ok.kind hk hc hcell fin hcd) hd
theorem Z8 {i j pos}:PE X (.Constant (.int i) j pos) (tC (.int i)):=fun _ _ _ H _ I h=>wpAny_Constant_int ⟨.int i,H,I.tok _,⟨_,rfl⟩,h⟩
theorem b3n {b j pos}:PE X (.Constant (.bool b) j pos) (tC (.bl b)):=fun _ _ _ H _ I h=>Constant_bool ⟨.bl b,H,I,rfl,h⟩
theorem b0h {j pos}:PE X (.Constant .none j pos) (tC .non):=fun _ _ _ H _ I h=>Constant_none ⟨.non,H,I,rfl,h⟩
def Gl (X:Cx) (x:Str):Prop:=X.env.kindOf x=some .globalImplicit
theorem a5U {E:Value→Shared→Prop}{pins:List (Addr × Obj)}{s:Shared}{σ:St}{H:Hp}{x:Str}{u:Value}{pos:Pos}{Q:Value→Shared→Prop}(I:Inv X pins σ H s) (hg:Gl X x) (hm:X.mg x=some u) (h:Q u s)
  (hd:(x == ("__debug__" : Str))=false:=by decide):wpAny (model X.prog X.w) X.A (eval (.Name x pos) X.env) Q E s:=
 Calls.Name_function_global I.ok.kind hg (Calls.loadGlobal_global (by rw[I.ok.glob];exact I.mod.glob.keeps I.bk) hm h) hd
theorem X9 {E:Value→Shared→Prop}{pins:List (Addr × Obj)}{s:Shared}{σ:St}{H:Hp}{x:Str}{u:Value}{pos:Pos}{Q:Value→Shared→Prop}(I:Inv X pins σ H s) (hg:Gl X x) (hm:X.mg x=none) (hv:bootBuiltins x=some u) (h:Q u s)
  (hn:x ≠ "__name__" := by decide) (hd:(x == ("__debug__" : Str))=false:=by decide):wpAny (model X.prog X.w) X.A (eval (.Name x pos) X.env) Q E s:=by
 obtain⟨mb,h1,h2⟩:=I.mod.blt
 exact Calls.Name_function_global I.ok.kind hg (Calls.loadGlobal_builtin (by rw[I.ok.glob];exact I.mod.glob.keeps I.bk) hm (by rw[I.ok.blt];exact h1.keeps I.bk) ((h2 x hn).trans hv) h) hd
theorem a9R {x:Str}{v:V}{u:Value}{pos:Pos}(hg:Gl X x) (hm:X.mg x=some u) (r:RelV v u) (hd:(x == ("__debug__" : Str))=false:=by decide):PE X (.Name x pos) (tC v):=
 fun _ _ _ H _ I h=>a5U I hg hm ⟨v,H,I,r,h⟩ hd
variable {a b:Expr}{ta tb:TE}{pos:Pos}
variable {tA tB':TT}{rest:List Expr}
def a9u (t u:TT):TT:=fun σ H Q=>t σ H fun c H1=>if c=true then u σ H1 Q else Q false H1
def tOr (t u:TT):TT:=fun σ H Q=>t σ H fun c H1=>if c=true then Q true H1 else u σ H1 Q
def b14 (t:TT):TT:=fun σ H Q=>t σ H fun c H1=>Q (!c) H1
theorem b3j (ha:PT X a tA):PW X (.BoolOp .And [a] pos) tA:=by
 intro wh pins s σ H Q I h
 refine isTrue_and (thn (ha pins s σ H Q I h) fun c s1 e=>?_)
 cases c with
 |true=>exact isTrue_and_nil e
 |false=>exact e
theorem b46 (ha:PT X a tA):PW X (.BoolOp .Or [a] pos) tA:=by
 intro wh pins s σ H Q I h
 refine isTrue_or (thn (ha pins s σ H Q I h) fun c s1 e=>?_)
 cases c with
 |false=>exact isTrue_or_nil e
 |true=>exact e
theorem b0Z (ha:PT X a tA) (hb:PW X (.BoolOp .And (b::rest) pos) tB'):PW X (.BoolOp .And (a::b::rest) pos) (a9u tA tB'):=by
 intro wh pins s σ H Q I h
 refine isTrue_and (thn (ha pins s σ H _ I h) fun c s1 ⟨H1,I1,q1⟩=>?_)
 cases c with
 |true=>exact hb wh pins s1 σ H1 Q I1 q1
 |false=>exact⟨H1,I1,q1⟩
theorem b4j (ha:PT X a tA) (hb:PW X (.BoolOp .Or (b::rest) pos) tB'):PW X (.BoolOp .Or (a::b::rest) pos) (tOr tA tB'):=by
 intro wh pins s σ H Q I h
 refine isTrue_or (thn (ha pins s σ H _ I h) fun c s1 ⟨H1,I1,q1⟩=>?_)
 cases c with
 |true=>exact⟨H1,I1,q1⟩
 |false=>exact hb wh pins s1 σ H1 Q I1 q1
theorem a9U (ha:PT X a tA):PT X (.UnaryOp .Not a pos) (b14 tA):=by
 intro pins s σ H Q I h
 exact isTrue_not (ha pins s σ H (fun c H1=>Q (!c) H1) I h)
def tIf (t:TT) (ta tb:TE):TE:=fun σ H Q=>t σ H fun c H1=>if c=true then ta σ H1 Q else tb σ H1 Q
theorem b4X {c:Expr}(hc:PT X c tA) (ha:PE X a ta) (hb:PE X b tb):PE X (.IfExp c a b pos) (tIf tA ta tb):=by
 intro pins s σ H Q I h
 refine wpAny_IfExp (thn (hc pins s σ H _ I h) fun d s1 ⟨H1,I1,q1⟩=>?_)
 cases d with
 |true=>exact ha pins s1 σ H1 Q I1 q1
 |false=>exact hb pins s1 σ H1 Q I1 q1
end
def SqL (K:PySem.W.Frag) (H:Hp) (a:Addr) (xs:List V):Prop:=
 Rd H a (.lst xs) ∨
  ∃ (o:Obj) (its:Array Value) (n:Nat),K.lookup a=some o∧o.cls = .type "list" ∧ o.dict=none∧o.data = .seq its n∧its.size≤sizeLine∧Vals xs its.toList
def SqT (K:PySem.W.Frag) (H:Hp) (a:Addr) (xs:List V):Prop:=
 Rd H a (.tup xs) ∨
  ∃ (o:Obj) (its:Array Value) (n:Nat),K.lookup a=some o∧o.cls = .type "tuple" ∧ o.data = .seq its n∧its.size≤sizeLine∧Vals xs its.toList
def b3O:Value→Option V
 |.none=>some .non
 |.bool b=>some (.bl b)
 |.int i _=>some (.int i)
 |.str x _=>some (.str x)
 |.bytes b _=>some (.byt b)
 |.float b _=>some (.flt b)
 |.ref a=>some (.ref a)
 |.type n=>some (.ty n)
 |_=>none
theorem RelV.abs {x:V}{u:Value}(r:RelV x u):b3O u=some x:=by
 cases x with
 |non=>cases r;rfl
 |bl _=>cases r;rfl
 |int _=>obtain⟨t,rfl⟩:=r;rfl
 |str _=>obtain⟨t,rfl⟩:=r;rfl
 |byt _=>obtain⟨t,rfl⟩:=r;rfl
 |flt _=>obtain⟨t,rfl⟩:=r;rfl
 |ref _=>cases r;rfl
 |ty _=>cases r;rfl
theorem RelV.inj {x y:V}{u:Value}(r:RelV x u) (q:RelV y u):x=y:=Option.some.inj (r.abs.symm.trans q.abs)
theorem Vals.inj:∀ {xs ys:List V}{us:List Value},Vals xs us→Vals ys us→xs=ys:=by
 intro xs ys us h
 induction h generalizing ys with
 |nil=>
  intro h2
  cases h2
  rfl
 |cons r t ih=>
  intro h2
  cases h2 with
  |cons r' t'=>rw[r.inj r',ih t']
section
variable {X:Cx}{pins:List (Addr × Obj)}{σ:St}{H:Hp}{s:Shared}{a:Addr}{xs ys:List V}
theorem SqL.of {K:PySem.W.Frag}(h:H a=some (.lst xs)):SqL K H a xs:=.inl (.inl h)
theorem SqT.of {K:PySem.W.Frag}(h:H a=some (.tup xs)):SqT K H a xs:=.inl (.inl h)
theorem Inv.list (I:Inv X pins σ H s) (h:SqL X.K H a xs):∃ its:List Value,Vals xs its∧PlainL s.heap a its.toArray∧xs.length≤sizeLine:=by
 rcases h with h | ⟨o,its,n,hk,hc,hd,hs,hz,r⟩
 ·obtain⟨z,its,n,r,e⟩:=h.ok I.hok
  exact⟨its,r,⟨_,n,e,rfl,rfl,rfl⟩,z⟩
 ·refine⟨its.toList,r,⟨o,n,I.kIn a o hk,hc,hd,by simpa using hs⟩,?_⟩
  have e:=r.length
  simp only[Array.length_toList] at e
  omega
theorem Inv.tuple (I:Inv X pins σ H s) (h:SqT X.K H a xs):∃ its:List Value,Vals xs its∧IsTup s.heap a its.toArray∧xs.length≤sizeLine:=by
 rcases h with h | ⟨o,its,n,hk,hc,hs,hz,r⟩
 ·obtain⟨z,its,r,p⟩:=h.ok I.hok
  exact⟨its,r,p,z⟩
 ·refine⟨its.toList,r,⟨o,I.kIn a o hk,hc,n,by simpa using hs⟩,?_⟩
  have e:=r.length
  simp only[Array.length_toList] at e
  omega
theorem Inv.list_inj (I:Inv X pins σ H s) (h:SqL X.K H a xs) (h':SqL X.K H a ys):xs=ys:=by
 obtain⟨its,r,⟨o,n,e,_,_,d⟩,_⟩:=I.list h
 obtain⟨its',r',⟨o',n',e',_,_,d'⟩,_⟩:=I.list h'
 rw[e] at e';cases e'
 rw[d] at d'
 injection d' with d1 _
 have:its=its':=by simpa using congrArg Array.toList d1
 subst this
 exact r.inj r'
theorem Inv.tuple_inj (I:Inv X pins σ H s) (h:SqT X.K H a xs) (h':SqT X.K H a ys):xs=ys:=by
 obtain⟨its,r,⟨o,e,_,n,d⟩,_⟩:=I.tuple h
 obtain⟨its',r',⟨o',e',_,n',d'⟩,_⟩:=I.tuple h'
 rw[e] at e';cases e'
 rw[d] at d'
 injection d' with d1 _
 have:its=its':=by simpa using congrArg Array.toList d1
 subst this
 exact r.inj r'
end
abbrev Cx.wish (X:Cx) (E:Value→Shared→Prop):Cx:={ X with xe:=E }
abbrev Cx.nox (X:Cx):Cx:=X.wish fun _ _=>False
theorem Cx.Ok.wish {X:Cx}(ok:X.Ok) (E:Value→Shared→Prop):(X.wish E).Ok:=
 ⟨ok.mod,ok.kind,ok.glob,ok.blt,ok.above,ok.inj,ok.has,ok.cab,ok.hd,ok.frames,ok.stk,ok.exf,ok.bs,ok.bsz,ok.noex,ok.exfs,ok.funs,ok.frf⟩
theorem Cx.Ok.unwish {X:Cx}{E:Value→Shared→Prop}(ok:(X.wish E).Ok):X.Ok:=
 ⟨ok.mod,ok.kind,ok.glob,ok.blt,ok.above,ok.inj,ok.has,ok.cab,ok.hd,ok.frames,ok.stk,ok.exf,ok.bs,ok.bsz,ok.noex,ok.exfs,ok.funs,ok.frf⟩
section
variable {X:Cx}{pins:List (Addr × Obj)}{σ:St}{H:Hp}{s:Shared}{E:Value→Shared→Prop}
theorem Inv.wish (I:Inv X pins σ H s) (E:Value→Shared→Prop):Inv (X.wish E) pins σ H s:=⟨I.ok.wish E,I.os,I.bare,I.base,I.loc,I.cell,I.free,I.freeC,I.pin,I.hok,I.len⟩
theorem Inv.unwish (I:Inv (X.wish E) pins σ H s):Inv X pins σ H s:=⟨I.ok.unwish,I.os,I.bare,I.base,I.loc,I.cell,I.free,I.freeC,I.pin,I.hok,I.len⟩
theorem SP.unwish {D:Ends}{f:Flow}{s':Shared}(h:SP (X.wish E) pins D f s'):SP X pins D f s':=by
 cases f with
 |next=>obtain⟨σ',H',I,q⟩:=h;exact⟨σ',H',I.unwish,q⟩
 |brk=>obtain⟨σ',H',I,q⟩:=h;exact⟨σ',H',I.unwish,q⟩
 |cont=>obtain⟨σ',H',I,q⟩:=h;exact⟨σ',H',I.unwish,q⟩
 |ret u=>obtain⟨v,σ',H',I,r,q⟩:=h;exact⟨v,σ',H',I.unwish,r,q⟩
theorem PSs.nox {st:List Stmt}{t:TS}(h:PSs X.nox st t):PSs X st t:=fun pins s σ H D I hw=>
 wpAny_mono (h pins s σ H D (I.wish _) hw) (fun _ _ q=>q.unwish) fun _ _ z=>False.elim z
end
section
variable {X:Cx}{st:Stmt}{rest:List Stmt}{t u:TS}{e:Expr}{te:TE}{pos:Pos}
def b2T:TS:=fun D σ H=>D.nx σ H
def a8Y (t u:TS):TS:=fun D σ H=>t { D with nx:=u D } σ H
theorem b2x:PSs X [] b2T:=fun _ _ σ H _ I h=>wpAny_execs_nil ⟨σ,H,I,h⟩
theorem a96 (h1:PS X st t) (h2:PSs X rest u):PSs X (st::rest) (a8Y t u):=by
 intro pins s σ H D I h
 refine wpAny_execs_cons (thn (h1 pins s σ H { D with nx:=u D } I h) fun f s1 q=>?_)
 cases f with
 |next=>
  obtain⟨σ',H',I',q⟩:=q
  exact h2 pins s1 σ' H' D I' q
 |ret v=>exact q
 |brk=>exact q
 |cont=>exact q
theorem b5B (h1:PS X st t):PSs X [st] t:=by
 intro pins s σ H D I h
 refine wpAny_execs_cons (thn (h1 pins s σ H D I h) fun f s1 q=>?_)
 cases f with
 |next=>exact wpAny_execs_nil q
 |ret v=>exact q
 |brk=>exact q
 |cont=>exact q
theorem Inv.quiet {pins:List (Addr × Obj)}{σ:St}{H:Hp}{s:Shared}(I:Inv X pins σ H s):interactive X.env=false:=by simp[interactive,I.ok.kind]
def a88 (te:TE):TS:=fun D σ H=>te σ H fun _ H1=>D.nx σ H1
theorem a68 (he:PE X e te) (hs:swapsWith e none pos.line X.env=pure false:=by rfl):PS X (.Expr e pos) (a88 te):=by
 intro pins s σ H D I h
 exact wpAny_Expr_any (thn (he pins s σ H _ I h) fun v s1 ⟨x,H1,I1,r1,q1⟩=>⟨σ,H1,I1,q1⟩) I.quiet hs
def b39 (te:TE):TS:=fun D σ H=>te σ H D.rt
theorem a90 (he:PE X e te):PS X (.Return (some e) pos) (b39 te):=by
 intro pins s σ H D I h
 exact wpAny_Return_some (thn (he pins s σ H _ I h) fun v s1 ⟨x,H1,I1,r1,q1⟩=>⟨x,σ,H1,I1,r1,q1⟩)
def b48 (c:TT) (t u:TS):TS:=fun D σ H=>c σ H fun b H1=>if b=true then t D σ H1 else u D σ H1
theorem a83 {c:Expr}{a b:List Stmt}{tc:TT}(hc:PT X c tc) (ha:PSs X a t) (hb:PSs X b u):PS X (.If c a b pos) (b48 tc t u):=by
 intro pins s σ H D I h
 refine wpAny_If (thn (hc pins s σ H _ I h) fun d s1 ⟨H1,I1,q1⟩=>?_)
 cases d with
 |true=>exact ha pins s1 σ H1 D I1 q1
 |false=>exact hb pins s1 σ H1 D I1 q1
end
abbrev TG:=V→St→Hp→(St→Hp→Prop)→Prop
abbrev TGs:=List V→St→Hp→(St→Hp→Prop)→Prop
def PG (X:Cx) (target:Expr) (t:TG):Prop:=
 ∀ (pins:List (Addr × Obj)) (s:Shared) (σ:St) (H:Hp) (v:V) (u:Value) (Q:St→Hp→Prop),Inv X pins σ H s→RelV v u→t v σ H Q →
  wpAny (model X.prog X.w) X.A (assign target X.env u) (fun _ s'=>∃ σ' H',Inv X pins σ' H' s'∧Q σ' H') X.xe s
def PGs (X:Cx) (ts:List Expr) (t:TGs):Prop:=
 ∀ (pins:List (Addr × Obj)) (s:Shared) (σ:St) (H:Hp) (vs:List V) (us:List Value) (Q:St→Hp→Prop),Inv X pins σ H s→Vals vs us→t vs σ H Q →
  wpAny (model X.prog X.w) X.A (assignInOrder ((assignEach ts X.env).map (·.2)) us) (fun _ s'=>∃ σ' H',Inv X pins σ' H' s'∧Q σ' H') X.xe s
abbrev a4E:=V→V→V→Hp→(Hp→Prop)→Prop
def a7N (X:Cx) (t:a4E):Prop:=
 ∀ (pins:List (Addr × Obj)) (s:Shared) (σ:St) (H:Hp) (o i v:V) (ov iv u:Value) (Q:Hp→Prop),Inv X pins σ H s→RelV o ov→RelV i iv→RelV v u→t o i v H Q →
  wpAny (model X.prog X.w) X.A (setItem ov iv u) (fun _ s'=>∃ H',Inv X pins σ H' s'∧Q H') X.xe s
section
variable {X:Cx}{pos:Pos}
def M3 (i:Nat):TG:=fun v σ H Q=>Q (σ.set i (some v)) H
theorem n0 {i:Nat}{x:Str}(hN:X.N.Nodup) (hi:X.N[i]? = some x) (hx:Loc X.env.scope x) (hf:X.fn x=true∨X.env.scope.names.lookup x=some .local:=by first | exact .inl rfl | exact .inr rfl | assumption):PG X (.Name x pos) (M3 i):=by
 intro pins s σ H v u Q I r h
 exact wpAny_assign_Name (a1M I hN hi hx r (fun s' I'=>⟨_,H,I',h⟩) hf)
def a3Z:TGs:=fun vs σ H Q=>vs=[]∧Q σ H
def a0U (t:TG) (u:TGs):TGs:=fun vs σ H Q=>∃ v r,vs=v::r∧t v σ H fun σ' H'=>u r σ' H' Q
theorem a42:PGs X [] a3Z:=by
 intro pins s σ H vs us Q I r h
 obtain⟨e,h⟩:=h
 subst e
 cases r
 exact assignInOrder_nil ⟨σ,H,I,h⟩
theorem a0S {e:Expr}{es:List Expr}{t:TG}{u:TGs}(h1:PG X e t) (h2:PGs X es u)
  (hs:(assignEach (e::es) X.env).map (·.2)=assign e X.env::(assignEach es X.env).map (·.2):=by rfl):PGs X (e::es) (a0U t u):=by
 intro pins s σ H vs us Q I r h
 obtain⟨v,vr,e1,h⟩:=h
 subst e1
 cases r with
 |cons r rr=>
  rw[hs]
  refine assignInOrder_cons (thn (h1 pins s σ H _ _ _ I r h) fun _ s1 ⟨σ1,H1,I1,q1⟩=>?_)
  exact h2 pins s1 σ1 H1 _ _ Q I1 rr q1
def a3m (K:PySem.W.Frag) (n:Nat) (t:TGs):TG:=fun v σ H Q=>∃ a xs,v = .ref a∧SqT K H a xs∧xs.length=n∧t xs σ H Q
theorem a5e {es:List Expr}{k:Nat}{t:TGs}{n:Nat}(hc:X.calm=true) (h:PGs X es t)
  (hn:(assignEach es X.env).length=n:=by rfl) (hst:(assignEach es X.env).findIdx? (·.1)=none:=by rfl):PG X (.Tuple es k pos) (a3m X.K n t):=by
 intro pins s σ H v u Q I r hw
 obtain⟨a,xs,e1,hq,hl,hw⟩:=hw
 subst e1
 cases r
 obtain⟨its,rv,ht,hz⟩:=I.tuple hq
 refine assign_Tuple_tuple (I.ok.hd hc) ht (by simp[hn,←hl,rv.length]) hst fun h' hx=>?_
 have I1:Inv X pins σ H { s with heap:=h' }:=I.kept (t':=s.toks) fun b o e=>hx b o (Nat.ne_of_lt (Heap.lt_size e)) e
 exact h pins _ σ H xs _ Q I1 (by simpa using rv) hw
def b4P (to ti:TE) (t:a4E):TG:=fun v σ H Q=>to σ H fun o H1=>ti σ H1 fun i H2=>t o i v H2 fun H3=>Q σ H3
theorem b5j {o i:Expr}{to ti:TE}{t:a4E}(ho:PE X o to) (hi:PE X i ti) (hs:a7N X t)
  (ha:∀ v,assign (.Subscript o i pos) X.env v=(do
   let ov ←holding [v] (eval o X.env)
   let iv ←holding [v,ov] (eval i X.env)
   standAt pos
   holding [v,ov,iv] (setItem ov iv v)
   release [v,ov,iv] []):=by intro _;rfl):PG X (.Subscript o i pos) (b4P to ti t):=by
 intro pins s σ H v u Q I r h
 rw[ha]
 refine wpAny_bind (wpAny_holding (thn (ho pins s σ H _ I h) fun ov s1 ⟨x,H1,I1,r1,q1⟩=>?_))
 refine wpAny_bind (wpAny_holding (thn (hi pins s1 σ H1 _ I1 q1) fun iv s2 ⟨y,H2,I2,r2,q2⟩=>?_))
 refine wpAny_bind (wpAny_standAt (wpAny_bind (wpAny_holding (thn (hs pins s2 σ H2 x y v ov iv u _ I2 r1 r2 r q2) fun _ s3 ⟨H3,I3,q3⟩=>?_))))
 exact wpAny_release ⟨σ,H3,I3,q3⟩
def a0s (te:TE) (g:TG):TS:=fun D σ H=>te σ H fun x H1=>g x σ H1 D.nx
theorem a5F {tg e:Expr}{te:TE}{g:TG}(he:PE X e te) (hg:PG X tg g) (hs:swapsWithSole [tg] e pos.line X.env=pure false:=by rfl) (hw:swappedStores [tg] e X.env=pure none:=by rfl)
  (h1:(assignEach [tg] X.env).map (·.2)=[assign tg X.env]:=by rfl):PS X (.Assign [tg] e pos) (a0s te g):=by
 intro pins s σ H D I h
 refine wpAny_Assign_stores (thn (he pins s σ H _ I h) fun v s1 ⟨x,H1,I1,r1,q1⟩=>?_) hs hw
 rw[h1]
 exact thn (hg pins s1 σ H1 x v _ I1 r1 q1) fun _ s2 q=>q
theorem a70 {i:Nat}{x:Str}{e:Expr}{te:TE}{pos':Pos}(hN:X.N.Nodup) (hi:X.N[i]? = some x) (hx:Loc X.env.scope x) (he:PE X e te) (hs:swapsWith e (some (.Name x pos')) pos.line X.env=pure false:=by rfl) (hf:X.fn x=true∨X.env.scope.names.lookup x=some .local:=by first | exact .inl rfl | exact .inr rfl | assumption) :
  PS X (.Assign [.Name x pos'] e pos) (a0s te (M3 i)):=by
 intro pins s σ H D I h
 refine wpAny_Assign_Name (thn (he pins s σ H _ I h) fun v s1 ⟨y,H1,I1,r1,q1⟩=>?_) hs
 exact a1M I1 hN hi hx r1 (fun s2 I2=>⟨_,H1,I2,q1⟩) hf
def b4Q (i j:Nat) (ta:TA):TS:=fun D σ H=>ta σ H fun vs H1=>∃ v w,vs=[v,w]∧D.nx ((σ.set i (some v)).set j (some w)) H1
theorem b5E {i j:Nat}{x y:Str}{a b:Expr}{ta:TA}{px py pt:Pos}{kt k2 pt2} (hc:X.calm=true) (hN:X.N.Nodup) (hi:X.N[i]? = some x) (hj:X.N[j]? = some y) (hij:i≠j)
  (hx:X.env.scope.names.lookup x=some .local) (hy:X.env.scope.names.lookup y=some .local) (ha:PA X [a,b] ta)
  (hw:swappedStores [.Tuple [.Name x px,.Name y py] kt pt] (.Tuple [a,b] k2 pt2) X.env=pure (some [x,y]))
  (hs:swapsWithSole [.Tuple [.Name x px,.Name y py] kt pt] (.Tuple [a,b] k2 pt2) pos.line X.env=pure false:=by rfl) :
  PS X (.Assign [.Tuple [.Name x px,.Name y py] kt pt] (.Tuple [a,b] k2 pt2) pos) (b4Q i j ta):=by
 intro pins s σ H D I h
 rw[exec_Assign_arm]
 refine wpAny_bind (wpAny_standAt ?_)
 rw[hs]
 refine wpAny_bind (wpAny_pure ?_)
 rw[if_neg (by decide)]
 refine wpAny_bind (Tuple_ (thn (ha _ pins s σ H _ I h) fun us s1 ⟨vs,H1,I1,r1,q1⟩=>?_))
 obtain⟨v,w,e1,q1⟩:=q1
 subst e1
 obtain⟨u1,u2,rfl,rv,rw'⟩:∃ u1 u2,us=[u1,u2]∧RelV v u1∧RelV w u2:=by
  cases r1 with
  |cons p q=>
   cases q with
   |cons p' q'=>
    cases q'
    exact⟨_,_,rfl,p,p'⟩
 refine wpAny_newObj_type ?_ (by show 2≤sizeLine;decide)
 have I2:Inv X pins σ H1 { s1 with heap:=s1.heap.push { cls:=.type "tuple",data:=.seq [u1,u2].toArray } }:=I1.kept (t':=s1.toks) fun b o e=>Heap.get?_push_of_some _ e
 rw[hw]
 refine wpAny_bind (wpAny_pure ?_)
 show wpAny (model X.prog X.w) X.A (do rule "assign.swapped-stores";let items ←unpackItems (.ref s1.heap.objs.size) 2 none;assignInOrder [fun v=>bindName X.env y v,fun v=>bindName X.env x v] items.reverse;pure Flow.next) _ _ _
 refine wpAny_bind (wpAny_rule (wpAny_bind (unpackItems_tuple (items:=#[u1,u2]) (I.ok.hd hc) (IsTup.new s1.heap _) fun h' hx'=>?_)))
 have I3:=I2.kept (h':=h') (t':=s1.toks) fun b o e=>hx' b o (Nat.ne_of_lt (Heap.lt_size e)) e
 show wpAny _ _ (assignInOrder [fun v=>bindName X.env y v,fun v=>bindName X.env x v] [u2,u1] >>= fun _=>pure Flow.next) _ _ _
 refine wpAny_bind (assignInOrder_cons (wpAny_bindName (a1M I3 hN hj (.inl hy) rw' (fun s2 I4=>?_) (.inr hy))))
 refine assignInOrder_cons (wpAny_bindName (a1M I4 hN hi (.inl hx) rv (fun s3 I5=>assignInOrder_nil (wpAny_pure ?_)) (.inr hx)))
 rw[List.set_comm _ _ (Ne.symm hij)] at I5
 exact⟨_,H1,I5,q1⟩
end
section
variable {X:Cx}{pos:Pos}
def b5r (c:TT) (tb:TS):TS:=fun D σ H=>∃ W:Nat→St→Hp→Prop,(∃ m,W m σ H)∧∀ m σ H,W m σ H →
 c σ H fun b H1=>if b=true then ∃ N:St→Hp→Prop,(∀ σ' H',N σ' H'→∃ m',m'<m∧W m' σ' H')∧tb { D with nx:=N,ct:=N,bk:=D.nx } σ H1 else D.nx σ H1
theorem b29 {c:Expr}{body:List Stmt}{tc:TT}{tb:TS}(hp:PassesOwn (model X.prog X.w) X.A X.env X.xe) (hc:PT X c tc) (hb:PSs X body tb):PS X (.While c body [] pos) (b5r tc tb):=by
 intro pins s σ H D I h
 obtain⟨W,⟨m0,w0⟩,turn⟩:=h
 refine wpAny_While (codeAny_whileLoop (fun n s'=>∃ σ' H',Inv X pins σ' H' s'∧W n σ' H') ?_ m0 ⟨σ,H,I,w0⟩)
 rintro n s1 ⟨σ1,H1,I1,w1⟩
 refine wpAny_passesOwn hp (thn (hc pins s1 σ1 H1 _ I1 (turn n σ1 H1 w1)) fun b s2 ⟨H2,I2,q2⟩=>?_)
 cases b with
 |true=>
  obtain⟨N,hN,q2⟩:=q2
  rw[if_pos rfl]
  refine wpAny_passesOwn hp (thn (hb pins s2 σ1 H2 _ I2 q2) fun f s3 q3=>?_)
  cases f with
  |next=>
   obtain⟨σ3,H3,I3,n3⟩:=q3
   obtain⟨m',hm,w3⟩:=hN σ3 H3 n3
   exact⟨m',hm,σ3,H3,I3,w3⟩
  |cont=>
   obtain⟨σ3,H3,I3,n3⟩:=q3
   obtain⟨m',hm,w3⟩:=hN σ3 H3 n3
   exact⟨m',hm,σ3,H3,I3,w3⟩
  |brk=>exact q3
  |ret v=>exact q3
 |false=>
  rw[if_neg Bool.false_ne_true]
  exact wpAny_execs_nil ⟨σ1,H2,I2,q2⟩
end
structure It where
 go:Nat→Hp→Prop
 yld:Nat→Hp→V→Hp→Prop
 stop:Nat→Hp→Prop
def G5 (X:Cx) (pins:List (Addr × Obj)) (H:Hp) (b:Addr):Prop:=
 H b=none∧b≠X.env.locals∧b ∉ X.fs∧(b∈X.ex∨X.s₀.heap.objs.size≤b)∧(∀ x c,X.env.cells.lookup x=some c→c≠b)∧∀ p∈X.pn++pins,p.1≠b
theorem Inv.fpOk {X:Cx}{pins:List (Addr × Obj)}{σ:St}{H H':Hp}{s:Shared}{b:Addr}(I:Inv X pins σ H s) (hb:s.heap.objs.size≤b) (hn:H' b=none):G5 X pins H' b:=by
 refine⟨hn,Nat.ne_of_gt (Nat.lt_of_lt_of_le I.lt hb),I.nofs hb,.inr (Nat.le_trans I.sz hb),fun x c e z=>?_,fun p hp z=>?_⟩
 ·obtain⟨v,q⟩:=I.cell x c e
  exact absurd (Nat.lt_of_lt_of_le q.lt (by rw[z];exact hb)) (Nat.lt_irrefl _)
 ·exact absurd (Nat.lt_of_lt_of_le (Heap.lt_size (I.pin p hp).1) (by rw[z];exact hb)) (Nat.lt_irrefl _)
structure Turn (P:Program) (w:World) (K:PySem.W.Frag) (tg:Expr) (J:It) (fp:List Addr) (it:Addr) (tn:Nat→Heap→Prop):Prop where
 mem:it∈fp
 obj:∀ i h,tn i h→∀ b∈fp,∃ o,h.get? b=some o∧∀ v,o.data ≠ .cell v
 keep:∀ i h h',tn i h→(∀ b∈fp,∀ o,h.get? b=some o→h'.get? b=some o)→tn i h'
 item:∀ (X:Cx),X.prog=P→X.w=w→X.K=K→X.calm=true→∀ (i:Nat) (pins:List (Addr × Obj)) (s:Shared) (σ:St) (H:Hp) (E:Value→Shared→Prop),Inv X pins σ H s→(∀ b∈fp,G5 X pins H b)→tn i s.heap→J.go i H →
  wpAny (model P w) X.A (pyNext (.ref it)) (fun r s1=>∃ u,r=some u ∧
   wpAny (model P w) X.A (letOwnedTupleGo tg (.ref it) u) (fun _ s2=>∃ x H',Inv X pins σ H' s2∧RelV x u∧J.yld i H x H'∧tn (i+1) s2.heap∧∀ b∈fp,H' b=none) E s1) E s
 done:∀ (X:Cx),X.prog=P→X.w=w→X.K=K→X.calm=true→∀ (i:Nat) (pins:List (Addr × Obj)) (s:Shared) (σ:St) (H:Hp) (E:Value→Shared→Prop),Inv X pins σ H s→(∀ b∈fp,G5 X pins H b)→tn i s.heap→J.stop i H →
  wpAny (model P w) X.A (pyNext (.ref it)) (fun r s1=>r=none∧Inv X pins σ H s1) E s
 self:∀ (A:Around) (i:Nat) (s:Shared) (Q:Value→Shared→Prop) (E:Value→Shared→Prop),tn i s.heap→Q (.ref it) s→wpAny (model P w) A (pyIter (.ref it)) Q E s
abbrev TI:=St→Hp→(It→Hp→Prop)→Prop
def PIE (X:Cx) (pins:List (Addr × Obj)) (σ:St) (tg:Expr) (R:It→Hp→Prop) (itv:Value) (s2:Shared):Prop:=
 ∃ (it:Addr) (fp:List Addr) (tn:Nat→Heap→Prop) (J:It) (H':Hp),itv = .ref it∧Inv X pins σ H' s2∧Turn X.prog X.w X.K tg J fp it tn∧tn 0 s2.heap∧(∀ b∈fp,G5 X pins H' b)∧R J H'
def PI (X:Cx) (tg iter:Expr) (wi:TI):Prop:=
 ∀ (pins:List (Addr × Obj)) (s:Shared) (σ:St) (H:Hp) (R:It→Hp→Prop),Inv X pins σ H s→wi σ H R →
  wpAny (model X.prog X.w) X.A (eval iter X.env) (fun v s1=>wpAny (model X.prog X.w) X.A (pyIter v) (PIE X pins σ tg R) X.xe s1) X.xe s
theorem a4X {M:Model}{A:Around}{E:Value→Shared→Prop}{s:Shared}{tg:Expr}{it:Addr}{u:Value}{o:Obj}{n:String}{vs:Array Value}{Q:Unit→Shared→Prop}(ho:s.heap.get? it=some o) (hc:o.cls = .type n) (hd:o.data = .fields vs)
    (hn:["enumerate", "zip", "dict_itemiterator", "dict_reverseitemiterator", "odict_iterator", "itertools.zip_longest", "itertools.pairwise"].contains n=false) (hQ:Q () s):wpAny M A (letOwnedTupleGo tg (.ref it) u) Q E s:=by
  unfold letOwnedTupleGo
  cases tg <;> first
    | exact wpAny_pure hQ
    | (cases u <;> first
        | exact wpAny_pure hQ
        | (refine wpAny_bind (wpAny_load ho ?_)
           rw[hc,hd]
           show wpAny M A (if (["enumerate", "zip", "dict_itemiterator", "dict_reverseitemiterator", "odict_iterator", "itertools.zip_longest", "itertools.pairwise"].contains n&&vs[0]? == some (rawInt _))=true then _ else _) Q E s
           rw[if_neg (by intro h;rw[hn,Bool.false_and] at h;cases h)]
           exact wpAny_pure hQ))
def Itl (K:PySem.W.Frag) (a:Addr):It:=
 ⟨fun i H=>∃ xs x,SqL K H a xs∧xs[i]? = some x,fun i H x H'=>H'=H∧∀ xs,SqL K H a xs→xs[i]? = some x,fun i H=>∃ xs,SqL K H a xs∧xs.length≤i⟩
def Itt (K:PySem.W.Frag) (a:Addr):It:=
 ⟨fun i H=>∃ xs x,SqT K H a xs∧xs[i]? = some x,fun i H x H'=>H'=H∧∀ xs,SqT K H a xs→xs[i]? = some x,fun i H=>∃ xs,SqT K H a xs∧xs.length≤i⟩
def Itr (lo:Int) (n:Nat):It:=⟨fun i _=>i<n,fun i H x H'=>H'=H∧x = .int (lo+i),fun i _=>n≤i⟩
theorem b5I {P:Program}{w:World}{K:PySem.W.Frag}{tg:Expr}(a it:Addr):Turn P w K tg (Itl K a) [it] it (fun i h=>h.IsListIter it a i) where
 mem:=by simp
 obj:=fun i h st b hb=>by
  have e:b=it:=by simpa using hb
  subst e
  obtain⟨o,e,c,d⟩:=st
  exact⟨o,e,fun v z=>by rw[d] at z;cases z⟩
 keep:=fun i h h' st k=>st.at fun o e=>k it (by simp) o e
 item:=by
  intro X hP hw hK hc i pins s σ H E I hf st hg
  subst hP hw hK
  obtain⟨xs,x,hq,hx⟩:=hg
  obtain⟨its,rv,p,hz⟩:=I.list hq
  obtain⟨u,hu,ru⟩:=rv.get hx
  obtain⟨f0,f1,f2,f3,f4,f5⟩:=hf it (by simp)
  refine wpAny_pyNext_list_item st p.isList (x:=u) (by simpa using hu) fun h' st' sb=>?_
  have I1:Inv X pins σ H { s with heap:=h' }:=I.turned (t':=s.toks) (fun b o hb e=>(sb.2 b hb).trans e) f0 f1 f3 f4 f5
  obtain⟨o,e,c,d⟩:=id st'
  exact⟨u,rfl,a4X (s:={ s with heap:=h' }) e c d (by decide) ⟨x,H,I1,ru,⟨rfl,fun ys hy=>by rw[I.list_inj hy hq];exact hx⟩,st',fun b hb=>(hf b hb).1⟩⟩
 done:=by
  intro X hP hw hK hc i pins s σ H E I hf st hg
  subst hP hw hK
  obtain⟨xs,hq,hx⟩:=hg
  obtain⟨its,rv,p,hz⟩:=I.list hq
  obtain⟨f0,f1,f2,f3,f4,f5⟩:=hf it (by simp)
  have hl:=rv.length
  exact wpAny_pyNext_list_end (I.ok.hd hc) st p.isList (by simp;omega) fun h' eb=>⟨rfl,I.turned (t':=s.toks) (fun b o hb e=>eb b o hb e) f0 f1 f3 f4 f5⟩
 self:=fun _ _ _ _ _ st h=>wpAny_pyIter_listiter st h
theorem b3L {P:Program}{w:World}{K:PySem.W.Frag}{tg:Expr}(a it:Addr):Turn P w K tg (Itt K a) [it] it (fun i h=>h.IsTupleIter it a i) where
 mem:=by simp
 obj:=fun i h st b hb=>by
  have e:b=it:=by simpa using hb
  subst e
  obtain⟨o,e,c,d⟩:=st
  exact⟨o,e,fun v z=>by rw[d] at z;cases z⟩
 keep:=fun i h h' st k=>st.at fun o e=>k it (by simp) o e
 item:=by
  intro X hP hw hK hc i pins s σ H E I hf st hg
  subst hP hw hK
  obtain⟨xs,x,hq,hx⟩:=hg
  obtain⟨its,rv,p,hz⟩:=I.tuple hq
  obtain⟨u,hu,ru⟩:=rv.get hx
  obtain⟨f0,f1,f2,f3,f4,f5⟩:=hf it (by simp)
  refine wpAny_pyNext_tuple_item st (show s.heap.IsTuple a its.toArray from p) (x:=u) (by simpa using hu) fun h' st' sb=>?_
  have I1:Inv X pins σ H { s with heap:=h' }:=I.turned (t':=s.toks) (fun b o hb e=>(sb.2 b hb).trans e) f0 f1 f3 f4 f5
  obtain⟨o,e,c,d⟩:=id st'
  exact⟨u,rfl,a4X (s:={ s with heap:=h' }) e c d (by decide) ⟨x,H,I1,ru,⟨rfl,fun ys hy=>by rw[I.tuple_inj hy hq];exact hx⟩,st',fun b hb=>(hf b hb).1⟩⟩
 done:=by
  intro X hP hw hK hc i pins s σ H E I hf st hg
  subst hP hw hK
  obtain⟨xs,hq,hx⟩:=hg
  obtain⟨its,rv,p,hz⟩:=I.tuple hq
  obtain⟨f0,f1,f2,f3,f4,f5⟩:=hf it (by simp)
  have hl:=rv.length
  exact wpAny_pyNext_tuple_end (I.ok.hd hc) st (show s.heap.IsTuple a its.toArray from p) (by simp;omega) fun h' eb=>⟨rfl,I.turned (t':=s.toks) (fun b o hb e=>eb b o hb e) f0 f1 f3 f4 f5⟩
 self:=fun _ _ _ _ _ st h=>wpAny_pyIter_tupleiter st h
theorem b4B {P:Program}{w:World}{K:PySem.W.Frag}{tg:Expr}(it:Addr) (lo:Int) (n:Nat):Turn P w K tg (Itr lo n) [it] it (fun i h=>IsRangeIter h it (lo+(i:Nat)*1) ((n:Int) - (i:Nat)) 1) where
 mem:=by simp
 obj:=fun i h st b hb=>by
  have e:b=it:=by simpa using hb
  subst e
  exact⟨_,st,fun v z=>by
   have z':Data.fields _=Data.cell v:=z
   cases z'⟩
 keep:=fun i h h' st k=>k it (by simp) _ st
 item:=by
  intro X hP hw hK hc i pins s σ H E I hf st hg
  subst hP hw hK
  obtain⟨f0,f1,f2,f3,f4,f5⟩:=hf it (by simp)
  have W:=Walks.range (prog:=X.prog) (w:=X.w) (I.ok.hd hc) it lo 1 n
  refine W.item i s _ _ hg st fun v h' tk hv st' kk=>?_
  obtain⟨t,rfl⟩:=hv
  have I1:Inv X pins σ H { s with heap:=h',toks:=tk }:=I.turned (fun b o hb e=>kk b o (by simpa using hb) e) f0 f1 f3 f4 f5
  refine⟨_,rfl,a4X (s:={ s with heap:=h',toks:=tk }) (n := "range_iterator") st' rfl rfl (by decide) ⟨.int (lo+i),H,I1,⟨t,?_⟩,⟨rfl,rfl⟩,st',fun b hb=>(hf b hb).1⟩⟩
  rw[Int.mul_one]
 done:=by
  intro X hP hw hK hc i pins s σ H E I hf st hg
  subst hP hw hK
  obtain⟨f0,f1,f2,f3,f4,f5⟩:=hf it (by simp)
  exact wpAny_pyNext_range_end (I.ok.hd hc) st (by have:n≤i:=hg;omega) fun h' eb=>⟨rfl,I.turned (t':=s.toks) (fun b o hb e=>eb b o hb e) f0 f1 f3 f4 f5⟩
 self:=fun _ _ _ _ _ st h=>wpAny_pyIter_rangeiter st h
section
variable {X:Cx}{tg:Expr}
theorem b3c {pins:List (Addr × Obj)}{σ:St}{H:Hp}{s:Shared}{R:It→Hp→Prop}{E:Value→Shared→Prop}{lo hi:Int}{t u v:Tok}{tk:Nat}(I:Inv X pins σ H s) (h1:-(2 ^ 62)≤lo) (h2:lo<2 ^ 62) (h3:-(2 ^ 62)≤hi) (h4:hi<2 ^ 62)
  (q:R (Itr lo (hi - lo).toNat) H):wpAny (model X.prog X.w) X.A (pyIter (.ref s.heap.objs.size)) (PIE X pins σ tg R) E { s with heap:=s.heap.push { cls:=.type "range",data:=.fields #[.int lo t,.int hi u,.int 1 v] },toks:=tk }:=by
 refine wpAny_pyIter_range (IsRange.new ..) (small_one h1 h2 h3 h4) ?_
 have I1:Inv X pins σ H { s with heap:=s.heap.push { cls:=.type "range",data:=.fields #[.int lo t,.int hi u,.int 1 v] },toks:=tk }:=I.kept fun b o e=>Heap.get?_push_of_some _ e
 refine⟨(s.heap.push { cls:=.type "range",data:=.fields #[.int lo t,.int hi u,.int 1 v] }).objs.size,[(s.heap.push { cls:=.type "range",data:=.fields #[.int lo t,.int hi u,.int 1 v] }).objs.size],_,_,H,rfl,
  I1.kept (t':=tk) fun b o e=>Heap.get?_push_of_some _ e,b4B _ lo (hi - lo).toNat,?_,fun b hb=>?_,q⟩
 ·have e1:lo+((0:Nat):Int)*1=lo:=by simp
  have e2:(((hi - lo).toNat:Nat):Int) - ((0:Nat):Int)=Builtin.Range.rangeSize lo hi 1:=by rw[rangeSize_one];split <;> omega
  show IsRangeIter _ _ (lo+((0:Nat):Int)*1) ((((hi - lo).toNat:Nat):Int) - ((0:Nat):Int)) 1
  rw[e1,e2]
  exact Heap.get?_push_size _ rfl
 ·have e:b=(s.heap.push { cls:=.type "range",data:=.fields #[.int lo t,.int hi u,.int 1 v] }).objs.size:=by simpa using hb
  subst e
  exact I1.fpOk (Nat.le_refl _) (I1.hok.fresh (Nat.le_refl _))
def b5M (ta:TA):TI:=fun σ H R=>ta σ H fun vs H1=>∃ j:Int,vs=[.int j] ∧ -(2 ^ 62)≤j∧j<2 ^ 62∧R (Itr 0 j.toNat) H1
theorem a7r {a:Expr}{ta:TA}{p pos:Pos}(hg:Gl X "range") (hm:X.mg "range" = none) (ha:PA X [a] ta) (hs:starEach [a] X.env=[(false,eval a X.env)]:=by rfl):PI X tg (.Call (.Name "range" p) [a] [] pos) (b5M ta):=by
 intro pins s σ H R I h
 refine Call_ (X9 I hg hm boot_range (PyProof.Rows.callWith_type1 (thn (ha pos pins s σ H _ I h) fun us s1 ⟨vs,H1,I1,r1,q1⟩=>?_) hs rfl))
 obtain⟨j,e,q1,q2,q⟩:=q1
 subst e
 cases r1 with
 |cons r rr=>
  cases rr
  obtain⟨t,rfl⟩:=r
  exact call_range_1 (b3c I1 (by omega) (by omega) q1 q2 (by simpa using q))
def b1u (wi:TI) (g:TG) (tb:TS):TS:=fun D σ H=>wi σ H fun J H1=>∃ W:Nat→Nat→St→Hp→Prop,(∃ m,W 0 m σ H1)∧∀ i m σ H,W i m σ H →
 (J.stop i H∧D.nx σ H)∨(J.go i H∧∃ N:St→Hp→Prop,(∀ σ' H',N σ' H'→∃ m',m'<m∧W (i+1) m' σ' H')∧∀ x H',J.yld i H x H'→g x σ H' fun σ2 H2=>tb { D with nx:=N,ct:=N,bk:=D.nx } σ2 H2)
def a0r (fp:List Addr) (h:Heap):List (Addr × Obj):=fp.filterMap fun b=>(h.get? b).map fun o=>(b,o)
theorem a0R {fp:List Addr}{h:Heap}{b:Addr}{o:Obj}(hb:b∈fp) (e:h.get? b=some o):(b,o)∈a0r fp h:=List.mem_filterMap.mpr ⟨b,hb,by rw[e];rfl⟩
theorem b5d {fp:List Addr}{h:Heap}{p:Addr × Obj}(hp:p∈a0r fp h):p.1∈fp∧h.get? p.1=some p.2:=by
 obtain⟨b,hb,e⟩:=List.mem_filterMap.mp hp
 cases q:h.get? b with
 |none=>rw[q] at e;cases e
 |some o=>
  rw[q] at e
  have e':(b,o)=p:=Option.some.inj e
  subst e'
  exact⟨hb,q⟩
theorem Inv.pinned {pins:List (Addr × Obj)}{σ:St}{H:Hp}{s:Shared}{fp:List Addr}(I:Inv X pins σ H s) (hf:∀ b∈fp,G5 X pins H b) (ho:∀ b∈fp,∃ o,s.heap.get? b=some o∧∀ v,o.data ≠ .cell v):Inv X (pins++a0r fp s.heap) σ H s:=
 I.pins_of fun p hp=>(List.mem_append.mp hp).elim (fun z=>I.pin p (List.mem_append_right _ z)) fun z=>by
  obtain⟨hb,e⟩:=b5d z
  obtain⟨f0,f1,f2,_⟩:=hf p.1 hb
  obtain⟨o,e',d⟩:=ho p.1 hb
  rw[e] at e';cases e'
  exact⟨e,f0,f1,f2,d⟩
theorem Inv.unpinned {pins pl:List (Addr × Obj)}{σ:St}{H:Hp}{s:Shared}(I:Inv X (pins++pl) σ H s):Inv X pins σ H s:=I.pins_of fun p hp=>I.pin p (List.mem_append_right _ (List.mem_append_left _ hp))
theorem a1d {iter:Expr}{body:List Stmt}{wi:TI}{g:TG}{tb:TS}{pos:Pos}(hp:PassesOwn (model X.prog X.w) X.A X.env X.xe) (hc:X.calm=true) (hi:PI X tg iter wi) (hg:PG X tg g) (hb:PSs X body tb)
  (hs:∀ x,foldedSetIterable iter X.env x=pure x:=by intro _;rfl):PS X (.For tg iter body [] pos) (b1u wi g tb):=by
 intro pins s σ H D I h
 refine wpAny_For (thn (hi pins s σ H _ I h) fun v s1 h1=>thn h1 fun itv s2 h2=>?_) hs
 obtain⟨it,fp,tn,J,H2,e,I2,T,st2,f2,W,⟨m0,w0⟩,turn⟩:=h2
 subst e
 have stat:∀ {H':Hp},(∀ b∈fp,H' b=none)→∀ b∈fp,G5 X pins H' b:=fun hn b hb=>⟨hn b hb,(f2 b hb).2⟩
 refine codeAny_forLoop_any (fun n s'=>∃ i σ' H',Inv X pins σ' H' s'∧tn i s'.heap∧(∀ b∈fp,H' b=none)∧W i n σ' H') ?_ m0 ⟨0,σ,H2,I2,st2,fun b hb=>(f2 b hb).1,w0⟩
 rintro n s3 ⟨i,σ3,H3,I3,st3,fr3,w3⟩
 rcases turn i n σ3 H3 w3 with ⟨stop,qn⟩ | ⟨go,N,hN,step⟩
 ·refine wpAny_passesOwn hp (thn (T.done X rfl rfl rfl hc i pins s3 σ3 H3 X.xe I3 (stat fr3) st3 stop) fun r s4 ⟨hr,I4⟩=>?_)
  subst hr
  exact wpAny_execs_nil ⟨σ3,H3,I4,qn⟩
 ·refine wpAny_passesOwn hp (thn (T.item X rfl rfl rfl hc i pins s3 σ3 H3 X.xe I3 (stat fr3) st3 go) fun r s4 ⟨u,hr,h4⟩=>?_)
  subst hr
  refine wpAny_passesOwn hp (thn h4 fun _ s5 ⟨x,H5,I5,r5,y5,st5,fr5⟩=>?_)
  have I5':=I5.pinned (stat fr5) (T.obj _ _ st5)
  refine wpAny_passesOwn hp (thn (hg _ s5 σ3 H5 x u _ I5' r5 (step x H5 y5)) fun _ s6 ⟨σ6,H6,I6,q6⟩=>?_)
  refine wpAny_passesOwn hp (thn (hb _ s6 σ6 H6 _ I6 q6) fun f s7 q7=>?_)
  have again:∀ {σ7:St}{H7:Hp},Inv X (pins++a0r fp s5.heap) σ7 H7 s7→N σ7 H7→∃ m,m<n∧∃ i σ' H',Inv X pins σ' H' s7∧tn i s7.heap∧(∀ b∈fp,H' b=none)∧W i m σ' H':=fun {σ7 H7} I7 n7=>by
   obtain⟨m',hm,w7⟩:=hN σ7 H7 n7
   refine⟨m',hm,i+1,σ7,H7,I7.unpinned,T.keep _ _ _ st5 fun b hb o e=>(I7.pin (b,o) (List.mem_append_right _ (List.mem_append_right _ (a0R hb e)))).1,fun b hb=>?_,w7⟩
   obtain⟨o,e,d⟩:=T.obj _ _ st5 b hb
   exact(I7.pin (b,o) (List.mem_append_right _ (List.mem_append_right _ (a0R hb e)))).2.1
  cases f with
  |next=>obtain⟨σ7,H7,I7,n7⟩:=q7;exact again I7 n7
  |cont=>obtain⟨σ7,H7,I7,n7⟩:=q7;exact again I7 n7
  |brk=>obtain⟨σ7,H7,I7,q7⟩:=q7;exact⟨σ7,H7,I7.unpinned,q7⟩
  |ret v=>obtain⟨x7,σ7,H7,I7,r7,q7⟩:=q7;exact⟨x7,σ7,H7,I7.unpinned,r7,q7⟩
end
theorem a8U {K:PySem.W.Frag}{a:Addr}{xs:List V}{g:TG}{tb:TS}{D:Ends}{σ:St}{H:Hp}(Pv:Nat→St→Hp→Prop) (h0:Pv 0 σ H) (hl:∀ i σ H,i≤xs.length→Pv i σ H→SqL K H a xs)
  (hs:∀ i x σ H,xs[i]? = some x→Pv i σ H→g x σ H fun σ2 H2=>tb { D with nx:=Pv (i+1),ct:=Pv (i+1),bk:=D.nx } σ2 H2) (hd:∀ σ H,Pv xs.length σ H→D.nx σ H) :
  ∃ W:Nat→Nat→St→Hp→Prop,(∃ m,W 0 m σ H)∧∀ i m σ H,W i m σ H →
   ((Itl K a).stop i H∧D.nx σ H)∨((Itl K a).go i H∧∃ N:St→Hp→Prop,(∀ σ' H',N σ' H'→∃ m',m'<m∧W (i+1) m' σ' H')∧∀ x H',(Itl K a).yld i H x H'→g x σ H' fun σ2 H2=>tb { D with nx:=N,ct:=N,bk:=D.nx } σ2 H2):=by
 refine⟨fun i m σ H=>m=xs.length - i∧i≤xs.length∧Pv i σ H,⟨xs.length,by simp,Nat.zero_le _,h0⟩,?_⟩
 rintro i m σ H ⟨rfl,hi,p⟩
 have q:=hl i σ H hi p
 by_cases hlt:i<xs.length
 ·refine .inr ⟨⟨xs,xs[i],q,by simp[hlt]⟩,Pv (i+1),fun σ' H' p'=>⟨xs.length - (i+1),by omega,rfl,hlt,p'⟩,fun x H' y=>?_⟩
  obtain⟨e,y⟩:=y
  subst e
  exact hs i x σ _ (y xs q) p
 ·have e:i=xs.length:=by omega
  subst e
  exact .inl ⟨⟨xs,q,Nat.le_refl _⟩,hd σ H p⟩
theorem a0b {K:PySem.W.Frag}{a:Addr}{xs:List V}{g:TG}{tb:TS}{D:Ends}{σ:St}{H:Hp}(Pv:Nat→St→Hp→Prop) (h0:Pv 0 σ H) (hl:∀ i σ H,i≤xs.length→Pv i σ H→SqT K H a xs)
  (hs:∀ i x σ H,xs[i]? = some x→Pv i σ H→g x σ H fun σ2 H2=>tb { D with nx:=Pv (i+1),ct:=Pv (i+1),bk:=D.nx } σ2 H2) (hd:∀ σ H,Pv xs.length σ H→D.nx σ H) :
  ∃ W:Nat→Nat→St→Hp→Prop,(∃ m,W 0 m σ H)∧∀ i m σ H,W i m σ H →
   ((Itt K a).stop i H∧D.nx σ H)∨((Itt K a).go i H∧∃ N:St→Hp→Prop,(∀ σ' H',N σ' H'→∃ m',m'<m∧W (i+1) m' σ' H')∧∀ x H',(Itt K a).yld i H x H'→g x σ H' fun σ2 H2=>tb { D with nx:=N,ct:=N,bk:=D.nx } σ2 H2):=by
 refine⟨fun i m σ H=>m=xs.length - i∧i≤xs.length∧Pv i σ H,⟨xs.length,by simp,Nat.zero_le _,h0⟩,?_⟩
 rintro i m σ H ⟨rfl,hi,p⟩
 have q:=hl i σ H hi p
 by_cases hlt:i<xs.length
 ·refine .inr ⟨⟨xs,xs[i],q,by simp[hlt]⟩,Pv (i+1),fun σ' H' p'=>⟨xs.length - (i+1),by omega,rfl,hlt,p'⟩,fun x H' y=>?_⟩
  obtain⟨e,y⟩:=y
  subst e
  exact hs i x σ _ (y xs q) p
 ·have e:i=xs.length:=by omega
  subst e
  exact .inl ⟨⟨xs,q,Nat.le_refl _⟩,hd σ H p⟩
theorem b4W {lo:Int}{n:Nat}{g:TG}{tb:TS}{D:Ends}{σ:St}{H:Hp}(Pv:Nat→St→Hp→Prop) (h0:Pv 0 σ H)
  (hs:∀ i σ H,i<n→Pv i σ H→g (.int (lo+i)) σ H fun σ2 H2=>tb { D with nx:=Pv (i+1),ct:=Pv (i+1),bk:=D.nx } σ2 H2) (hd:∀ σ H,Pv n σ H→D.nx σ H) :
  ∃ W:Nat→Nat→St→Hp→Prop,(∃ m,W 0 m σ H)∧∀ i m σ H,W i m σ H →
   ((Itr lo n).stop i H∧D.nx σ H)∨((Itr lo n).go i H∧∃ N:St→Hp→Prop,(∀ σ' H',N σ' H'→∃ m',m'<m∧W (i+1) m' σ' H')∧∀ x H',(Itr lo n).yld i H x H'→g x σ H' fun σ2 H2=>tb { D with nx:=N,ct:=N,bk:=D.nx } σ2 H2):=by
 refine⟨fun i m σ H=>m=n - i∧i≤n∧Pv i σ H,⟨n,by simp,Nat.zero_le _,h0⟩,?_⟩
 rintro i m σ H ⟨rfl,hi,p⟩
 by_cases hlt:i<n
 ·refine .inr ⟨hlt,Pv (i+1),fun σ' H' p'=>⟨n - (i+1),by omega,rfl,hlt,p'⟩,fun x H' y=>?_⟩
  obtain⟨e,y⟩:=y
  subst e y
  exact hs i σ _ hlt p
 ·have e:i=n:=by omega
  subst e
  exact .inl ⟨Nat.le_refl _,hd σ H p⟩
abbrev R2:=V→V→Hp→VK→Prop
def OpR (X:Cx) (f:Value→Value→Sem Value) (r:R2):Prop:=
 ∀ (pins:List (Addr × Obj)) (s:Shared) (σ:St) (H:Hp) (x y:V) (v u:Value) (Q:VK),Inv X pins σ H s→RelV x v→RelV y u→r x y H Q →
  wpAny (model X.prog X.w) X.A (f v u) (EP X pins σ Q) X.xe s
def UnR (X:Cx) (f:Value→Sem Value) (r:V→Hp→VK→Prop):Prop:=
 ∀ (pins:List (Addr × Obj)) (s:Shared) (σ:St) (H:Hp) (x:V) (v:Value) (Q:VK),Inv X pins σ H s→RelV x v→r x H Q →
  wpAny (model X.prog X.w) X.A (f v) (EP X pins σ Q) X.xe s
def CallR (X:Cx) (f:Value) (r:List V→Hp→VK→Prop):Prop:=
 ∀ (pins:List (Addr × Obj)) (s:Shared) (σ:St) (H:Hp) (xs:List V) (us:List Value) (Q:VK),Inv X pins σ H s→Vals xs us→r xs H Q →
  wpAny (model X.prog X.w) X.A (call f us) (EP X pins σ Q) X.xe s
def a9f (X:Cx) (r:V→Hp→(Bool→Hp→Prop)→Prop):Prop:=
 ∀ (pins:List (Addr × Obj)) (s:Shared) (σ:St) (H:Hp) (x:V) (v:Value) (Q:Bool→Hp→Prop),Inv X pins σ H s→RelV x v→r x H Q →
  wpAny (model X.prog X.w) X.A (truthy v) (TP X pins σ Q) X.xe s
def tOp (r:R2) (ta tb:TE):TE:=fun σ H Q=>ta σ H fun x H1=>tb σ H1 fun y H2=>r x y H2 Q
def tUn (r:V→Hp→VK→Prop) (ta:TE):TE:=fun σ H Q=>ta σ H fun x H1=>r x H1 Q
def rI (C:Int→Int→Prop) (g:Int→Int→V):R2:=fun x y H Q=>∃ i j,x = .int i∧y = .int j∧C i j∧Q (g i j) H
def rI0 (g:Int→Int→V):R2:=fun x y H Q=>∃ i j,x = .int i∧y = .int j∧Q (g i j) H
def rU (g:Int→V):V→Hp→VK→Prop:=fun x H Q=>∃ i,x = .int i∧Q (g i) H
section
variable {X:Cx}{a b c:Expr}{ta tb tc:TE}{pos:Pos}
theorem a43 (ha:PE X a ta) (hb:PE X b tb) {pins:List (Addr × Obj)}{s:Shared}{σ:St}{H:Hp}{R:V→V→Hp→Prop}(I:Inv X pins σ H s)
  (h:ta σ H fun x H1=>tb σ H1 fun y H2=>R x y H2) {Q:Value→Shared→Prop}{f:Value→Value→Sem Value}
  (hf:∀ v u s2 x y H2,Inv X pins σ H2 s2→RelV x v→RelV y u→R x y H2→wpAny (model X.prog X.w) X.A (f v u) Q X.xe s2) :
  wpAny (model X.prog X.w) X.A (eval a X.env) (fun v s₁=>wpAny (model X.prog X.w) X.A (eval b X.env) (fun u s₂=>wpAny (model X.prog X.w) X.A (f v u) Q X.xe s₂) X.xe s₁) X.xe s:=by
 refine thn (ha pins s σ H _ I h) fun v s1 ⟨x,H1,I1,r1,q1⟩=>?_
 refine thn (hb pins s1 σ H1 _ I1 q1) fun u s2 ⟨y,H2,I2,r2,q2⟩=>?_
 exact hf v u s2 x y H2 I2 r1 r2 q2
theorem a61 {op:Operator}{r:R2}(ho:OpR X (binaryOp op) r) (ha:PE X a ta) (hb:PE X b tb):PE X (.BinOp a op b pos) (tOp r ta tb):=by
 intro pins s σ H Q I h
 exact wpAny_BinOp (a43 ha hb I h fun v u s2 x y H2 I2 rx ry q=>ho pins s2 σ H2 x y v u Q I2 rx ry q)
theorem b2g {op:UnaryOp}{r:V→Hp→VK→Prop}(ho:UnR X (unaryOp op) r) (ha:PE X a ta):PE X (.UnaryOp op a pos) (tUn r ta):=by
 intro pins s σ H Q I h
 exact UnaryOp_ (thn (ha pins s σ H _ I h) fun v s1 ⟨x,H1,I1,r1,q1⟩=>ho pins s1 σ H1 x v Q I1 r1 q1)
theorem opI {f:Value→Value→Sem Value}{C:Int→Int→Prop}{g:Int→Int→Int}
  (rule:∀ (i j:Int) (t u:Tok) (s:Shared) (Q:Value→Shared→Prop) (E:Value→Shared→Prop),C i j→Q (.int (g i j) s.toks) { s with toks:=s.toks+1 }→wpAny (model X.prog X.w) X.A (f (.int i t) (.int j u)) Q E s) :
  OpR X f (rI C fun i j=>.int (g i j)):=by
 intro pins s σ H x y v u Q I rx ry h
 obtain⟨i,j,rfl,rfl,hc,q⟩:=h
 obtain⟨t,rfl⟩:=rx
 obtain⟨t',rfl⟩:=ry
 exact rule i j t t' s _ _ hc ⟨.int (g i j),H,I.tok _,⟨_,rfl⟩,q⟩
theorem a7C {f:Value→Value→Sem Value}{g:Int→Int→Int}
  (rule:∀ (i j:Int) (t u:Tok) (s:Shared) (Q:Value→Shared→Prop) (E:Value→Shared→Prop),Q (.int (g i j) s.toks) { s with toks:=s.toks+1 }→wpAny (model X.prog X.w) X.A (f (.int i t) (.int j u)) Q E s) :
  OpR X f (rI0 fun i j=>.int (g i j)):=by
 intro pins s σ H x y v u Q I rx ry h
 obtain⟨i,j,rfl,rfl,q⟩:=h
 obtain⟨t,rfl⟩:=rx
 obtain⟨t',rfl⟩:=ry
 exact rule i j t t' s _ _ ⟨.int (g i j),H,I.tok _,⟨_,rfl⟩,q⟩
theorem a1D {f:Value→Value→Sem Value}{g:Int→Int→Bool}
  (rule:∀ (i j:Int) (t u:Tok) (s:Shared) (Q:Value→Shared→Prop) (E:Value→Shared→Prop),Q (.bool (g i j)) s→wpAny (model X.prog X.w) X.A (f (.int i t) (.int j u)) Q E s) :
  OpR X f (rI0 fun i j=>.bl (g i j)):=by
 intro pins s σ H x y v u Q I rx ry h
 obtain⟨i,j,rfl,rfl,q⟩:=h
 obtain⟨t,rfl⟩:=rx
 obtain⟨t',rfl⟩:=ry
 exact rule i j t t' s _ _ ⟨.bl (g i j),H,I,rfl,q⟩
def a7W (i j:Int):Prop:=0≤j∧j≤1000000∧i.natAbs<2 ^ 64
theorem op_add:OpR X (binaryOp .Add) (rI0 fun i j=>.int (i+j)):=a7C fun _ _ _ _ _ _ _ q=>add_int q
theorem O7:OpR X (binaryOp .Sub) (rI0 fun i j=>.int (i - j)):=a7C fun _ _ _ _ _ _ _ q=>sub_int q
theorem K5:OpR X (binaryOp .Mod) (rI (fun _ j=>j≠0) fun i j=>.int (i.fmod j)):=opI fun _ _ _ _ _ _ _ hc q=>mod_int' hc q
theorem a5Z:OpR X (binaryOp .Pow) (rI a7W fun i j=>.int (i ^ j.toNat)):=opI fun _ _ _ _ _ _ _ hc q=>pow_int_small hc.1 hc.2.1 hc.2.2 q
theorem unI {f:Value→Sem Value}{g:Int→Int}
  (rule:∀ (i:Int) (t:Tok) (s:Shared) (Q:Value→Shared→Prop) (E:Value→Shared→Prop),Q (.int (g i) s.toks) { s with toks:=s.toks+1 }→wpAny (model X.prog X.w) X.A (f (.int i t)) Q E s) :
  UnR X f (rU fun i=>.int (g i)):=by
 intro pins s σ H x v Q I rx h
 obtain⟨i,rfl,q⟩:=h
 obtain⟨t,rfl⟩:=rx
 exact rule i t s _ _ ⟨.int (g i),H,I.tok _,⟨_,rfl⟩,q⟩
theorem E3:UnR X (unaryOp .USub) (rU fun i=>.int (-i)):=unI fun _ _ _ _ _ q=>neg_int q
end
def a52:V→V→Bool
 |.non,.non=>true | .non,.int _=>true | .int _,.non=>true | .non,.bl _=>true | .bl _,.non=>true | .non,.str _=>true | .str _,.non=>true
 |.int _,.int _=>true | .bl _,.bl _=>true | .str _,.str _=>true | .byt _,.byt _=>true
 |.int _,.str _=>true | .str _,.int _=>true | .bl _,.str _=>true | .str _,.bl _=>true
 |_,_=>false
def rEq:R2:=fun x y H Q=>a52 x y=true∧Q (.bl (decide (x=y))) H
def rNe:R2:=fun x y H Q=>a52 x y=true∧Q (.bl (!decide (x=y))) H
theorem a6t {i j:Int}:decide (V.int i=V.int j)=(i == j):=by
 rw[Bool.eq_iff_iff]
 simp
theorem a6z {i j:Bool}:decide (V.bl i=V.bl j)=(i == j):=by
 rw[Bool.eq_iff_iff]
 simp
theorem a69 {i j:Str}:decide (V.str i=V.str j)=(i == j):=by
 rw[Bool.eq_iff_iff]
 simp
theorem a6K {i j:Array UInt8}:decide (V.byt i=V.byt j)=(i.toList == j.toList):=by
 rw[Bool.eq_iff_iff]
 cases i
 cases j
 simp
section
variable {X:Cx}{a b c:Expr}{ta tb tc:TE}{pos:Pos}
theorem B0 {pins:List (Addr × Obj)}{σ:St}{H:Hp}{s:Shared}{Q:VK}{k k':Bool}(I:Inv X pins σ H s) (q:Q (.bl k) H) (e:k=k'):EP X pins σ Q (.bool k') s:=by
 subst e
 exact⟨.bl k,H,I,rfl,q⟩
theorem op_eq:OpR X (compareOp .Eq) rEq:=by
 intro pins s σ H x y v u Q I rx ry h
 obtain⟨hs,q⟩:=h
 cases x with
 |non=>
  cases rx
  cases y with
  |non=>cases ry;exact PySem.EqNone.eq_none_none (B0 I q (by simp))
  |bl j=>cases ry;exact PySem.EqNone.eq_none_bool (B0 I q (by simp))
  |int j=>obtain⟨t',rfl⟩:=ry;exact PySem.EqNone.eq_none_int (B0 I q (by simp))
  |str j=>obtain⟨t',rfl⟩:=ry;exact PySem.EqNone.eq_none_str (B0 I q (by simp))
  |_=>exact absurd (show false=true from hs) Bool.false_ne_true
 |bl i=>
  cases rx
  cases y with
  |non=>cases ry;exact PySem.EqNone.eq_bool_none (B0 I q (by simp))
  |bl j=>cases ry;exact eq_bool (B0 I q a6z)
  |str j=>obtain⟨t',rfl⟩:=ry;exact PySem.EqMixed.eq_bool_str (B0 I q (by simp))
  |_=>exact absurd (show false=true from hs) Bool.false_ne_true
 |int i=>
  obtain⟨t,rfl⟩:=rx
  cases y with
  |non=>cases ry;exact PySem.EqNone.eq_int_none (B0 I q (by simp))
  |int j=>obtain⟨t',rfl⟩:=ry;exact eq_int (B0 I q a6t)
  |str j=>obtain⟨t',rfl⟩:=ry;exact PySem.EqMixed.eq_int_str (B0 I q (by simp))
  |_=>exact absurd (show false=true from hs) Bool.false_ne_true
 |str i=>
  obtain⟨t,rfl⟩:=rx
  cases y with
  |non=>cases ry;exact PySem.EqNone.eq_str_none (B0 I q (by simp))
  |bl j=>cases ry;exact PySem.EqMixed.eq_str_bool (B0 I q (by simp))
  |int j=>obtain⟨t',rfl⟩:=ry;exact PySem.EqMixed.eq_str_int (B0 I q (by simp))
  |str j=>obtain⟨t',rfl⟩:=ry;exact eq_str (B0 I q a69)
  |_=>exact absurd (show false=true from hs) Bool.false_ne_true
 |byt i=>
  obtain⟨t,rfl⟩:=rx
  cases y with
  |byt j=>obtain⟨t',rfl⟩:=ry;exact PySem.W.eq_bytes (B0 I q a6K)
  |_=>exact absurd (show false=true from hs) Bool.false_ne_true
 |_=>cases y <;> exact absurd (show false=true from hs) Bool.false_ne_true
theorem op_ne:OpR X (compareOp .NotEq) rNe:=by
 intro pins s σ H x y v u Q I rx ry h
 obtain⟨hs,q⟩:=h
 cases x with
 |non=>
  cases rx
  cases y with
  |non=>cases ry;exact PySem.EqNone.ne_none_none (B0 I q (by simp))
  |bl j=>cases ry;exact PySem.EqNone.ne_none_bool (B0 I q (by simp))
  |int j=>obtain⟨t',rfl⟩:=ry;exact PySem.EqNone.ne_none_int (B0 I q (by simp))
  |str j=>obtain⟨t',rfl⟩:=ry;exact PySem.EqNone.ne_none_str (B0 I q (by simp))
  |_=>exact absurd (show false=true from hs) Bool.false_ne_true
 |bl i=>
  cases rx
  cases y with
  |non=>cases ry;exact PySem.EqNone.ne_bool_none (B0 I q (by simp))
  |bl j=>cases ry;exact ne_bool (B0 I q (congrArg not a6z))
  |str j=>obtain⟨t',rfl⟩:=ry;exact PySem.EqMixed.ne_bool_str (B0 I q (by simp))
  |_=>exact absurd (show false=true from hs) Bool.false_ne_true
 |int i=>
  obtain⟨t,rfl⟩:=rx
  cases y with
  |non=>cases ry;exact PySem.EqNone.ne_int_none (B0 I q (by simp))
  |int j=>obtain⟨t',rfl⟩:=ry;exact ne_int (B0 I q (congrArg not a6t))
  |str j=>obtain⟨t',rfl⟩:=ry;exact PySem.EqMixed.ne_int_str (B0 I q (by simp))
  |_=>exact absurd (show false=true from hs) Bool.false_ne_true
 |str i=>
  obtain⟨t,rfl⟩:=rx
  cases y with
  |non=>cases ry;exact PySem.EqNone.ne_str_none (B0 I q (by simp))
  |bl j=>cases ry;exact PySem.EqMixed.ne_str_bool (B0 I q (by simp))
  |int j=>obtain⟨t',rfl⟩:=ry;exact PySem.EqMixed.ne_str_int (B0 I q (by simp))
  |str j=>obtain⟨t',rfl⟩:=ry;exact ne_str (B0 I q (congrArg not a69))
  |_=>exact absurd (show false=true from hs) Bool.false_ne_true
 |byt i=>
  obtain⟨t,rfl⟩:=rx
  cases y with
  |byt j=>obtain⟨t',rfl⟩:=ry;exact PySem.W.ne_bytes (B0 I q (congrArg not a6K))
  |_=>exact absurd (show false=true from hs) Bool.false_ne_true
 |_=>cases y <;> exact absurd (show false=true from hs) Bool.false_ne_true
theorem S5:OpR X (compareOp .Lt) (rI0 fun i j=>.bl (decide (i<j))):=a1D fun _ _ _ _ _ _ _ q=>lt_int q
theorem a62:OpR X (compareOp .LtE) (rI0 fun i j=>.bl (decide (i≤j))):=a1D fun _ _ _ _ _ _ _ q=>le_int q
theorem W7:OpR X (compareOp .Gt) (rI0 fun i j=>.bl (decide (j<i))):=a1D fun _ _ _ _ _ _ _ q=>gt_int q
theorem b5q:OpR X (compareOp .GtE) (rI0 fun i j=>.bl (decide (j≤i))):=a1D fun _ _ _ _ _ _ _ q=>ge_int q
theorem a9Z:OpR X (compareOp .IsNot) (fun x y H Q=>y = .non∧Q (.bl (!decide (x = .non))) H):=by
 intro pins s σ H x y v u Q I rx ry h
 obtain⟨rfl,q⟩:=h
 cases ry
 refine isnot_none_gen (B0 I q ?_)
 cases x <;> first
  | (cases rx;rfl)
  | (obtain⟨t,rfl⟩:=rx;rfl)
theorem OpR.or {f:Value→Value→Sem Value}{r r':R2}(h:OpR X f r) (h':OpR X f r'):OpR X f (fun x y H Q=>r x y H Q∨r' x y H Q):=by
 intro pins s σ H x y v u Q I rx ry q
 rcases q with q | q
 ·exact h pins s σ H x y v u Q I rx ry q
 ·exact h' pins s σ H x y v u Q I rx ry q
theorem w8 (b:Expr) {op:CmpOp}(h:op ≠ .In:=by decide) (h2:op ≠ .NotIn:=by decide):behindInMarks op b=false:=by
 have e1:(op == CmpOp.In)=false:=by cases op <;> first | rfl | exact absurd rfl h
 have e2:(op == CmpOp.NotIn)=false:=by cases op <;> first | rfl | exact absurd rfl h2
 cases b <;> simp[behindInMarks,e1,e2]
theorem b4k {op:CmpOp}{r:R2}(ho:OpR X (compareOp op) r) (ha:PE X a ta) (hb:PE X b tb) (hm:behindInMarks op b=false):PE X (.Compare a [op] [b] pos) (tOp r ta tb):=by
 intro pins s σ H Q I h
 exact wpAny_Compare1 (a43 ha hb I h fun v u s2 x y H2 I2 rx ry q=>ho pins s2 σ H2 x y v u Q I2 rx ry q) hm
def b43 (t:TE):TT:=fun σ H Q=>t σ H fun x H'=>∃ k,x = .bl k∧Q k H'
theorem b0q {op:CmpOp}{r:R2}(ho:OpR X (compareOp op) r) (ha:PE X a ta) (hb:PE X b tb) (hm:behindInMarks op b=false):PT X (.Compare a [op] [b] pos) (b43 (tOp r ta tb)):=by
 intro pins s σ H Q I h
 refine wpAny_isTrue_Compare1 (thn (ha pins s σ H _ I h) fun v s1 ⟨x,H1,I1,r1,q1⟩=>thn (hb pins s1 σ H1 _ I1 q1) fun u s2 ⟨y,H2,I2,r2,q2⟩=>
  thn (ho pins s2 σ H2 x y v u _ I2 r1 r2 q2) fun c s3 ⟨z,H3,I3,r3,k,e,q3⟩=>?_) hm
 subst e
 cases r3
 exact wpAny_truthy_bool ⟨H3,I3,q3⟩
def a7H (K:PySem.W.Frag) (x:V) (H:Hp) (k:Bool):Prop:=
 match x with
 |.non=>k=false
 |.bl b=>k=b
 |.int i=>k=(i != 0)
 |.str y=>y.length≤sizeLine∧k=((y.length:Int) != 0)
 |.byt y=>y.size≤sizeLine∧k=((y.size:Int) != 0)
 |.ref p=>(∃ xs,SqL K H p xs∧k = !xs.isEmpty)∨(∃ xs,SqT K H p xs∧k = !xs.isEmpty)∨∃ kvs,H p=some (.dK kvs)∧k = !kvs.isEmpty
 |_=>False
theorem a94 {κ:Type}{kvs:List (κ × V)}{vs:List (κ × Value)}(r:KV kvs vs):(!vs.isEmpty) = !kvs.isEmpty:=by
 cases r <;> rfl
theorem a6r {xs:List V}{its:List Value}(r:Vals xs its):(!its.toArray.isEmpty) = !xs.isEmpty:=by
 cases r <;> simp
theorem a0a:(sizeLine:Nat)<2 ^ 63:=by rw[sizeLine_eq];decide
theorem b0k:a9f X (fun x H Q=>∃ k,a7H X.K x H k∧Q k H):=by
 intro pins s σ H x v Q I rx h
 obtain⟨k,e,q⟩:=h
 have hl:=a0a
 have hs:sizeLine=16777216:=sizeLine_eq
 cases x with
 |non=>
  cases rx
  have e':k=false:=e
  subst e'
  exact truthy_none ⟨H,I,q⟩
 |bl b=>
  cases rx
  have e':k=b:=e
  subst e'
  exact wpAny_truthy_bool ⟨H,I,q⟩
 |int i=>
  obtain⟨t,rfl⟩:=rx
  have e':k=(i != 0):=e
  subst e'
  exact PySem.P.truthy_int ⟨H,I,q⟩
 |str y=>
  obtain⟨t,rfl⟩:=rx
  obtain⟨hy,e'⟩:y.length≤sizeLine∧k=((y.length:Int) != 0):=e
  subst e'
  exact PySem.P.truthy_str (by omega) ⟨H,I.tok _,q⟩
 |byt y=>
  obtain⟨t,rfl⟩:=rx
  obtain⟨hy,e'⟩:y.size≤sizeLine∧k=((y.size:Int) != 0):=e
  subst e'
  exact PySem.W.truthy_bytes (by omega) ⟨H,I.tok _,q⟩
 |ref p=>
  cases rx
  have e':(∃ xs,SqL X.K H p xs∧k = !xs.isEmpty)∨(∃ xs,SqT X.K H p xs∧k = !xs.isEmpty)∨∃ kvs,H p=some (.dK kvs)∧k = !kvs.isEmpty:=e
  rcases e' with ⟨xs,hx,e'⟩ | ⟨xs,hx,e'⟩ | ⟨kvs,hx,e'⟩
  ·subst e'
   obtain⟨its,r,pl,hz⟩:=I.list hx
   have hlen:=r.length
   exact wpAny_truthy_list pl.isList (by simp only[List.size_toArray];omega) ⟨H,I.tok _,by rw[a6r r];exact q⟩
  ·subst e'
   obtain⟨its,r,pl,hz⟩:=I.tuple hx
   have hlen:=r.length
   exact truthy_tuple pl (by simp only[List.size_toArray];omega) ⟨H,I.tok _,by rw[a6r r];exact q⟩
  ·subst e'
   obtain⟨hz,hS,vs,r,m⟩:kvs.length≤sizeLine∧(p == sysModules)=false∧∃ vs,KV kvs vs∧s.heap.DictOf (a30 X.prog X.w) p vs:=I.hok p _ hx
   have hlen:kvs.length=vs.length:=Paired.length r
   exact wpAny_truthy_dict hS m (by omega) ⟨H,I.tok _,by rw[a94 r];exact q⟩
 |_=>exact(show False from e).elim
theorem b4E (ha:PE X a ta) (he:∀ whole,isTrue a X.env whole=(do let v ←whole;standAt a.pos;holding [v] (truthy v))) :
  PT X a (fun σ H Q=>ta σ H fun x H'=>∃ k,a7H X.K x H' k∧Q k H'):=by
 intro pins s σ H Q I h
 exact isTrue_plain (thn (ha pins s σ H _ I h) fun v s1 ⟨x,H1,I1,r1,q1⟩=>b0k pins s1 σ H1 x v Q I1 r1 q1) (he _)
theorem b5s:OpR X (binaryOp .Add) (fun x y H Q=>∃ i j,x = .str i∧y = .str j∧i.length+j.length≤sizeLine∧Q (.str (i++j)) H):=by
 intro pins s σ H x y v u Q I rx ry h
 obtain⟨i,j,rfl,rfl,hz,q⟩:=h
 obtain⟨t,rfl⟩:=rx
 obtain⟨t',rfl⟩:=ry
 exact add_str (fun t' tk=>⟨.str (i++j),H,I.tok _,⟨_,rfl⟩,q⟩) hz
theorem Z5 {x:V}{us:List Value}(r:Vals [x] us):∃ u,us=[u]∧RelV x u:=by
 cases r with
 |cons r1 r2=>cases r2;exact⟨_,rfl,r1⟩
theorem a1e:CallR X (.builtin "abs") (fun xs H Q=>∃ i,xs=[.int i]∧Q (.int (if i<0 then -i else i)) H):=by
 intro pins s σ H xs us Q I r h
 obtain⟨i,rfl,q⟩:=h
 obtain⟨u,rfl,t,rfl⟩:=Z5 r
 exact call_abs_int fun u tk=>⟨.int (if i<0 then -i else i),H,I.tok _,⟨_,rfl⟩,q⟩
theorem b34:CallR X (.type "int") (fun xs H Q=>(∃ i,xs=[.int i]∧Q (.int i) H)∨∃ k,xs=[.bl k]∧Q (.int (if k then 1 else 0)) H):=by
 intro pins s σ H xs us Q I r h
 rcases h with ⟨i,rfl,q⟩ | ⟨k,rfl,q⟩
 ·obtain⟨u,rfl,t,rfl⟩:=Z5 r
  exact call_int_int ⟨.int i,H,I,⟨_,rfl⟩,q⟩
 ·obtain⟨u,rfl,r1⟩:=Z5 r
  cases r1
  exact call_int_bool ⟨.int (if k then 1 else 0),H,I.tok _,⟨_,rfl⟩,q⟩
end
structure Room (k:Nat) (A:Around):Prop where
 hd:A.handled=none
 dp:A.depth+3*k+5<recursionLimit
 un:A.units+16*k+200<cLine
 gd:A.guards=some []
theorem Room.mono {j k:Nat}{A:Around}(r:Room k A) (h:j≤k):Room j A:=⟨r.hd,by have:=r.dp;omega,by have:=r.un;omega,r.gd⟩
theorem Room.deeper {k:Nat}{A:Around}(r:Room (k+1) A) (env:Env):Room k (A.deeper env):=
 ⟨r.hd,by have:=r.dp;show A.depth+1+3*k+5<_;omega,by have:=r.un;show A.units+3+16*k+200<_;omega,r.gd⟩
theorem Room.depth {k:Nat}{A:Around}(r:Room k A):A.depth<recursionLimit:=by have:=r.dp;omega
def b3i:TA:=fun _ H Q=>Q [] H
def b1g (ta:TE) (tr:TA):TA:=fun σ H Q=>ta σ H fun x H1=>tr σ H1 fun xs H2=>Q (x::xs) H2
section
variable {X:Cx}{e:Expr}{es:List Expr}{te:TE}{t:TA}{pos:Pos}
theorem a1k:PA X [] b3i:=fun _ _ _ _ H Q I h=>Calls.spliced_nil ⟨[],H,I,.nil,h⟩
theorem Z2 (ha:PE X e te) (hr:PA X es t) (hs:starEach (e::es) X.env=(false,eval e X.env)::starEach es X.env:=by rfl):PA X (e::es) (b1g te t):=by
 intro pos pins s σ H Q I h
 rw[hs]
 show wpAny _ _ (spliced ((false,eval e X.env)::backTo pos (starEach es X.env))) _ _ s
 refine Calls.spliced_cons (thn (ha pins s σ H _ I h) fun u s1 ⟨x,H1,I1,r1,q1⟩=>?_)
 exact thn (hr pos pins s1 σ H1 _ I1 q1) fun us s2 ⟨xs,H2,I2,r2,q2⟩=>⟨x::xs,H2,I2,.cons r1 r2,q2⟩
def a9v (t:TA):TE:=fun σ H Q=>t σ H fun xs H1=>xs.length≤sizeLine∧∀ p,H1 p=none→Q (.ref p) (upd H1 p (.tup xs))
def b3k (t:TA):TE:=fun σ H Q=>t σ H fun xs H1=>xs.length≤sizeLine∧∀ p,H1 p=none→Q (.ref p) (upd H1 p (.lst xs))
theorem b3X {x1} (h:PA X es t):PE X (.Tuple es x1 pos) (a9v t):=by
 intro pins s σ H Q I hq
 refine wpAny_Tuple_spliced (thn (h pos pins s σ H _ I hq) fun us s1 ⟨xs,H1,I1,r,z,q⟩=>⟨by rw[←r.length];exact z,?_⟩)
 have hf:H1 s1.heap.objs.size=none:=I1.hok.fresh (Nat.le_refl _)
 refine⟨.ref s1.heap.objs.size,upd H1 s1.heap.objs.size (.tup xs),I1.laid (t':=s1.toks) (fun b u e=>Heap.get?_push_of_some _ e) (Nat.le_refl _) ?_,rfl,q _ hf⟩
 exact⟨z,us,r,⟨_,Heap.get?_push_size _ rfl,rfl,_,rfl⟩⟩
theorem a7Z (h:PA X es t):PE X (.List es pos) (b3k t):=by
 intro pins s σ H Q I hq
 refine wpAny_List_spliced (thn (h pos pins s σ H _ I hq) fun us s1 ⟨xs,H1,I1,r,z,q⟩=>⟨by rw[←r.length];exact z,?_⟩)
 have hf:H1 s1.heap.objs.size=none:=I1.hok.fresh (Nat.le_refl _)
 refine⟨.ref s1.heap.objs.size,upd H1 s1.heap.objs.size (.lst xs),I1.laid (t':=s1.toks) (fun b u e=>Heap.get?_push_of_some _ e) (Nat.le_refl _) ?_,rfl,q _ hf⟩
 exact⟨z,us,0,r,Heap.get?_push_size _ rfl⟩
end
abbrev Sp:=List V→Hp→VK→XK→Prop
abbrev CXT:=List Env→Hp→Shared→XK→Value→Shared→Prop
structure Env0 (P:Program) (w:World) (K:PySem.W.Frag) (mg:Str→Option Value) (base:Heap) (A:Around) (outer:List Env) (s:Shared) (H:Hp):Prop where
 frames:A.frames=some outer
 mod:Mod K mg base
 bs:∀ b o,base.get? b=some o→s.heap.get? b=some o∧H b=none
 bsz:base.objs.size≤s.heap.objs.size
 funs:s.heap.FunFrames base outer
 frf:∀ b∈frs outer,H b=none
 hok:HOk P w H s.heap
 bare:AllBare s.gens
def CE (outer:List Env) (P:Program) (w:World) (H:Hp) (s:Shared) (Q:VK) (u:Value) (s':Shared):Prop:=
 ∃ v H',s'.os=s.os∧AllBare s'.gens∧Un (frs outer) [] H H' s.heap s'.heap∧HOk P w H' s'.heap∧RelV v u∧Q v H'
def CR (CX:CXT) (outer:List Env) (P:Program) (w:World) (H:Hp) (s:Shared) (Q:VK) (E:XK) (r:Result) (s':Shared):Prop:=
 match r with
 |.ok (.ret u)=>CE outer P w H s Q u s'
 |.ok _=>False
 |.error e=>CX outer H s E e s'
structure FnOk (P:Program) (w:World) (K:PySem.W.Frag) (mg:Str→Option Value) (base:Heap) (CX:CXT) (k:Nat) (f:Addr) (fd:FuncData) (ps:List Str) (sp:Sp):Prop where
 len:∀ vs H Q E,sp vs H Q E→vs.length=ps.length
 run:∀ (A:Around) (outer:List Env) (s:Shared) (H:Hp) (args:Args) (us:List Value) (vs:List V) (Q:VK) (E:XK),Room k A→Env0 P w K mg base A outer s H→BindsTo s fd args (ps.zip us)→Vals vs us→sp vs H Q E →
  codeAny (model P w) A (.call (.ref f) args) (CR CX outer P w H s Q E) s
section
variable {X:Cx}{pins:List (Addr × Obj)}{σ:St}{H:Hp}{s s':Shared}
theorem Inv.env0 (I:Inv X pins σ H s):Env0 X.prog X.w X.K X.mg X.base X.A X.stack s H:=
 ⟨I.ok.frames,I.ok.mod,I.bs,Nat.le_trans I.ok.bsz I.sz,I.stack,I.stkFree,I.hok,I.bare⟩
theorem Inv.after {Q:VK}{u:Value}(I:Inv X pins σ H s) (h:CE X.stack X.prog X.w H s Q u s'):EP X pins σ Q u s':=by
 obtain⟨v,H',os,bare,un,hok,r,q⟩:=h
 obtain⟨hh,g,d,t,os'⟩:=s'
 obtain rfl:os'=s.os:=os
 exact⟨v,H',I.call (h':=hh) (g':=g) (d':=d) (t':=t) (ch:=[]) un hok bare (fun b z=>absurd z (by simp)),r,q⟩
end
def a6g (sp:Sp) (dvs:List V) (E:XK) (t:TA):TE:=fun σ H Q=>t σ H fun vs H1=>sp (vs++dvs) H1 Q E
def Binds (K:PySem.W.Frag) (fd:FuncData) (ps:List Str) (ds:List Value):Prop:=
 ∀ (s:Shared) (us:List Value),K.In s.heap→(us++ds).length=ps.length→BindsTo s fd ⟨us,[]⟩ (ps.zip (us++ds))
theorem Binds.all {K:PySem.W.Frag}{fd:FuncData}{ps:List Str}(h:∀ us:List Value,us.length=ps.length→bindArgs fd ⟨us,[]⟩=pure (ps.zip us)):Binds K fd ps []:=fun s us _ hl=>by
 rw[List.append_nil] at hl ⊢
 exact .of_eq (h us hl)
def a48 (CX:CXT) (X:Cx) (E:XK):Prop:=∀ (pins:List (Addr × Obj)) (σ:St) (H:Hp) (s:Shared) (e:Value) (s':Shared),Inv X pins σ H s→CX X.stack H s E e s'→X.xe e s'
section
variable {X:Cx}{CX:CXT}{k:Nat}{f C:Addr}{fd:FuncData}{ps:List Str}{sp:Sp}{dvs:List V}{ds:List Value}{E:XK}{x m:Str}{p pos apos:Pos}{e o:Expr}{es:List Expr}{ta:TE}{t:TA}
theorem b2a {pins:List (Addr × Obj)}{σ:St}{H:Hp}{s:Shared}{Q:VK}{us:List Value}{vs:List V}(F:FnOk X.prog X.w X.K X.mg X.base CX k f fd ps sp) (hr:Room k X.A) (hb:Binds X.K fd ps ds) (hd:Vals dvs ds) (hx:a48 CX X E)
  (I:Inv X pins σ H s) (r:Vals vs us) (h:sp (vs++dvs) H Q E):wpAny (model X.prog X.w) X.A (call (.ref f) us) (EP X pins σ Q) X.xe s:=by
 have r2:Vals (vs++dvs) (us++ds):=r.append hd
 have hl:(us++ds).length=ps.length:=by rw[←r2.length];exact F.len _ _ _ _ h
 refine wpAny_call (codeAny_mono (F.run X.A X.stack s H ⟨us,[]⟩ (us++ds) (vs++dvs) Q E hr I.env0 (hb s us I.kIn hl) r2 h) fun r s' hq=>?_)
 cases r with
 |error e=>exact hx pins σ H s e s' I hq
 |ok fl=>
  cases fl with
  |ret u=>exact I.after hq
  |next=>exact False.elim hq
  |brk=>exact False.elim hq
  |cont=>exact False.elim hq
theorem b2u (F:FnOk X.prog X.w X.K X.mg X.base CX k f fd ps sp) (hr:Room k X.A) (hg:Gl X x) (hm:X.mg x=some (.ref f)) (hk:PySem.W.keepIn X.K (.ref f)=true) (hb:Binds X.K fd ps ds) (hd:Vals dvs ds) (hx:a48 CX X E)
  (ha:PA X (e::es) t) (hdb:(x == ("__debug__" : Str))=false:=by decide) (he:starEach (e::es) X.env=(false,eval e X.env)::starEach es X.env:=by rfl) (hpl:(backTo pos (starEach es X.env)).any (·.1)=false:=by rfl) :
  PE X (.Call (.Name x p) (e::es) [] pos) (a6g sp dvs E t):=by
 intro pins s σ H Q I h
 refine wpAny_Call_Name_kw (a5U I hg hm ?_ hdb)
 refine PySem.W.callWith_K (h₀:=X.base) I.ok.mod.kin hk (thn (ha pos pins s σ H _ I h) fun us s1 ⟨vs,H1,I1,r,q⟩=>⟨I1.kIn,?_⟩) he hpl
 exact b2a F hr hb hd hx I1 r q
end
structure FnScope (N P:List Str) (sc:Scope):Prop where
 kind:sc.kind = .function
 co:sc.isCoroutine=false
 gen:sc.isGenerator=false
 nd:N.Nodup
 pre:N.take P.length=P
 par:∀ x∈P,sc.names.lookup x=some .local∨sc.names.lookup x=some .cell
 nofree:∀ y∈sc.names,y.2 ≠ .free
theorem a7B {kindOf:Str→Option NameKind}{x:Str}:∀ {binds:List (Str × Value)}{m:Str→Option Value},(∀ v,(x,v) ∉ binds)→bindL kindOf binds m x=m x
 |[],_,_=>rfl
 |(n,v)::r,m,h=>by
  unfold bindL
  rw[a7B fun w hw=>h w (List.mem_cons_of_mem _ hw)]
  split
  ·have:x≠n:=by rintro rfl;exact h v List.mem_cons_self
   simp[this]
  ·rfl
theorem a5X {kindOf:Str→Option NameKind}{x:Str}:∀ {binds:List (Str × Value)}{m:Str→Option Value},(∀ v,(x,v) ∉ binds)→bindC kindOf binds m x=m x
 |[],_,_=>rfl
 |(n,v)::r,m,h=>by
  unfold bindC
  rw[a5X fun w hw=>h w (List.mem_cons_of_mem _ hw)]
  split
  ·rfl
  ·have:x≠n:=by rintro rfl;exact h v List.mem_cons_self
   simp[this]
theorem a8e {kindOf:Str→Option NameKind}{x:Str}{v:Value}:∀ {P:List Str}{vs:List Value}{i:Nat}{m:Str→Option Value},P.Nodup→P[i]? = some x→vs[i]? = some v→kindOf x=some .local →
  bindL kindOf (P.zip vs) m x=some v
 |[],_,_,_,_,h,_,_=>by simp at h
 |_::_,[],_,_,_,_,h,_=>by simp at h
 |p::P,w::vs,0,m,nd,h1,h2,hk=>by
  simp at h1 h2;subst h1;subst h2
  show bindL kindOf ((p,w)::P.zip vs) m p=_
  unfold bindL
  rw[a7B fun v hv=>(List.nodup_cons.mp nd).1 (List.of_mem_zip hv).1,if_pos hk]
  simp
 |p::P,w::vs,i+1,m,nd,h1,h2,hk=>by
  show bindL kindOf ((p,w)::P.zip vs) m x=_
  unfold bindL
  exact a8e (i:=i) (List.nodup_cons.mp nd).2 (by simpa using h1) (by simpa using h2) hk
theorem a7c {kindOf:Str→Option NameKind}{x:Str}{v:Value}:∀ {P:List Str}{vs:List Value}{i:Nat}{m:Str→Option Value},P.Nodup→P[i]? = some x→vs[i]? = some v→kindOf x≠some .local →
  bindC kindOf (P.zip vs) m x=some v
 |[],_,_,_,_,h,_,_=>by simp at h
 |_::_,[],_,_,_,_,h,_=>by simp at h
 |p::P,w::vs,0,m,nd,h1,h2,hk=>by
  simp at h1 h2;subst h1;subst h2
  show bindC kindOf ((p,w)::P.zip vs) m p=_
  unfold bindC
  rw[a5X fun v hv=>(List.nodup_cons.mp nd).1 (List.of_mem_zip hv).1,if_neg hk]
  simp
 |p::P,w::vs,i+1,m,nd,h1,h2,hk=>by
  show bindC kindOf ((p,w)::P.zip vs) m x=_
  unfold bindC
  exact a7c (i:=i) (List.nodup_cons.mp nd).2 (by simpa using h1) (by simpa using h2) hk
def start (N:List Str) (vs:List V):St:=vs.map some++List.replicate (N.length - vs.length) none
def Q6 (CX:CXT) (P:Program) (w:World) (K:PySem.W.Frag) (mg:Str→Option Value) (base:Heap) (N:List Str) (qual:Str) (scope:Scope) (f:Addr) (cd:Value) (A:Around) (outer:List Env) (s:Shared) (H:Hp) (E:XK):Cx where
 prog:=P
 w:=w
 K:=K
 mg:=mg
 base:=base
 A:=A.deeper (envOfC qual scope s.heap.objs.size f cd)
 N:=N
 s₀:=s
 H₀:=H
 env:=envOfC qual scope s.heap.objs.size f cd
 outer:=outer
 stack:=envOfC qual scope s.heap.objs.size f cd::outer
 ex:=[]
 calm:=true
 fn:=fun _=>true
 pn:=[]
 xe:=fun e s'=>wpAny (model P w) (A.deeper (envOfC qual scope s.heap.objs.size f cd)) (leaving (envOfC qual scope s.heap.objs.size f cd) e) (fun _ s''=>CX outer H s E e s'') (fun e' s''=>CX outer H s E e' s'') s'
theorem a6w {sc:Scope}{n:Nat}{x:Str}(h:sc.names.lookup x=some .cell):∃ c,(cellsFrom n sc.names []).lookup x=some c:=by
 have q:=PySem.W.cellsFrom_some sc.names n [] (.inl h)
 exact Option.isSome_iff_exists.mp q
theorem b53 {CX:CXT}{P:Program}{w:World}{K:PySem.W.Frag}{mg:Str→Option Value}{base:Heap}{N ps:List Str}{qual:Str}{scope:Scope}{f:Addr}{cd:Value}{A:Around}{outer:List Env}{s s1:Shared}{H:Hp}{E:XK}{us:List Value}{vs:List V}
  (S:FnScope N ps scope) (hd:A.handled=none) (e0:Env0 P w K mg base A outer s H) (hl:vs.length=ps.length) (r:Vals vs us)
  (x:InCallC s s.heap.objs.size (bindL (envOfC qual scope s.heap.objs.size f cd).kindOf (ps.zip us) fun _=>none) (cellsFrom (s.heap.objs.size+1) scope.names []) (bindC (envOfC qual scope s.heap.objs.size f cd).kindOf (ps.zip us) fun _=>none) s1) :
  Inv (Q6 CX P w K mg base N qual scope f cd A outer s H E) [] (start N vs) H s1:=by
 have hpl:ps.length≤N.length:=by have:=congrArg List.length S.pre;rw[List.length_take] at this;omega
 obtain⟨h1,tk,rfl,hk⟩:=x.done
 have noA:∀ b:Addr,b ∉ (Q6 CX P w K mg base N qual scope f cd A outer s H E).ex:=fun b z=>absurd (show b∈([]:List Addr) from z) (by simp)
 refine⟨⟨e0.mod,S.kind,rfl,rfl,Nat.le_refl _,fun y z c h1 h2=>?_,fun y hy=>?_,fun y c _ h=>?_,fun _=>hd,Around.frames_deeper e0.frames,.inr ⟨rfl,rfl⟩,fun b z=>absurd z (noA b),e0.bs,e0.bsz,fun b _ _=>noA b,fun b z=>absurd z (noA b),e0.funs,e0.frf⟩,
  rfl,e0.bare,Un.kept hk,⟨_,x.toInCall.ns,fun i y v h1 h2 h3=>?_⟩,fun y c h=>⟨_,x.cell y c h⟩,e0.hok.fresh (Nat.le_refl _),fun y c h=>?_,fun p hp=>absurd (show p∈([]:List (Addr × Obj)) from hp) (by simp),e0.hok.kept hk,?_⟩
 ·exact name_of_addr x.apart (PySem.mem_of_lookup h1) (PySem.mem_of_lookup h2)
 ·have hy:scope.names.lookup y=some .cell∨scope.names.lookup y=some .free:=hy
  rcases hy with hy | hy
  ·exact a6w hy
  ·exact absurd rfl (S.nofree _ (PySem.mem_of_lookup hy))
 ·exact Nat.le_of_lt (x.above y c (PySem.mem_of_lookup h))
 ·have hi:i<vs.length:=by
   unfold start at h2
   by_cases hi:i<vs.length
   ·exact hi
   ·rw[List.getElem?_append_right (by simpa using hi)] at h2
    rw[List.getElem?_replicate] at h2
    split at h2 <;> cases h2
  have ha:vs[i]? = some v:=by
   unfold start at h2
   rw[List.getElem?_append_left (by simpa using hi),List.getElem?_map] at h2
   cases e:vs[i]? with
   |none=>rw[e] at h2;cases h2
   |some a=>rw[e] at h2;cases h2;rfl
  obtain⟨u,hu,rv⟩:=r.get ha
  have hp:ps[i]? = some y:=by
   rw[←S.pre,List.getElem?_take_of_lt (by omega)];exact h1
  have ndP:ps.Nodup:=by rw[←S.pre];exact S.nd.sublist (List.take_sublist _ _)
  refine⟨u,rv,?_⟩
  rcases S.par y (List.mem_of_getElem? hp) with k | k
  ·exact .inl ⟨k,a8e ndP hp hu k⟩
  ·obtain⟨c,e⟩:=a6w (n:=s.heap.objs.size+1) k
   refine .inr ⟨.inl k,c,e,?_⟩
   have q:=x.cell y c e
   rw[a7c ndP hp hu (by show scope.names.lookup y≠_;rw[k];decide)] at q
   exact q
 ·exact e0.hok.fresh (Nat.le_of_lt (x.above y c (PySem.mem_of_lookup h)))
 ·unfold start
  show _=N.length
  rw[List.length_append,List.length_map,List.length_replicate]
  omega
theorem a89 {CX:CXT}{P:Program}{w:World}{K:PySem.W.Frag}{mg:Str→Option Value}{base:Heap}{k:Nat}{f:Addr}{name qual:Str}{params:Arguments}{body:List Stmt}{scope:Scope}{dV kV doc pm cdv ct oc:Value}{an od:Option Addr}
  {osl:Array (Option Value)}{N ps:List Str}{sp:Sp}(lk:K.lookup f=some ⟨oc,od,.func (PySem.W.fnOf name qual params body scope dV kV doc pm an cdv ct),osl⟩) (hcd:PySem.W.codeIn K cdv qual=true) (S:FnScope N ps scope)
  (len:∀ vs H Q E,sp vs H Q E→vs.length=ps.length)
  (hbody:∀ (A:Around) (outer:List Env) (s:Shared) (H:Hp) (vs:List V) (Q:VK) (E:XK),Room k (A.deeper (envOfC qual scope s.heap.objs.size f cdv))→sp vs H Q E →
   ∃ t,PSs (Q6 CX P w K mg base N qual scope f cdv A outer s H E) body t∧t { nx:=fun _ H'=>Q .non H',rt:=Q } (start N vs) H) :
  FnOk P w K mg base CX (k+1) f (PySem.W.fnOf name qual params body scope dV kV doc pm an cdv ct) ps sp:=by
 refine⟨len,fun A outer s H args us vs Q E hr e0 hb r hsp=>?_⟩
 have hl:=len _ _ _ _ hsp
 have KX:K.In s.heap:=e0.mod.kin.keeps fun b o e=>(e0.bs b o e).1
 have lim:s.heap.NoLimit:=e0.mod.nolimit.keeps fun b o e=>(e0.bs b o e).1
 have hkind:∀ y∈ps.zip us,scope.names.lookup y.1=some .local∨(scope.names.lookup y.1=some .cell∧((cellsFrom (s.heap.objs.size+1) scope.names []).lookup y.1).isSome=true):=fun ⟨n,v⟩ hy=>by
  rcases S.par n (List.of_mem_zip hy).1 with q | q
  ·exact .inl q
  ·exact .inr ⟨q,PySem.W.cellsFrom_some _ _ _ (.inl q)⟩
 refine codeAny_call_function hr.depth (KX _ _ lk) rfl S.co S.gen rfl (PySem.W.codeRec_of KX hcd) (hb _ _ _ _ ?_)
 refine wpAny_newFunctionEnv_cells S.kind hkind fun env he s1 x=>?_
 subst he
 refine⟨lim.keeps x.toInCall.keep,codeAny_func ?_⟩
 obtain⟨t,ht,hq⟩:=hbody A outer s H vs Q E (hr.deeper _) hsp
 have I:Inv (Q6 CX P w K mg base N qual scope f cdv A outer s H E) [] (start N vs) H s1:=b53 S hr.hd e0 hl r x
 refine wpAny_mono (ht [] s1 (start N vs) H _ I hq) (fun fl s' hs=>?_) fun e s' hs=>hs
 have fin:∀ {σ':St}{H':Hp}{v:V}{u:Value},Inv (Q6 CX P w K mg base N qual scope f cdv A outer s H E) [] σ' H' s'→RelV v u→Q v H'→CE outer P w H s Q u s':=
  fun {σ' H' v u} J rv q=>⟨v,H',J.os,J.bare,J.base,J.hok,rv,q⟩
 cases fl with
 |ret u=>
  obtain⟨v,σ',H',J,rv,q⟩:=hs
  exact fin J rv q
 |next=>
  obtain⟨σ',H',J,q⟩:=hs
  exact fin (v:=V.non) (u:=Value.none) J rfl q
 |brk=>
  obtain⟨_,_,_,q⟩:=hs
  exact False.elim q
 |cont=>
  obtain⟨_,_,_,q⟩:=hs
  exact False.elim q
section
variable {X:Cx}{x:Str}{p pos:Pos}{e:Expr}{es:List Expr}{t:TA}{id T:String}{r:List V→Hp→VK→Prop}
def tCB (r:List V→Hp→VK→Prop) (t:TA):TE:=fun σ H Q=>t σ H fun vs H1=>r vs H1 Q
theorem b0c (hc:CallR X (.builtin id) r) (hg:Gl X x) (hm:X.mg x=none) (hv:bootBuiltins x=some (.builtin id)) (ha:PA X (e::es) t) (hn:x ≠ "__name__" := by decide) (hdb:(x == ("__debug__" : Str))=false:=by decide)
  (he:starEach (e::es) X.env=(false,eval e X.env)::starEach es X.env:=by rfl) (hpl:(backTo pos (starEach es X.env)).any (·.1)=false:=by rfl):PE X (.Call (.Name x p) (e::es) [] pos) (tCB r t):=by
 intro pins s σ H Q I h
 refine wpAny_Call_Name_kw (X9 I hg hm hv ?_ hn hdb)
 exact PyProof.Rows.callWith_builtin1 (thn (ha pos pins s σ H _ I h) fun us s1 ⟨vs,H1,I1,r1,q1⟩=>hc pins s1 σ H1 vs us Q I1 r1 q1) he hpl
theorem b0Q (hc:CallR X (.type T) r) (hg:Gl X x) (hm:X.mg x=none) (hv:bootBuiltins x=some (.type T)) (ha:PA X (e::es) t) (hn:x ≠ "__name__" := by decide) (hdb:(x == ("__debug__" : Str))=false:=by decide)
  (he:starEach (e::es) X.env=(false,eval e X.env)::starEach es X.env:=by rfl) (hpl:(backTo pos (starEach es X.env)).any (·.1)=false:=by rfl):PE X (.Call (.Name x p) (e::es) [] pos) (tCB r t):=by
 intro pins s σ H Q I h
 refine wpAny_Call_Name_kw (X9 I hg hm hv ?_ hn hdb)
 exact PyProof.Rows.callWith_type1 (thn (ha pos pins s σ H _ I h) fun us s1 ⟨vs,H1,I1,r1,q1⟩=>hc pins s1 σ H1 vs us Q I1 r1 q1) he hpl
end
end L2
namespace HT
open PySem PyProof.Rows
section
variable {prog:Program}{w:World}{A:Around}{E:Value→Shared→Prop}{s:Shared}
theorem cat_tup {t b:Addr}{vs ws:List Value}{Q:Value→Shared→Prop}(ht:IsTup s.heap t vs.toArray) (hb:IsTup s.heap b ws.toArray) (hv:vs≠[])
  (h1:ws=[]→Q (.ref t) s) (h2:ws≠[]→Q (.ref s.heap.objs.size) { s with heap:=s.heap.push { cls:=.type "tuple",data:=.seq (vs++ws).toArray } })
  (hsz:vs.length+ws.length≤sizeLine):wpAny (model prog w) A (binaryOp .Add (.ref t) (.ref b)) Q E s:=by
 obtain⟨⟨cls,dd,data,sl⟩,ho,hc,n,hd⟩:=id ht
 obtain⟨⟨cls2,dd2,data2,sl2⟩,ho2,hc2,n2,hd2⟩:=id hb
 simp only at hc hd hc2 hd2
 subst hc hd hc2 hd2
 have e:vs.toArray++ws.toArray=(vs++ws).toArray:=by simp
 by_cases hw:ws=[]
 ·exact concat_meets ⟨_,ho,rfl⟩ ⟨_,ho2,rfl⟩ noFill_tuple_add seq_tuple_add PySem.F.slot_tuple_add PySem.F.entry_tuple_add (PySem.F.args_tuple_add_2 _ _)
   (tuple_addW1 t b vs.toArray ws.toArray n n2 dd dd2 sl sl2 (by simpa using hv) (by simp[hw])) ⟨ho,ho2,h1 hw⟩
 ·refine concat_meets ⟨_,ho,rfl⟩ ⟨_,ho2,rfl⟩ noFill_tuple_add seq_tuple_add PySem.F.slot_tuple_add PySem.F.entry_tuple_add (PySem.F.args_tuple_add_2 _ _)
   (tuple_addW2 t b vs.toArray ws.toArray n n2 dd dd2 sl sl2 (by simpa using hv) (by simpa using hw) (by rw[List.size_toArray,List.size_toArray];exact hsz)) ⟨ho,ho2,?_⟩
  rw[e]
  exact h2 hw
def sIx (n d:Nat):Option Int→Nat
 |none=>d
 |some v=>if v<0 then (v+(n:Int)).toNat else min v.toNat n
theorem sIx_nat (n d k:Nat):sIx n d (some (k:Int))=min k n:=by
 show (if (k:Int)<0 then ((k:Int)+(n:Int)).toNat else min (k:Int).toNat n)=min k n
 rw[if_neg (by omega),Int.toNat_natCast]
theorem b52 (n d:Nat) (hd:d≤n) (o:Option Int):sIx n d o≤n:=by
 cases o with
 |none=>exact hd
 |some v=>
  show (if v<0 then (v+(n:Int)).toNat else min v.toNat n)≤n
  by_cases hv:v<0
  ·rw[if_pos hv];omega
  ·rw[if_neg hv];exact Nat.min_le_right _ _
theorem a7k (v:Int) (n d:Nat):(if v<0 then max (v+(n:Int)) 0 else min v (n:Int))=((sIx n d (some v):Nat):Int):=by
 show (if v<0 then max (v+(n:Int)) 0 else min v (n:Int))=(((if v<0 then (v+(n:Int)).toNat else min v.toNat n):Nat):Int)
 by_cases hv:v<0
 ·simp only[if_pos hv];omega
 ·simp only[if_neg hv];omega
theorem a7S (lo hi:Option Int) (n:Nat):Builtin.Slice.sliceAdjust lo hi 1 (n:Int)=(((sIx n 0 lo:Nat):Int),((sIx n n hi:Nat):Int)):=by
 have h1:¬ ((1:Int)<0):=by omega
 unfold Builtin.Slice.sliceAdjust
 simp only[h1,if_false]
 refine Prod.ext ?_ ?_
 ·cases lo with
  |none=>rfl
  |some v=>exact a7k v n 0
 ·cases hi with
  |none=>rfl
  |some v=>exact a7k v n n
theorem a7I (i j:Nat):Builtin.Slice.slicePlaces (i:Int) (j:Int) 1=j - i:=by
 unfold Builtin.Slice.slicePlaces
 have h1:(1:Int)>0:=by omega
 simp only[h1,if_true,Int.ediv_one]
 split <;> omega
theorem a6e {v:Value}{o:Option Int}{Q:Option Int→Shared→Prop}(p:IsPart v o) (h:Q o s):wpAny (model prog w) A (Builtin.Slice.slicePartIndex v) Q E s:=by
 cases p with
 |none=>exact slicePart_none h
 |int i t=>exact slicePart_int h
theorem a8y {sl:Addr}{vl vu:Value}{lo hi:Option Int}{n:Nat}{Q:Int × Int × Nat→Shared→Prop}(hs:s.heap.IsSliceOf sl vl vu .none) (pl:IsPart vl lo) (pu:IsPart vu hi)
  (h:Q (((sIx n 0 lo:Nat):Int),1,sIx n n hi - sIx n 0 lo) s):wpAny (model prog w) A (Builtin.Slice.sliceApplied (.ref sl) (pure (n:Int))) Q E s:=by
 obtain⟨os,hos,hcs,hds⟩:=id hs
 unfold Builtin.Slice.sliceApplied Builtin.Slice.sliceFields
 refine wpAny_bind (wpAny_bind (wpAny_field hos hds (x:=vl) rfl (wpAny_bind (wpAny_field hos hds (x:=vu) rfl (wpAny_bind (wpAny_field hos hds (x:=.none) rfl (wpAny_pure ?_)))))))
 refine wpAny_bind (slicePart_none ?_)
 show wpAny _ _ (if ((1:Int) == 0)=true then _ else _) _ _ s
 rw[if_neg (by decide)]
 refine wpAny_bind (a6e pl (wpAny_bind (a6e pu (wpAny_bind (wpAny_pure ?_)))))
 show wpAny _ _ (match Builtin.Slice.sliceAdjust lo hi 1 (n:Int) with | (lo,hi)=>pure (lo,(1:Int),Builtin.Slice.slicePlaces lo hi 1)) _ _ s
 rw[a7S lo hi n]
 show wpAny _ _ (pure (((sIx n 0 lo:Nat):Int),(1:Int),Builtin.Slice.slicePlaces ((sIx n 0 lo:Nat):Int) ((sIx n n hi:Nat):Int) 1)) _ _ s
 rw[a7I]
 exact wpAny_pure h
theorem b2p (xs:Array Value) (i k:Nat):((List.range k).filterMap fun (m:Nat)=>xs[((i:Int)+(m:Int)*1).toNat]?).toArray=((xs.toList.drop i).take k).toArray:=by
 have e:(fun (m:Nat)=>xs[((i:Int)+(m:Int)*1).toNat]?)=fun m=>xs[i+m]?:=by
  funext m
  have:((i:Int)+(m:Int)*1).toNat=i+m:=by omega
  rw[this]
 rw[e]
 have:=pick_run xs i k
 rw[List.filterMap_map] at this
 have e2:((fun x=>xs[x]?)∘fun x=>i+x)=fun m=>xs[i+m]?:=rfl
 rw[e2] at this
 rw[this]
theorem getItem_tuple_cut {t sl:Addr}{items:Array Value}{vl vu:Value}{lo hi:Option Int}{Q:Value→Shared→Prop}(ht:IsTup s.heap t items) (hs:s.heap.IsSliceOf sl vl vu .none) (pl:IsPart vl lo) (pu:IsPart vu hi)
  (hw:¬ (sIx items.size 0 lo=0∧sIx items.size items.size hi=items.size))
  (h:Q (.ref s.heap.objs.size) { s with heap:=s.heap.push { cls:=.type "tuple",data:=.seq ((items.toList.drop (sIx items.size 0 lo)).take (sIx items.size items.size hi - sIx items.size 0 lo)).toArray } })
  (hsz:items.size≤sizeLine):wpAny (model prog w) A (getItem (.ref t) (.ref sl)) Q E s:=by
 have htake:sizeOk (.seq ((items.toList.drop (sIx items.size 0 lo)).take (sIx items.size items.size hi - sIx items.size 0 lo)).toArray):=by
  show ((items.toList.drop (sIx items.size 0 lo)).take (sIx items.size items.size hi - sIx items.size 0 lo)).toArray.size≤sizeLine
  rw[List.size_toArray,List.length_take,List.length_drop,Array.length_toList]
  omega
 have hj:sIx items.size items.size hi≤items.size:=b52 _ _ (Nat.le_refl _) hi
 obtain⟨os,hos,hcs,hds⟩:=id hs
 have hTs:s.TypeIs (.ref sl) "slice" := ⟨os,hos,hcs⟩
 unfold getItem
 try with_reducible refine wpAny_holding ?_
 first | refine wpAny_bind (wpAny_pure ?_) | skip
 refine wpAny_bind (wpAny_sequenceKey ht.typeIs (by decide) ?_)
 refine wpAny_bind (wpAny_callSpecial?_slot (name:=Str.ofString "__getitem__") ht.typeIs PyProof.Rows.slot_tuple_getitem
  (wpAny_call_entry PyProof.Rows.slot_tuple_getitem ht.typeIs entry_tuple_getitem ?_ (args_tuple_getitem _ _)))
 show wpAny _ _ (Builtin.Tuple.tupleItemsOf (.ref t) >>= _) _ _ s
 refine wpAny_bind (tupleItemsOf_ ht ?_)
 refine wpAny_bind (wpAny_typeOf hTs ?_)
 rw[if_pos (by decide)]
 refine wpAny_bind (a8y hs pl pu ?_)
 have hno:¬ ((((sIx items.size 0 lo:Nat):Int) == 0&&(1:Int) == 1&&(sIx items.size items.size hi - sIx items.size 0 lo) == items.size)=true):=by
  intro q
  rw[Bool.and_eq_true,Bool.and_eq_true] at q
  have q1:((sIx items.size 0 lo:Nat):Int)=0:=eq_of_beq q.1.1
  have q2:sIx items.size items.size hi - sIx items.size 0 lo=items.size:=eq_of_beq q.2
  exact hw ⟨by omega,by omega⟩
 show wpAny _ _ (if (((sIx items.size 0 lo:Nat):Int) == 0&&(1:Int) == 1&&(sIx items.size items.size hi - sIx items.size 0 lo) == items.size)=true then _ else _) _ _ s
 rw[if_neg hno,b2p]
 first
  | exact wpAny_bind (m:=Builtin.Tuple.tupleExact _) (wpAny_newObj_type (wpAny_pure ⟨_,rfl,wpAny_pure h⟩) htake)
  | exact wpAny_bind (m:=Builtin.Tuple.tupleExact _) (wpAny_newObj_type (wpAny_bind (wpAny_pure (wpAny_pure ⟨_,rfl,wpAny_pure h⟩))) htake)
  | exact wpAny_bind (wpAny_bind (m:=Builtin.Tuple.tupleExact _) (wpAny_newObj_type (wpAny_pure (wpAny_pure ⟨_,rfl,wpAny_pure h⟩)) htake))
  | exact wpAny_bind (wpAny_bind (m:=Builtin.Tuple.tupleExact _) (wpAny_newObj_type (wpAny_pure ⟨_,rfl,wpAny_pure h⟩) htake))
end
end HT
namespace L2
open PySem PySem.Spec PyProof.Rows
abbrev TO:=St→Hp→(Option Int→Hp→Prop)→Prop
def PO (X:Cx) (e:Option Expr) (t:TO):Prop:=
 ∀ (pins:List (Addr × Obj)) (s:Shared) (σ:St) (H:Hp) (Q:Option Int→Hp→Prop),Inv X pins σ H s→t σ H Q →
  wpAny (model X.prog X.w) X.A (evalPart e X.env) (fun u s'=>∃ o H',Inv X pins σ H' s'∧IsPart u o∧Q o H') X.xe s
def a9G:TO:=fun _ H Q=>Q none H
def a9T (t:TE):TO:=fun σ H Q=>t σ H fun x H1=>∃ i,x = .int i∧Q (some i) H1
section
variable {X:Cx}{e:Expr}{te:TE}{lo hi:Option Expr}{tl th:TO}{pos p2:Pos}
theorem a7T:PO X none a9G:=by
 intro pins s σ H Q I h
 rw[evalPart_none]
 exact wpAny_pure ⟨none,H,I,.none,h⟩
theorem a6a (h:PE X e te):PO X (some e) (a9T te):=by
 intro pins s σ H Q I hw
 rw[evalPart_some]
 refine thn (h pins s σ H _ I hw) fun u s1 ⟨x,H1,I1,r1,q1⟩=>?_
 obtain⟨i,rfl,q⟩:=q1
 obtain⟨t,rfl⟩:=r1
 exact⟨some i,H1,I1,.int i t,q⟩
def SlR (X:Cx) (r:V→Option Int→Option Int→Hp→VK→Prop):Prop:=
 ∀ (pins:List (Addr × Obj)) (s:Shared) (σ:St) (H:Hp) (x:V) (v vl vu:Value) (lo hi:Option Int) (sl:Addr) (Q:VK),Inv X pins σ H s→RelV x v→s.heap.IsSliceOf sl vl vu .none→IsPart vl lo→IsPart vu hi→r x lo hi H Q →
  ∃ T id,typeLookup (.type T) "__getitem__" = pure (some (.builtin id))∧s.TypeIs v T∧wpAny (model X.prog X.w) X.A (getItem v (.ref sl)) (EP X pins σ Q) X.xe s
theorem SlR.or {r r':V→Option Int→Option Int→Hp→VK→Prop}(h:SlR X r) (h':SlR X r'):SlR X (fun x lo hi H Q=>r x lo hi H Q∨r' x lo hi H Q):=by
 intro pins s σ H x v vl vu lo hi sl Q I rx hs pl pu q
 rcases q with q | q
 ·exact h pins s σ H x v vl vu lo hi sl Q I rx hs pl pu q
 ·exact h' pins s σ H x v vl vu lo hi sl Q I rx hs pl pu q
def tSl (r:V→Option Int→Option Int→Hp→VK→Prop) (te:TE) (tl th:TO):TE:=fun σ H Q=>te σ H fun x H1=>tl σ H1 fun l H2=>th σ H2 fun u H3=>r x l u H3 Q
theorem a5O {r:V→Option Int→Option Int→Hp→VK→Prop}(hr:SlR X r) (he:PE X e te) (hl:PO X lo tl) (hu:PO X hi th):PE X (.Subscript e (.Slice lo hi none p2) pos) (tSl r te tl th):=by
 intro pins s σ H Q I h
 refine Subscript_ (thn (he pins s σ H _ I h) fun v s1 ⟨x,H1,I1,r1,q1⟩=>?_)
 refine wpAny_Slice (thn (hl pins s1 σ H1 _ I1 q1) fun vl s2 ⟨l,H2,I2,pl,q2⟩=>thn (hu pins s2 σ H2 _ I2 q2) fun vu s3 ⟨u,H3,I3,pu,q3⟩=>?_)
 rw[evalPart_none]
 refine wpAny_pure ?_
 have I4:Inv X pins σ H3 { s3 with heap:=s3.heap.push { cls:=.type "slice",data:=.fields #[vl,vu,.none] } }:=I3.kept (t':=s3.toks) fun b ob q=>Heap.get?_push_of_some _ q
 obtain⟨T,id,hT,ht,hg⟩:=hr pins { s3 with heap:=s3.heap.push { cls:=.type "slice",data:=.fields #[vl,vu,.none] } } σ H3 x v vl vu l u s3.heap.objs.size Q I4 r1 (Heap.IsSliceOf.new ..) pl pu q3
 show wpAny (model X.prog X.w) X.A (subscriptTail e (.Slice lo hi none p2) v (.ref s3.heap.objs.size)) (EP X pins σ Q) X.xe { s3 with heap:=s3.heap.push { cls:=.type "slice",data:=.fields #[vl,vu,.none] } }
 exact tail_any (ops:=[.ref s3.heap.objs.size,v]) ht hT hg (by with_unfolding_all rfl)
def M1 (xs:List V) (lo hi:Option Int):List V:=(xs.drop (HT.sIx xs.length 0 lo)).take (HT.sIx xs.length xs.length hi - HT.sIx xs.length 0 lo)
theorem a6V (xs:List V) (lo hi:Option Int):(M1 xs lo hi).length≤xs.length:=by
 unfold M1
 rw[List.length_take,List.length_drop]
 omega
def b4F (K:PySem.W.Frag):V→Option Int→Option Int→Hp→VK→Prop:=fun x lo hi H Q=>∃ a xs,x = .ref a∧SqT K H a xs ∧
 ¬ (HT.sIx xs.length 0 lo=0∧HT.sIx xs.length xs.length hi=xs.length)∧∀ p,H p=none→Q (.ref p) (upd H p (.tup (M1 xs lo hi)))
theorem a9B:SlR X (b4F X.K):=by
 intro pins s σ H x v vl vu lo hi sl Q I rx hs pl pu h
 obtain⟨a,xs,rfl,hx,hw,q⟩:=h
 cases rx
 obtain⟨its,r,ht,hz⟩:=I.tuple hx
 have hlen:its.toArray.size=xs.length:=by rw[List.size_toArray];exact r.length.symm
 refine⟨"tuple",_,PyProof.Rows.slot_tuple_getitem.lookup,ht.typeIs,?_⟩
 refine HT.getItem_tuple_cut ht hs pl pu (by rw[hlen];exact hw) ?_ (by rw[hlen];exact hz)
 rw[hlen]
 refine⟨.ref s.heap.objs.size,_,I.laid (t':=s.toks) (o:=.tup (M1 xs lo hi)) (fun b ob q=>Heap.get?_push_of_some _ q) (Nat.le_refl _) ?_,rfl,q _ (I.hok.fresh (Nat.le_refl _))⟩
 exact⟨Nat.le_trans (a6V xs lo hi) hz,_,(r.drop (HT.sIx xs.length 0 lo)).take (HT.sIx xs.length xs.length hi - HT.sIx xs.length 0 lo),IsTup.new _ _⟩
def a6o (K:PySem.W.Frag):R2:=fun x y H Q=>∃ a b xs ys,x = .ref a∧y = .ref b∧SqT K H a xs∧SqT K H b ys∧xs≠[]∧xs.length+ys.length≤sizeLine ∧
 (ys=[]→Q (.ref a) H)∧(ys≠[]→∀ p,H p=none→Q (.ref p) (upd H p (.tup (xs++ys))))
theorem Vals.nil_iff {xs:List V}{us:List Value}(r:Vals xs us):us=[]↔xs=[]:=by
 cases r with
 |nil=>simp
 |cons _ _=>simp
theorem b02:OpR X (binaryOp .Add) (a6o X.K):=by
 intro pins s σ H x y v u Q I rx ry h
 obtain⟨a,b,xs,ys,rfl,rfl,ha,hb,hx,hz,q1,q2⟩:=h
 cases rx
 cases ry
 obtain⟨its,r1,p1,_⟩:=I.tuple ha
 obtain⟨its2,r2,p2,_⟩:=I.tuple hb
 refine HT.cat_tup p1 p2 (fun z=>hx (r1.nil_iff.mp z)) (fun z=>⟨.ref a,H,I,rfl,q1 (r2.nil_iff.mp z)⟩) (fun z=>?_) (by rw[←r1.length,←r2.length];exact hz)
 refine⟨.ref s.heap.objs.size,_,I.laid (t':=s.toks) (o:=.tup (xs++ys)) (fun b ob q=>Heap.get?_push_of_some _ q) (Nat.le_refl _) ?_,rfl,q2 (fun w=>z (r2.nil_iff.mpr w)) _ (I.hok.fresh (Nat.le_refl _))⟩
 exact⟨by rw[List.length_append];exact hz,_,r1.append r2,IsTup.new _ _⟩
end
def ixN (n:Nat) (i:Int):Option Nat:=if 0≤i then (if i<n then some i.toNat else none) else if -(n:Int)≤i then some (i+n).toNat else none
def atI {α:Type}(xs:List α) (i:Int):Option α:=(ixN xs.length i).bind fun j=>xs[j]?
theorem a6u {n:Nat}{i:Int}{j:Nat}(h:ixN n i=some j):seqIndex? i n=some j∧j<n ∧ -(n:Int)≤i∧i<n:=by
 unfold ixN at h
 by_cases h0:0≤i
 ·rw[if_pos h0] at h
  by_cases h1:i<n
  ·rw[if_pos h1] at h
   have e:i.toNat=j:=Option.some.inj h
   exact⟨by rw[seqIndex_of h0 h1,e],by omega,by omega,h1⟩
  ·rw[if_neg h1] at h;cases h
 ·rw[if_neg h0] at h
  by_cases h1:-(n:Int)≤i
  ·rw[if_pos h1] at h
   have e:(i+n).toNat=j:=Option.some.inj h
   exact⟨by rw[seqIndex_neg (by omega) h1,e],by omega,h1,by omega⟩
  ·rw[if_neg h1] at h;cases h
theorem a6i {α:Type}{xs:List α}{i:Int}{v:α}(h:atI xs i=some v):∃ j,seqIndex? i xs.length=some j∧xs[j]? = some v∧j<xs.length ∧ -(xs.length:Int)≤i∧i<xs.length:=by
 unfold atI at h
 cases e:ixN xs.length i with
 |none=>rw[e] at h;cases h
 |some j=>
  rw[e] at h
  obtain⟨h1,h2,h3,h4⟩:=a6u e
  exact⟨j,h1,h,h2,h3,h4⟩
theorem a07 {α:Type}(xs:List α) (v:α):atI (xs++[v]) (-1)=some v:=by
 have hl:(xs++[v]).length=xs.length+1:=by simp
 have e:ixN (xs++[v]).length (-1)=some xs.length:=by
  unfold ixN
  rw[hl,if_neg (by decide),if_pos (by omega)]
  congr 1
  omega
 unfold atI
 rw[e]
 show (xs++[v])[xs.length]? = some v
 simp
def a6P (b:Expr):Prop:=∀ o i,subscripted b false o i=operate [o,i] (getItem o i)
def IxR (X:Cx) (r:R2):Prop:=
 ∀ (value slice:Expr) (pins:List (Addr × Obj)) (s:Shared) (σ:St) (H:Hp) (x y:V) (v u:Value) (Q:VK),Inv X pins σ H s→RelV x v→RelV y u→r x y H Q →
  subscripted slice false v u=operate [v,u] (getItem v u)→wpAny (model X.prog X.w) X.A (subscriptTail value slice v u) (EP X pins σ Q) X.xe s
def MtR (X:Cx) (id:String) (r:V→List V→Hp→VK→Prop):Prop:=
 ∀ (pins:List (Addr × Obj)) (s:Shared) (σ:St) (H:Hp) (x:V) (xs:List V) (v:Value) (us:List Value) (Q:VK),Inv X pins σ H s→RelV x v→Vals xs us→r x xs H Q →
  wpAny (model X.prog X.w) X.A (call (.builtin id) (v::us)) (EP X pins σ Q) X.xe s
section
variable {X:Cx}{a b:Expr}{ta tb:TE}{pos:Pos}
theorem IxR.or {r r':R2}(h:IxR X r) (h':IxR X r'):IxR X (fun x y H Q=>r x y H Q∨r' x y H Q):=by
 intro value slice pins s σ H x y v u Q I rx ry q hs
 rcases q with q | q
 ·exact h value slice pins s σ H x y v u Q I rx ry q hs
 ·exact h' value slice pins s σ H x y v u Q I rx ry q hs
theorem a6y {r:R2}(hr:IxR X r) (ha:PE X a ta) (hb:PE X b tb) (hs:a6P b):PE X (.Subscript a b pos) (tOp r ta tb):=by
 intro pins s σ H Q I h
 exact Subscript_ (a43 ha hb I h fun v u s2 x y H2 I2 rx ry q=>hr a b pins s2 σ H2 x y v u Q I2 rx ry q (hs _ _))
def a4U (K:PySem.W.Frag):R2:=fun x y H Q=>∃ p xs i v,x = .ref p∧y = .int i∧SqL K H p xs∧atI xs i=some v∧Q v H
def a46 (K:PySem.W.Frag):R2:=fun x y H Q=>∃ p xs i v,x = .ref p∧y = .int i∧SqT K H p xs∧atI xs i=some v∧Q v H
theorem ix_list:IxR X (a4U X.K):=by
 intro value slice pins s σ H x y v u Q I rx ry h hs
 obtain⟨p,xs,i,z,rfl,rfl,hq,he,q⟩:=h
 cases rx
 obtain⟨t,rfl⟩:=ry
 obtain⟨its,r,pl,hz⟩:=I.list hq
 obtain⟨j,h1,h2,h3,h4,h5⟩:=a6i he
 obtain⟨w,ew,rw'⟩:=r.get h2
 have hl:=r.length
 have hn:=a0a
 have fin:EP X pins σ Q w s:=⟨z,H,I,rw',q⟩
 by_cases h0:0≤i
 ·have hj:i.toNat=j:=by
   rw[seqIndex_of h0 h5] at h1
   exact Option.some.inj h1
  exact item_listR pl.isList h0 (by omega) (by rw[hj];simpa using ew) fin hs
 ·have hj:(i+(its.toArray.size:Int)).toNat=j:=by
   rw[seqIndex_neg (by omega) h4] at h1
   rw[List.size_toArray,←hl]
   exact Option.some.inj h1
  exact subscriptTail_builtinR (x:=w) pl.isList.typeIs slot_list_getitem.lookup
   (wpAny_getItem_list_neg (Q:=fun r s'=>r=w∧EP X pins σ Q r s') pl.isList (by omega) (by rw[List.size_toArray] <;> omega) (by omega) (by rw[hj];simpa using ew) ⟨rfl,fin⟩) hs
theorem b4i:IxR X (a46 X.K):=by
 intro value slice pins s σ H x y v u Q I rx ry h hs
 obtain⟨p,xs,i,z,rfl,rfl,hq,he,q⟩:=h
 cases rx
 obtain⟨t,rfl⟩:=ry
 obtain⟨its,r,pl,hz⟩:=I.tuple hq
 obtain⟨j,h1,h2,h3,h4,h5⟩:=a6i he
 obtain⟨w,ew,rw'⟩:=r.get h2
 have hl:=r.length
 have hn:=a0a
 have fin:EP X pins σ Q w s:=⟨z,H,I,rw',q⟩
 exact subscriptTail_builtinR (x:=w) pl.typeIs slot_tuple_getitem.lookup
  (getItem_tuple (j:=j) (Q:=fun r s'=>r=w∧EP X pins σ Q r s') pl (by omega) (by omega) (by rw[List.size_toArray,←hl];exact h1) (by simpa using ew) ⟨rfl,fin⟩) hs
theorem b1f (its:List Value) (n j:Nat) (u:Value):Obj.mapSeq (·.setIfInBounds j u) { cls:=.type "list",data:=.seq its.toArray n }={ cls:=.type "list",data:=.seq (its.set j u).toArray n }:=by
 simp[Obj.mapSeq]
theorem Inv.lst {pins:List (Addr × Obj)}{σ:St}{H:Hp}{s:Shared}{p:Addr}{xs:List V}(I:Inv X pins σ H s) (h:H p=some (.lst xs)) :
  ∃ (its:List Value) (n:Nat),Vals xs its∧s.heap.get? p=some { cls:=.type "list",data:=.seq its.toArray n }∧xs.length≤sizeLine:=by
 obtain⟨z,its,n,r,e⟩:=I.hok p _ h
 exact⟨its,n,r,e,z⟩
theorem Inv.lstUpd {pins:List (Addr × Obj)}{σ:St}{H:Hp}{s:Shared}{p:Addr}{xs ys:List V}{its its':List Value}{n n':Nat}{f:Obj→Obj}(I:Inv X pins σ H s) (h:H p=some (.lst xs))
  (ho:s.heap.get? p=some { cls:=.type "list",data:=.seq its.toArray n }) (hf:f { cls:=.type "list",data:=.seq its.toArray n }={ cls:=.type "list",data:=.seq its'.toArray n' }) (r:Vals ys its') (hz:ys.length≤sizeLine) (t:Nat) :
  Inv X pins σ (upd H p (.lst ys)) { s with heap:=s.heap.update p f,toks:=t }:=by
 have e:(s.heap.update p f).get? p=some { cls:=.type "list",data:=.seq its'.toArray n' }:=by
  rw[Heap.get?_update_self f ho (by rw[hf] <;> rfl),hf]
 refine I.write (x:=p) (e:=p) (by rw[h];trivial) (.inl rfl) (fun b u hb q=>(Heap.get?_update_other _ _ (Ne.symm hb)).trans q) ⟨_,e⟩ ?_
 exact⟨hz,its',n',r,e⟩
def b2F:V→V→V→Hp→(Hp→Prop)→Prop:=fun o i v H Q=>∃ p xs k j,o = .ref p∧i = .int k∧H p=some (.lst xs)∧ixN xs.length k=some j∧Q (upd H p (.lst (xs.set j v)))
theorem a84:a7N X b2F:=by
 intro pins s σ H o i v ov iv u Q I ro ri rv h
 obtain⟨p,xs,k,j,rfl,rfl,hp,hj,q⟩:=h
 cases ro
 obtain⟨t,rfl⟩:=ri
 obtain⟨its,n,r,ho,hz⟩:=I.lst hp
 obtain⟨h1,h2,h3,h4⟩:=a6u hj
 have hl:=r.length
 have hn:=a0a
 have I':Inv X pins σ (upd H p (.lst (xs.set j v))) { s with heap:=s.heap.update p (Obj.mapSeq (·.setIfInBounds j u)) }:=
  I.lstUpd hp ho (b1f its n j u) (r.set rv j) (by rw[List.length_set];exact hz) s.toks
 by_cases h0:0≤k
 ·have hk:k.toNat=j:=by
   rw[seqIndex_of h0 h4] at h1
   exact Option.some.inj h1
  exact PySem.W.ki_setAt ho h0 (by omega) (by rw[List.size_toArray,←hl];exact h4) (by rw[hk];exact⟨_,I',q⟩)
 ·have hk:(k+(its.toArray.size:Int)).toNat=j:=by
   rw[seqIndex_neg (by omega) h3] at h1
   rw[List.size_toArray,←hl]
   exact Option.some.inj h1
  exact PySem.W.ki_setBack ho (by omega) (by rw[List.size_toArray,←hl];exact h3) (by omega) (by rw[hk];exact⟨_,I',q⟩)
theorem b2l (lo hi:Option Int) (n:Nat):(sliceBounds lo hi none n).1=((HT.sIx n 0 lo:Nat):Int)∧(sliceBounds lo hi none n).2.1=((HT.sIx n n hi:Nat):Int)∧(sliceBounds lo hi none n).2.2=1:=by
 have key:∀ i:Int,(sliceBounds (some i) none none n).1=((HT.sIx n 0 (some i):Nat):Int):=fun i=>by
  simp only[sliceBounds,HT.sIx,Option.getD_none,show (1:Int)>0 by decide,if_true]
  by_cases h:i<0
  ·simp only[h,if_true] <;> omega
  ·simp only[h,if_false] <;> omega
 refine⟨?_,?_,rfl⟩
 ·cases lo with
  |none=>simp[sliceBounds,HT.sIx]
  |some i=>exact key i
 ·cases hi with
  |none=>simp[sliceBounds,HT.sIx]
  |some i=>exact key i
theorem a9e (its:List Value) (lo hi:Option Int):slicePick its.toArray lo hi none=((its.drop (HT.sIx its.length 0 lo)).take (HT.sIx its.length its.length hi - HT.sIx its.length 0 lo)).toArray:=by
 obtain⟨h1,h2,h3⟩:=b2l lo hi its.toArray.size
 unfold slicePick
 rw[h1,h2,h3]
 simp only[sliceRange_one,pick_run,List.size_toArray] <;> rfl
def b1q (K:PySem.W.Frag):V→Option Int→Option Int→Hp→VK→Prop:=fun x lo hi H Q=>∃ a xs,x = .ref a∧SqL K H a xs∧∀ p,H p=none→Q (.ref p) (upd H p (.lst (M1 xs lo hi)))
theorem a74:SlR X (b1q X.K):=by
 intro pins s σ H x v vl vu lo hi sl Q I rx hs pl pu h
 obtain⟨a,xs,rfl,hx,q⟩:=h
 cases rx
 obtain⟨its,r,ht,hz⟩:=I.list hx
 have hlen:=r.length
 refine⟨"list",_,slot_list_getitem.lookup,ht.isList.typeIs,?_⟩
 refine wpAny_getItem_list_slice ht.isList hs pl pu .none (by simp) ?_ (by rw[List.size_toArray] <;> omega)
 rw[a9e,←hlen]
 refine⟨.ref s.heap.objs.size,_,I.laid (t':=s.toks) (o:=.lst (M1 xs lo hi)) (fun b ob q=>Heap.get?_push_of_some _ q) (Nat.le_refl _) ?_,rfl,q _ (I.hok.fresh (Nat.le_refl _))⟩
 exact⟨Nat.le_trans (a6V xs lo hi) hz,_,0,(r.drop (HT.sIx xs.length 0 lo)).take (HT.sIx xs.length xs.length hi - HT.sIx xs.length 0 lo),Heap.get?_push_size _ rfl⟩
theorem call_len_seq:CallR X (.builtin "len") (fun xs H Q=>∃ p ys,xs=[.ref p]∧(SqL X.K H p ys∨SqT X.K H p ys)∧Q (.int ys.length) H):=by
 intro pins s σ H xs us Q I r h
 obtain⟨p,ys,rfl,hq,q⟩:=h
 obtain⟨u,rfl,rx⟩:=Z5 r
 cases rx
 have hn:=a0a
 rcases hq with hq | hq
 ·obtain⟨its,r',pl,hz⟩:=I.list hq
  have hlen:=r'.length
  exact Calls.call_len_list pl.isList (by simp only[List.size_toArray] <;> omega) ⟨.int ys.length,H,I.tok _,⟨s.toks+1,by rw[List.size_toArray,hlen]⟩,q⟩
 ·obtain⟨its,r',pl,hz⟩:=I.tuple hq
  have hlen:=r'.length
  exact len_tuple pl (by simp only[List.size_toArray] <;> omega) ⟨.int ys.length,H,I.tok _,⟨s.toks+1,by rw[List.size_toArray,hlen]⟩,q⟩
theorem a87:CallR X (.builtin "len") (fun xs H Q=>∃ z,xs=[.str z]∧z.length≤sizeLine∧Q (.int z.length) H):=by
 intro pins s σ H xs us Q I r h
 obtain⟨z,rfl,hz,q⟩:=h
 obtain⟨u,rfl,t,rfl⟩:=Z5 r
 have hn:=a0a
 exact len_str (by omega) ⟨.int z.length,H,I.tok _,⟨_,rfl⟩,q⟩
theorem CallR.or {f:Value}{r r':List V→Hp→VK→Prop}(h:CallR X f r) (h':CallR X f r'):CallR X f (fun xs H Q=>r xs H Q∨r' xs H Q):=by
 intro pins s σ H xs us Q I rs q
 rcases q with q | q
 ·exact h pins s σ H xs us Q I rs q
 ·exact h' pins s σ H xs us Q I rs q
theorem T4:CallR X (.type "tuple") (fun xs H Q=>∃ p ys,xs=[.ref p]∧((SqL X.K H p ys∧∀ l,H l=none→Q (.ref l) (upd H l (.tup ys)))∨(SqT X.K H p ys∧Q (.ref p) H))):=by
 intro pins s σ H xs us Q I r h
 obtain⟨p,ys,rfl,h⟩:=h
 obtain⟨u,rfl,rx⟩:=Z5 r
 cases rx
 rcases h with ⟨hq,q⟩ | ⟨hq,q⟩
 ·obtain⟨its,r',pl,hz⟩:=I.list hq
  have hlen:=r'.length
  refine call_tuple_list pl.isList (fun h' kp=>?_) (by simp only[List.size_toArray] <;> omega)
  have I1:Inv X pins σ H { s with heap:=h' }:=I.kept (t':=s.toks) kp
  have I2:Inv X pins σ (upd H h'.objs.size (.tup ys)) { s with heap:=h'.push { cls:=.type "tuple",data:=.seq its.toArray } }:=
   I1.laid (t':=s.toks) (fun b o e=>Heap.get?_push_of_some _ e) (Nat.le_refl _) (show ObjOk X.prog X.w _ _ _ (.tup ys) from ⟨hz,its,r',IsTup.new _ _⟩)
  exact⟨.ref h'.objs.size,_,I2,rfl,q _ (I1.hok.fresh (Nat.le_refl _))⟩
 ·obtain⟨its,r',pl,hz⟩:=I.tuple hq
  exact call_tuple_same pl ⟨.ref p,H,I,rfl,q⟩
def tyV (K:PySem.W.Frag) (T:String) (x:V) (H:Hp):Prop:=match x with
 |.str _=>T = "str"
 |.int _=>T = "int"
 |.ref p=>(T = "list" ∧ ∃ xs,SqL K H p xs)∨(T = "tuple" ∧ ∃ o,K.lookup p=some o∧o.cls = .type "tuple" ∧ o.dict=none) ∨
   (T = "dict" ∧ ((∃ kvs,H p=some (.dK kvs))∨∃ kvs,H p=some (.dT kvs)))∨(T = "set" ∧ ∃ S n,H p=some (.set S n))
 |_=>False
theorem b51 {pins:List (Addr × Obj)}{σ:St}{H:Hp}{s:Shared}{T:String}{x:V}{v:Value}(I:Inv X pins σ H s) (r:RelV x v) (ty:tyV X.K T x H) :
  s.TypeIs v T∧∀ a,v = .ref a→∃ ob,s.heap.get? a=some ob∧ob.dict=none:=by
 cases x with
 |str z=>
  obtain⟨t,rfl⟩:=r
  cases (show T = "str" from ty)
  exact⟨typeIs_str s z t,fun _ e=>nomatch e⟩
 |int i=>
  obtain⟨t,rfl⟩:=r
  cases (show T = "int" from ty)
  exact⟨typeIs_int s i t,fun _ e=>nomatch e⟩
 |ref p=>
  cases r
  rcases ty with ⟨rfl,xs,hq⟩ | ⟨rfl,o,hk,hc,hd⟩ | ⟨rfl,hk⟩ | ⟨rfl,S,n,hk⟩
  ·obtain⟨its,_,pl,_⟩:=I.list hq
   refine⟨pl.isList.typeIs,fun a e=>?_⟩
   cases e
   obtain⟨o,n,e,c,hd,_⟩:=pl
   exact⟨o,e,hd⟩
  ·refine⟨⟨o,I.kIn p o hk,hc⟩,fun a e=>?_⟩
   cases e
   exact⟨o,I.kIn _ o hk,hd⟩
  ·have z:∃ o,s.heap.get? p=some o∧o.ExactDict:=by
    rcases hk with ⟨kvs,hk⟩ | ⟨kvs,hk⟩
    ·obtain⟨_,_,_,_,o,_,_,e,ex,_⟩:=I.hok p _ hk
     exact⟨o,e,ex⟩
    ·obtain⟨_,_,_,_,o,_,_,e,ex,_⟩:=I.hok p _ hk
     exact⟨o,e,ex⟩
   obtain⟨o,e,ex⟩:=z
   refine⟨⟨o,e,ex.1⟩,fun a e2=>?_⟩
   cases e2
   exact⟨o,e,ex.2.1⟩
  ·obtain⟨o,_,_,_,e,ex,_⟩:=I.hok p _ hk
   refine⟨⟨o,e,ex.1⟩,fun a e2=>?_⟩
   cases e2
   exact⟨o,e,ex.2.1⟩
 |_=>exact False.elim ty
def tBM (K:PySem.W.Frag) (T:String) (r:V→List V→Hp→VK→Prop) (to:TE) (t:TA):TE:=fun σ H Q=>to σ H fun x H1=>tyV K T x H1∧t σ H1 fun xs H2=>r x xs H2 Q
variable {o e:Expr}{es:List Expr}{to:TE}{t:TA}{name:Str}{apos cpos:Pos}{T id:String}{r:V→List V→Hp→VK→Prop}
theorem a8D (pa:PlainAttrs T) (slot:Slot T name id) (hty:typeOf (.builtin id)=pure (.type "method_descriptor")) (hm:MtR X id r) (ho:PE X o to) (ha:PA X (e::es) t)
  (hbase:attributeBase o name X.env (eval o X.env)=eval o X.env:=by rfl)
  (hfew:((backTo cpos (starEach (e::es) X.env)).all (fun x=>!x.1)&&(backToKw cpos (keywordEach [] X.env)).all (fun x=>x.1.isSome)
   && decide ((e::es).length+([]:List Keyword).length+(if ([]:List Keyword).isEmpty then 0 else 1)<30))=true:=by rfl)
  (hline:(apos.endLine == cpos.line)=true:=by rfl) (hs:starEach (e::es) X.env=(false,eval e X.env)::starEach es X.env:=by rfl) (hplain:(backTo cpos (starEach es X.env)).any (·.1)=false:=by rfl) :
  PE X (.Call (.Attribute o name apos) (e::es) [] cpos) (tBM X.K T r to t):=by
 intro pins s σ H Q I h
 refine wpAny_Call_method_late hbase hfew hline rfl (thn (ho pins s σ H _ I h) fun v s1 ⟨x,H1,I1,r1,ty,q1⟩=>?_)
 obtain⟨h1,h2⟩:=b51 I1 r1 ty
 refine⟨T,id,pa,slot,hty,h1,h2,?_⟩
 have hA:=ha cpos pins s1 σ H1 _ I1 q1
 rw[hs] at hA ⊢
 refine Calls.callWith_builtin (by show (false||(backTo cpos (starEach es X.env)).any (·.1))=false;rw[hplain] <;> rfl) (Calls.evalArgs_plain ?_)
 exact thn hA fun us s2 ⟨vs,H2,I2,r2,q2⟩=>hm pins s2 σ H2 x vs v us Q I2 r1 r2 q2
end
def MtM (X:Cx) (id:String) (r:V→List V→Hp→VK→Prop):Prop:=
 ∀ (pins:List (Addr × Obj)) (s:Shared) (σ:St) (H:Hp) (x:V) (xs:List V) (v:Value) (us:List Value) (Q:VK),Inv X pins σ H s→RelV x v→Vals xs us→r x xs H Q →
  wpAny (model X.prog X.w) X.A (call (.builtin id) (v::us)) (EP X pins σ Q) X.xe s
theorem Vals.one:∀ {x:V}{us:List Value},Vals [x] us→∃ u,us=[u]∧RelV x u:=by
 intro x us h
 cases h with
 |cons r t=>
  cases t
  exact⟨_,rfl,r⟩
theorem Vals.reverse {xs:List V}{us:List Value}(h:Vals xs us):Vals xs.reverse us.reverse:=by
 induction h with
 |nil=>exact .nil
 |cons r t ih=>rw[List.reverse_cons,List.reverse_cons];exact Vals.append ih (.cons r .nil)
theorem Vals.rep {xs:List V}{us:List Value}(h:Vals xs us):∀ k:Nat,Vals (List.replicate k xs).flatten (List.replicate k us).flatten
 |0=>.nil
 |k+1=>by
  rw[List.replicate_succ,List.replicate_succ,List.flatten_cons,List.flatten_cons]
  exact Vals.append h (Vals.rep h k)
theorem a8b (its:List Value):∀ (k:Nat) (acc:List Value),
  List.foldl (fun x1 x2=>x1++x2) acc.toArray (List.replicate k its.toArray)=(acc++(List.replicate k its).flatten).toArray
 |0,acc=>by simp
 |k+1,acc=>by
  have e:acc.toArray++its.toArray=(acc++its).toArray:=by simp
  have e2:(acc++its)++(List.replicate k its).flatten=acc++(List.replicate (k+1) its).flatten:=by
   rw[List.replicate_succ,List.flatten_cons,List.append_assoc]
  rw[←e2,←a8b its k (acc++its),←e,List.replicate_succ,List.foldl_cons]
section
variable {X:Cx}{pins:List (Addr × Obj)}{σ:St}{H:Hp}{s:Shared}{l b:Addr}{xs ys zs:List V}
theorem Inv.lset {its its':List Value}{n:Nat}{f:Array Value→Array Value}{t':Nat}(I:Inv X pins σ H s) (hH:H l=some (.lst xs))
  (e:s.heap.get? l=some { cls:=.type "list",data:=.seq its.toArray n }) (hf:f its.toArray=its'.toArray) (hv:Vals ys its') (hz:ys.length≤sizeLine) :
  Inv X pins σ (upd H l (.lst ys)) { s with heap:=s.heap.update l (Obj.mapSeq f),toks:=t' }:=by
 have q:=PySem.IsL.update e f
 rw[hf] at q
 refine I.write (x:=l) (e:=l) (by rw[hH];exact trivial) (.inl rfl) (fun b' u hb hu=>(Heap.get?_update_other s.heap (Obj.mapSeq f) (Ne.symm hb)).trans hu) ⟨_,q⟩ ?_
 exact⟨hz,its',_,hv,q⟩
theorem Inv.lnew {its:List Value}{t':Nat}(I:Inv X pins σ H s) (hv:Vals ys its) (hz:ys.length≤sizeLine) :
  Inv X pins σ (upd H s.heap.objs.size (.lst ys)) { s with heap:=s.heap.push { cls:=.type "list",data:=.seq its.toArray },toks:=t' }:=
 I.laid (fun _ _ q=>Heap.get?_push_of_some _ q) (Nat.le_refl _) ⟨hz,its,0,hv,Heap.get?_push_size _ rfl⟩
theorem Inv.fresh (I:Inv X pins σ H s):H s.heap.objs.size=none:=I.hok.fresh (Nat.le_refl _)
theorem Inv.lstM (I:Inv X pins σ H s) (hH:H l=some (.lst xs)):xs.length≤sizeLine∧∃ (its:List Value) (n:Nat),Vals xs its∧xs.length=its.length∧s.heap.get? l=some { cls:=.type "list",data:=.seq its.toArray n }:=by
 obtain⟨z,its,n,r,e⟩:=I.hok l _ hH
 exact⟨z,its,n,r,r.length,e⟩
theorem a5v {n:Nat}(h:n≤sizeLine):Builtin.List.listTooLong n=false:=by
 unfold Builtin.List.listTooLong
 exact decide_eq_false (by omega)
end
section
variable {X:Cx}
def b3C:V→List V→Hp→VK→Prop:=fun x vs H Q=>∃ l xs y,x = .ref l∧vs=[y]∧H l=some (.lst xs)∧xs.length<sizeLine∧Q .non (upd H l (.lst (xs++[y])))
theorem a8E:MtM X "list.append" b3C:=by
 intro pins s σ H x vs v us Q I rx rv h
 obtain⟨l,xs,y,rfl,rfl,hH,hz,q⟩:=h
 cases rx
 obtain⟨u,rfl,ru⟩:=rv.one
 obtain⟨z,its,n,r,hl,e⟩:=I.lstM hH
 refine call_meets F.slot_list_append ⟨_,e,rfl⟩ F.entry_list_append (F.args_list_append_2 _ _) (PySem.list_append l its.toArray n u (by rw[List.size_toArray];omega)) ⟨e,?_⟩
 refine⟨.non,_,I.lset (its':=its++[u]) hH e (by simp) (r.append (.cons ru .nil)) ?_,rfl,q⟩
 rw[List.length_append,List.length_singleton]
 omega
def b0L:V→List V→Hp→VK→Prop:=fun x vs H Q=>∃ l b xs zs,x = .ref l∧vs=[.ref b]∧H l=some (.lst xs)∧H b=some (.lst zs)∧xs.length+zs.length≤sizeLine∧Q .non (upd H l (.lst (xs++zs)))
theorem b0A:MtM X "list.extend" b0L:=by
 intro pins s σ H x vs v us Q I rx rv h
 obtain⟨l,b,xs,zs,rfl,rfl,hH,hB,hz,q⟩:=h
 cases rx
 obtain⟨u,rfl,ru⟩:=rv.one
 cases ru
 obtain⟨z,its,n,r,hl,e⟩:=I.lstM hH
 obtain⟨z2,its2,n2,r2,hl2,e2⟩:=I.lstM hB
 have hsz:its.toArray.size+its2.toArray.size≤sizeLine:=by rw[List.size_toArray,List.size_toArray];omega
 have hlong:¬ (!its.toArray.isEmpty&&Builtin.List.listTooLong (its.toArray.size+its2.toArray.size))=true:=by
  rw[a5v hsz,Bool.and_false]
  exact Bool.false_ne_true
 refine call_meets F.slot_list_extend ⟨_,e,rfl⟩ F.entry_list_extend (F.args_list_extend_2 _ _)
  (AutoSeq1.list_extend_list_list_0 l its.toArray n b its2.toArray n2 hlong (by rw[List.size_toArray];omega) (by omega)) ⟨e,e2,?_⟩
 refine⟨.non,_,I.lset (its':=its++its2) hH e (by simp) (r.append r2) ?_,rfl,q⟩
 rw[List.length_append]
 omega
def a4l:R2:=fun x y H Q=>∃ l b xs zs,x = .ref l∧y = .ref b∧H l=some (.lst xs)∧H b=some (.lst zs)∧xs.length+zs.length≤sizeLine∧∀ p,H p=none→Q (.ref p) (upd H p (.lst (xs++zs)))
theorem a0f:OpR X (binaryOp .Add) a4l:=by
 intro pins s σ H x y v u Q I rx ry h
 obtain⟨l,b,xs,zs,rfl,rfl,hH,hB,hz,q⟩:=h
 cases rx
 cases ry
 obtain⟨z,its,n,r,hl,e⟩:=I.lstM hH
 obtain⟨z2,its2,n2,r2,hl2,e2⟩:=I.lstM hB
 refine PySem.P.add_list e e2 ?_ (by rw[List.size_toArray,List.size_toArray];omega)
 have ea:its.toArray++its2.toArray=(its++its2).toArray:=by simp
 rw[ea]
 exact⟨.ref _,_,I.lnew (t':=s.toks) (r.append r2) (by rw[List.length_append];omega),rfl,q _ I.fresh⟩
def a5c:R2:=fun x y H Q=>∃ l k xs,x = .ref l∧y = .int k∧H l=some (.lst xs) ∧ -(2 ^ 63)≤k∧k<2 ^ 63∧xs.length*k.toNat≤sizeLine ∧
 ∀ p,H p=none→Q (.ref p) (upd H p (.lst (List.replicate k.toNat xs).flatten))
theorem b3K {α:Type}(xs:List α) (k:Nat):(List.replicate k xs).flatten.length=k*xs.length:=by
 induction k with
 |zero=>simp
 |succ k ih=>rw[List.replicate_succ,List.flatten_cons,List.length_append,ih,Nat.succ_mul,Nat.add_comm]
theorem a5w:OpR X (binaryOp .Mult) a5c:=by
 intro pins s σ H x y v u Q I rx ry h
 obtain⟨l,k,xs,rfl,rfl,hH,h1,h2,hz,q⟩:=h
 cases rx
 obtain⟨t,rfl⟩:=ry
 obtain⟨z,its,n,r,hl,e⟩:=I.lstM hH
 have hlen:its.toArray.size*k.toNat≤sizeLine:=by rw[List.size_toArray,←hl];exact hz
 have hcap:¬ its.toArray.size*k.toNat>(2 ^ 63 - 1) / 8:=by
  have:(sizeLine:Nat)≤(2 ^ 63 - 1) / 8:=by decide
  omega
 have hfit:¬ (!Builtin.List.listFitsIndex k)=true:=by
  rw[fitsIndex_both h1 h2]
  exact Bool.false_ne_true
 have hlong:¬ Builtin.List.listTooLong (its.toArray.size*k.toNat)=true:=by
  rw[a5v hlen]
  exact Bool.false_ne_true
 have hnew:List.foldl (fun x1 x2=>x1++x2) #[] (List.replicate (if its.toArray.isEmpty=true then 0 else k.toNat) its.toArray)=(List.replicate k.toNat its).flatten.toArray:=by
  have f0:∀ m:Nat,List.foldl (fun x1 x2=>x1++x2) #[] (List.replicate m its.toArray)=(List.replicate m its).flatten.toArray:=fun m=>by
   have:=a8b its m []
   rw[List.nil_append] at this
   exact this
  rw[f0]
  cases its with
  |nil=>simp
  |cons a r'=>rw[if_neg (by simp)]
 refine wpAny_binaryOp_repeat_ref (T := "list") (U := "int") (by decide) ⟨_,e,rfl⟩ (fun s'=>typeIs_int s' k t) noFill_list_mul F.fills_int_mul F.slot_int_rmul repeat_list F.slot_int_index.lookup
  (call_meets F.slot_int_rmul (typeIs_int s k t) F.entry_int_rmul (F.args_int_rmul_2 _ _) (int___rmul___int_list k t l its.toArray n)
   ⟨e,rfl,⟨_,e,rfl⟩,call_meets F.slot_list_mul ⟨_,e,rfl⟩ F.entry_list_mul (F.args_list_mul_2 _ _) (AutoListH.list___mul___list_int_3 l its.toArray n k t hfit hcap hlong) ⟨e,?_⟩⟩)
 rw[hnew]
 exact⟨.ref _,_,I.lnew (t':=s.toks) (r.rep k.toNat) (by rw[b3K,Nat.mul_comm];exact hz),rfl,q _ I.fresh⟩
end
end L2
namespace Att
open PySem PySem.W PySem.Calls PyProof.Rows
theorem b4G {P:Params}{h:Heap}:∀ (ns:List Int) (vs:List Value),WellAll P h vs (ns.map WData.int)→IntsAre vs ns:=by
 intro ns
 induction ns with
 |nil=>
  intro vs w
  rw[List.map_nil] at w
  cases w
  exact .nil
 |cons n ns ih=>
  intro vs w
  rw[List.map_cons] at w
  cases w with
  |cons a b=>
   cases a
   exact .cons _ _ (ih _ b)
theorem b2o {l:OpenLaw}{n:Nat}(hn:l.most=some n) {P:Params}{h:Heap}{args:List WData}{vals:List Value}
  (hpre:l.row.toRowW.claim.pre args=true) (hwl:WellAll P h vals args) :
  ∃ a vs ns,vals=[Value.ref a]∧args=[WData.list (ns.map WData.int)]∧h.get? a=some { cls:=.type "list",data:=.seq vs.toArray }∧IntsAre vs ns∧ns.length≤n:=by
 have hsh:WShape.hasAll [] args [.list .int]=true:=(pre_splitW hpre).1
 have hc:l.pre.holds [] { args:=args }=true:=(pre_splitW hpre).2
 obtain⟨d,r,rfl,h1,h2⟩:=hasAllW_cons hsh
 obtain rfl:=hasAllW_nil h2
 obtain⟨xs,rfl,h3⟩:=hasW_list h1
 obtain⟨ns,rfl⟩:=items_int h3
 have hlen:ns.length≤n:=by
  unfold OpenLaw.pre at hc
  have h4:(WTm.not (.lt (.lit (.int (n:Int))) (.len (.arg 0)))).holds [] { args:=[.list (ns.map .int)] }=true:=by
   have h4:=(holds_andW hc).1
   rw[hn] at h4
   exact h4
  have h5:=condW_of h4 (w_not (w_lt w_lit (w_len_list (w_arg rfl))))
  rw[List.length_map] at h5
  refine Nat.le_of_not_lt fun q=>?_
  have q':(n:Int)<((ns.length:Nat):Int):=by omega
  first
   | (rw[decide_eq_true q'] at h5;exact absurd h5 (by decide))
   | (simp at h5;omega)
 cases hwl with
 |cons w1 w2=>
  cases w2
  cases w1 with
  |list ho hall=>exact⟨_,_,ns,rfl,rfl,ho,b4G ns _ hall,hlen⟩
theorem b1K (l:OpenLaw) (args:List WData):l.row.toRowW.claim.post args (.bool true) args=true:=
 postW_of (r:=l.row.toRowW) (X:=(true == true))
  (show WShape.has [] (.bool true) .bool=true by first | rfl | decide | simp[WShape.has,WShape.arms,WShape.armsAll])
  (show (WTm.eq .res (.lit (.bool true))).value [] { args:=args,res:=some (.bool true),after:=args }=some (.bool (true == true)) from w_eq_bool (w_res rfl) w_lit) rfl
theorem attach_call {l:OpenLaw}{n:Nat}{q:Program}{loose:List Str}{XP:(Str→Option Value)→Heap→Prop}{YP:World→Heap→Prop}{d:DefRec}
  (hn:l.most=some n) (hdf:d.params.defaults=[])
  (call:∀ (w:World) (s₀ s₁:Shared) (mg mb:Str→Option Value) (fa:Addr) (o:Obj) (pm cd doc:Value) (a:Addr) (vs:List Value) (ns:List Int),
   Ground q loose [] XP w s₀ mg mb s₁.heap→YP w s₁.heap →
   s₁.heap.get? fa=some o→o.data = .func (docDef d.name d.params d.body d.scope pm cd doc)→s₁.heap.CodeRec cd d.name→mg d.name=some (.ref fa) →
   s₁.heap.get? a=some { cls:=.type "list",data:=.seq vs.toArray }→IntsAre vs ns→ns.length≤n→s₁.gens = #[] →
   codeAny (model l.prog w) callerA (.call (.ref fa) ⟨[.ref a],[]⟩) (fun r s'=>r = .ok (.ret (.bool true))∧OldK s₁.heap s'.heap∧s'.os=s₁.os∧AllBare s'.gens) s₁) :
  WalkO q loose XP YP l.row.toRowW d [] (fun f vs=>PySem.call f vs):=by
 intro w s₀ s₁ mg mb G Y fa o pm cd doc dV kV ho hd hcd hD hmg hg args vals as hpre hlay hrd hwl hlo
 obtain rfl:dV = .none:=Dflts.none hD hdf
 obtain rfl:kV = .none:=Dflts.noKw hD
 obtain⟨a,vs,ns,rfl,rfl,hobj,hints,hlen⟩:=b2o hn hpre hwl
 refine enter_call (codeAny_mono (call w s₀ s₁ mg mb fa o pm cd doc a vs ns G Y ho (fd_plain hd) hcd hmg hobj hints hlen hg) fun r s' hq=>?_)
 obtain⟨rfl,h2,h3,h4⟩:=hq
 exact⟨.inl ⟨.bool true,.bool true,[],rfl,fun _=>rfl,.bool true,b1K l _,fun _=>⟨List.Pairwise.nil,fun _ hm=>(nomatch hm)⟩⟩,h2,h3,h4⟩
end Att
namespace L2
open PySem PySem.Spec PyProof.Rows
theorem a79:∀ {vs:List Value}{ns:List Int},IntsAre vs ns→Vals (ns.map V.int) vs
 |_,_,.nil=>.nil
 |_,_,.cons n t h=>.cons ⟨t,rfl⟩ (a79 h)
def a5d (H:Hp):Prop:=∀ b,H b=none∨∃ o xs,H b=some (.frz o (.lst xs))
theorem a9N {P:Program}{w:World}{K:PySem.W.Frag}{mg mb:Str→Option Value}{CX:CXT}{k:Nat}{fa a:Addr}{fd:FuncData}{x:Str}{sp:Sp}{s₁:Shared}{vs:List Value}{ns:List Int}
  (KX:K.In s₁.heap) (hns:s₁.heap.Ns mainGlobals mg) (hb:s₁.heap.Ns builtinsNs mb) (hbb:∀ x:Str,x ≠ "__name__" → mb x=bootBuiltins x) (hlim:s₁.heap.NoLimit) (hg:s₁.gens = #[])
  (ha:s₁.heap.get? a=some { cls:=.type "list",data:=.seq vs.toArray }) (hi:IntsAre vs ns) (hl:ns.length≤sizeLine) (hr:Room k callerA)
  (F:∀ base:Heap,K.In base→base.Ns mainGlobals mg→FnOk P w K mg base CX k fa fd [x] sp) (hbind:∀ (s:Shared) (u:Value),BindsTo s fd ⟨[u],[]⟩ [(x,u)])
  (hsp:∀ H:Hp,a5d H→SqL K H a (ns.map V.int)→sp [.ref a] H (fun v _=>v = .bl true) fun _ _ _=>False)
  (hCX:∀ H e s',CX [] H s₁ (fun _ _ _=>False) e s'→False) :
  codeAny (model P w) callerA (.call (.ref fa) ⟨[.ref a],[]⟩) (fun r s'=>r = .ok (.ret (.bool true))∧OldK s₁.heap s'.heap∧s'.os=s₁.os∧AllBare s'.gens) s₁:=by
 have rv:=a79 hi
 have lenV:=hi.length
 have core:∀ H:Hp,a5d H→SqL K H a (ns.map V.int)→HOk P w H s₁.heap→(∀ b,H b≠none→b=a)→(H a≠none→K.lookup a=none) →
   codeAny (model P w) callerA (.call (.ref fa) ⟨[.ref a],[]⟩) (fun r s'=>r = .ok (.ret (.bool true))∧OldK s₁.heap s'.heap∧s'.os=s₁.os∧AllBare s'.gens) s₁:=by
  intro H hO hS hok hA hK
  have base_of:∀ {b:Addr}{o:Obj},s₁.heap.get? b=some o→H b=none→(R4 s₁.heap H).get? b=some o:=fun e n=>b4c e n
  have noA:∀ {b:Addr}{o:Obj}{es:Array DictEntry}{ep:Nat},s₁.heap.get? b=some o→o.data = .dict es ep→H b=none:=fun {b o es ep} e d=>by
   cases q:H b with
   |none=>rfl
   |some u=>
    have e':b=a:=hA b (by rw[q];simp)
    subst e'
    rw[ha] at e;cases e
    have d':Data.seq vs.toArray _=Data.dict es ep:=d
    cases d'
  have nsK:∀ {b:Addr}{m:Str→Option Value},s₁.heap.Ns b m→(R4 s₁.heap H).Ns b m:=fun {b m} ⟨o,es,ep,e,d,r⟩=>⟨o,es,ep,base_of e (noA e d),d,r⟩
  have hKb:K.In (R4 s₁.heap H):=fun b o e=>base_of (KX b o e) (by
   cases q:H b with
   |none=>rfl
   |some u=>
    have e':b=a:=hA b (by rw[q];simp)
    subst e'
    rw[hK (by rw[q];simp)] at e;cases e)
  have hM:Mod K mg (R4 s₁.heap H):=⟨hKb,nsK hns,⟨mb,nsK hb,hbb⟩,let ⟨mc,h1,h2⟩:=hlim;⟨mc,nsK h1,h2⟩⟩
  have e0:Env0 P w K mg (R4 s₁.heap H) callerA [] s₁ H:=⟨rfl,hM,fun b o e=>b2E e,Nat.le_of_eq (b2k _ _),trivial,fun b hb=>absurd (show b∈([]:List Addr) from hb) (by simp),hok,.of_eq hg⟩
  refine codeAny_mono ((F _ hKb (nsK hns)).run callerA [] s₁ H ⟨[.ref a],[]⟩ [.ref a] [.ref a] _ _ hr e0 (hbind s₁ (.ref a)) (.cons rfl .nil) (hsp H hO hS)) fun r s' h=>?_
  cases r with
  |error e=>exact(hCX H e s' h).elim
  |ok fl=>
   cases fl with
   |next=>exact False.elim h
   |brk=>exact False.elim h
   |cont=>exact False.elim h
   |ret u=>
    obtain⟨v,H',os,bare,un,hok',r',q⟩:=h
    have q':v = .bl true:=q
    subst q'
    obtain rfl:u=Value.bool true:=r'
    refine⟨rfl,OldK.of_keep fun b o e=>?_,os,bare⟩
    cases q:H b with
    |none=>exact un.keep b o e q (by intro z;exact absurd (show b∈([]:List Addr) from z) (by simp)) (by simp)
    |some u=>
     rcases hO b with z | ⟨ob,xs,z⟩
     ·rw[q] at z;cases z
     ·have z2:=un.frzs b ob _ z
      obtain⟨e1,_⟩:=hok b _ z
      obtain⟨e2,_⟩:=hok' b _ z2
      rw[e] at e1;cases e1
      exact e2
 cases hk:K.lookup a with
 |some o=>
  have e:=KX a o hk
  rw[ha] at e
  cases e
  refine core (fun _=>none) (fun _=>.inl rfl) (.inr ⟨_,vs.toArray,_,hk,rfl,rfl,rfl,by rw[List.size_toArray,lenV];exact hl,by simpa using rv⟩) (fun b u z=>by have z':(none:Option HO)=some u:=z;cases z') (fun b z=>absurd rfl z) fun z=>absurd rfl z
 |none=>
  refine core (fun b=>if b=a then some (.frz { cls:=.type "list",data:=.seq vs.toArray } (.lst (ns.map V.int))) else none) (fun b=>?_) (.inl (.inr ⟨{ cls:=.type "list",data:=.seq vs.toArray },if_pos rfl⟩)) (fun b u z=>?_) (fun b z=>?_) fun _=>hk
  ·by_cases hb:b=a
   ·exact .inr ⟨_,_,if_pos hb⟩
   ·exact .inl (if_neg hb)
  ·by_cases hb:b=a
   ·have z':=(if_pos hb).symm.trans z
    cases z'
    subst hb
    exact⟨ha,by rw[List.length_map];exact hl,vs,_,rv,ha⟩
   ·have z':=(if_neg hb).symm.trans z
    cases z'
  ·by_cases hb:b=a
   ·exact hb
   ·exact absurd (if_neg hb) z
theorem walk_of {l:PySem.W.OpenLaw}{n k:Nat}{q:Program}{loose:List Str}{XP:(Str→Option Value)→Heap→Prop}{YP:World→Heap→Prop}{d:DefRec}{K:Params→PySem.W.Frag}{CX:World→CXT}{sp:World→Sp}{x:Str}
  (hn:l.most=some n) (hn2:n≤sizeLine) (hdf:d.params.defaults=[]) (hr:Room k callerA)
  (hY:∀ (w:World) (h:Heap),YP w h→(K w.params).In h)
  (F:∀ (w:World) (mg:Str→Option Value) (fa:Addr) (h:Heap),(K w.params).In h→h.Ns mainGlobals mg→mg d.name=some (.ref fa) →
   ∃ fd:FuncData,(∀ (s:Shared) (u:Value),BindsTo s fd ⟨[u],[]⟩ [(x,u)]) ∧
    ∀ base:Heap,(K w.params).In base→base.Ns mainGlobals mg→FnOk l.prog w (K w.params) mg base (CX w) k fa fd [x] (sp w))
  (hsp:∀ (w:World) (H:Hp) (a:Addr) (ns:List Int),ns.length≤n→a5d H→SqL (K w.params) H a (ns.map V.int)→sp w [.ref a] H (fun v _=>v = .bl true) fun _ _ _=>False)
  (hCX:∀ (w:World) (H:Hp) (s:Shared) (e:Value) (s':Shared),CX w [] H s (fun _ _ _=>False) e s'→False) :
  PySem.W.WalkO q loose XP YP l.row.toRowW d [] (fun f vs=>PySem.call f vs):=by
 refine Att.attach_call hn hdf fun w s₀ s₁ mg mb fa o pm cd doc a vs ns G Y ho hd hcd hmg hobj hints hlen hg=>?_
 have KX:=hY w _ Y
 obtain⟨fd,hb,hF⟩:=F w mg fa _ KX G.T.g hmg
 exact a9N KX G.T.g G.T.b G.T.builtins G.T.nolimit hg hobj hints (Nat.le_trans hlen hn2) hr hF hb (fun H hO hS=>hsp w H a ns hlen hO hS) fun H e s'=>hCX w H s₁ e s'
def V4 (s:Stmt):Arguments:=match s with
 |.FunctionDef _ a _ _ _ _ _ _ _ _=>a
 |_=>{ posonlyargs:=[],args:=[],vararg:=none,kwonlyargs:=[],kw_defaults:=[],kwarg:=none,defaults:=[] }
def M5 (s:Stmt):List Stmt:=match s with
 |.FunctionDef _ _ b _ _ _ _ _ _ _=>b
 |_=>[]
def m5 (s:Stmt):Scope:=match s with
 |.FunctionDef _ _ _ _ _ _ sc _ _ _=>sc
 |_=>{ kind:=.function,names:=[],isGenerator:=false,isCoroutine:=false }
abbrev CX0:CXT:=fun _ _ _ _ _ _=>False
abbrev E0:XK:=fun _ _ _=>False
theorem b3v {X:Cx}:a48 CX0 X E0:=fun _ _ _ _ _ _ _ h=>h.elim
structure Fun (K:PySem.W.Frag) (x qual:Str) (st:Stmt) (f:Addr) (fd:FuncData):Prop where
 ex:∃ (oc:Value) (od:Option Addr) (kV doc pm:Value) (an:Option Addr) (cdv ct:Value) (osl:Array (Option Value)),
  fd=PySem.W.fnOf x qual (V4 st) (M5 st) (m5 st) .none kV doc pm an cdv ct∧K.lookup f=some ⟨oc,od,.func fd,osl⟩∧PySem.W.codeIn K cdv qual=true
 kp:PySem.W.keepIn K (.ref f)=true
section
variable {P:Program}{w:World}{K:PySem.W.Frag}{mg:Str→Option Value}{base:Heap}
theorem Fun.ok {x qual:Str}{st:Stmt}{f:Addr}{fd:FuncData}{N ps:List Str}{k:Nat}{sp:Sp}(F:Fun K x qual st f fd) (S:FnScope N ps (m5 st)) (len:∀ vs H Q E,sp vs H Q E→vs.length=ps.length)
  (hbody:∀ (cdv:Value) (A:Around) (outer:List Env) (s:Shared) (H:Hp) (vs:List V) (Q:VK) (E:XK),Room k (A.deeper (envOfC qual (m5 st) s.heap.objs.size f cdv))→sp vs H Q E →
   ∃ t,PSs (Q6 CX0 P w K mg base N qual (m5 st) f cdv A outer s H E).nox (M5 st) t∧t { nx:=fun _ H'=>Q .non H',rt:=Q } (start N vs) H):FnOk P w K mg base CX0 (k+1) f fd ps sp:=by
 obtain⟨oc,od,kV,doc,pm,an,cdv,ct,osl,rfl,lk,hcd⟩:=F.ex
 refine a89 lk hcd S len fun A outer s H vs Q E hr hsp=>?_
 obtain⟨t,h,q⟩:=hbody cdv A outer s H vs Q E hr hsp
 exact⟨t,h.nox,q⟩
theorem Fun.binds {x qual:Str}{st:Stmt}{f:Addr}{fd:FuncData}{ps:List Str}(F:Fun K x qual st f fd)
  (h:∀ (kV doc pm:Value) (an:Option Addr) (cdv ct:Value) (us:List Value),us.length=ps.length→bindArgs (PySem.W.fnOf x qual (V4 st) (M5 st) (m5 st) .none kV doc pm an cdv ct) ⟨us,[]⟩=pure (ps.zip us)):Binds K fd ps []:=by
 obtain⟨oc,od,kV,doc,pm,an,cdv,ct,osl,rfl,lk,hcd⟩:=F.ex
 exact .all (h kV doc pm an cdv ct)
theorem b4u {x qual:Str}{st:Stmt}{f:Addr}{oc:Value}{od an:Option Addr}{osl:Array (Option Value)}{kV doc pm cdv ct:Value}(l:K.lookup f=some ⟨oc,od,.func (PySem.W.fnOf x qual (V4 st) (M5 st) (m5 st) .none kV doc pm an cdv ct),osl⟩)
  (c:PySem.W.codeIn K cdv qual=true) (k:PySem.W.keepIn K (.ref f)=true):Fun K x qual st f (PySem.W.fnOf x qual (V4 st) (M5 st) (m5 st) .none kV doc pm an cdv ct):=⟨⟨oc,od,kV,doc,pm,an,cdv,ct,osl,rfl,l,c⟩,k⟩
end
section
variable {X:Cx}
theorem pv (i:Nat) {x:Str}{pos:Pos}(hN:X.N[i]? = some x:=by rfl) (hv:Vis X.env.scope x:=by first | exact Or.inl rfl | exact Or.inr (Or.inl rfl) | exact Or.inr (Or.inr rfl)) (hd:(x == ("__debug__" : Str))=false:=by decide)
  (hcd:(x == ("__classdict__" : Str))=false:=by decide):PE X (.Name x pos) (R8 i):=a8W hN hv hd hcd
end
theorem b37 {A B:Prop}(h:B):if false=true then A else B:=by
 rw[if_neg Bool.false_ne_true]
 exact h
theorem b25 {A B:Prop}(h:A):if true=true then A else B:=by
 rw[if_pos rfl]
 exact h
def blk (X:Cx) (N':List Str) (scope:Scope) (cl:List (Str × Addr)) (C:Addr) (s0:Shared) (H0:Hp) (ex:List Addr):Cx:=
 { X with N:=N',env:=compEnvC scope cl C X.env,s₀:=s0,H₀:=H0,outer:=X.stack,stack:=X.stack,ex:=ex,fn:=fun _=>false,pn:=[],xe:=fun _ _=>False }
def a0l (X:Cx) (ifs:List Expr) (t:TT):Prop:=
 ∀ (pins:List (Addr × Obj)) (s:Shared) (σ:St) (H:Hp) (Q:Bool→Hp→Prop),Inv X pins σ H s→t σ H Q →
  wpAny (model X.prog X.w) X.A (forIn ifs true fun c r=>if r=true then do let ok ←isTrue c X.env (eval c X.env);pure (ForInStep.yield ok) else pure (ForInStep.yield r)) (TP X pins σ Q) X.xe s
def b2z:TT:=fun _ H Q=>Q true H
theorem b5m {X:Cx}:a0l X [] b2z:=fun pins s σ H Q I h=>wpAny_tests_nil ⟨H,I,h⟩
theorem b05 {X:Cx}{c:Expr}{t:TT}(h:PT X c t):a0l X [c] t:=fun pins s σ H Q I q=>wpAny_tests_one (h pins s σ H Q I q)
def D5 (n:Nat) (idx:List Nat) (σ:St):St:=List.replicate n none++idx.map fun i=>(σ[i]?).join
def a0i (n:Nat) (idx:List Nat) (wi:TI) (g:TG) (tc:TT) (te:TE):TE:=fun σ H Q=>wi σ H fun J H1=>∀ D,H1 D=none →
 ∃ W:Nat→Nat→Hp→Prop,(∃ m,W 0 m (upd H1 D (.lst [])))∧∀ i m H,W i m H →
  (J.stop i H∧Q (.ref D) H)∨(J.go i H∧∀ x H',J.yld i H x H'→g x (D5 n idx σ) H' fun σ2 H2=>(σ2.length=(D5 n idx σ).length∧∀ (j:Nat) (v:V),(D5 n idx σ)[j]? = some (some v)→σ2[j]? = some (some v))∧tc σ2 H2 fun b H3=>
   if b=true then te σ2 H3 fun v H4=>∃ ys,H4 D=some (.lst ys)∧ys.length<sizeLine∧∃ m',m'<m∧W (i+1) m' (upd H4 D (.lst (ys++[v]))) else ∃ m',m'<m∧W (i+1) m' H3)
structure CompOk (X:Cx) (scope:Scope) (cl:List (Str × Addr)) (N':List Str) (n:Nat) (idx:List Nat):Prop where
 clos:closureFor scope X.env=pure cl
 sub:∀ x c,cl.lookup x=some c→X.env.cells.lookup x=some c
 cell:∀ y∈scope.names,y.2 ≠ .cell
 kind:scope.kind = .function
 names:∀ y∈scope.names,y.2 = .local→scope.names.lookup y.1=some .local
 has:∀ x,((relabel scope X.env).names.lookup x=some .cell∨(relabel scope X.env).names.lookup x=some .free)→∃ c,cl.lookup x=some c
 len:N'.length=n+idx.length
 cap:∀ (j i:Nat) (y:Str),idx[j]? = some i→N'[n+j]? = some y→X.N[i]? = some y∧(X.env.scope.names.lookup y=some .cell∨X.env.scope.names.lookup y=some .free)∧((relabel scope X.env).names.lookup y=some .cell∨(relabel scope X.env).names.lookup y=some .free)
section
variable {X:Cx}{scope:Scope}{cl:List (Str × Addr)}{N':List Str}{n:Nat}{idx:List Nat}{tg iter elt:Expr}{ifs:List Expr}{pos:Pos}{wi:TI}{g:TG}{tc:TT}{te:TE}
theorem b5x (σ:St):(D5 n idx σ).length=n+idx.length:=by simp[D5]
theorem b00 {σ:St}{j:Nat}{v:V}(h:(D5 n idx σ)[j]? = some (some v)):∃ k i,j=n+k∧idx[k]? = some i∧σ[i]? = some (some v):=by
 unfold D5 at h
 by_cases hj:j<n
 ·rw[List.getElem?_append_left (by simpa using hj)] at h
  simp[hj] at h
 ·rw[List.getElem?_append_right (by simpa using Nat.le_of_not_lt hj)] at h
  simp only[List.length_replicate,List.getElem?_map] at h
  refine⟨j - n,?_⟩
  cases e:idx[j - n]? with
  |none=>rw[e] at h;simp at h
  |some i=>
   rw[e] at h
   simp only[Option.map_some,Option.some.injEq] at h
   exact⟨i,by omega,rfl,by simpa using Option.join_eq_some_iff.mp h⟩
theorem b5W (k:CompOk X scope cl N' n idx) {pins:List (Addr × Obj)}{s2:Shared}{σ:St}{H2:Hp}{fp:List Addr}{C:Addr}{h4:Heap}{t4:Nat}{m:Str→Option Value}(I:Inv X pins σ H2 s2) (f:∀ b∈fp,G5 X pins H2 b) (fo:∀ b∈fp,b<s2.heap.objs.size)
  (hC:s2.heap.objs.size+1≤C) (ns:h4.Ns C m) (keep:∀ b o,s2.heap.get? b=some o→h4.get? b=some o) (hD:h4.get? s2.heap.objs.size=some { cls:=.type "list",data:=.seq ([]:List Value).toArray }) :
  Inv (blk X N' scope cl C s2 H2 fp) [] (D5 n idx σ) (upd H2 s2.heap.objs.size (.lst [])) { s2 with heap:=h4,toks:=t4 }:=by
 have fresh:H2 s2.heap.objs.size=none:=I.hok.fresh (Nat.le_refl _)
 have fC:H2 C=none:=I.hok.fresh (by omega)
 have cellsub:∀ x c,(blk X N' scope cl C s2 H2 fp).env.cells.lookup x=some c→X.env.cells.lookup x=some c:=fun x c e=>k.sub x c e
 have cellLt:∀ x c,X.env.cells.lookup x=some c→c<s2.heap.objs.size:=fun x c e=>by
  obtain⟨v,q⟩:=I.cell x c e
  exact q.lt
 have ok:(blk X N' scope cl C s2 H2 fp).Ok:={
  mod:=I.ok.mod
  kind:=k.kind
  glob:=I.ok.glob
  blt:=I.ok.blt
  above:=by show s2.heap.objs.size≤C;omega
  inj:=fun x y c e1 e2=>I.ok.inj x y c (cellsub x c e1) (cellsub y c e2)
  has:=fun x h=>k.has x h
  cab:=fun x c h _=>by cases h
  hd:=I.ok.hd
  frames:=I.ok.frames
  stk:=.inl rfl
  exf:=fun b hb=>⟨Nat.ne_of_lt (Nat.lt_of_lt_of_le (fo b hb) (by show s2.heap.objs.size≤C;omega)),fun x c e z=>(f b hb).2.2.2.2.1 x c (cellsub x c e) z⟩
  bs:=fun b o e=>I.bs b o e
  bsz:=Nat.le_trans I.ok.bsz I.sz
  noex:=fun b o e hb=>by
   rcases(f b hb).2.2.2.1 with z | z
   ·exact I.ok.noex b o e z
   ·exact absurd (Nat.lt_of_lt_of_le (Heap.lt_size e) (Nat.le_trans I.ok.bsz z)) (Nat.lt_irrefl _)
  exfs:=fun b hb z=>by
   rcases List.mem_cons.mp (I.stkSub b z) with y | y
   ·exact(f b hb).2.1 y
   ·exact(f b hb).2.2.1 y
  funs:=I.stack
  frf:=I.stkFree }
 refine⟨ok,rfl,I.bare,Un.laid keep (Nat.le_refl _) fresh,⟨m,ns,fun j y v e1 e2 e3=>?_⟩,fun x c e=>?_,?_,fun x c e=>?_,fun p hp=>(by cases hp),I.hok.laid keep (Nat.le_refl _) ⟨Nat.zero_le _,[],_,.nil,hD⟩,?_⟩
 ·obtain⟨kk,i,rfl,hk,hv⟩:=b00 e2
  obtain⟨hN,ok,hkind⟩:=k.cap kk i y hk e1
  obtain⟨c,hc⟩:=k.has y hkind
  obtain⟨m0,_,hl⟩:=I.loc
  have hc':=k.sub y c hc
  obtain⟨u,r,l⟩:=hl i y v hN hv (by rcases ok with z | z;exact .inr (.inl z);exact .inr (.inr z))
  refine⟨u,r,.inr ⟨hkind,c,hc,?_⟩⟩
  rcases l with ⟨z,_⟩ | ⟨_,c',e',q⟩
  ·have z':X.env.scope.names.lookup y=some .local:=z
   rcases ok with w | w <;> · rw[w] at z';cases z'
  ·rw[hc'] at e';cases e'
   obtain⟨o,ho,hd⟩:=q
   exact⟨o,keep _ o ho,hd⟩
 ·obtain⟨v,q⟩:=I.cell x c (cellsub x c e)
  obtain⟨o,ho,hd⟩:=q
  exact⟨v,o,keep c o ho,hd⟩
 ·show upd H2 s2.heap.objs.size (.lst []) C=none
  rw[u3 (Nat.ne_of_gt hC)];exact fC
 ·have:=cellLt x c (cellsub x c e)
  rw[u3 (Nat.ne_of_lt this)]
  exact I.freeC x c (cellsub x c e)
 ·rw[b5x,←k.len];rfl
theorem a9I {prog:Program}{w:World}{A:Around}{R:Result→Shared→Prop}{s:Shared}{elt target iter:Expr}{ifs:List Expr}{scope:Scope}{pos:Pos}{it acc:Value}{env:Env}(I:Nat→Shared→Prop)
  (turn:∀ n s,I n s→wpAny (model prog w) A (pyNext it) (fun r s1=>match r with
   |none=>R (.ok .next) s1
   |some v=>wpAny (model prog w) A (letOwnedTupleGo target it v) (fun _ s1'=>wpAny (model prog w) A (assign target env v) (fun _ s2=>
     wpAny (model prog w) A (forIn ifs true fun c r=>if r=true then do let ok ←isTrue c env (eval c env);pure (ForInStep.yield ok) else pure (ForInStep.yield r)) (fun ok s3=>
      if ok=true then wpAny (model prog w) A (eval elt env) (fun x s4=>
       wpAny (model prog w) A (call (.builtin "list.append") [acc,x]) (fun _ s5=>∃ m,m<n∧I m s5) (notedBy (model prog w) A env fun e s'=>R (.error e) s') s4) (notedBy (model prog w) A env fun e s'=>R (.error e) s') s3
      else ∃ m,m<n∧I m s3) (notedBy (model prog w) A env fun e s'=>R (.error e) s') s2) (notedBy (model prog w) A env fun e s'=>R (.error e) s') s1') (notedBy (model prog w) A env fun e s'=>R (.error e) s') s1) (notedBy (model prog w) A env fun e s'=>R (.error e) s') s)
  (n:Nat) (h:I n s) :
  codeAny (model prog w) A (.compLoop (.ListComp elt [⟨target,iter,ifs,0⟩] scope pos) 0 it acc env) R s:=by
 refine codeAny_loop rfl I (fun n s hI=>?_) n h
 show wpAny _ A ((compTurn (.ListComp elt [⟨target,iter,ifs,0⟩] scope pos) 0 it acc env).onRaise (fun x=>do noteFrame x env;theTreesLotGoes x)) _ _ s
 refine wpAny_noted ?_
 rw[compTurn_list]
 refine wpAny_bind (wpAny_standAt (wpAny_bind (wpAny_mono (turn n s hI) (fun r s₁ h₁=>?_) fun _ _ h'=>h')))
 cases r with
 |none=>exact wpAny_pure h₁
 |some v=>
  refine wpAny_bind (wpAny_mono h₁ (fun _ s1' h1'=>?_) fun _ _ h'=>h')
  refine wpAny_bind (wpAny_mono h1' (fun _ s₂ h₂=>wpAny_bind (wpAny_mono h₂ (fun ok s₃ h₃=>?_) fun _ _ h'=>h')) fun _ _ h'=>h')
  cases ok with
  |false=>exact wpAny_pure ⟨rfl,h₃⟩
  |true=>
   exact wpAny_bind (wpAny_bind (wpAny_mono h₃ (fun x s₄ h₄=>wpAny_bind (wpAny_mono h₄ (fun _ s₅ h₅=>wpAny_pure (wpAny_pure ⟨rfl,h₅⟩)) fun _ _ h'=>h')) fun _ _ h'=>h'))
end
section
variable {X:Cx}{scope:Scope}{cl:List (Str × Addr)}{N':List Str}{n:Nat}{idx:List Nat}{tg iter elt:Expr}{ifs:List Expr}{pos:Pos}{wi:TI}{g:TG}{tc:TT}{te:TE}
theorem a7R {use:Option (Value→Sem Unit)}{Q':Value→Shared→Prop}{pos2:Pos}(hc:X.calm=true) (k:CompOk X scope cl N' n idx) (hi:PI X tg iter wi)
  (hg:∀ C s0 H0 ex,PG (blk X N' scope cl C s0 H0 ex) tg g) (ht:∀ C s0 H0 ex,a0l (blk X N' scope cl C s0 H0 ex) ifs tc) (he:∀ C s0 H0 ex,PE (blk X N' scope cl C s0 H0 ex) elt te)
  (hs:∀ x,foldedSetIterable iter X.env x=pure x) {pins:List (Addr × Obj)}{s:Shared}{σ:St}{H:Hp}{Q:VK}(I0:Inv X pins σ H s) (h:a0i n idx wi g tc te σ H Q)
  (last:∀ (C D:Addr) (s':Shared) (H':Hp) (m:Str→Option Value),Inv X pins σ H' s'→G5 X pins H' C→s'.heap.Ns C m→Q (.ref D) H'→compPost (model X.prog X.w) X.A X.xe use Q' (.ref D) C (.ok .next) s') :
  wpAny (model X.prog X.w) X.A (comprehension (.ListComp elt [⟨tg,iter,ifs,0⟩] scope pos) scope X.env pos2 (newList []) false (eval iter X.env) use) Q' X.xe s:=by
 refine wpAny_comprehension_free (use:=use) rfl hs k.clos k.kind k.names (thn (hi pins s σ H _ I0 h) fun v s1 h1=>thn h1 fun itv s2 h2=>?_)
 obtain⟨it,fp,tn,J,H2,e,I2,T,st2,f2,hW⟩:=h2
 subst e
 have fo2:∀ b∈fp,b<s2.heap.objs.size:=fun b hb=>by
  obtain⟨o,e,_⟩:=T.obj _ _ st2 b hb
  exact Heap.lt_size e
 obtain⟨W,⟨m0,w0⟩,turn⟩:=hW s2.heap.objs.size (I2.hok.fresh (Nat.le_refl _))
 refine wpAny_newObj_type (wpAny_newFunctionEnv k.cell (by intro y hy;simp at hy) (fun h4 hns4 hsb4=>?_) k.kind)
 dsimp only at hns4 hsb4 ⊢
 generalize hH3:s2.heap.push { cls:=.type "list",dict:=none,data:=.seq ([]:List Value).toArray }=h3 at hns4 hsb4 ⊢
 have hCe:h3.objs.size=s2.heap.objs.size+1:=by rw[←hH3,Heap.size_push]
 have k34:∀ b o,b≠h3.objs.size→h3.get? b=some o→h4.get? b=some o:=fun b o nb e=>hsb4.extBut b o nb (Heap.get?_push_of_some _ e)
 have keep:∀ b o,s2.heap.get? b=some o→h4.get? b=some o:=fun b o e=>k34 b o (Nat.ne_of_lt (by rw[hCe];exact Nat.lt_succ_of_lt (Heap.lt_size e))) (by rw[←hH3];exact Heap.get?_push_of_some _ e)
 have hD:h4.get? s2.heap.objs.size=some { cls:=.type "list",data:=.seq ([]:List Value).toArray }:=k34 _ _ (Nat.ne_of_lt (by rw[hCe];exact Nat.lt_succ_self _)) (by rw[←hH3];exact Heap.get?_push_size _ rfl)
 have I4:=b5W k I2 f2 fo2 (Nat.le_of_eq hCe.symm) hns4 keep hD (t4:=s2.toks+([]:List (Str × Value)).length)
 have stat:∀ {H':Hp},(∀ b∈fp,H' b=none)→∀ b∈fp,G5 (blk X N' scope cl h3.objs.size s2 H2 fp) [] H' b:=fun hn b hb=>
  ⟨hn b hb,Nat.ne_of_lt (by rw[hCe];exact Nat.lt_succ_of_lt (fo2 b hb)),fun z=>(List.mem_cons.mp (I2.stkSub b z)).elim (f2 b hb).2.1 (f2 b hb).2.2.1,.inl hb,fun x c e=>(f2 b hb).2.2.2.2.1 x c (k.sub x c e),fun p hp=>(by cases hp)⟩
 have fr4:∀ b∈fp,upd H2 s2.heap.objs.size (.lst []) b=none:=fun b hb=>by rw[u3 (Nat.ne_of_lt (fo2 b hb))];exact(f2 b hb).1
 have fin:∀ (s':Shared) (H':Hp),Inv (blk X N' scope cl h3.objs.size s2 H2 fp) [] (D5 n idx σ) H' s'→Q (.ref s2.heap.objs.size) H' →
   compPost (model X.prog X.w) X.A X.xe use Q' (.ref s2.heap.objs.size) h3.objs.size (.ok .next) s':=fun s' H' I' q=>by
  obtain⟨m',hn',_⟩:=I'.loc
  have B:=I'.base
  refine last _ _ s' H' m' ?_ (I2.fpOk (by rw[hCe];exact Nat.le_succ _) I'.free) hn' q
  refine I2.call' (s':=s') (ch:=fp) (show s'.os=s2.os from I'.os) ⟨fun b o e nn hb hx=>B.keep b o e nn hb hx,fun b o e nn hb hx=>B.slot b o e nn hb hx,B.free,fun b o e hx=>B.there b o e hx,B.tups,B.frzs,B.tbls⟩ I'.hok I'.bare fun b hb=>?_
  obtain⟨p1,p2,p3,p4,p5,p6⟩:=f2 b hb
  exact⟨p4,p2,p5,p6⟩
 have loop:∀ s4:Shared,s4={ s2 with heap:=h4,toks:=s2.toks+([]:List (Str × Value)).length } →
   codeAny (model X.prog X.w) X.A (.compLoop (.ListComp elt [⟨tg,iter,ifs,0⟩] scope pos) 0 (.ref it) (.ref s2.heap.objs.size) (compEnvC scope cl h3.objs.size X.env)) (compPost (model X.prog X.w) X.A X.xe use Q' (.ref s2.heap.objs.size) h3.objs.size) s4:=by
  rintro s4 rfl
  refine a9I (fun m s'=>∃ i H',Inv (blk X N' scope cl h3.objs.size s2 H2 fp) [] (D5 n idx σ) H' s'∧tn i s'.heap∧(∀ b∈fp,H' b=none)∧W i m H') ?_ m0 ⟨0,_,I4,T.keep _ _ _ st2 (fun b _ o e=>keep b o e),fr4,w0⟩
  rintro m s3 ⟨i,H3,I3,st3,fr3,w3⟩
  rcases turn i m H3 w3 with ⟨stop,q⟩ | ⟨go,step⟩
  ·refine wpAny_mono (T.done (blk X N' scope cl h3.objs.size s2 H2 fp) rfl rfl rfl hc i [] s3 _ H3 (fun _ _=>False) I3 (stat fr3) st3 stop) (fun r s5 ⟨hr,I5⟩=>?_) fun _ _ z=>z.elim
   subst hr
   exact fin s5 H3 I5 q
  ·refine wpAny_mono (T.item (blk X N' scope cl h3.objs.size s2 H2 fp) rfl rfl rfl hc i [] s3 _ H3 (fun _ _=>False) I3 (stat fr3) st3 go) (fun r s5 ⟨u,hr,h5⟩=>?_) fun _ _ z=>z.elim
   subst hr
   refine wpAny_mono h5 (fun _ s6 ⟨x,H6,I6,r6,y6,st6,fr6⟩=>?_) fun _ _ z=>z.elim
   have I6':=I6.pinned (stat fr6) (T.obj _ _ st6)
   have again:∀ {σ7:St}{H7:Hp}{s7:Shared},Inv (blk X N' scope cl h3.objs.size s2 H2 fp) ([]++a0r fp s6.heap) σ7 H7 s7→σ7.length=(D5 n idx σ).length→(∀ (j:Nat) v,(D5 n idx σ)[j]? = some (some v)→σ7[j]? = some (some v))→(∃ m',m'<m∧W (i+1) m' H7) →
     ∃ m',m'<m∧∃ i H',Inv (blk X N' scope cl h3.objs.size s2 H2 fp) [] (D5 n idx σ) H' s7∧tn i s7.heap∧(∀ b∈fp,H' b=none)∧W i m' H':=fun {σ7 H7 s7} I7 hl hw ⟨m',hm,w7⟩=>by
    refine⟨m',hm,i+1,H7,(I7.unpinned).weak hl.symm hw,T.keep _ _ _ st6 fun b hb o e=>(I7.pin (b,o) (List.mem_append_right _ (List.mem_append_right _ (a0R hb e)))).1,fun b hb=>?_,w7⟩
    obtain⟨o,e,d⟩:=T.obj _ _ st6 b hb
    exact(I7.pin (b,o) (List.mem_append_right _ (List.mem_append_right _ (a0R hb e)))).2.1
   refine wpAny_mono (hg _ _ _ _ _ s6 _ H6 x u _ I6' r6 (step x H6 y6)) (fun _ s7 ⟨σ7,H7,I7,⟨hl,hw⟩,q7⟩=>?_) fun _ _ z=>z.elim
   refine wpAny_mono (ht _ _ _ _ _ s7 σ7 H7 _ I7 q7) (fun ok s8 ⟨H8,I8,q8⟩=>?_) fun _ _ z=>z.elim
   cases ok with
   |false=>
    rw[if_neg Bool.false_ne_true] at q8 ⊢
    exact again I8 hl hw q8
   |true=>
    rw[if_pos rfl] at q8 ⊢
    refine wpAny_mono (he _ _ _ _ _ s8 σ7 H8 _ I8 q8) (fun v9 s9 ⟨x9,H9,I9,r9,ys,e9,l9,q9⟩=>?_) fun _ _ z=>z.elim
    refine wpAny_mono (a8E (X:=blk X N' scope cl h3.objs.size s2 H2 fp) _ s9 σ7 H9 (.ref s2.heap.objs.size) [x9] (.ref s2.heap.objs.size) [v9] (fun _ H'=>H'=upd H9 s2.heap.objs.size (.lst (ys++[x9]))) I9 rfl (.cons r9 .nil) ⟨s2.heap.objs.size,ys,x9,rfl,rfl,e9,l9,rfl⟩) (fun _ s10 ⟨_,H10,I10,_,e10⟩=>?_) fun _ _ z=>z.elim
    subst e10
    exact again I10 hl hw q9
 exact codeAny_compStart_list (loop _ rfl) (T.self _ 0 _ _ _ (T.keep _ _ _ st2 (fun b _ o e=>keep b o e)) (loop _ rfl))
theorem a6F (hc:X.calm=true) (k:CompOk X scope cl N' n idx) (hi:PI X tg iter wi)
  (hg:∀ C s0 H0 ex,PG (blk X N' scope cl C s0 H0 ex) tg g) (ht:∀ C s0 H0 ex,a0l (blk X N' scope cl C s0 H0 ex) ifs tc) (he:∀ C s0 H0 ex,PE (blk X N' scope cl C s0 H0 ex) elt te)
  (hs:∀ x,foldedSetIterable iter X.env x=pure x:=by intro _;rfl):PE X (.ListComp elt [⟨tg,iter,ifs,0⟩] scope pos) (a0i n idx wi g tc te):=by
 intro pins s σ H Q I0 h
 rw[eval_ListComp]
 refine a7R (use:=none) (Q':=EP X pins σ Q) hc k hi hg ht he hs I0 h ?_
 intro C D' s' H' m IX fC hn q
 exact⟨m,hn,fun h' hsb=>⟨.ref D',H',IX.turned (t':=s'.toks) (it:=C) (h':=h') (fun b o nb e=>(hsb.2 b nb).trans e) fC.1 fC.2.1 fC.2.2.2.1 fC.2.2.2.2.1 fC.2.2.2.2.2,rfl,q⟩⟩
theorem a7E {i:Nat}{y:Str}{py spos:Pos}(hN:X.N.Nodup) (hi':X.N[i]? = some y) (hx:Loc X.env.scope y) (hc:X.calm=true) (k:CompOk X scope cl N' n idx) (hi:PI X tg iter wi)
  (hg:∀ C s0 H0 ex,PG (blk X N' scope cl C s0 H0 ex) tg g) (ht:∀ C s0 H0 ex,a0l (blk X N' scope cl C s0 H0 ex) ifs tc) (he:∀ C s0 H0 ex,PE (blk X N' scope cl C s0 H0 ex) elt te)
  (hs:∀ x,foldedSetIterable iter X.env x=pure x:=by intro _;rfl) (hsw:swapsWith (.ListComp elt [⟨tg,iter,ifs,0⟩] scope pos) (some (.Name y py)) spos.line X.env=pure true:=by rfl)
  (hf:X.fn y=true∨X.env.scope.names.lookup y=some .local:=by first | exact .inl rfl | exact .inr rfl | assumption) :
  PS X (.Assign [.Name y py] (.ListComp elt [⟨tg,iter,ifs,0⟩] scope pos) spos) (a0s (a0i n idx wi g tc te) (M3 i)):=by
 intro pins s σ H D I h
 rw[exec_Assign_Name_used _ _ _ _ hsw]
 refine wpAny_bind (wpAny_standAt (wpAny_bind ?_))
 show wpAny _ X.A (do let _ ←comprehension (.ListComp elt [⟨tg,iter,ifs,0⟩] scope pos) scope X.env _ (newList []) false (eval iter X.env) (some (assign (.Name y py) X.env))) _ _ s
 refine wpAny_bind (wpAny_mono (a7R (use:=some (assign (.Name y py) X.env)) (Q':=fun _ s'=>SP X pins D .next s') hc k hi hg ht he hs I h ?_) (fun _ s' hq=>wpAny_pure (wpAny_pure hq)) fun _ _ e=>e)
 intro C D' s' H' m IX fC hn q
 show wpAny _ X.A (assign (.Name y py) X.env (.ref D')) _ _ _
 obtain⟨o,es,ep,ho,hd,hr⟩:=hn
 have IP:=IX.pinned (fp:=[C]) (fun b hb=>by rw[List.mem_singleton.mp hb];exact fC) (fun b hb=>by rw[List.mem_singleton.mp hb];exact⟨o,ho,fun v z=>by rw[hd] at z;cases z⟩)
 refine wpAny_mono (n0 hN hi' hx hf _ s' σ H' (.ref D') (.ref D') D.nx IP rfl q) (fun _ s'' ⟨σ2,H2,I2,q2⟩=>?_) fun _ _ e=>e
 have pn:=I2.pin (C,o) (List.mem_append_right _ (List.mem_append_right _ (a0R (List.mem_singleton.mpr rfl) ho)))
 refine⟨m,⟨o,es,ep,pn.1,hd,hr⟩,fun h' hsb=>⟨σ2,H2,?_,q2⟩⟩
 have It:=I2.unpinned.turned (t':=s''.toks) (it:=C) (h':=h') (fun b o nb e=>(hsb.2 b nb).trans e) pn.2.1 fC.2.1 fC.2.2.2.1 fC.2.2.2.2.1 fC.2.2.2.2.2
 exact It
end
end L2
namespace DL
open PySem PySem.Spec L2
theorem v3 {α β γ:Type}{o:Option (α × β)}{f:α × β→Option γ}{r:γ}{G:Prop}(h:o.bind f=some r) (k:∀ x y,o=some (x,y)→f (x,y)=some r→G):G:=by
 obtain⟨⟨x,y⟩,a,b⟩:=Option.bind_eq_some_iff.mp h
 exact k x y a b
theorem M0 {α γ:Type}{o:Option α}{f:α→Option γ}{r:γ}{G:Prop}(h:o.bind f=some r) (k:∀ x,o=some x→f x=some r→G):G:=by
 obtain⟨x,a,b⟩:=Option.bind_eq_some_iff.mp h
 exact k x a b
theorem mapP {α β γ:Type}{o:Option (α × β)}{f:α × β→γ}{r:γ}{G:Prop}(h:o.map f=some r) (k:∀ x y,o=some (x,y)→f (x,y)=r→G):G:=by
 obtain⟨⟨x,y⟩,a,b⟩:=Option.map_eq_some_iff.mp h
 exact k x y a b
theorem R9 {α γ:Type}{o:Option α}{f:α→γ}{r:γ}{G:Prop}(h:o.map f=some r) (k:∀ x,o=some x→f x=r→G):G:=by
 obtain⟨x,a,b⟩:=Option.map_eq_some_iff.mp h
 exact k x a b
inductive D where
 | non | bl (b:Bool) | int (i:Int) | str (x:Str) | tup (ds:List D) | lst (ds:List D)
 | feed | scr (ns:List Int)
mutual
def D.py:D→PyData
 |.non=>.none
 |.bl b=>.bool b
 |.int i=>.int i
 |.str x=>.str x
 |.tup ds=>.tuple (D.pys ds)
 |.lst ds=>.list (D.pys ds)
 |.feed=>.none
 |.scr _=>.none
def D.pys:List D→List PyData
 |[]=>[]
 |d::r=>D.py d::D.pys r
end
mutual
def D.plain:D→Bool
 |.non=>true
 |.bl _=>true
 |.int _=>true
 |.str _=>true
 |.tup ds=>D.plains ds
 |.lst ds=>D.plains ds
 |.feed=>false
 |.scr _=>false
def D.plains:List D→Bool
 |[]=>true
 |d::r=>D.plain d&&D.plains r
end
structure FS where
 cells:List Int
 pos:Int
 left:Int
 turn:Int
 kind:Nat
def G4 (c:Addr) (f:FS):List V:=if f.kind=1 then [V.ref c,V.int f.pos,V.int f.left] else [V.ref c,V.int f.pos,V.int f.left,V.int f.turn]
def fho (c:Addr) (f:FS):HO:=if f.kind=0 then .dK [(Sum.inr ("cells" : Str),V.ref c),(Sum.inr ("at" : Str),V.int f.pos),(Sum.inr ("left" : Str),V.int f.left),(Sum.inr ("turn" : Str),V.int f.turn)] else .lst (G4 c f)
theorem a3x {c:Addr}{f:FS}(h:¬ f.kind=0):fho c f = .lst (G4 c f):=if_neg h
theorem b3b {c:Addr}{f:FS}{xs:List V}(h:fho c f = .tup xs):False:=by unfold fho at h;split at h <;> cases h
theorem b1O {c:Addr}{f:FS}{o:Obj}{u:HO}(h:fho c f = .frz o u):False:=by unfold fho at h;split at h <;> cases h
def FeedR (N:Addr→Prop) (H:Hp):Option Addr→Option FS→Prop
 |none,none=>True
 |some a,some f=>f.cells.length≤63∧∃ c,H a=some (fho c f)∧¬ N c∧H c=some (.lst (f.cells.map V.int))
 |_,_=>False
def SqF (K:PySem.W.Frag) (H:Hp) (a:Addr) (xs:List V):Prop:=
 (∃ o,H a=some (.frz o (.lst xs))) ∨
  ∃ (o:Obj) (its:Array Value) (n:Nat),K.lookup a=some o∧o.cls = .type "list" ∧ o.dict=none∧o.data = .seq its n∧its.size≤sizeLine∧Vals xs its.toList
theorem SqF.sq {K:PySem.W.Frag}{H:Hp}{a:Addr}{xs:List V}(h:SqF K H a xs):SqL K H a xs:=by
 rcases h with ⟨o,h⟩ | h
 ·exact .inl (.inr ⟨o,h⟩)
 ·exact .inr h
mutual
def Rep (K:PySem.W.Frag) (N:Addr→Prop) (fa:Option Addr) (H:Hp):D→V→Prop
 |.non,v=>v = .non
 |.bl b,v=>v = .bl b
 |.int i,v=>v = .int i
 |.str x,v=>v = .str x∧x.length≤sizeLine
 |.tup ds,v=>∃ a xs,v = .ref a∧SqT K H a xs∧Reps K N fa H ds xs
 |.lst ds,v=>∃ a xs,v = .ref a∧¬ N a∧H a=some (.lst xs)∧Reps K N fa H ds xs
 |.feed,v=>∃ a,fa=some a∧v = .ref a
 |.scr ns,v=>ns.length≤63∧∃ a,v = .ref a∧SqF K H a (ns.map V.int)
def Reps (K:PySem.W.Frag) (N:Addr→Prop) (fa:Option Addr) (H:Hp):List D→List V→Prop
 |[],xs=>xs=[]
 |d::r,xs=>∃ x ys,xs=x::ys∧Rep K N fa H d x∧Reps K N fa H r ys
end
def RepB (K:PySem.W.Frag) (N:Addr→Prop) (fa:Option Addr) (H:Hp):D→V→Prop
 |.lst ds,v=>∃ a xs,v = .ref a∧fa≠some a∧H a=some (.lst xs)∧Reps K N fa H ds xs
 |d,v=>Rep K N fa H d v
def S6 (K:PySem.W.Frag) (N:Addr→Prop) (fa:Option Addr) (H:Hp):List D→List V→Prop
 |[],xs=>xs=[]
 |d::r,xs=>∃ x ys,xs=x::ys∧RepB K N fa H d x∧S6 K N fa H r ys
structure Car (K:PySem.W.Frag) (N:Addr→Prop) (fa:Option Addr) (H:Hp) (N':Addr→Prop) (fa':Option Addr) (H':Hp):Prop where
 ls:∀ b xs,¬ N b→H b=some (.lst xs)→H' b=some (.lst xs)∧¬ N' b
 tp:∀ b xs,SqT K H b xs→SqT K H' b xs
 fz:∀ b xs,SqF K H b xs→SqF K H' b xs
 fe:∀ a,fa=some a→fa'=some a
section
variable {K:PySem.W.Frag}{N N':Addr→Prop}{fa fa':Option Addr}{H H':Hp}
mutual
theorem Rep.go (c:Car K N fa H N' fa' H'):∀ (d:D) (v:V),Rep K N fa H d v→Rep K N' fa' H' d v
 |.non,v,h=>by simpa only[Rep] using h
 |.bl b,v,h=>by simpa only[Rep] using h
 |.int i,v,h=>by simpa only[Rep] using h
 |.str x,v,h=>by simpa only[Rep] using h
 |.tup ds,v,h=>by
  simp only[Rep] at h ⊢
  obtain⟨a,xs,e,q,r⟩:=h
  exact⟨a,xs,e,c.tp a xs q,Reps.go c ds xs r⟩
 |.lst ds,v,h=>by
  simp only[Rep] at h ⊢
  obtain⟨a,xs,e,n,q,r⟩:=h
  obtain⟨q',n'⟩:=c.ls a xs n q
  exact⟨a,xs,e,n',q',Reps.go c ds xs r⟩
 |.feed,v,h=>by
  simp only[Rep] at h ⊢
  obtain⟨a,e,q⟩:=h
  exact⟨a,c.fe a e,q⟩
 |.scr ns,v,h=>by
  simp only[Rep] at h ⊢
  obtain⟨l,a,e,q⟩:=h
  exact⟨l,a,e,c.fz a _ q⟩
theorem Reps.go (c:Car K N fa H N' fa' H'):∀ (ds:List D) (xs:List V),Reps K N fa H ds xs→Reps K N' fa' H' ds xs
 |[],xs,h=>by simpa only[Reps] using h
 |d::r,xs,h=>by
  simp only[Reps] at h ⊢
  obtain⟨x,ys,e,h1,h2⟩:=h
  exact⟨x,ys,e,Rep.go c d x h1,Reps.go c r ys h2⟩
end
theorem Rep.b (hN:∀ a,fa=some a→N a) {d:D}{v:V}(h:Rep K N fa H d v):RepB K N fa H d v:=by
 cases d with
 |lst ds=>
  simp only[Rep] at h
  obtain⟨a,xs,e,n,q,r⟩:=h
  exact⟨a,xs,e,fun z=>n (hN a z),q,r⟩
 |_=>simpa only[RepB] using h
def P1 (K:PySem.W.Frag) (N:Addr→Prop) (fa:Option Addr) (H:Hp):D→V→Prop
 |.lst ds,v=>∃ a xs,v = .ref a∧H a=some (.lst xs)∧Reps K N fa H ds xs
 |d,v=>Rep K N fa H d v
theorem Rep.o {d:D}{v:V}(h:Rep K N fa H d v):P1 K N fa H d v:=by
 cases d with
 |lst ds=>
  simp only[Rep] at h
  obtain⟨a,xs,e,_,q,r⟩:=h
  exact⟨a,xs,e,q,r⟩
 |_=>simpa only[P1] using h
theorem RepB.o {d:D}{v:V}(h:RepB K N fa H d v):P1 K N fa H d v:=by
 cases d with
 |lst ds=>
  obtain⟨a,xs,e,_,q,r⟩:=h
  exact⟨a,xs,e,q,r⟩
 |_=>simpa only[P1,RepB] using h
theorem Reps.length:∀ {ds:List D}{xs:List V},Reps K N fa H ds xs→xs.length=ds.length
 |[],xs,h=>by simp only[Reps] at h;subst h;rfl
 |d::r,xs,h=>by
  simp only[Reps] at h
  obtain⟨x,ys,e,h1,h2⟩:=h
  subst e
  simp[Reps.length h2]
theorem Reps.get:∀ {ds:List D}{xs:List V}{i:Nat}{d:D},Reps K N fa H ds xs→ds[i]? = some d→∃ x,xs[i]? = some x∧Rep K N fa H d x
 |[],xs,i,d,h,e=>by simp at e
 |d::r,xs,0,d',h,e=>by
  simp only[Reps] at h
  obtain⟨x,ys,e1,h1,h2⟩:=h
  simp at e
  subst e1;subst e
  exact⟨x,rfl,h1⟩
 |d::r,xs,i+1,d',h,e=>by
  simp only[Reps] at h
  obtain⟨x,ys,e1,h1,h2⟩:=h
  subst e1
  obtain⟨y,e2,h3⟩:=Reps.get h2 (by simpa using e)
  exact⟨y,by simpa using e2,h3⟩
theorem Reps.get':∀ {ds:List D}{xs:List V}{i:Nat}{x:V},Reps K N fa H ds xs→xs[i]? = some x→∃ d,ds[i]? = some d∧Rep K N fa H d x:=fun {ds xs i x} h e=>by
 have hl:=h.length
 have hi:i<xs.length:=(List.getElem?_eq_some_iff.mp e).1
 obtain⟨y,e2,h3⟩:=Reps.get h (List.getElem?_eq_getElem (show i<ds.length by omega))
 rw[e] at e2;cases e2
 exact⟨_,List.getElem?_eq_getElem (show i<ds.length by omega),h3⟩
theorem Reps.append:∀ {ds es:List D}{xs ys:List V},Reps K N fa H ds xs→Reps K N fa H es ys→Reps K N fa H (ds++es) (xs++ys)
 |[],es,xs,ys,h,q=>by simp only[Reps] at h;subst h;simpa using q
 |d::r,es,xs,ys,h,q=>by
  simp only[Reps] at h
  obtain⟨x,zs,e1,h1,h2⟩:=h
  subst e1
  simp only[List.cons_append,Reps]
  exact⟨x,_,rfl,h1,Reps.append h2 q⟩
theorem Reps.one {d:D}{x:V}(h:Rep K N fa H d x):Reps K N fa H [d] [x]:=by
 simp only[Reps]
 exact⟨x,[],rfl,h,rfl⟩
theorem Reps.nil:Reps K N fa H [] []:=by simp only[Reps]
theorem Reps.take:∀ {ds:List D}{xs:List V}(n:Nat),Reps K N fa H ds xs→Reps K N fa H (ds.take n) (xs.take n)
 |_,_,0,_=>by simp only[List.take_zero,Reps]
 |[],xs,n+1,h=>by simp only[Reps] at h;subst h;simp only[List.take_nil,Reps]
 |d::r,xs,n+1,h=>by
  simp only[Reps] at h
  obtain⟨x,zs,e1,h1,h2⟩:=h
  subst e1
  simp only[List.take_succ_cons,Reps]
  exact⟨x,_,rfl,h1,Reps.take n h2⟩
theorem Reps.drop:∀ {ds:List D}{xs:List V}(n:Nat),Reps K N fa H ds xs→Reps K N fa H (ds.drop n) (xs.drop n)
 |_,_,0,h=>by simpa using h
 |[],xs,n+1,h=>by simp only[Reps] at h;subst h;simp only[List.drop_nil,Reps]
 |d::r,xs,n+1,h=>by
  simp only[Reps] at h
  obtain⟨x,zs,e1,h1,h2⟩:=h
  subst e1
  simpa using Reps.drop n h2
theorem Reps.ints:∀ {ns:List Int},Reps K N fa H (ns.map D.int) (ns.map V.int)
 |[]=>by simp only[List.map_nil,Reps]
 |n::r=>by
  simp only[List.map_cons,Reps,Rep]
  exact⟨_,_,rfl,rfl,Reps.ints⟩
theorem Reps.reverse:∀ {ds:List D}{xs:List V},Reps K N fa H ds xs→Reps K N fa H ds.reverse xs.reverse
 |[],xs,h=>by simp only[Reps] at h;subst h;simp only[List.reverse_nil,Reps]
 |d::r,xs,h=>by
  simp only[Reps] at h
  obtain⟨x,zs,e1,h1,h2⟩:=h
  subst e1
  simp only[List.reverse_cons]
  exact Reps.append (Reps.reverse h2) (Reps.one h1)
end
inductive Sl where
 | no | val (d:D) | own (ds:List D)
structure DS where
 sl:List Sl
 fs:Option FS
def NN (F:Addr→Prop) (fa:Option Addr) (O:List Addr):Addr→Prop:=fun b=>F b∨b∈O∨fa=some b
def SlR (K:PySem.W.Frag) (N:Addr→Prop) (fa:Option Addr) (H:Hp):List Sl→List (Option V)→List Addr→Prop
 |[],σ,O=>σ=[]∧O=[]
 |.no::r,σ,O=>∃ v τ,σ=v::τ∧SlR K N fa H r τ O
 |.val d::r,σ,O=>∃ u τ,σ=some u::τ∧Rep K N fa H d u∧SlR K N fa H r τ O
 |.own ds::r,σ,O=>∃ a xs τ P,σ=some (.ref a)::τ∧O=a::P∧H a=some (.lst xs)∧Reps K N fa H ds xs∧SlR K N fa H r τ P
structure Stp (fa:Option Addr) (O:List Addr) (H:Hp) (fa':Option Addr) (O':List Addr) (H':Hp):Prop where
 sub:∀ b∈O',b∈O∨H b=none
 fe:fa'=fa∨(fa=none∧∀ a,fa'=some a→H a=none)
 same:∀ b u,H b=some u→b ∉ O→fa≠some b→H' b=some u
 mon:∀ b,H' b=none→H b=none
structure StE (fa:Option Addr) (O:List Addr) (H:Hp) (fa':Option Addr) (O':List Addr) (H':Hp):Prop where
 sub:∀ b∈O',b∈O
 fe:fa'=fa∨(fa=none∧∀ a,fa'=some a→H a=none)
 same:∀ b u,H b=some u→fa≠some b→H' b=some u
 mon:∀ b,H' b=none→H b=none
structure DI (K:PySem.W.Frag) (F:Addr→Prop) (H0:Hp) (fa0:Option Addr) (σ:St) (H:Hp) (fa:Option Addr) (O:List Addr) (s:DS):Prop where
 nd:O.Nodup
 sl:SlR K (NN F fa O) fa H s.sl σ O
 fr:∀ b∈O,H0 b=none
 st:Stp fa0 [] H0 fa [] H
 tr:∀ b,F b→H0 b≠none
 ff:∀ a,fa0=some a→F a
 fd:FeedR (NN F fa O) H fa s.fs
 nf:∀ a,fa=some a→a ∉ O
section
variable {fa fa' fa'':Option Addr}{O O' O'':List Addr}{H H' H'':Hp}
theorem StE.stp (h:StE fa O H fa' O' H'):Stp fa O H fa' O' H':=⟨fun b hb=>.inl (h.sub b hb),h.fe,fun b u e _ n=>h.same b u e n,h.mon⟩
theorem StE.refl:StE fa O H fa O H:=⟨fun _ h=>h,.inl rfl,fun _ _ e _=>e,fun _ h=>h⟩
theorem Stp.refl:Stp fa O H fa O H:=StE.refl.stp
theorem StE.trans (a:StE fa O H fa' O' H') (b:StE fa' O' H' fa'' O'' H''):StE fa O H fa'' O'' H'':=by
 refine⟨fun c hc=>a.sub c (b.sub c hc),?_,fun c u e n=>?_,fun c h=>a.mon c (b.mon c h)⟩
 ·rcases a.fe with e | ⟨e,h⟩
  ·rcases b.fe with e' | ⟨e',h'⟩
   ·exact .inl (e'.trans e)
   ·exact .inr ⟨e▸e',fun c z=>a.mon c (h' c z)⟩
  ·rcases b.fe with e' | ⟨e',h'⟩
   ·exact .inr ⟨e,fun c z=>h c (e'▸z)⟩
   ·exact .inr ⟨e,fun c z=>a.mon c (h' c z)⟩
 ·refine b.same c u (a.same c u e n) fun z=>?_
  rcases a.fe with q | ⟨q,h⟩
  ·rw[q] at z;exact n z
  ·rw[h c z] at e;cases e
theorem Stp.trans (a:Stp fa O H fa' O' H') (b:Stp fa' O' H' fa'' O'' H''):Stp fa O H fa'' O'' H'':=by
 refine⟨fun c hc=>?_,?_,fun c u e hc n=>?_,fun c h=>a.mon c (b.mon c h)⟩
 ·rcases b.sub c hc with q | q
  ·exact a.sub c q
  ·exact .inr (a.mon c q)
 ·rcases a.fe with e | ⟨e,h⟩
  ·rcases b.fe with e' | ⟨e',h'⟩
   ·exact .inl (e'.trans e)
   ·exact .inr ⟨e▸e',fun c z=>a.mon c (h' c z)⟩
  ·rcases b.fe with e' | ⟨e',h'⟩
   ·exact .inr ⟨e,fun c z=>h c (e'▸z)⟩
   ·exact .inr ⟨e,fun c z=>a.mon c (h' c z)⟩
 ·refine b.same c u (a.same c u e hc n) (fun z=>?_) fun z=>?_
  ·rcases a.sub c z with q | q
   ·exact hc q
   ·rw[q] at e;cases e
  ·rcases a.fe with q | ⟨q,h⟩
   ·rw[q] at z;exact n z
   ·rw[h c z] at e;cases e
theorem Stp.fa_keep (a:Stp fa O H fa' O' H') {x:Addr}(h:fa=some x):fa'=some x:=by
 rcases a.fe with e | ⟨e,_⟩
 ·rw[e,h]
 ·rw[h] at e;cases e
variable {K:PySem.W.Frag}{F:Addr→Prop}{H0:Hp}{fa0:Option Addr}{σ:St}{s:DS}
theorem FeedR.no_frz {N:Addr→Prop}{fs:Option FS}{a:Addr}{o:Obj}{u:HO}(h:FeedR N H fa fs) (e:fa=some a) (q:H a=some (.frz o u)):False:=by
 subst e
 cases fs with
 |none=>exact h
 |some f=>
  obtain⟨_,c,h1,_⟩:=h
  rw[h1] at q;exact b1O (Option.some.inj q)
theorem FeedR.no_tup {N:Addr→Prop}{fs:Option FS}{a:Addr}{xs:List V}(h:FeedR N H fa fs) (e:fa=some a) (z:Rd H a (.tup xs)):False:=by
 rcases z with z | ⟨o,z⟩
 ·subst e
  cases fs with
  |none=>exact h
  |some f=>
   obtain⟨_,c,h1,_⟩:=h
   rw[h1] at z;exact b3b (Option.some.inj z)
 ·exact h.no_frz e z
theorem FeedR.tracked {N:Addr→Prop}{fs:Option FS}{a:Addr}(h:FeedR N H fa fs) (e:fa=some a):H a≠none:=by
 subst e
 cases fs with
 |none=>exact h.elim
 |some f=>
  obtain⟨_,c,h1,_⟩:=h
  rw[h1];simp
theorem SqT.stp' (a:Stp fa O H fa' O' H') (hf:∀ x,fa=some x→∀ xs,¬ Rd H x (.tup xs)) (hO:∀ x∈O,∀ xs,¬ Rd H x (.tup xs)) {b:Addr}{xs:List V}(h:SqT K H b xs):SqT K H' b xs:=by
 rcases h with h | h
 ·refine .inl ?_
  have n1:b ∉ O:=fun z=>hO b z xs h
  have n2:fa≠some b:=fun z=>hf b z xs h
  rcases h with h | ⟨o,h⟩
  ·exact .inl (a.same _ _ h n1 n2)
  ·exact .inr ⟨o,a.same _ _ h n1 n2⟩
 ·exact .inr h
theorem SlR.owned:∀ {sl:List Sl}{N:Addr→Prop}{σ:List (Option V)}{O:List Addr},SlR K N fa H sl σ O→∀ b∈O,∃ xs,H b=some (.lst xs)
 |[],N,σ,O,h,b,hb=>by simp only[SlR] at h;rw[h.2] at hb;cases hb
 |.no::r,N,σ,O,h,b,hb=>by
  simp only[SlR] at h
  obtain⟨v,τ,_,h⟩:=h
  exact SlR.owned h b hb
 |.val d::r,N,σ,O,h,b,hb=>by
  simp only[SlR] at h
  obtain⟨v,τ,_,_,h⟩:=h
  exact SlR.owned h b hb
 |.own ds::r,N,σ,O,h,b,hb=>by
  simp only[SlR] at h
  obtain⟨a,xs,τ,P,_,rfl,e,_,h⟩:=h
  rcases List.mem_cons.mp hb with z | z
  ·subst z;exact⟨xs,e⟩
  ·exact SlR.owned h b z
theorem DI.owned (I:DI K F H0 fa0 σ H fa O s) {b:Addr}(hb:b∈O):∃ xs,H b=some (.lst xs):=SlR.owned I.sl b hb
theorem DI.trF (I:DI K F H0 fa0 σ H fa O s) {b:Addr}(hb:F b):H b≠none:=fun z=>I.tr b hb (I.st.mon b z)
theorem DI.nn_tracked (I:DI K F H0 fa0 σ H fa O s) {b:Addr}(h:NN F fa O b):H b≠none:=by
 rcases h with h | h | h
 ·exact I.trF h
 ·obtain⟨xs,e⟩:=I.owned h
  rw[e];simp
 ·exact I.fd.tracked h
theorem DI.nf_step (I:DI K F H0 fa0 σ H fa O s) (h:fa'=fa∨(fa=none∧∀ a,fa'=some a→H a=none)):∀ a,fa'=some a→a ∉ O:=fun a e m=>by
 rcases h with z | ⟨z,y⟩
 ·rw[z] at e;exact I.nf a e m
 ·obtain⟨xs,q⟩:=I.owned m
  rw[y a e] at q;cases q
theorem DI.car (I:DI K F H0 fa0 σ H fa O s) (a:Stp fa O H fa' O' H'):Car K (NN F fa O) fa H (NN F fa' O') fa' H':=by
 have nt:∀ x xs,H x=some (.lst xs)→∀ ys,¬ Rd H x (.tup ys):=fun x xs e ys z=>by
  rcases z with z | ⟨o,z⟩ <;> · rw[e] at z;cases z
 refine⟨fun b xs n q=>?_,fun b xs q=>?_,fun b xs q=>?_,fun x e=>a.fa_keep e⟩
 ·have n1:b ∉ O:=fun z=>n (.inr (.inl z))
  have n2:fa≠some b:=fun z=>n (.inr (.inr z))
  have tr:H b≠none:=by rw[q];simp
  refine⟨a.same _ _ q n1 n2,fun z=>?_⟩
  ·rcases z with z | z | z
   ·exact n (.inl z)
   ·rcases a.sub b z with y | y
    ·exact n1 y
    ·exact tr y
   ·rcases a.fe with e | ⟨e,h⟩
    ·rw[e] at z;exact n2 z
    ·exact tr (h b z)
 ·refine SqT.stp' a (fun x e ys z=>?_) (fun x hx ys=>?_) q
  ·exact I.fd.no_tup e z
  ·obtain⟨xs,e⟩:=I.owned hx
   exact nt x xs e ys
 ·rcases q with ⟨o,q⟩ | q
  ·refine .inl ⟨o,a.same _ _ q (fun z=>?_) fun z=>?_⟩
   ·obtain⟨ys,e⟩:=I.owned z
    rw[e] at q;cases q
   ·exact I.fd.no_frz z q
  ·exact .inr q
end
structure Gh where
 F:Addr→Prop
 H0:Hp
 fa0:Option Addr
abbrev GI (K:PySem.W.Frag) (g:Gh):=DI K g.F g.H0 g.fa0
section
variable {K:PySem.W.Frag}{N N':Addr→Prop}{fa fa':Option Addr}{H H':Hp}{g:Gh}{σ:L2.St}{O O':List Addr}{s:DS}
theorem SlR.go (c:Car K N fa H N' fa' H'):∀ {sl:List Sl}{σ:List (Option V)}{O:List Addr},(∀ a xs,a∈O→H a=some (.lst xs)→H' a=some (.lst xs))→SlR K N fa H sl σ O→SlR K N' fa' H' sl σ O
 |[],σ,O,_,h=>by simpa only[SlR] using h
 |.no::r,σ,O,ho,h=>by
  simp only[SlR] at h ⊢
  obtain⟨v,τ,e,h⟩:=h
  exact⟨v,τ,e,SlR.go c ho h⟩
 |.val d::r,σ,O,ho,h=>by
  simp only[SlR] at h ⊢
  obtain⟨u,τ,e,q,h⟩:=h
  exact⟨u,τ,e,Rep.go c d u q,SlR.go c ho h⟩
 |.own ds::r,σ,O,ho,h=>by
  simp only[SlR] at h ⊢
  obtain⟨a,xs,τ,P,e,rfl,ha,q,h⟩:=h
  exact⟨a,xs,τ,P,e,rfl,ho a xs (List.mem_cons_self ..) ha,Reps.go c ds xs q,SlR.go c (fun b ys hb=>ho b ys (List.mem_cons_of_mem _ hb)) h⟩
theorem SlR.val:∀ {sl:List Sl}{σ:List (Option V)}{O:List Addr}{i:Nat}{d:D},SlR K N fa H sl σ O→sl[i]? = some (.val d)→∃ u,σ[i]? = some (some u)∧Rep K N fa H d u
 |[],σ,O,i,d,h,e=>by simp at e
 |.no::r,σ,O,i,d,h,e=>by
  simp only[SlR] at h
  obtain⟨v,τ,rfl,h⟩:=h
  cases i with
  |zero=>simp at e
  |succ i=>simpa using SlR.val h (by simpa using e)
 |.val d'::r,σ,O,i,d,h,e=>by
  simp only[SlR] at h
  obtain⟨u,τ,rfl,q,h⟩:=h
  cases i with
  |zero=>simp at e;subst e;exact⟨u,rfl,q⟩
  |succ i=>simpa using SlR.val h (by simpa using e)
 |.own ds::r,σ,O,i,d,h,e=>by
  simp only[SlR] at h
  obtain⟨a,xs,τ,P,rfl,rfl,ha,q,h⟩:=h
  cases i with
  |zero=>simp at e
  |succ i=>simpa using SlR.val h (by simpa using e)
theorem SlR.own:∀ {sl:List Sl}{σ:List (Option V)}{O:List Addr}{i:Nat}{ds:List D},SlR K N fa H sl σ O→sl[i]? = some (.own ds)→∃ a xs,σ[i]? = some (some (.ref a))∧a∈O∧H a=some (.lst xs)∧Reps K N fa H ds xs
 |[],σ,O,i,d,h,e=>by simp at e
 |.no::r,σ,O,i,d,h,e=>by
  simp only[SlR] at h
  obtain⟨v,τ,rfl,h⟩:=h
  cases i with
  |zero=>simp at e
  |succ i=>simpa using SlR.own h (by simpa using e)
 |.val d'::r,σ,O,i,d,h,e=>by
  simp only[SlR] at h
  obtain⟨u,τ,rfl,q,h⟩:=h
  cases i with
  |zero=>simp at e
  |succ i=>simpa using SlR.own h (by simpa using e)
 |.own ds::r,σ,O,i,d,h,e=>by
  simp only[SlR] at h
  obtain⟨a,xs,τ,P,rfl,rfl,ha,q,h⟩:=h
  cases i with
  |zero=>simp at e;subst e;exact⟨a,xs,rfl,List.mem_cons_self ..,ha,q⟩
  |succ i=>
   obtain⟨b,ys,e1,m,e2,q2⟩:=SlR.own h (by simpa using e)
   exact⟨b,ys,by simpa using e1,List.mem_cons_of_mem _ m,e2,q2⟩
theorem SlR.put:∀ {sl:List Sl}{σ:List (Option V)}{O:List Addr}(i:Nat) {d:D}{u:V},SlR K N fa H sl σ O→Rep K N fa H d u →
  ∃ P,P.Sublist O∧SlR K N fa H (sl.set i (.val d)) (σ.set i (some u)) P∧(O.Nodup→∀ a,sl[i]?.isSome=true→(∃ ds,sl[i]? = some (.own ds))→σ[i]? = some (some (.ref a))→a ∉ P)
 |[],σ,O,i,d,u,h,q=>by
  simp only[SlR] at h
  refine⟨O,List.Sublist.refl _,?_,fun _ a z=>by simp at z⟩
  rw[h.1,h.2]
  simp[SlR]
 |.no::r,σ,O,i,d,u,h,q=>by
  simp only[SlR] at h
  obtain⟨v,τ,rfl,h⟩:=h
  cases i with
  |zero=>exact⟨O,List.Sublist.refl _,by simp only[List.set_cons_zero,SlR];exact⟨u,τ,rfl,q,h⟩,fun _ a _ z=>by obtain⟨ds,z⟩:=z;simp at z⟩
  |succ i=>
   obtain⟨P,hs,h1,h2⟩:=SlR.put i h q
   exact⟨P,hs,by simp only[List.set_cons_succ,SlR];exact⟨v,_,rfl,h1⟩,by simpa using h2⟩
 |.val d'::r,σ,O,i,d,u,h,q=>by
  simp only[SlR] at h
  obtain⟨v,τ,rfl,qv,h⟩:=h
  cases i with
  |zero=>exact⟨O,List.Sublist.refl _,by simp only[List.set_cons_zero,SlR];exact⟨u,τ,rfl,q,h⟩,fun _ a _ z=>by obtain⟨ds,z⟩:=z;simp at z⟩
  |succ i=>
   obtain⟨P,hs,h1,h2⟩:=SlR.put i h q
   exact⟨P,hs,by simp only[List.set_cons_succ,SlR];exact⟨v,_,rfl,qv,h1⟩,by simpa using h2⟩
 |.own ds::r,σ,O,i,d,u,h,q=>by
  simp only[SlR] at h
  obtain⟨a,xs,τ,P,rfl,rfl,ha,qv,h⟩:=h
  cases i with
  |zero=>
   refine⟨P,List.sublist_cons_self ..,by simp only[List.set_cons_zero,SlR];exact⟨u,τ,rfl,q,h⟩,fun nd b _ _ e=>?_⟩
   simp at e;subst e
   exact(List.nodup_cons.mp nd).1
  |succ i=>
   obtain⟨P',hs,h1,h2⟩:=SlR.put i h q
   refine⟨a::P',hs.cons_cons a,by simp only[List.set_cons_succ,SlR];exact⟨a,xs,_,P',rfl,rfl,ha,qv,h1⟩,fun nd b e1 e2 e3=>?_⟩
   have nd':=List.nodup_cons.mp nd
   have n1:=h2 nd'.2 b (by simpa using e1) (by simpa using e2) (by simpa using e3)
   intro z
   rcases List.mem_cons.mp z with z | z
   ·subst z
    obtain⟨dz,e2⟩:=e2
    obtain⟨b',_,e4,m,_⟩:=SlR.own h (i:=i) (by simpa using e2)
    rw[List.getElem?_cons_succ] at e3
    rw[e3] at e4
    cases e4
    exact nd'.1 m
   ·exact n1 z
theorem SlR.putN:∀ {sl:List Sl}{σ:List (Option V)}{O:List Addr}(i:Nat) {ds:List D}{p:Addr}{xs:List V},SlR K N fa H sl σ O→i<sl.length→p ∉ O→O.Nodup→H p=some (.lst xs)→Reps K N fa H ds xs →
  ∃ P,(∀ b∈P,b=p∨b∈O)∧P.Nodup∧SlR K N fa H (sl.set i (.own ds)) (σ.set i (some (.ref p))) P
 |[],σ,O,i,ds,p,xs,h,hi,hp,nd,e,q=>by simp at hi
 |.no::r,σ,O,i,ds,p,xs,h,hi,hp,nd,e,q=>by
  simp only[SlR] at h
  obtain⟨v,τ,rfl,h⟩:=h
  cases i with
  |zero=>exact⟨p::O,fun b hb=>List.mem_cons.mp hb,List.nodup_cons.mpr ⟨hp,nd⟩,by simp only[List.set_cons_zero,SlR];exact⟨p,xs,τ,O,rfl,rfl,e,q,h⟩⟩
  |succ i=>
   obtain⟨P,h1,h2,h3⟩:=SlR.putN i h (by simpa using hi) hp nd e q
   exact⟨P,h1,h2,by simp only[List.set_cons_succ,SlR];exact⟨v,_,rfl,h3⟩⟩
 |.val d'::r,σ,O,i,ds,p,xs,h,hi,hp,nd,e,q=>by
  simp only[SlR] at h
  obtain⟨v,τ,rfl,qv,h⟩:=h
  cases i with
  |zero=>exact⟨p::O,fun b hb=>List.mem_cons.mp hb,List.nodup_cons.mpr ⟨hp,nd⟩,by simp only[List.set_cons_zero,SlR];exact⟨p,xs,τ,O,rfl,rfl,e,q,h⟩⟩
  |succ i=>
   obtain⟨P,h1,h2,h3⟩:=SlR.putN i h (by simpa using hi) hp nd e q
   exact⟨P,h1,h2,by simp only[List.set_cons_succ,SlR];exact⟨v,_,rfl,qv,h3⟩⟩
 |.own ds'::r,σ,O,i,ds,p,xs,h,hi,hp,nd,e,q=>by
  simp only[SlR] at h
  obtain⟨a,ys,τ,P,rfl,rfl,ha,qv,h⟩:=h
  have nd':=List.nodup_cons.mp nd
  cases i with
  |zero=>
   refine⟨p::P,fun b hb=>(List.mem_cons.mp hb).imp id fun z=>List.mem_cons_of_mem _ z,List.nodup_cons.mpr ⟨fun z=>hp (List.mem_cons_of_mem _ z),nd'.2⟩,?_⟩
   simp only[List.set_cons_zero,SlR]
   exact⟨p,xs,τ,P,rfl,rfl,e,q,h⟩
  |succ i=>
   obtain⟨P',h1,h2,h3⟩:=SlR.putN i h (by simpa using hi) (fun z=>hp (List.mem_cons_of_mem _ z)) nd'.2 e q
   refine⟨a::P',fun b hb=>?_,List.nodup_cons.mpr ⟨fun z=>?_,h2⟩,by simp only[List.set_cons_succ,SlR];exact⟨a,ys,_,P',rfl,rfl,ha,qv,h3⟩⟩
   ·rcases List.mem_cons.mp hb with z | z
    ·exact .inr (by rw[z];exact List.mem_cons_self ..)
    ·exact(h1 b z).imp id fun y=>List.mem_cons_of_mem _ y
   ·rcases h1 a z with y | y
    ·exact hp (by rw[y];exact List.mem_cons_self ..)
    ·exact nd'.1 y
theorem SlR.rew:∀ {sl:List Sl}{σ:List (Option V)}{O:List Addr}{i:Nat}{ds es:List D}{a:Addr}{ys:List V},SlR K N fa H sl σ O→O.Nodup→(∀ b∈O,N b)→sl[i]? = some (.own ds)→σ[i]? = some (some (.ref a))→H' a=some (.lst ys) →
  Car K N fa H N fa H'→(∀ b u,b≠a→H b=some u→H' b=some u)→Reps K N fa H' es ys→SlR K N fa H' (sl.set i (.own es)) σ O
 |[],σ,O,i,ds,es,a,ys,h,nd,hN,e1,e2,e3,c,k,q=>by simp at e1
 |.no::r,σ,O,i,ds,es,a,ys,h,nd,hN,e1,e2,e3,c,k,q=>by
  simp only[SlR] at h
  obtain⟨v,τ,rfl,h⟩:=h
  cases i with
  |zero=>simp at e1
  |succ i=>simp only[List.set_cons_succ,SlR];exact⟨v,τ,rfl,SlR.rew h nd hN (by simpa using e1) (by simpa using e2) e3 c k q⟩
 |.val d'::r,σ,O,i,ds,es,a,ys,h,nd,hN,e1,e2,e3,c,k,q=>by
  simp only[SlR] at h
  obtain⟨v,τ,rfl,qv,h⟩:=h
  cases i with
  |zero=>simp at e1
  |succ i=>simp only[List.set_cons_succ,SlR];exact⟨v,τ,rfl,Rep.go c _ _ qv,SlR.rew h nd hN (by simpa using e1) (by simpa using e2) e3 c k q⟩
 |.own ds'::r,σ,O,i,ds,es,a,ys,h,nd,hN,e1,e2,e3,c,k,q=>by
  simp only[SlR] at h
  obtain⟨b,zs,τ,P,rfl,rfl,ha,qv,h⟩:=h
  have nd':=List.nodup_cons.mp nd
  cases i with
  |zero=>
   simp at e2
   subst e2
   simp only[List.set_cons_zero,SlR]
   exact⟨b,ys,τ,P,rfl,rfl,e3,q,SlR.go c (fun x xs hx z=>k x _ (fun y=>nd'.1 (y▸hx)) z) h⟩
  |succ i=>
   have nb:b≠a:=fun z=>by
    obtain⟨a',_,e4,m,_⟩:=SlR.own h (i:=i) (by simpa using e1)
    rw[List.getElem?_cons_succ] at e2
    rw[e2] at e4
    cases e4
    exact nd'.1 (z▸m)
   simp only[List.set_cons_succ,SlR]
   exact⟨b,zs,τ,P,rfl,rfl,k b _ nb ha,Reps.go c _ _ qv,SlR.rew h nd'.2 (fun x hx=>hN x (List.mem_cons_of_mem _ hx)) (by simpa using e1) (by simpa using e2) e3 c k q⟩
theorem RepB.stp {d:D}{v:V}(I:GI K g σ H fa O s) (a:StE fa O H fa' O' H') (h:RepB K (NN g.F fa O) fa H d v):RepB K (NN g.F fa' O') fa' H' d v:=by
 have c:=I.car a.stp
 cases d with
 |lst ds=>
  obtain⟨x,xs,e,nf,q,r⟩:=h
  refine⟨x,xs,e,fun z=>?_,a.same _ _ q nf,Reps.go c ds xs r⟩
  rcases a.fe with y | ⟨_,y⟩
  ·rw[y] at z;exact nf z
  ·rw[y x z] at q;cases q
 |_=>
  simp only[RepB] at h ⊢
  exact Rep.go c _ _ h
theorem Rep.stp {d:D}{v:V}(I:GI K g σ H fa O s) (a:Stp fa O H fa' O' H') (h:Rep K (NN g.F fa O) fa H d v):Rep K (NN g.F fa' O') fa' H' d v:=Rep.go (I.car a) d v h
theorem Reps.stp {ds:List D}{xs:List V}(I:GI K g σ H fa O s) (a:Stp fa O H fa' O' H') (h:Reps K (NN g.F fa O) fa H ds xs):Reps K (NN g.F fa' O') fa' H' ds xs:=Reps.go (I.car a) ds xs h
theorem E4 {p:Addr}{o:HO}(h:H p=none):StE fa O H fa O (upd H p o):=
 ⟨fun _ h=>h,.inl rfl,fun b u e _=>by rw[u3 (M9 e h)];exact e,fun b z=>by
  by_cases hb:b=p
  ·subst hb;exact h
  ·rw[u3 hb] at z;exact z⟩
theorem FeedR.car {fs:Option FS}(c:Car K N fa H N' fa H') (h:∀ a,fa=some a→H' a=H a) (f:FeedR N H fa fs):FeedR N' H' fa fs:=by
 cases fa with
 |none=>cases fs <;> simpa only[FeedR] using f
 |some a=>
  cases fs with
  |none=>simpa only[FeedR] using f
  |some x=>
   simp only[FeedR] at f ⊢
   obtain⟨l,b,h1,h2,h3⟩:=f
   obtain⟨q,n⟩:=c.ls b _ h2 h3
   exact⟨l,b,by rw[h a rfl];exact h1,n,q⟩
theorem FeedR.same_new {fs:Option FS}{p:Addr}{o:HO}(f:FeedR N H fa fs) (h:H p=none):∀ a,fa=some a→upd H p o a=H a:=fun a e=>u3 fun z=>f.tracked e (z▸h)
theorem DI.new {p:Addr}{o:HO}(I:GI K g σ H fa O s) (h:H p=none):GI K g σ (upd H p o) fa O s:=by
 have a:StE fa O H fa O (upd H p o):=E4 h
 refine⟨I.nd,SlR.go (I.car a.stp) (fun b xs hb e=>?_) I.sl,I.fr,I.st.trans ((E4 (O:=[]) h).stp),I.tr,I.ff,I.fd.car (I.car a.stp) (I.fd.same_new h),I.nf⟩
 rw[u3 (M9 e h)];exact e
end
abbrev DE:=DS→Option (D × DS)
abbrev DT:=DS→Option (Bool × DS)
abbrev DA:=DS→Option (List D × DS)
inductive Fl where
 | next | brk | cont | ret (d:D)
abbrev DM:=DS→Option (Fl × DS)
structure NewL (K:PySem.W.Frag) (g:Gh) (σ:L2.St) (H:Hp) (fa:Option Addr) (O:List Addr) (s:DS) (p:Addr) (xs:List V) (ds:List D):Prop where
 gi:GI K g σ H fa O s
 ls:H p=some (.lst xs)
 sl:SlR K (fun b=>NN g.F fa O b∨b=p) fa H s.sl σ O
 fd:FeedR (fun b=>NN g.F fa O b∨b=p) H fa s.fs
 rs:Reps K (fun b=>NN g.F fa O b∨b=p) fa H ds xs
 nf:fa≠some p
section
variable (K:PySem.W.Frag) (g:Gh)
def liftE (f:DE):TE:=fun σ H Q=>∃ fa O s d s',GI K g σ H fa O s∧f s=some (d,s') ∧
 ∀ v H' fa' O',StE fa O H fa' O' H'→GI K g σ H' fa' O' s'→Rep K (NN g.F fa' O') fa' H' d v→Q v H'
def liftB (f:DE):TE:=fun σ H Q=>∃ fa O s d s',GI K g σ H fa O s∧f s=some (d,s') ∧
 ∀ v H' fa' O',StE fa O H fa' O' H'→GI K g σ H' fa' O' s'→RepB K (NN g.F fa' O') fa' H' d v→Q v H'
def liftF (f:DA):TE:=fun σ H Q=>∃ fa O s ds s',GI K g σ H fa O s∧f s=some (ds,s') ∧
 ∀ p xs H' fa' O',StE fa O H fa' O' H'→NewL K g σ H' fa' O' s' p xs ds→H p=none→Q (.ref p) H'
def liftT (f:DT):TT:=fun σ H Q=>∃ fa O s d s',GI K g σ H fa O s∧f s=some (d,s') ∧
 ∀ H' fa' O',StE fa O H fa' O' H'→GI K g σ H' fa' O' s'→Q d H'
def liftA (f:DA):TA:=fun σ H Q=>∃ fa O s ds s',GI K g σ H fa O s∧f s=some (ds,s') ∧
 ∀ vs H' fa' O',StE fa O H fa' O' H'→GI K g σ H' fa' O' s'→Reps K (NN g.F fa' O') fa' H' ds vs→Q vs H'
def liftBA (f:DA):TA:=fun σ H Q=>∃ fa O s ds s',GI K g σ H fa O s∧f s=some (ds,s') ∧
 ∀ vs H' fa' O',StE fa O H fa' O' H'→GI K g σ H' fa' O' s'→S6 K (NN g.F fa' O') fa' H' ds vs→Q vs H'
def FlK (E:Ends) (fa:Option Addr) (O:List Addr) (H:Hp) (fl:Fl) (s':DS):Prop:=
 match fl with
 |.next=>∀ σ' H' fa' O',Stp fa O H fa' O' H'→GI K g σ' H' fa' O' s'→E.nx σ' H'
 |.brk=>∀ σ' H' fa' O',Stp fa O H fa' O' H'→GI K g σ' H' fa' O' s'→E.bk σ' H'
 |.cont=>∀ σ' H' fa' O',Stp fa O H fa' O' H'→GI K g σ' H' fa' O' s'→E.ct σ' H'
 |.ret d=>∀ σ' v H' fa' O',Stp fa O H fa' O' H'→GI K g σ' H' fa' O' s'→Rep K (NN g.F fa' O') fa' H' d v→E.rt v H'
def liftS (f:DM):TS:=fun E σ H=>∃ fa O s fl s',GI K g σ H fa O s∧f s=some (fl,s')∧FlK K g E fa O H fl s'
end
section
variable {K:PySem.W.Frag}{g:Gh}{σ:L2.St}{H:Hp}{G:Prop}
theorem liftE.elim {f:DE}{Q:VK}(h:liftE K g f σ H Q) (k:∀ fa O s d s',GI K g σ H fa O s→f s=some (d,s')→(∀ v H' fa' O',StE fa O H fa' O' H'→GI K g σ H' fa' O' s'→Rep K (NN g.F fa' O') fa' H' d v→Q v H')→G):G:=by
 obtain⟨fa,O,s,d,s',a,b,c⟩:=h
 exact k fa O s d s' a b c
theorem liftB.elim {f:DE}{Q:VK}(h:liftB K g f σ H Q) (k:∀ fa O s d s',GI K g σ H fa O s→f s=some (d,s')→(∀ v H' fa' O',StE fa O H fa' O' H'→GI K g σ H' fa' O' s'→RepB K (NN g.F fa' O') fa' H' d v→Q v H')→G):G:=by
 obtain⟨fa,O,s,d,s',a,b,c⟩:=h
 exact k fa O s d s' a b c
theorem liftF.elim {f:DA}{Q:VK}(h:liftF K g f σ H Q) (k:∀ fa O s d s',GI K g σ H fa O s→f s=some (d,s')→(∀ p xs H' fa' O',StE fa O H fa' O' H'→NewL K g σ H' fa' O' s' p xs d→H p=none→Q (.ref p) H')→G):G:=by
 obtain⟨fa,O,s,d,s',a,b,c⟩:=h
 exact k fa O s d s' a b c
theorem liftT.elim {f:DT}{Q:Bool→Hp→Prop}(h:liftT K g f σ H Q) (k:∀ fa O s d s',GI K g σ H fa O s→f s=some (d,s')→(∀ H' fa' O',StE fa O H fa' O' H'→GI K g σ H' fa' O' s'→Q d H')→G):G:=by
 obtain⟨fa,O,s,d,s',a,b,c⟩:=h
 exact k fa O s d s' a b c
theorem liftA.elim {f:DA}{Q:List V→Hp→Prop}(h:liftA K g f σ H Q) (k:∀ fa O s d s',GI K g σ H fa O s→f s=some (d,s')→(∀ vs H' fa' O',StE fa O H fa' O' H'→GI K g σ H' fa' O' s'→Reps K (NN g.F fa' O') fa' H' d vs→Q vs H')→G):G:=by
 obtain⟨fa,O,s,d,s',a,b,c⟩:=h
 exact k fa O s d s' a b c
theorem liftBA.elim {f:DA}{Q:List V→Hp→Prop}(h:liftBA K g f σ H Q) (k:∀ fa O s d s',GI K g σ H fa O s→f s=some (d,s')→(∀ vs H' fa' O',StE fa O H fa' O' H'→GI K g σ H' fa' O' s'→S6 K (NN g.F fa' O') fa' H' d vs→Q vs H')→G):G:=by
 obtain⟨fa,O,s,d,s',a,b,c⟩:=h
 exact k fa O s d s' a b c
theorem liftS.elim {f:DM}{E:Ends}(h:liftS K g f E σ H) (k:∀ fa O s d s',GI K g σ H fa O s→f s=some (d,s')→(FlK K g E fa O H d s')→G):G:=by
 obtain⟨fa,O,s,d,s',a,b,c⟩:=h
 exact k fa O s d s' a b c
end
structure EO (X:Cx) (g:Gh) (e:Expr) (f:DE):Prop where
 pe:PE X e (liftE X.K g f)
structure BO (X:Cx) (g:Gh) (e:Expr) (f:DE):Prop where
 pe:PE X e (liftB X.K g f)
structure FO (X:Cx) (g:Gh) (e:Expr) (f:DA):Prop where
 pe:PE X e (liftF X.K g f)
structure TO (X:Cx) (g:Gh) (e:Expr) (f:DT):Prop where
 pe:PT X e (liftT X.K g f)
structure WO (X:Cx) (g:Gh) (e:Expr) (f:DT):Prop where
 pe:PW X e (liftT X.K g f)
structure AO (X:Cx) (g:Gh) (es:List Expr) (f:DA):Prop where
 pe:PA X es (liftA X.K g f)
structure BAO (X:Cx) (g:Gh) (es:List Expr) (f:DA):Prop where
 pe:PA X es (liftBA X.K g f)
structure SO (X:Cx) (g:Gh) (st:Stmt) (f:DM):Prop where
 pe:PS X st (liftS X.K g f)
structure SSO (X:Cx) (g:Gh) (st:List Stmt) (f:DM):Prop where
 pe:PSs X st (liftS X.K g f)
section
variable {X:Cx}{g:Gh}{e:Expr}{f:DE}
theorem PEw {t t':TE}(h:PE X e t) (w:∀ σ H Q,t' σ H Q→t σ H Q):PE X e t':=fun pins s σ H Q I q=>h pins s σ H Q I (w σ H Q q)
theorem PTw {t t':TT}(h:PT X e t) (w:∀ σ H Q,t' σ H Q→t σ H Q):PT X e t':=fun pins s σ H Q I q=>h pins s σ H Q I (w σ H Q q)
theorem PWw {t t':TT}(h:PW X e t) (w:∀ σ H Q,t' σ H Q→t σ H Q):PW X e t':=fun wh pins s σ H Q I q=>h wh pins s σ H Q I (w σ H Q q)
theorem PAw {es:List Expr}{t t':TA}(h:PA X es t) (w:∀ σ H Q,t' σ H Q→t σ H Q):PA X es t':=fun pos pins s σ H Q I q=>h pos pins s σ H Q I (w σ H Q q)
theorem PSw {st:Stmt}{t t':TS}(h:PS X st t) (w:∀ E σ H,t' E σ H→t E σ H):PS X st t':=fun pins s σ H E I q=>h pins s σ H E I (w E σ H q)
theorem b28 {st:List Stmt}{t t':TS}(h:PSs X st t) (w:∀ E σ H,t' E σ H→t E σ H):PSs X st t':=fun pins s σ H E I q=>h pins s σ H E I (w E σ H q)
theorem EO.w {f:DE}{t:TE}(h:PE X e t) (w:∀ σ H Q,liftE X.K g f σ H Q→t σ H Q):EO X g e f:=⟨PEw h w⟩
theorem BO.w {f:DE}{t:TE}(h:PE X e t) (w:∀ σ H Q,liftB X.K g f σ H Q→t σ H Q):BO X g e f:=⟨PEw h w⟩
theorem FO.w {f:DA}{t:TE}(h:PE X e t) (w:∀ σ H Q,liftF X.K g f σ H Q→t σ H Q):FO X g e f:=⟨PEw h w⟩
theorem TO.w {f:DT}{t:TT}(h:PT X e t) (w:∀ σ H Q,liftT X.K g f σ H Q→t σ H Q):TO X g e f:=⟨PTw h w⟩
theorem WO.w {f:DT}{t:TT}(h:PW X e t) (w:∀ σ H Q,liftT X.K g f σ H Q→t σ H Q):WO X g e f:=⟨PWw h w⟩
theorem AO.w {es:List Expr}{f:DA}{t:TA}(h:PA X es t) (w:∀ σ H Q,liftA X.K g f σ H Q→t σ H Q):AO X g es f:=⟨PAw h w⟩
theorem BAO.w {es:List Expr}{f:DA}{t:TA}(h:PA X es t) (w:∀ σ H Q,liftBA X.K g f σ H Q→t σ H Q):BAO X g es f:=⟨PAw h w⟩
theorem SO.w {st:Stmt}{f:DM}{t:TS}(h:PS X st t) (w:∀ E σ H,liftS X.K g f E σ H→t E σ H):SO X g st f:=⟨PSw h w⟩
theorem SSO.w {st:List Stmt}{f:DM}{t:TS}(h:PSs X st t) (w:∀ E σ H,liftS X.K g f E σ H→t E σ H):SSO X g st f:=⟨b28 h w⟩
theorem EO.b (h:EO X g e f):BO X g e f:=BO.w h.pe fun σ H Q ⟨fa,O,s,d,s',I,e,k⟩=>⟨fa,O,s,d,s',I,e,fun v H' fa' O' a I' r=>k v H' fa' O' a I' (r.b fun _ z=>.inr (.inr z))⟩
def u8 (f:DA):DE:=fun s=>(f s).map fun p=>(.lst p.1,p.2)
theorem a1I {K:PySem.W.Frag}{σ:L2.St}{H H':Hp}{fa fa':Option Addr}{O O':List Addr}{s s':DS}{p:Addr}(I:GI K g σ H fa O s) (a:StE fa O H fa' O' H') (I':GI K g σ H' fa' O' s') (e:H p=none) (e':fa'≠some p):¬ NN g.F fa' O' p:=by
 rintro(z | z | z)
 ·exact I.trF z e
 ·obtain⟨ys,q⟩:=I.owned (a.sub p z)
  rw[e] at q;cases q
 ·exact e' z
theorem FO.v {f:DA}(h:FO X g e f):EO X g e (u8 f):=EO.w h.pe fun σ H Q hQ=>by
 refine hQ.elim fun fa O s d s' I e k=>?_
 simp only[u8] at e
 cases q:f s with
 |none=>rw[q] at e;cases e
 |some p=>
  obtain⟨ds,s1⟩:=p
  rw[q] at e
  simp only[Option.map_some,Option.some.injEq,Prod.mk.injEq] at e
  obtain⟨e1,e2⟩:=e
  subst e1;subst e2
  refine⟨fa,O,s,ds,s1,I,q,fun p xs H' fa' O' a L e1=>k _ H' fa' O' a L.gi ?_⟩
  simp only[Rep]
  exact⟨p,xs,rfl,a1I I a L.gi e1 L.nf,L.ls,Reps.go ⟨fun b ys n q=>⟨q,fun z=>n (.inl z)⟩,fun _ _ q=>q,fun _ _ q=>q,fun _ q=>q⟩ ds xs L.rs⟩
end
theorem a1Q {g:Gh}{K:PySem.W.Frag}{σ:L2.St}{H:Hp}{fa:Option Addr}{O:List Addr}{s:DS}{p:Addr}{o:HO}(I:GI K g σ H fa O s) (hp:H p=none):Car K (NN g.F fa O) fa H (fun b=>NN g.F fa O b∨b=p) fa (upd H p o):=by
 have c:=I.car (E4 (fa:=fa) (O:=O) (o:=o) hp).stp
 refine⟨fun b xs n q=>?_,c.tp,c.fz,c.fe⟩
 obtain⟨q',n'⟩:=c.ls b xs n q
 refine⟨q',?_⟩
 rintro(z | z)
 ·exact n' z
 ·subst z
  rw[hp] at q;cases q
theorem X8 {g:Gh}{K:PySem.W.Frag}{σ:L2.St}{H:Hp}{fa:Option Addr}{O:List Addr}{s:DS}{p:Addr}{ds:List D}{xs:List V}(I:GI K g σ H fa O s) (hp:H p=none) (r:Reps K (NN g.F fa O) fa H ds xs):NewL K g σ (upd H p (.lst xs)) fa O s p xs ds:=
 ⟨I.new hp,B9,SlR.go (a1Q I hp) (fun b ys _ e=>by rw[u3 (M9 e hp)];exact e) I.sl,I.fd.car (a1Q I hp) (I.fd.same_new hp),Reps.go (a1Q I hp) ds xs r,fun z=>I.fd.tracked z hp⟩
def dC (d:D):DE:=fun s=>some (d,s)
def dV (i:Nat):DE:=fun s=>match s.sl[i]? with
 |some (.val d)=>some (d,s)
 |some (.own ds)=>some (.lst ds,{ s with sl:=s.sl.set i (.val (.lst ds)) })
 |_=>none
def dL (i:Nat):DE:=fun s=>match s.sl[i]? with
 |some (.val d)=>some (d,s)
 |some (.own ds)=>some (.lst ds,s)
 |_=>none
section
variable {X:Cx}{g:Gh}
theorem c5 {i:Nat}{x:Str}{pos:Pos}(h:PE X (.Name x pos) (R8 i)):BO X g (.Name x pos) (dL i):=BO.w h fun σ H Q hQ=>by
 refine hQ.elim fun fa O s d s' I e k=>?_
 simp only[dL] at e
 cases q:s.sl[i]? with
 |none=>rw[q] at e;cases e
 |some z=>
  rw[q] at e
  cases z with
  |no=>cases e
  |val d'=>
   cases e
   obtain⟨u,e1,r⟩:=SlR.val I.sl q
   exact⟨u,e1,k u H fa O StE.refl I (r.b fun _ z=>.inr (.inr z))⟩
  |own ds=>
   cases e
   obtain⟨a,xs,e1,m,e2,r⟩:=SlR.own I.sl q
   exact⟨_,e1,k _ H fa O StE.refl I ⟨a,xs,rfl,fun z=>I.nf a z m,e2,r⟩⟩
theorem c8 {i:Nat}{x:Str}{pos:Pos}(h:PE X (.Name x pos) (R8 i)):EO X g (.Name x pos) (dV i):=EO.w h fun σ H Q hQ=>by
 refine hQ.elim fun fa O s d s' I e k=>?_
 simp only[dV] at e
 cases q:s.sl[i]? with
 |none=>rw[q] at e;cases e
 |some z=>
  rw[q] at e
  cases z with
  |no=>cases e
  |val d'=>
   cases e
   obtain⟨u,e1,r⟩:=SlR.val I.sl q
   exact⟨u,e1,k u H fa O StE.refl I r⟩
  |own ds=>
   cases e
   obtain⟨a,xs,e1,m,e2,r⟩:=SlR.own I.sl q
   have i':i<s.sl.length:=(List.getElem?_eq_some_iff.mp q).1
   let N1:Addr→Prop:=fun b=>NN g.F fa O b∧b≠a
   have c1:Car X.K (NN g.F fa O) fa H N1 fa H:=⟨fun b ys n z=>⟨z,fun y=>n y.1⟩,fun _ _ z=>z,fun _ _ z=>z,fun _ z=>z⟩
   have S1:=SlR.go c1 (fun _ _ _ z=>z) I.sl
   have R1:Rep X.K N1 fa H (.lst ds) (.ref a):=by
    simp only[Rep]
    exact⟨a,xs,rfl,fun z=>z.2 rfl,e2,Reps.go c1 ds xs r⟩
   obtain⟨P,hs,S2,hn⟩:=SlR.put i S1 R1
   have na:a ∉ P:=hn I.nd a (by rw[q];rfl) ⟨ds,q⟩ e1
   have eσ:σ.set i (some (V.ref a))=σ:=by
    apply List.ext_getElem?
    intro j
    by_cases hj:j=i
    ·subst hj
     rw[e1,List.getElem?_set_self (List.getElem?_eq_some_iff.mp e1).1]
    ·rw[List.getElem?_set_ne (Ne.symm hj)]
   rw[eσ] at S2
   have sub:∀ b∈P,b∈O:=fun b hb=>hs.subset hb
   have a1:StE fa O H fa P H:=⟨sub,.inl rfl,fun _ _ z _=>z,fun _ z=>z⟩
   have c2:Car X.K N1 fa H (NN g.F fa P) fa H:=⟨fun b ys n z=>⟨z,fun y=>n ⟨by
     rcases y with y | y | y
     ·exact .inl y
     ·exact .inr (.inl (sub b y))
     ·exact .inr (.inr y),fun w=>by
     subst w
     rcases y with y | y | y
     ·exact I.tr b y (I.fr b m)
     ·exact na y
     ·exact I.nf b y m⟩⟩,fun _ _ z=>z,fun _ _ z=>z,fun _ z=>z⟩
   refine⟨_,e1,k _ H fa P a1 ⟨hs.nodup I.nd,SlR.go c2 (fun _ _ _ z=>z) S2,fun b hb=>I.fr b (sub b hb),I.st,I.tr,I.ff,(I.fd.car c1 fun _ _=>rfl).car c2 fun _ _=>rfl,fun b z y=>I.nf b z (sub b y)⟩ (Rep.go c2 _ _ R1)⟩
theorem a3V {e:Expr}{v:V}{d:D}(h:PE X e (tC v)) (r:∀ K N fa H,Rep K N fa H d v):EO X g e (dC d):=EO.w h fun σ H Q hQ=>by
 refine hQ.elim fun fa O s d' s' I q k=>?_
 simp only[dC,Option.some.injEq,Prod.mk.injEq] at q
 obtain⟨q1,q2⟩:=q
 subst q1;subst q2
 exact k v H fa O StE.refl I (r _ _ _ _)
theorem a9 {i j pos}:EO X g (.Constant (.int i) j pos) (dC (.int i)):=a3V Z8 fun _ _ _ _=>by simp only[Rep]
theorem K3 {i j pos}:EO X g (.Constant (.bool i) j pos) (dC (.bl i)):=a3V b3n fun _ _ _ _=>by simp only[Rep]
theorem a04 {j pos}:EO X g (.Constant .none j pos) (dC .non):=a3V b0h fun _ _ _ _=>by simp only[Rep]
end
def R2D (K:PySem.W.Frag) (r:R2) (p:D→D→Option D):Prop:=
 ∀ (g:Gh) (σ:L2.St) (H:Hp) (fa:Option Addr) (O:List Addr) (s:DS) (x y:V) (d1 d2 d:D) (Q:VK),GI K g σ H fa O s→RepB K (NN g.F fa O) fa H d1 x→RepB K (NN g.F fa O) fa H d2 y→p d1 d2=some d →
  (∀ v H',StE fa O H fa O H'→GI K g σ H' fa O s→Rep K (NN g.F fa O) fa H' d v→Q v H')→r x y H Q
def R1D (K:PySem.W.Frag) (r:V→Hp→VK→Prop) (p:D→Option D):Prop:=
 ∀ (g:Gh) (σ:L2.St) (H:Hp) (fa:Option Addr) (O:List Addr) (s:DS) (x:V) (d1 d:D) (Q:VK),GI K g σ H fa O s→RepB K (NN g.F fa O) fa H d1 x→p d1=some d →
  (∀ v H',StE fa O H fa O H'→GI K g σ H' fa O s→Rep K (NN g.F fa O) fa H' d v→Q v H')→r x H Q
def R2F (K:PySem.W.Frag) (r:R2) (p:D→D→Option (List D)):Prop:=
 ∀ (g:Gh) (σ:L2.St) (H:Hp) (fa:Option Addr) (O:List Addr) (s:DS) (x y:V) (d1 d2:D) (ds:List D) (Q:VK),GI K g σ H fa O s→RepB K (NN g.F fa O) fa H d1 x→RepB K (NN g.F fa O) fa H d2 y→p d1 d2=some ds →
  (∀ q xs H',StE fa O H fa O H'→NewL K g σ H' fa O s q xs ds→H q=none→Q (.ref q) H')→r x y H Q
def RCD (K:PySem.W.Frag) (r:List V→Hp→VK→Prop) (p:List D→Option D):Prop:=
 ∀ (g:Gh) (σ:L2.St) (H:Hp) (fa:Option Addr) (O:List Addr) (s:DS) (xs:List V) (ds:List D) (d:D) (Q:VK),GI K g σ H fa O s→S6 K (NN g.F fa O) fa H ds xs→p ds=some d →
  (∀ v H',StE fa O H fa O H'→GI K g σ H' fa O s→Rep K (NN g.F fa O) fa H' d v→Q v H')→r xs H Q
def RCF (K:PySem.W.Frag) (r:List V→Hp→VK→Prop) (p:List D→Option (List D)):Prop:=
 ∀ (g:Gh) (σ:L2.St) (H:Hp) (fa:Option Addr) (O:List Addr) (s:DS) (xs:List V) (ds es:List D) (Q:VK),GI K g σ H fa O s→S6 K (NN g.F fa O) fa H ds xs→p ds=some es →
  (∀ q ys H',StE fa O H fa O H'→NewL K g σ H' fa O s q ys es→H q=none→Q (.ref q) H')→r xs H Q
def dOp (p:D→D→Option D) (a b:DE):DE:=fun s=>(a s).bind fun x=>(b x.2).bind fun y=>(p x.1 y.1).map fun d=>(d,y.2)
def O8 (p:D→D→Option (List D)) (a b:DE):DA:=fun s=>(a s).bind fun x=>(b x.2).bind fun y=>(p x.1 y.1).map fun d=>(d,y.2)
def dUn (p:D→Option D) (a:DE):DE:=fun s=>(a s).bind fun x=>(p x.1).map fun d=>(d,x.2)
theorem a7u {α:Type}{p:D→D→Option α}{a b:DE}{s s':DS}{d:α}(h:((a s).bind fun x=>(b x.2).bind fun y=>(p x.1 y.1).map fun d=>(d,y.2))=some (d,s')):∃ x s1 y,a s=some (x,s1)∧b s1=some (y,s')∧p x y=some d:=by
 refine v3 h fun x s1 h1 h=>?_
 refine v3 h fun y s2 h2 h=>?_
 refine R9 h fun d' h3 h=>?_
 simp only[Prod.mk.injEq] at h
 obtain⟨e1,e2⟩:=h
 subst e1;subst e2
 exact⟨x,s1,y,h1,h2,h3⟩
section
variable {X:Cx}{g:Gh}{a b:Expr}{fa fb:DE}{pos:Pos}{r:R2}{p:D→D→Option D}
theorem a1K {r:R2}{p:D→D→Option D}(hr:R2D X.K r p) (σ:L2.St) (H:Hp) (Q:VK) (h:liftE X.K g (dOp p fa fb) σ H Q):tOp r (liftB X.K g fa) (liftB X.K g fb) σ H Q:=by
 obtain⟨f0,O,s,d,s',I,e,k⟩:=h
 obtain⟨x,s1,y,h1,h2,h3⟩:=a7u e
 refine⟨f0,O,s,x,s1,I,h1,fun v H1 f1 O1 a1 I1 r1=>⟨f1,O1,s1,y,s',I1,h2,fun u H2 f2 O2 a2 I2 r2=>?_⟩⟩
 exact hr g σ H2 f2 O2 s' v u x y d Q I2 (RepB.stp I1 a2 r1) r2 h3 fun z H3 a3 I3 r3=>k z H3 f2 O2 (a1.trans (a2.trans a3)) I3 r3
theorem a9Q {r:R2}{p:D→D→Option (List D)}(hr:R2F X.K r p) (σ:L2.St) (H:Hp) (Q:VK) (h:liftF X.K g (O8 p fa fb) σ H Q):tOp r (liftB X.K g fa) (liftB X.K g fb) σ H Q:=by
 obtain⟨f0,O,s,d,s',I,e,k⟩:=h
 obtain⟨x,s1,y,h1,h2,h3⟩:=a7u e
 refine⟨f0,O,s,x,s1,I,h1,fun v H1 f1 O1 a1 I1 r1=>⟨f1,O1,s1,y,s',I1,h2,fun u H2 f2 O2 a2 I2 r2=>?_⟩⟩
 exact hr g σ H2 f2 O2 s' v u x y d Q I2 (RepB.stp I1 a2 r1) r2 h3 fun q xs H3 a3 L e1=>k q xs H3 f2 O2 (a1.trans (a2.trans a3)) L (a1.mon _ (a2.mon _ e1))
theorem j8 {op:Operator}(ho:OpR X (binaryOp op) r) (hr:R2D X.K r p) (ha:BO X g a fa) (hb:BO X g b fb):EO X g (.BinOp a op b pos) (dOp p fa fb):=EO.w (a61 ho ha.pe hb.pe) (a1K hr)
theorem Y4 {op:Operator}{p:D→D→Option (List D)}(ho:OpR X (binaryOp op) r) (hr:R2F X.K r p) (ha:BO X g a fa) (hb:BO X g b fb):FO X g (.BinOp a op b pos) (O8 p fa fb):=FO.w (a61 ho ha.pe hb.pe) (a9Q hr)
theorem a0V {op:CmpOp}(ho:OpR X (compareOp op) r) (hr:R2D X.K r p) (ha:BO X g a fa) (hb:BO X g b fb) (hm:behindInMarks op b=false):EO X g (.Compare a [op] [b] pos) (dOp p fa fb):=EO.w (b4k ho ha.pe hb.pe hm) (a1K hr)
theorem j5 {r:R2}(ho:IxR X r) (hr:R2D X.K r p) (ha:BO X g a fa) (hb:BO X g b fb) (hs:a6P b):EO X g (.Subscript a b pos) (dOp p fa fb):=EO.w (a6y ho ha.pe hb.pe hs) (a1K hr)
theorem D7 {op:UnaryOp}{r:V→Hp→VK→Prop}{p:D→Option D}(ho:UnR X (unaryOp op) r) (hr:R1D X.K r p) (ha:BO X g a fa):EO X g (.UnaryOp op a pos) (dUn p fa):=EO.w (b2g ho ha.pe) fun σ H Q hQ=>by
 refine hQ.elim fun f0 O s d s' I e k=>?_
 refine v3 e fun x s1 h1 h=>?_
 refine R9 h fun d' h3 h=>?_
 simp only[Prod.mk.injEq] at h
 obtain⟨e1,e2⟩:=h
 subst e1;subst e2
 exact⟨f0,O,s,x,s1,I,h1,fun v H1 f1 O1 a1 I1 r1=>hr g σ H1 f1 O1 s1 v x d' Q I1 r1 h3 fun z H3 a3 I3 r3=>k z H3 f1 O1 (a1.trans a3) I3 r3⟩
def dB (f:DE):DT:=fun s=>(f s).bind fun x=>match x.1 with | .bl b=>some (b,x.2) | _=>none
theorem b0Y {f:DE}{s s':DS}{b:Bool}(h:dB f s=some (b,s')):f s=some (.bl b,s'):=by
 refine v3 h fun x s1 h1 h=>?_
 cases x with
 |bl c=>simp only[Option.some.injEq,Prod.mk.injEq] at h;rw[h1,h.1,h.2]
 |_=>cases h
theorem A9 {op:CmpOp}(ho:OpR X (compareOp op) r) (hr:R2D X.K r p) (ha:BO X g a fa) (hb:BO X g b fb) (hm:behindInMarks op b=false):TO X g (.Compare a [op] [b] pos) (dB (dOp p fa fb)):=
 TO.w (b0q ho ha.pe hb.pe hm) fun σ H Q ⟨f0,O,s,d,s',I,e,k⟩=>a1K hr σ H _ ⟨f0,O,s,.bl d,s',I,b0Y e,fun v H' f1 O1 a I1 r=>by
  simp only[Rep] at r
  exact⟨d,r,k H' f1 O1 a I1⟩⟩
def J7:D→Option Bool
 |.non=>some false
 |.bl b=>some b
 |.int i=>some (i != 0)
 |.str x=>some ((x.length:Int) != 0)
 |.tup ds=>some (!ds.isEmpty)
 |.lst ds=>some (!ds.isEmpty)
 |_=>none
def dTr (f:DE):DT:=fun s=>(f s).bind fun x=>(J7 x.1).map fun b=>(b,x.2)
theorem a7f {α β:Type}{xs:List α}{ys:List β}(h:xs.length=ys.length):xs.isEmpty=ys.isEmpty:=by cases xs <;> cases ys <;> simp_all
theorem E9 {e:Expr}{f:DE}(h:BO X g e f) (he:∀ whole,isTrue e X.env whole=(do let v ←whole;standAt e.pos;holding [v] (truthy v)):=by intro _;rfl):TO X g e (dTr f):=
 TO.w (b4E h.pe he) fun σ H Q hQ=>by
  refine hQ.elim fun f0 O s d s' I e k=>?_
  obtain⟨⟨x,s1⟩,h1,h.pe⟩:=Option.bind_eq_some_iff.mp e
  obtain⟨d',h3,h.pe⟩:=Option.map_eq_some_iff.mp h.pe
  simp only[Prod.mk.injEq] at h.pe
  obtain⟨e1,e2⟩:=h.pe
  subst e1;subst e2
  refine⟨f0,O,s,x,s1,I,h1,fun v H' f1 O1 a I1 r=>⟨d',?_,k H' f1 O1 a I1⟩⟩
  cases x with
  |non=>simp only[RepB,Rep] at r;subst r;cases h3;rfl
  |bl b=>simp only[RepB,Rep] at r;subst r;cases h3;rfl
  |int i=>simp only[RepB,Rep] at r;subst r;cases h3;rfl
  |str x=>simp only[RepB,Rep] at r;obtain⟨r,l⟩:=r;subst r;cases h3;exact⟨l,rfl⟩
  |tup ds=>
   simp only[RepB,Rep] at r
   obtain⟨c,xs,r,q,w⟩:=r
   subst r;cases h3
   exact .inr (.inl ⟨xs,q,by rw[a7f w.length]⟩)
  |lst ds=>
   obtain⟨c,xs,r,_,q,w⟩:=r
   subst r;cases h3
   exact .inl ⟨xs,SqL.of q,by rw[a7f w.length]⟩
  |feed=>cases h3
  |scr _=>cases h3
def A8 (a b:DT):DT:=fun s=>(a s).bind fun x=>if x.1=true then b x.2 else some (false,x.2)
def dOr (a b:DT):DT:=fun s=>(a s).bind fun x=>if x.1=true then some (true,x.2) else b x.2
def B1 (a:DT):DT:=fun s=>(a s).map fun x=>(!x.1,x.2)
def K7 (a b:DE):DE:=fun s=>(dB a s).bind fun x=>if x.1=true then b x.2 else some (.bl false,x.2)
def L0 (a b:DE):DE:=fun s=>(dB a s).bind fun x=>if x.1=true then some (.bl true,x.2) else b x.2
def L3 (a:DE):DE:=fun s=>(dB a s).map fun x=>(.bl (!x.1),x.2)
variable {ta tb:DT}{rest:List Expr}
theorem X4 (h:TO X g a ta):WO X g (.BoolOp .And [a] pos) ta:=⟨b3j h.pe⟩
theorem a3b (h:TO X g a ta):WO X g (.BoolOp .Or [a] pos) ta:=⟨b46 h.pe⟩
theorem W1 (ha:TO X g a ta) (hb:WO X g (.BoolOp .And (b::rest) pos) tb):WO X g (.BoolOp .And (a::b::rest) pos) (A8 ta tb):=WO.w (b0Z ha.pe hb.pe) fun σ H Q hQ=>by
 refine hQ.elim fun f0 O s d s' I e k=>?_
 refine v3 e fun x s1 h1 h=>?_
 refine⟨f0,O,s,x,s1,I,h1,fun H1 f1 O1 a1 I1=>?_⟩
 cases x with
 |true=>rw[if_pos rfl] at h ⊢;exact⟨f1,O1,s1,d,s',I1,h,fun H2 f2 O2 a2 I2=>k H2 f2 O2 (a1.trans a2) I2⟩
 |false=>
  rw[if_neg Bool.false_ne_true] at h ⊢
  simp only[Option.some.injEq,Prod.mk.injEq] at h
  obtain⟨e1,e2⟩:=h
  subst e1;subst e2
  exact k H1 f1 O1 a1 I1
theorem a1P (ha:TO X g a ta) (hb:WO X g (.BoolOp .Or (b::rest) pos) tb):WO X g (.BoolOp .Or (a::b::rest) pos) (dOr ta tb):=WO.w (b4j ha.pe hb.pe) fun σ H Q hQ=>by
 refine hQ.elim fun f0 O s d s' I e k=>?_
 refine v3 e fun x s1 h1 h=>?_
 refine⟨f0,O,s,x,s1,I,h1,fun H1 f1 O1 a1 I1=>?_⟩
 cases x with
 |false=>rw[if_neg Bool.false_ne_true] at h ⊢;exact⟨f1,O1,s1,d,s',I1,h,fun H2 f2 O2 a2 I2=>k H2 f2 O2 (a1.trans a2) I2⟩
 |true=>
  rw[if_pos rfl] at h ⊢
  simp only[Option.some.injEq,Prod.mk.injEq] at h
  obtain⟨e1,e2⟩:=h
  subst e1;subst e2
  exact k H1 f1 O1 a1 I1
theorem WO.t {e:Expr}{f:DT}(h:WO X g e f):TO X g e f:=⟨h.pe.pt⟩
theorem W6 (ha:TO X g a ta):TO X g (.UnaryOp .Not a pos) (B1 ta):=TO.w (a9U ha.pe) fun σ H Q hQ=>by
 refine hQ.elim fun f0 O s d s' I e k=>?_
 refine mapP e fun x s1 h1 h=>?_
 simp only[Prod.mk.injEq] at h
 obtain⟨e1,e2⟩:=h
 subst e1;subst e2
 exact⟨f0,O,s,x,s1,I,h1,fun H1 f1 O1 a1 I1=>k H1 f1 O1 a1 I1⟩
def dIf (c:DT) (a b:DE):DE:=fun s=>(c s).bind fun x=>if x.1=true then a x.2 else b x.2
theorem a18 {c:Expr}{fc:DT}(hc:TO X g c fc) (ha:EO X g a fa) (hb:EO X g b fb):EO X g (.IfExp c a b pos) (dIf fc fa fb):=EO.w (b4X hc.pe ha.pe hb.pe) fun σ H Q hQ=>by
 refine hQ.elim fun f0 O s d s' I e k=>?_
 refine v3 e fun x s1 h1 h=>?_
 refine⟨f0,O,s,x,s1,I,h1,fun H1 f1 O1 a1 I1=>?_⟩
 cases x with
 |false=>rw[if_neg Bool.false_ne_true] at h ⊢;exact⟨f1,O1,s1,d,s',I1,h,fun v H2 f2 O2 a2 I2=>k v H2 f2 O2 (a1.trans a2) I2⟩
 |true=>rw[if_pos rfl] at h ⊢;exact⟨f1,O1,s1,d,s',I1,h,fun v H2 f2 O2 a2 I2=>k v H2 f2 O2 (a1.trans a2) I2⟩
def a8:DA:=fun s=>some ([],s)
def a7 (a:DE) (r:DA):DA:=fun s=>(a s).bind fun x=>(r x.2).map fun y=>(x.1::y.1,y.2)
theorem a0A {a:DE}{r:DA}{s s':DS}{ds:List D}(h:a7 a r s=some (ds,s')):∃ d s1 es,a s=some (d,s1)∧r s1=some (es,s')∧ds=d::es:=by
 refine v3 h fun x s1 h1 h=>?_
 refine mapP h fun y s2 h2 h=>?_
 simp only[Prod.mk.injEq] at h
 exact⟨x,s1,y,h1,by rw[h2,h.2],h.1.symm⟩
variable {es:List Expr}{fr:DA}
theorem b6:AO X g [] a8:=AO.w a1k fun σ H Q hQ=>by
 refine hQ.elim fun f0 O s d s' I e k=>?_
 simp only[a8,Option.some.injEq,Prod.mk.injEq] at e
 obtain⟨e1,e2⟩:=e
 subst e1;subst e2
 exact k [] H f0 O StE.refl I (by simp only[Reps])
theorem a47 (ha:EO X g a fa) (hr:AO X g es fr) (hs:starEach (a::es) X.env=(false,eval a X.env)::starEach es X.env:=by rfl):AO X g (a::es) (a7 fa fr):=AO.w (Z2 ha.pe hr.pe hs) fun σ H Q hQ=>by
 refine hQ.elim fun f0 O s ds s' I e k=>?_
 obtain⟨d,s1,es,h1,h2,h3⟩:=a0A e
 subst h3
 refine⟨f0,O,s,d,s1,I,h1,fun v H1 f1 O1 a1 I1 r1=>⟨f1,O1,s1,es,s',I1,h2,fun vs H2 f2 O2 a2 I2 r2=>?_⟩⟩
 refine k (v::vs) H2 f2 O2 (a1.trans a2) I2 ?_
 simp only[Reps]
 exact⟨v,vs,rfl,Rep.stp I1 a2.stp r1,r2⟩
theorem B5:BAO X g [] a8:=BAO.w a1k fun σ H Q hQ=>by
 refine hQ.elim fun f0 O s d s' I e k=>?_
 simp only[a8,Option.some.injEq,Prod.mk.injEq] at e
 obtain⟨e1,e2⟩:=e
 subst e1;subst e2
 exact k [] H f0 O StE.refl I (by simp only[S6])
theorem b5Y (ha:BO X g a fa) (hr:BAO X g es fr) (hs:starEach (a::es) X.env=(false,eval a X.env)::starEach es X.env:=by rfl):BAO X g (a::es) (a7 fa fr):=BAO.w (Z2 ha.pe hr.pe hs) fun σ H Q hQ=>by
 refine hQ.elim fun f0 O s ds s' I e k=>?_
 obtain⟨d,s1,es,h1,h2,h3⟩:=a0A e
 subst h3
 refine⟨f0,O,s,d,s1,I,h1,fun v H1 f1 O1 a1 I1 r1=>⟨f1,O1,s1,es,s',I1,h2,fun vs H2 f2 O2 a2 I2 r2=>?_⟩⟩
 exact k (v::vs) H2 f2 O2 (a1.trans a2) I2 ⟨v,vs,rfl,RepB.stp I1 a2 r1,r2⟩
def j6 (f:DA):DE:=fun s=>(f s).bind fun x=>if x.1.length≤sizeLine then some (.tup x.1,x.2) else none
def u9 (f:DA):DA:=fun s=>(f s).bind fun x=>if x.1.length≤sizeLine then some (x.1,x.2) else none
theorem k0 {x1} (h:AO X g es fr):EO X g (.Tuple es x1 pos) (j6 fr):=EO.w (b3X h.pe) fun σ H Q hQ=>by
 refine hQ.elim fun f0 O s d s' I e k=>?_
 obtain⟨⟨ds,s1⟩,h1,h.pe⟩:=Option.bind_eq_some_iff.mp e
 by_cases hl:ds.length≤sizeLine
 ·rw[if_pos hl] at h.pe
  simp only[Option.some.injEq,Prod.mk.injEq] at h.pe
  obtain⟨e1,e2⟩:=h.pe
  subst e1;subst e2
  refine⟨f0,O,s,ds,s1,I,h1,fun vs H1 f1 O1 a1 I1 r1=>⟨by rw[r1.length];exact hl,fun p hp=>?_⟩⟩
  have a2:StE f1 O1 H1 f1 O1 (upd H1 p (.tup vs)):=E4 hp
  refine k _ _ f1 O1 (a1.trans a2) (I1.new hp) ?_
  simp only[Rep]
  exact⟨p,vs,rfl,SqT.of B9,Reps.stp I1 a2.stp r1⟩
 ·rw[if_neg hl] at h.pe;cases h.pe
theorem C6 (h:AO X g es fr):FO X g (.List es pos) (u9 fr):=FO.w (a7Z h.pe) fun σ H Q hQ=>by
 refine hQ.elim fun f0 O s d s' I e k=>?_
 obtain⟨⟨ds,s1⟩,h1,h.pe⟩:=Option.bind_eq_some_iff.mp e
 by_cases hl:ds.length≤sizeLine
 ·rw[if_pos hl] at h.pe
  simp only[Option.some.injEq,Prod.mk.injEq] at h.pe
  obtain⟨e1,e2⟩:=h.pe
  subst e1;subst e2
  refine⟨f0,O,s,ds,s1,I,h1,fun vs H1 f1 O1 a1 I1 r1=>⟨by rw[r1.length];exact hl,fun p hp=>?_⟩⟩
  have a2:StE f1 O1 H1 f1 O1 (upd H1 p (.lst vs)):=E4 hp
  exact k p vs _ f1 O1 (a1.trans a2) (X8 I1 hp r1) (a1.mon _ hp)
 ·rw[if_neg hl] at h.pe;cases h.pe
end
section
variable {K:PySem.W.Frag}{g:Gh}{σ:L2.St}{H H':Hp}{fa fa':Option Addr}{O O':List Addr}{s s':DS}
theorem NN.mono {F:Addr→Prop}{P:List Addr}(h:∀ b∈P,b∈O) {b:Addr}(z:NN F fa P b):NN F fa O b:=by
 rcases z with z | z | z
 ·exact .inl z
 ·exact .inr (.inl (h b z))
 ·exact .inr (.inr z)
theorem a5Q {F:Addr→Prop}{N:Addr→Prop}(h:∀ b,NN F fa O b→N b):Car K N fa H (NN F fa O) fa H:=⟨fun b xs n q=>⟨q,fun z=>n (h b z)⟩,fun _ _ q=>q,fun _ _ q=>q,fun _ q=>q⟩
theorem DI.put (I:GI K g σ H fa O s) (i:Nat) {d:D}{v:V}(r:Rep K (NN g.F fa O) fa H d v):∃ P,(∀ b∈P,b∈O)∧GI K g (σ.set i (some v)) H fa P { s with sl:=s.sl.set i (.val d) }:=by
 obtain⟨P,hs,S,_⟩:=SlR.put i I.sl r
 have sub:∀ b∈P,b∈O:=fun b hb=>hs.subset hb
 have c:Car K (NN g.F fa O) fa H (NN g.F fa P) fa H:=a5Q fun b=>NN.mono sub
 exact⟨P,sub,hs.nodup I.nd,SlR.go c (fun _ _ _ z=>z) S,fun b hb=>I.fr b (sub b hb),I.st,I.tr,I.ff,I.fd.car c fun _ _=>rfl,fun b z y=>I.nf b z (sub b y)⟩
theorem a17 {P:List Addr}(h:∀ b∈P,b∈O):StE fa O H fa P H:=⟨h,.inl rfl,fun _ _ e _=>e,fun _ e=>e⟩
theorem NewL.put {p:Addr}{xs:List V}{ds:List D}(L:NewL K g σ H fa O s p xs ds) (i:Nat) (hi:i<s.sl.length) (h0:g.H0 p=none) (hp:p ∉ O):∃ P,(∀ b∈P,b=p∨b∈O)∧GI K g (σ.set i (some (.ref p))) H fa P { s with sl:=s.sl.set i (.own ds) }:=by
 obtain⟨P,h1,h2,S⟩:=SlR.putN i L.sl hi hp L.gi.nd L.ls L.rs
 have c:Car K (fun b=>NN g.F fa O b∨b=p) fa H (NN g.F fa P) fa H:=a5Q fun b z=>by
  rcases z with z | z | z
  ·exact .inl (.inl z)
  ·rcases h1 b z with y | y
   ·exact .inr y
   ·exact .inl (.inr (.inl y))
  ·exact .inl (.inr (.inr z))
 refine⟨P,h1,h2,SlR.go c (fun _ _ _ z=>z) S,fun b hb=>?_,L.gi.st,L.gi.tr,L.gi.ff,L.fd.car c fun _ _=>rfl,fun b z hb=>?_⟩
 ·rcases h1 b hb with y | y
  ·rw[y];exact h0
  ·exact L.gi.fr b y
 ·rcases h1 b hb with y | y
  ·rw[y] at z;exact L.nf z
  ·exact L.gi.nf b z y
theorem DI.rew (I:GI K g σ H fa O s) {i:Nat}{ds es:List D}{a:Addr}{xs ys:List V}(e1:s.sl[i]? = some (.own ds)) (e2:σ[i]? = some (some (.ref a))) (m:a∈O) (e3:H a=some (.lst xs)) (r:Reps K (NN g.F fa O) fa H es ys) :
  GI K g σ (upd H a (.lst ys)) fa O { s with sl:=s.sl.set i (.own es) }∧Stp fa O H fa O (upd H a (.lst ys)):=by
 have a1:Stp fa O H fa O (upd H a (.lst ys)):=⟨fun b hb=>.inl hb,.inl rfl,fun b u e n _=>by
  rw[u3 (show b≠a from fun z=>n (by rw[z];exact m))];exact e,fun b z=>by
  by_cases hb:b=a
  ·subst hb;rw[B9] at z;cases z
  ·rw[u3 hb] at z;exact z⟩
 have c:=I.car a1
 have k:∀ b u,b≠a→H b=some u→upd H a (.lst ys) b=some u:=fun b u n e=>by rw[u3 n];exact e
 refine⟨⟨I.nd,SlR.rew I.sl I.nd (fun b hb=>.inr (.inl hb)) e1 e2 B9 c k (Reps.go c es ys r),I.fr,?_,I.tr,I.ff,I.fd.car c fun b hb=>?_,I.nf⟩,a1⟩
 ·refine⟨fun b hb=>(by cases hb),I.st.fe,fun b u e n f=>?_,fun b z=>I.st.mon b (a1.mon b z)⟩
  refine k b u (fun z=>?_) (I.st.same b u e n f)
  rw[z,I.fr a m] at e;cases e
 ·refine u3 fun z=>?_
  subst z
  exact I.nf _ hb m
end
theorem FlK.shift {K:PySem.W.Frag}{g:Gh}{E:Ends}{fa fa':Option Addr}{O O':List Addr}{H H':Hp}{fl:Fl}{s:DS}(a:Stp fa O H fa' O' H') (h:FlK K g E fa O H fl s):FlK K g E fa' O' H' fl s:=by
 cases fl with
 |next=>exact fun σ' H2 f2 O2 a2 I2=>h σ' H2 f2 O2 (a.trans a2) I2
 |brk=>exact fun σ' H2 f2 O2 a2 I2=>h σ' H2 f2 O2 (a.trans a2) I2
 |cont=>exact fun σ' H2 f2 O2 a2 I2=>h σ' H2 f2 O2 (a.trans a2) I2
 |ret d=>exact fun σ' v H2 f2 O2 a2 I2=>h σ' v H2 f2 O2 (a.trans a2) I2
def u6:DM:=fun s=>some (.next,s)
def F9 (b:DM) (x:Fl × DS):Option (Fl × DS):=match x.1 with
 |.next=>b x.2
 |.brk=>some (.brk,x.2)
 |.cont=>some (.cont,x.2)
 |.ret d=>some (.ret d,x.2)
def e8 (a b:DM):DM:=fun s=>(a s).bind (F9 b)
section
variable {X:Cx}{g:Gh}{st:Stmt}{rest:List Stmt}{e:Expr}{pos:Pos}{a b:DM}{f:DE}
theorem D0:SSO X g [] u6:=SSO.w b2x fun E σ H hQ=>by
 refine hQ.elim fun fa O s fl s' I e k=>?_
 cases e
 exact k σ H fa O Stp.refl I
theorem k9 (h:SO X g st a):SSO X g [st] a:=⟨b5B h.pe⟩
theorem i9 (h:SO X g st a) (hr:SSO X g rest b):SSO X g (st::rest) (e8 a b):=SSO.w (a96 h.pe hr.pe) fun E σ H hQ=>by
 refine hQ.elim fun fa O s fl s' I e k=>?_
 refine v3 e fun f1 s1 h1 h2=>?_
 refine⟨fa,O,s,f1,s1,I,h1,?_⟩
 cases f1 with
 |next=>exact fun σ' H' f1 O1 a1 I1=>⟨f1,O1,s1,fl,s',I1,h2,k.shift a1⟩
 |brk=>cases h2;exact k
 |cont=>cases h2;exact k
 |ret d=>cases h2;exact k
def l6 (f:DE):DM:=fun s=>(f s).map fun x=>(.ret x.1,x.2)
theorem m7 (he:EO X g e f):SO X g (.Return (some e) pos) (l6 f):=SO.w (a90 he.pe) fun E σ H hQ=>by
 refine hQ.elim fun fa O s fl s' I q k=>?_
 refine mapP q fun d s1 h1 h2=>?_
 cases h2
 exact⟨fa,O,s,d,s1,I,h1,fun v H' f1 O1 a1 I1 r=>k σ v H' f1 O1 a1.stp I1 r⟩
def p9 (c:DT) (a b:DM):DM:=fun s=>(c s).bind fun x=>if x.1=true then a x.2 else b x.2
theorem C7 {c:Expr}{fc:DT}{la lb:List Stmt}(hc:TO X g c fc) (ha:SSO X g la a) (hb:SSO X g lb b):SO X g (.If c la lb pos) (p9 fc a b):=SO.w (a83 hc.pe ha.pe hb.pe) fun E σ H hQ=>by
 refine hQ.elim fun fa O s fl s' I e k=>?_
 refine v3 e fun x s1 h1 h=>?_
 refine⟨fa,O,s,x,s1,I,h1,fun H1 f1 O1 a1 I1=>?_⟩
 cases x with
 |false=>rw[if_neg Bool.false_ne_true] at h ⊢;exact⟨f1,O1,s1,fl,s',I1,h,k.shift a1.stp⟩
 |true=>rw[if_pos rfl] at h ⊢;exact⟨f1,O1,s1,fl,s',I1,h,k.shift a1.stp⟩
def liftG (K:PySem.W.Frag) (g:Gh) (t:D→DS→Option DS):TG:=fun v σ H Q=>∃ fa O s d s',GI K g σ H fa O s∧Rep K (NN g.F fa O) fa H d v∧t d s=some s'∧∀ σ' H' fa' O',Stp fa O H fa' O' H'→GI K g σ' H' fa' O' s'→Q σ' H'
def liftGs (K:PySem.W.Frag) (g:Gh) (t:List D→DS→Option DS):TGs:=fun vs σ H Q=>∃ fa O s ds s',GI K g σ H fa O s∧Reps K (NN g.F fa O) fa H ds vs∧t ds s=some s'∧∀ σ' H' fa' O',Stp fa O H fa' O' H'→GI K g σ' H' fa' O' s'→Q σ' H'
section
variable {K:PySem.W.Frag}{g:Gh}{σ:L2.St}{Q:L2.St→Hp→Prop}{H:Hp}{G:Prop}
theorem liftG.elim {t:D→DS→Option DS}{v:V}(h:liftG K g t v σ H Q) (k:∀ fa O s d s',GI K g σ H fa O s→Rep K (NN g.F fa O) fa H d v→t d s=some s'→(∀ σ' H' fa' O',Stp fa O H fa' O' H'→GI K g σ' H' fa' O' s'→Q σ' H')→G):G:=by
 obtain⟨fa,O,s,d,s',a,r,b,c⟩:=h
 exact k fa O s d s' a r b c
theorem liftGs.elim {t:List D→DS→Option DS}{v:List V}(h:liftGs K g t v σ H Q) (k:∀ fa O s d s',GI K g σ H fa O s→Reps K (NN g.F fa O) fa H d v→t d s=some s'→(∀ σ' H' fa' O',Stp fa O H fa' O' H'→GI K g σ' H' fa' O' s'→Q σ' H')→G):G:=by
 obtain⟨fa,O,s,d,s',a,r,b,c⟩:=h
 exact k fa O s d s' a r b c
end
structure GO (X:Cx) (g:Gh) (e:Expr) (t:D→DS→Option DS):Prop where
 pe:PG X e (liftG X.K g t)
structure GsO (X:Cx) (g:Gh) (es:List Expr) (t:List D→DS→Option DS):Prop where
 pe:PGs X es (liftGs X.K g t)
def c9 (i:Nat) (d:D):DS→Option DS:=fun s=>some { s with sl:=s.sl.set i (.val d) }
theorem PGw {t t':TG}(h:PG X e t) (w:∀ v σ H Q,t' v σ H Q→t v σ H Q):PG X e t':=fun pins s σ H v u Q I r q=>h pins s σ H v u Q I r (w v σ H Q q)
theorem b4J {es:List Expr}{t t':TGs}(h:PGs X es t) (w:∀ v σ H Q,t' v σ H Q→t v σ H Q):PGs X es t':=fun pins s σ H v u Q I r q=>h pins s σ H v u Q I r (w v σ H Q q)
theorem GO.w {f:D→DS→Option DS}{t:TG}(h:PG X e t) (w:∀ v σ H Q,liftG X.K g f v σ H Q→t v σ H Q):GO X g e f:=⟨PGw h w⟩
theorem GsO.w {es:List Expr}{f:List D→DS→Option DS}{t:TGs}(h:PGs X es t) (w:∀ v σ H Q,liftGs X.K g f v σ H Q→t v σ H Q):GsO X g es f:=⟨b4J h w⟩
theorem p8 {i:Nat}{x:Str}(h:PG X (.Name x pos) (M3 i)):GO X g (.Name x pos) (c9 i):=GO.w h fun v σ H Q hQ=>by
 refine hQ.elim fun fa O s d s' I r e k=>?_
 cases e
 obtain⟨P,sub,I'⟩:=I.put i r
 exact k _ H fa P (a17 sub).stp I'
def u4:List D→DS→Option DS
 |[],s=>some s
 |_::_,_=>none
def l7 (t:D→DS→Option DS) (u:List D→DS→Option DS):List D→DS→Option DS
 |[],_=>none
 |d::r,s=>(t d s).bind (u r)
theorem D1:GsO X g [] u4:=GsO.w a42 fun v σ H Q hQ=>by
 refine hQ.elim fun fa O s ds s' I r e k=>?_
 cases ds with
 |nil=>cases e;simp only[Reps] at r;exact⟨r,k σ H fa O Stp.refl I⟩
 |cons d r'=>cases e
theorem u5 {es:List Expr}{t:D→DS→Option DS}{u:List D→DS→Option DS}(h:GO X g e t) (hr:GsO X g es u) (hs:(assignEach (e::es) X.env).map (·.2)=assign e X.env::(assignEach es X.env).map (·.2):=by rfl):GsO X g (e::es) (l7 t u):=
 GsO.w (a0S h.pe hr.pe hs) fun v σ H Q hQ=>by
  refine hQ.elim fun fa O s ds s' I r e k=>?_
  cases ds with
  |nil=>cases e
  |cons d r'=>
   refine M0 e fun s1 h1 h2=>?_
   simp only[Reps] at r
   obtain⟨x,ys,rfl,rx,ry⟩:=r
   exact⟨x,ys,rfl,fa,O,s,d,s1,I,rx,h1,fun σ1 H1 f1 O1 a1 I1=>⟨f1,O1,s1,r',s',I1,Reps.stp I a1 ry,h2,fun σ2 H2 f2 O2 a2 I2=>k σ2 H2 f2 O2 (a1.trans a2) I2⟩⟩
def t9 (n:Nat) (u:List D→DS→Option DS) (d:D) (s:DS):Option DS:=match d with
 |.tup ds=>if ds.length=n then u ds s else none
 |_=>none
theorem D2 {es:List Expr}{k:Nat}{n:Nat}{u:List D→DS→Option DS}(hc:X.calm=true) (h:GsO X g es u) (hn:(assignEach es X.env).length=n:=by rfl) (hst:(assignEach es X.env).findIdx? (·.1)=none:=by rfl):GO X g (.Tuple es k pos) (t9 n u):=
 GO.w (a5e hc h.pe hn hst) fun v σ H Q hQ=>by
  refine hQ.elim fun fa O s d s' I r e k=>?_
  cases d with
  |tup ds=>
   simp only[t9] at e
   by_cases hl:ds.length=n
   ·rw[if_pos hl] at e
    simp only[Rep] at r
    obtain⟨a,xs,rfl,q,w⟩:=r
    exact⟨a,xs,rfl,q,by rw[w.length];exact hl,fa,O,s,ds,s',I,w,e,k⟩
   ·rw[if_neg hl] at e;cases e
  |_=>cases e
def j7 (f:DE) (t:D→DS→Option DS):DM:=fun s=>(f s).bind fun x=>(t x.1 x.2).map fun s'=>(.next,s')
theorem a8G {f:DE}{t:D→DS→Option DS}(E:Ends) (σ:L2.St) (H:Hp) (h:liftS X.K g (j7 f t) E σ H):a0s (liftE X.K g f) (liftG X.K g t) E σ H:=by
 obtain⟨fa,O,s,fl,s',I,q,k⟩:=h
 refine v3 q fun d s1 h1 h2=>?_
 refine R9 h2 fun s2 h3 h4=>?_
 cases h4
 exact⟨fa,O,s,d,s1,I,h1,fun v H1 f1 O1 a1 I1 r=>⟨f1,O1,s1,d,_,I1,r,h3,fun σ2 H2 f2 O2 a2 I2=>k σ2 H2 f2 O2 (a1.stp.trans a2) I2⟩⟩
theorem N2 {tg:Expr}{t:D→DS→Option DS}(he:EO X g e f) (hg:GO X g tg t) (hs:swapsWithSole [tg] e pos.line X.env=pure false:=by rfl) (hw:swappedStores [tg] e X.env=pure none:=by rfl)
  (h1:(assignEach [tg] X.env).map (·.2)=[assign tg X.env]:=by rfl):SO X g (.Assign [tg] e pos) (j7 f t):=SO.w (a5F he.pe hg.pe hs hw h1) a8G
theorem l4 {i:Nat}{x:Str}{pos':Pos}(hN:X.N.Nodup) (hi:X.N[i]? = some x) (hx:Loc X.env.scope x) (he:EO X g e f) (hs:swapsWith e (some (.Name x pos')) pos.line X.env=pure false:=by rfl) (hf:X.fn x=true∨X.env.scope.names.lookup x=some .local:=by first | exact .inl rfl | exact .inr rfl | assumption) :
  SO X g (.Assign [.Name x pos'] e pos) (j7 f (c9 i)):=SO.w (a70 hN hi hx he.pe hs hf) fun E σ H h=>by
 obtain⟨fa,O,s,d,s1,I,h1,k⟩:=a8G E σ H h
 refine⟨fa,O,s,d,s1,I,h1,fun v H1 f1 O1 a1 I1 r=>?_⟩
 obtain⟨f2,O2,s2,d2,s3,I2,r2,e2,k2⟩:=k v H1 f1 O1 a1 I1 r
 cases e2
 obtain⟨P,sub,I'⟩:=I2.put i r2
 exact k2 _ H1 f2 P (a17 sub).stp I'
def D6 (i:Nat) (f:DA):DM:=fun s=>(f s).bind fun x=>if i<x.2.sl.length then some (.next,{ x.2 with sl:=x.2.sl.set i (.own x.1) }) else none
theorem J3 {i:Nat}{x:Str}{f:DA}{pos':Pos}(hN:X.N.Nodup) (hi:X.N[i]? = some x) (hx:Loc X.env.scope x) (he:FO X g e f) (hs:swapsWith e (some (.Name x pos')) pos.line X.env=pure false:=by rfl) (hf:X.fn x=true∨X.env.scope.names.lookup x=some .local:=by first | exact .inl rfl | exact .inr rfl | assumption) :
  SO X g (.Assign [.Name x pos'] e pos) (D6 i f):=SO.w (a70 hN hi hx he.pe hs hf) fun E σ H hQ=>by
 refine hQ.elim fun fa O s fl s' I q k=>?_
 refine v3 q fun ds s1 h1 h2=>?_
 by_cases hl:i<s1.sl.length
 ·simp only[] at h2
  rw[if_pos hl] at h2
  cases h2
  refine⟨fa,O,s,ds,s1,I,h1,fun p xs H1 f1 O1 a1 L hp=>?_⟩
  have np:p ∉ O1:=fun z=>by
   obtain⟨ys,e⟩:=I.owned (a1.sub p z)
   rw[hp] at e;cases e
  obtain⟨P,sub,I'⟩:=L.put i hl (I.st.mon p hp) np
  refine k _ H1 f1 P ⟨fun b hb=>?_,a1.fe,fun b u e _ n=>a1.same b u e n,a1.mon⟩ I'
  rcases sub b hb with y | y
  ·exact .inr (by rw[y];exact hp)
  ·exact .inl (a1.sub b y)
 ·simp only[] at h2
  rw[if_neg hl] at h2;cases h2
def G1 (i:Nat) (f:DE):DM:=fun s=>match s.sl[i]? with
 |some (.own _)=>(f s).bind fun x=>match x.2.sl[i]? with
  |some (.own ds)=>if ds.length<sizeLine then some (.next,{ x.2 with sl:=x.2.sl.set i (.own (ds++[x.1])) }) else none
  |_=>none
 |_=>none
theorem V1 {i:Nat}{x:Str}{p1 p2 p3 p4:Pos}(hv:PE X (.Name x p1) (R8 i)) (he:EO X g e f) (hbase:attributeBase (.Name x p1) ("append" : Str) X.env (eval (.Name x p1) X.env)=eval (.Name x p1) X.env:=by rfl)
  (hfew:((backTo p3 (starEach [e] X.env)).all (fun x=>!x.1)&&(backToKw p3 (keywordEach [] X.env)).all (fun x=>x.1.isSome)
   && decide ([e].length+([]:List Keyword).length+(if ([]:List Keyword).isEmpty then 0 else 1)<30))=true:=by rfl)
  (hline:(p2.endLine == p3.line)=true:=by rfl) (hs:starEach [e] X.env=(false,eval e X.env)::starEach [] X.env:=by rfl) (hplain:(backTo p3 (starEach [] X.env)).any (·.1)=false:=by rfl)
  (hsw:swapsWith (.Call (.Attribute (.Name x p1) ("append" : Str) p2) [e] [] p3) none p4.line X.env=pure false:=by rfl) :
  SO X g (.Expr (.Call (.Attribute (.Name x p1) ("append" : Str) p2) [e] [] p3) p4) (G1 i f):=
 SO.w (a68 (a8D PySem.F.plainAttrs_list PySem.F.slot_list_append PySem.F.type_list_append a8E hv (Z2 he.pe a1k hs) hbase hfew hline hs hplain) hsw) fun E σ H hQ=>by
  refine hQ.elim fun fa O s fl s' I q k=>?_
  cases q0:s.sl[i]? with
  |none=>simp only[G1,q0] at q;cases q
  |some z=>
  cases z with
  |no=>simp only[G1,q0] at q;cases q
  |val _=>simp only[G1,q0] at q;cases q
  |own ds0=>
  simp only[G1,q0] at q
  obtain⟨a,xs0,e1,m,e2,_⟩:=SlR.own I.sl q0
  refine v3 q fun d s1 h1 h2=>?_
  cases q2:s1.sl[i]? with
  |none=>simp only[q2] at h2;cases h2
  |some z=>
   cases z with
   |no=>simp only[q2] at h2;cases h2
   |val _=>simp only[q2] at h2;cases h2
   |own ds=>
    simp only[q2] at h2
    by_cases hl:ds.length<sizeLine
    ·rw[if_pos hl] at h2
     cases h2
     refine⟨_,e1,.inl ⟨rfl,xs0,SqL.of e2⟩,fa,O,s,d,s1,I,h1,fun v H1 f1 O1 a1 I1 r=>?_⟩
     obtain⟨b,xs,e3,m1,e4,r1⟩:=SlR.own I1.sl q2
     rw[e1] at e3;cases e3
     obtain⟨I2,a2⟩:=I1.rew q2 e1 m1 e4 (Reps.append r1 (Reps.one r))
     exact⟨a,xs,v,rfl,rfl,e4,by rw[r1.length];exact hl,k σ _ f1 O1 (a1.stp.trans a2) I2⟩
    ·rw[if_neg hl] at h2;cases h2
end
def u7 (t:D→DS→Option DS) (b:DM):List D→DS→Option (Fl × DS)
 |[],s=>some (.next,s)
 |d::r,s=>(t d s).bind fun s1=>(b s1).bind fun x=>match x.1 with
  |.next=>u7 t b r x.2
  |.cont=>u7 t b r x.2
  |.brk=>some (.next,x.2)
  |.ret v=>some (.ret v,x.2)
def PvD (K:PySem.W.Frag) (g:Gh) (f1:Option Addr) (O1:List Addr) (H1:Hp) (t:D→DS→Option DS) (b:DM) (ds:List D) (fl:Fl) (sf:DS) (i:Nat):L2.St→Hp→Prop:=fun σ' H'=>
 ∃ fa' O' s',Stp f1 O1 H1 fa' O' H'∧GI K g σ' H' fa' O' s'∧u7 t b (ds.drop i) s'=some (fl,sf)
section
variable {K:PySem.W.Frag}{g:Gh}{f1:Option Addr}{O1:List Addr}{H1 H':Hp}{t:D→DS→Option DS}{b:DM}{ds:List D}{fl:Fl}{sf:DS}{i:Nat}{E:Ends}{σ':L2.St}
theorem a5K {α:Type}{l:List α}{i:Nat}{d:α}(h:l[i]? = some d):l.drop i=d::l.drop (i+1):=by
 obtain⟨hi,e⟩:=List.getElem?_eq_some_iff.mp h
 rw[List.drop_eq_getElem_cons hi,e]
theorem a0z (hk:FlK K g E f1 O1 H1 fl sf) {d:D}{x:V}(hd:ds[i]? = some d) (hr:∀ fa' O',Stp f1 O1 H1 fa' O' H'→Rep K (NN g.F fa' O') fa' H' d x) (h:PvD K g f1 O1 H1 t b ds fl sf i σ' H') :
  liftG K g t x σ' H' fun σ2 H2=>liftS K g b { E with nx:=PvD K g f1 O1 H1 t b ds fl sf (i+1),ct:=PvD K g f1 O1 H1 t b ds fl sf (i+1),bk:=E.nx } σ2 H2:=by
 obtain⟨fa',O',s',st,I,e⟩:=h
 rw[a5K hd,u7] at e
 refine M0 e fun s1 h1 h2=>?_
 refine v3 h2 fun fb s2 h3 h4=>?_
 refine⟨fa',O',s',d,s1,I,hr fa' O' st,h1,fun σ2 H2 f2 O2 a2 I2=>⟨f2,O2,s1,fb,s2,I2,h3,?_⟩⟩
 cases fb with
 |next=>exact fun σ3 H3 f3 O3 a3 I3=>⟨f3,O3,s2,st.trans (a2.trans a3),I3,h4⟩
 |cont=>exact fun σ3 H3 f3 O3 a3 I3=>⟨f3,O3,s2,st.trans (a2.trans a3),I3,h4⟩
 |brk=>cases h4;exact fun σ3 H3 f3 O3 a3 I3=>hk σ3 H3 f3 O3 (st.trans (a2.trans a3)) I3
 |ret v=>cases h4;exact fun σ3 v H3 f3 O3 a3 I3 r=>hk σ3 v H3 f3 O3 (st.trans (a2.trans a3)) I3 r
theorem a0E (hk:FlK K g E f1 O1 H1 fl sf) {n:Nat}(hn:ds.length≤n) (h:PvD K g f1 O1 H1 t b ds fl sf n σ' H'):E.nx σ' H':=by
 obtain⟨fa',O',s',st,I,e⟩:=h
 rw[List.drop_eq_nil_of_le hn,u7] at e
 cases e
 exact hk σ' H' fa' O' st I
end
def F6 (f:DE) (t:D→DS→Option DS) (b:DM):DM:=fun s=>(f s).bind fun x=>match x.1 with
 |.lst ds=>u7 t b ds x.2
 |.tup ds=>u7 t b ds x.2
 |_=>none
section
variable {X:Cx}{g:Gh}{tg iter:Expr}{body:List Stmt}{f:DE}{t:D→DS→Option DS}{b:DM}{pos:Pos}
def b2Z (K:PySem.W.Frag) (tl:TE):TI:=fun σ H R=>tl σ H fun x H1=>∃ a,x = .ref a∧(((∃ xs,SqL K H1 a xs)∧R (Itl K a) H1)∨((∃ xs,SqT K H1 a xs)∧R (Itt K a) H1))
theorem a6j {l:Expr}{tl:TE}(hl:PE X l tl):PI X tg l (b2Z X.K tl):=by
 intro pins s σ H R I h
 refine thn (hl pins s σ H _ I h) fun v s1 ⟨x,H1,I1,r1,q1⟩=>?_
 obtain⟨a,e,q⟩:=q1
 subst e
 cases r1
 rcases q with ⟨⟨xs,hq⟩,q⟩ | ⟨⟨xs,hq⟩,q⟩
 ·obtain⟨its,rv,p,hz⟩:=I1.list hq
  refine wpAny_pyIter_list p.isList ?_
  refine⟨s1.heap.objs.size,[s1.heap.objs.size],_,_,H1,rfl,I1.kept (t':=s1.toks) fun b o e=>Heap.get?_push_of_some _ e,b5I a _,⟨_,Heap.get?_push_size _ rfl,rfl,rfl⟩,fun b hb=>?_,q⟩
  have e:b=s1.heap.objs.size:=by simpa using hb
  subst e
  exact I1.fpOk (Nat.le_refl _) (I1.hok.fresh (Nat.le_refl _))
 ·obtain⟨its,rv,p,hz⟩:=I1.tuple hq
  refine wpAny_pyIter_tuple (show s1.heap.IsTuple a its.toArray from p) ?_
  refine⟨s1.heap.objs.size,[s1.heap.objs.size],_,_,H1,rfl,I1.kept (t':=s1.toks) fun b o e=>Heap.get?_push_of_some _ e,b3L a _,⟨_,Heap.get?_push_size _ rfl,rfl,rfl⟩,fun b hb=>?_,q⟩
  have e:b=s1.heap.objs.size:=by simpa using hb
  subst e
  exact I1.fpOk (Nat.le_refl _) (I1.hok.fresh (Nat.le_refl _))
theorem P4 (hp:PassesOwn (model X.prog X.w) X.A X.env X.xe) (hc:X.calm=true) (he:EO X g iter f) (hg:GO X g tg t) (hb:SSO X g body b) (hs:∀ x,foldedSetIterable iter X.env x=pure x:=by intro _;rfl) :
  SO X g (.For tg iter body [] pos) (F6 f t b):=SO.w (a1d hp hc (a6j he.pe) hg.pe hb.pe hs) fun E σ H hQ=>by
 refine hQ.elim fun fa O s fl sf I q k=>?_
 refine v3 q fun d s1 h1 h2=>?_
 refine⟨fa,O,s,d,s1,I,h1,fun v H1 f1 O1 a1 I1 r=>?_⟩
 have k1:=k.shift a1.stp
 cases d with
 |lst ds=>
  simp only[Rep] at r
  obtain⟨a,xs,rfl,na,q,w⟩:=r
  refine⟨a,rfl,.inl ⟨⟨xs,SqL.of q⟩,a8U (xs:=xs) (PvD X.K g f1 O1 H1 t b ds fl sf) ⟨f1,O1,s1,Stp.refl,I1,h2⟩ ?_ ?_ ?_⟩⟩
  ·rintro i σ' H' _ ⟨fa',O',s',st,I',e⟩
   exact SqL.of ((I1.car st).ls a xs na q).1
  ·intro i x σ' H' hx h
   obtain⟨d,hd,rd⟩:=Reps.get' w hx
   exact a0z k1 hd (fun fa' O' st=>Rep.stp I1 st rd) h
  ·intro σ' H' h
   exact a0E k1 (Nat.le_of_eq w.length.symm) h
 |tup ds=>
  simp only[Rep] at r
  obtain⟨a,xs,rfl,q,w⟩:=r
  refine⟨a,rfl,.inr ⟨⟨xs,q⟩,a0b (xs:=xs) (PvD X.K g f1 O1 H1 t b ds fl sf) ⟨f1,O1,s1,Stp.refl,I1,h2⟩ ?_ ?_ ?_⟩⟩
  ·rintro i σ' H' _ ⟨fa',O',s',st,I',e⟩
   exact(I1.car st).tp a xs q
  ·intro i x σ' H' hx h
   obtain⟨d,hd,rd⟩:=Reps.get' w hx
   exact a0z k1 hd (fun fa' O' st=>Rep.stp I1 st rd) h
  ·intro σ' H' h
   exact a0E k1 (Nat.le_of_eq w.length.symm) h
 |_=>cases h2
def ups (lo:Int) (n:Nat):List D:=(List.range n).map fun (i:Nat)=>D.int (lo+(i:Int))
theorem a2M {lo:Int}{n i:Nat}(h:i<n):(ups lo n)[i]? = some (.int (lo+(i:Int))):=by simp[ups,h]
theorem M7 (lo:Int) (n:Nat):(ups lo n).length=n:=by simp[ups]
def U3:List D→Option (List D)
 |[.int j]=>if -(2 ^ 62)≤j∧j<2 ^ 62 then some (ups 0 j.toNat) else none
 |[.int i,.int j]=>if -(2 ^ 62)≤i∧i<2 ^ 62 ∧ -(2 ^ 62)≤j∧j<2 ^ 62 then some (ups i (j - i).toNat) else none
 |_=>none
def O9 (f:DA) (t:D→DS→Option DS) (b:DM):DM:=fun s=>(f s).bind fun x=>(U3 x.1).bind fun ds=>u7 t b ds x.2
theorem a5W {ds es:List D}{a:D}(h:U3 ds=some es) (l:ds=[a]):∃ j:Int,a = .int j ∧ -(2 ^ 62)≤j∧j<2 ^ 62∧es=ups 0 j.toNat:=by
 subst l
 cases a with
 |int j=>
  have h:(if -(2 ^ 62)≤j∧j<2 ^ 62 then some (ups 0 j.toNat) else none)=some es:=h
  by_cases hj:-(2 ^ 62)≤j∧j<2 ^ 62
  ·rw[if_pos hj] at h;cases h;exact⟨j,rfl,hj.1,hj.2,rfl⟩
  ·rw[if_neg hj] at h;cases h
 |_=>cases h
theorem a0K {a:Expr}{fa:DE}{p cpos:Pos}(hp:PassesOwn (model X.prog X.w) X.A X.env X.xe) (hc:X.calm=true) (hgl:Gl X "range") (hm:X.mg "range" = none) (ha:EO X g a fa) (hg:GO X g tg t) (hb:SSO X g body b)
  (hs1:starEach [a] X.env=[(false,eval a X.env)]:=by rfl) (hs:∀ x,foldedSetIterable (.Call (.Name "range" p) [a] [] cpos) X.env x=pure x:=by intro _;rfl) :
  SO X g (.For tg (.Call (.Name "range" p) [a] [] cpos) body [] pos) (O9 (a7 fa a8) t b):=
 SO.w (a1d hp hc (a7r hgl hm (a47 ha b6 hs1).pe hs1) hg.pe hb.pe hs) fun E σ H hQ=>by
  refine hQ.elim fun fa O s fl sf I q k=>?_
  refine v3 q fun ds s1 h1 h2=>?_
  refine M0 h2 fun es h3 h4=>?_
  obtain⟨d,s2,rs,e1,e2,e3⟩:=a0A h1
  cases e2
  obtain⟨j,rfl,j1,j2,rfl⟩:=a5W h3 e3
  refine⟨fa,O,s,ds,s1,I,h1,fun vs H1 f1 O1 a1 I1 r=>?_⟩
  have k1:=k.shift a1.stp
  rw[e3] at r
  simp only[Reps,Rep] at r
  obtain⟨x,ys,rfl,rfl,rfl⟩:=r
  refine⟨j,rfl,j1,j2,b4W (lo:=0) (n:=j.toNat) (PvD X.K g f1 O1 H1 t b (ups 0 j.toNat) fl sf) ⟨f1,O1,s1,Stp.refl,I1,h4⟩ ?_ ?_⟩
  ·intro i σ' H' hi h
   exact a0z k1 (a2M hi) (fun fa' O' st=>by simp only[Rep]) h
  ·intro σ' H' h
   exact a0E k1 (by rw[M7];exact Nat.le_refl _) h
def whN (c:DT) (b:DM):Nat→DS→Option (Fl × DS)
 |0,_=>none
 |n+1,s=>(c s).bind fun x=>if x.1=true then (b x.2).bind fun y=>match y.1 with
   |.next=>whN c b n y.2
   |.cont=>whN c b n y.2
   |.brk=>some (.next,y.2)
   |.ret v=>some (.ret v,y.2)
  else some (.next,x.2)
open Classical in
def C5 (c:DT) (b:DM):DM:=fun s=>if h:∃ n r,whN c b n s=some r then whN c b h.choose s else none
theorem a3Q {c:DT}{b:DM}:∀ (n:Nat) {s:DS}{r:Fl × DS},whN c b n s=some r→whN c b (n+1) s=some r
 |0,s,r,h=>by cases h
 |n+1,s,r,h=>by
  rw[whN] at h ⊢
  refine v3 h fun x s1 h1 h2=>?_
  refine Option.bind_eq_some_iff.mpr ⟨(x,s1),h1,?_⟩
  cases x with
  |false=>exact h2
  |true=>
   simp only[if_true] at h2 ⊢
   refine v3 h2 fun y s2 h3 h4=>?_
   refine Option.bind_eq_some_iff.mpr ⟨(y,s2),h3,?_⟩
   cases y with
   |next=>exact a3Q n h4
   |cont=>exact a3Q n h4
   |brk=>exact h4
   |ret v=>exact h4
theorem a5S {c:DT}{b:DM}{n m:Nat}(hnm:n≤m) {s:DS}{r:Fl × DS}(h:whN c b n s=some r):whN c b m s=some r:=by
 induction hnm with
 |refl=>exact h
 |step _ ih=>exact a3Q _ ih
theorem a8d {c:DT}{b:DM}{n:Nat}{s:DS}{r:Fl × DS}(h:whN c b n s=some r):C5 c b s=some r:=by
 have hx:∃ n r,whN c b n s=some r:=⟨n,r,h⟩
 unfold C5
 rw[dif_pos hx]
 obtain⟨r',h'⟩:=hx.choose_spec
 have e1:=a5S (Nat.le_max_left n hx.choose) h
 have e2:=a5S (Nat.le_max_right n hx.choose) h'
 rw[e1] at e2
 rw[h',e2]
theorem a7d {c:DT}{b:DM}{s:DS}{r:Fl × DS}(h:C5 c b s=some r):∃ n,whN c b n s=some r:=by
 unfold C5 at h
 by_cases hx:∃ n r,whN c b n s=some r
 ·rw[dif_pos hx] at h;exact⟨_,h⟩
 ·rw[dif_neg hx] at h;cases h
theorem R7 {c:DT}{b:DM}{s s1 s2:DS}{r:Fl × DS}(h1:c s=some (true,s1)) (h2:b s1=some (.next,s2)) (h3:C5 c b s2=some r):C5 c b s=some r:=by
 obtain⟨n,h⟩:=a7d h3
 refine a8d (n:=n+1) ?_
 rw[whN,h1]
 simp only[Option.bind_some,if_true,h2]
 exact h
theorem Q3 {c:DT}{b:DM}{s s1:DS}(h1:c s=some (false,s1)):C5 c b s=some (.next,s1):=by
 refine a8d (n:=1) ?_
 rw[whN,h1]
 simp
theorem U0 {c:Expr}{fc:DT}(hp:PassesOwn (model X.prog X.w) X.A X.env X.xe) (hc:TO X g c fc) (hb:SSO X g body b):SO X g (.While c body [] pos) (C5 fc b):=SO.w (b29 hp hc.pe hb.pe) fun E σ H hQ=>by
 refine hQ.elim fun fa O s fl sf I q k=>?_
 obtain⟨n,h⟩:=a7d q
 refine⟨fun m σ' H'=>∃ fa' O' s',Stp fa O H fa' O' H'∧GI X.K g σ' H' fa' O' s'∧whN fc b m s'=some (fl,sf),⟨n,fa,O,s,Stp.refl,I,h⟩,?_⟩
 rintro m σ1 H1 ⟨f1,O1,s1,a1,I1,h1⟩
 cases m with
 |zero=>cases h1
 |succ m=>
  rw[whN] at h1
  refine v3 h1 fun x s2 h2 h3=>?_
  refine⟨f1,O1,s1,x,s2,I1,h2,fun H2 f2 O2 a2 I2=>?_⟩
  cases x with
  |false=>rw[if_neg Bool.false_ne_true] at h3 ⊢;cases h3;exact k σ1 H2 f2 O2 (a1.trans a2.stp) I2
  |true=>
   rw[if_pos rfl] at h3 ⊢
   refine v3 h3 fun y s3 h4 h5=>?_
   refine⟨fun σ' H'=>∃ fa' O' s',Stp fa O H fa' O' H'∧GI X.K g σ' H' fa' O' s'∧whN fc b m s'=some (fl,sf),fun σ' H' z=>⟨m,Nat.lt_succ_self m,z⟩,f2,O2,s2,y,s3,I2,h4,?_⟩
   have a12:=a1.trans a2.stp
   cases y with
   |next=>exact fun σ3 H3 f3 O3 a3 I3=>⟨f3,O3,s3,a12.trans a3,I3,h5⟩
   |cont=>exact fun σ3 H3 f3 O3 a3 I3=>⟨f3,O3,s3,a12.trans a3,I3,h5⟩
   |brk=>cases h5;exact fun σ3 H3 f3 O3 a3 I3=>k σ3 H3 f3 O3 (a12.trans a3) I3
   |ret v=>cases h5;exact fun σ3 v H3 f3 O3 a3 I3 r=>k σ3 v H3 f3 O3 (a12.trans a3) I3 r
end
abbrev DFn:=List D→Option FS→Option (D × Option FS)
def spD (K:PySem.W.Frag) (n:Nat) (m:DFn):Sp:=fun vs H Q _=>∃ (F:Addr→Prop) (fa:Option Addr) (ds:List D) (fs:Option FS) (d:D) (fs':Option FS),
 (∀ b,F b→H b≠none)∧(∀ a,fa=some a→F a)∧Reps K F fa H ds vs∧FeedR F H fa fs∧m ds fs=some (d,fs')∧ds.length=n ∧
  ∀ v H' fa',Stp fa [] H fa' [] H'→FeedR (fun b=>F b∨fa'=some b) H' fa' fs'→Rep K (fun b=>F b∨fa'=some b) fa' H' d v→Q v H'
abbrev FnD (P:Program) (w:World) (K:PySem.W.Frag) (mg:Str→Option Value) (base:Heap) (k:Nat) (f:Addr) (fd:FuncData) (ps:List Str) (m:DFn):Prop:=FnOk P w K mg base CX0 k f fd ps (spD K ps.length m)
def mFn (n:Nat) (b:DM):DFn:=fun ds fs=>(b ⟨ds.map .val++List.replicate (n - ds.length) .no,fs⟩).bind fun x=>match x.1 with
 |.ret d=>some (d,x.2.fs)
 |.next=>some (.non,x.2.fs)
 |_=>none
theorem a7h {K:PySem.W.Frag}{N:Addr→Prop}{fa:Option Addr}{H:Hp}:∀ n:Nat,SlR K N fa H (List.replicate n .no) (List.replicate n none) []
 |0=>by simp[SlR]
 |n+1=>by
  simp only[List.replicate_succ,SlR]
  exact⟨_,_,rfl,a7h n⟩
theorem a5Y {K:PySem.W.Frag}{N:Addr→Prop}{fa:Option Addr}{H:Hp}{n:Nat}:∀ {ds:List D}{vs:List V},Reps K N fa H ds vs→SlR K N fa H (ds.map .val++List.replicate n .no) (vs.map some++List.replicate n none) []
 |[],vs,h=>by simp only[Reps] at h;subst h;simpa using a7h n
 |d::r,vs,h=>by
  simp only[Reps] at h
  obtain⟨x,ys,rfl,h1,h2⟩:=h
  simp only[List.map_cons,List.cons_append,SlR]
  exact⟨x,_,rfl,h1,a5Y h2⟩
section
variable {P:Program}{w:World}{K:PySem.W.Frag}{mg:Str→Option Value}{base:Heap}
theorem a8x {x qual:Str}{st:Stmt}{f:Addr}{fd:FuncData}{N ps:List Str}{k:Nat}{b:DM}(F:Fun K x qual st f fd) (S:FnScope N ps (m5 st))
  (hbody:∀ (cdv:Value) (A:Around) (outer:List Env) (s:Shared) (H:Hp) (E:XK) (g:Gh),Room k (A.deeper (PyProof.Rows.envOfC qual (m5 st) s.heap.objs.size f cdv))→SSO (Q6 CX0 P w K mg base N qual (m5 st) f cdv A outer s H E).nox g (M5 st) b) :
  FnD P w K mg base (k+1) f fd ps (mFn N.length b):=by
 refine F.ok S (fun vs H Q E h=>?_) (fun cdv A outer s H vs Q E hr h=>?_)
 ·obtain⟨F,fa,ds,fs,d,fs',_,_,r,_,_,hl,_⟩:=h
  rw[r.length];exact hl
 obtain⟨F,fa,ds,fs,d,fs',tr,ff,r,fd,e,hl,q⟩:=h
 refine⟨_,(hbody cdv A outer s H E ⟨F,H,fa⟩ hr).pe,?_⟩
 refine v3 e fun fl s' h1 h2=>?_
 have hN:∀ b,NN F fa [] b→F b:=fun b z=>by
  rcases z with z | z | z
  ·exact z
  ·cases z
  ·exact ff b z
 have c:Car K F fa H (NN F fa []) fa H:=⟨fun b xs n q=>⟨q,fun z=>n (hN b z)⟩,fun _ _ q=>q,fun _ _ q=>q,fun _ q=>q⟩
 have el:(L2.start N vs)=vs.map some++List.replicate (N.length - ds.length) none:=by rw[L2.start,r.length]
 have I:GI K ⟨F,H,fa⟩ (L2.start N vs) H fa [] ⟨ds.map .val++List.replicate (N.length - ds.length) .no,fs⟩:=by
  refine⟨List.nodup_nil,?_,fun b hb=>(by cases hb),Stp.refl,tr,ff,fd.car c fun _ _=>rfl,fun _ _ z=>(by cases z)⟩
  rw[el]
  exact a5Y (Reps.go c ds vs r)
 have fin:∀ {fa':Option Addr}{O':List Addr}{H':Hp}{σ':L2.St}{v:V}{dd:D},Stp fa [] H fa' O' H'→GI K ⟨F,H,fa⟩ σ' H' fa' O' s'→Rep K (NN F fa' O') fa' H' dd v→dd=d→s'.fs=fs'→Q v H':=by
  intro fa' O' H' σ' v dd a1 I1 r1 e1 e2
  subst e1;subst e2
  have c1:Car K (NN F fa' O') fa' H' (fun b=>F b∨fa'=some b) fa' H':=⟨fun b xs n q=>⟨q,fun z=>n (by
   rcases z with z | z
   ·exact .inl z
   ·exact .inr (.inr z))⟩,fun _ _ q=>q,fun _ _ q=>q,fun _ q=>q⟩
  exact q v H' fa' ⟨fun b hb=>(by cases hb),a1.fe,a1.same,a1.mon⟩ (I1.fd.car c1 fun _ _=>rfl) (Rep.go c1 _ _ r1)
 refine⟨fa,[],_,fl,s',I,h1,?_⟩
 cases fl with
 |next=>
  simp only[Option.some.injEq,Prod.mk.injEq] at h2
  exact fun σ' H' fa' O' a1 I1=>fin a1 I1 (v:=.non) (dd:=.non) (by simp only[Rep]) h2.1 h2.2
 |ret dd=>
  simp only[Option.some.injEq,Prod.mk.injEq] at h2
  exact fun σ' v H' fa' O' a1 I1 r1=>fin a1 I1 r1 h2.1 h2.2
 |brk=>cases h2
 |cont=>cases h2
end
def e7 (m:DFn) (f:DA):DE:=fun s=>(f s).bind fun x=>(m x.1 x.2.fs).map fun y=>(y.1,{ x.2 with fs:=y.2 })
section
variable {X:Cx}{g:Gh}{k:Nat}{f:Addr}{fd:FuncData}{ps:List Str}{m:DFn}{x:Str}{p pos:Pos}{e:Expr}{es:List Expr}{t:DA}
theorem b2O {n:Nat}(hn:∀ s ds s',t s=some (ds,s')→ds.length=n) (σ:L2.St) (H:Hp) (Q:VK) (h:liftE X.K g (e7 m t) σ H Q):a6g (spD X.K n m) [] E0 (liftA X.K g t) σ H Q:=by
 obtain⟨fa,O,s,d,s',I,q,k⟩:=h
 refine v3 q fun ds s1 h1 h2=>?_
 refine mapP h2 fun d1 fs1 h3 h4=>?_
 simp only[Prod.mk.injEq] at h4
 obtain⟨e1,e2⟩:=h4
 subst e1;subst e2
 refine⟨fa,O,s,ds,s1,I,h1,fun vs H1 f1 O1 a1 I1 r=>?_⟩
 show spD X.K n m (vs++[]) H1 Q E0
 rw[List.append_nil]
 refine⟨NN g.F f1 O1,f1,ds,s1.fs,d1,fs1,fun b hb=>I1.nn_tracked hb,fun a ha=>.inr (.inr ha),r,I1.fd,h3,hn s ds s1 h1,fun v H2 f2 a2 fd2 r2=>?_⟩
 have a3:StE f1 O1 H1 f2 O1 H2:=⟨fun b hb=>hb,a2.fe,fun b u e n=>a2.same b u e (by simp) n,a2.mon⟩
 have c:=I1.car a3.stp
 have c2:Car X.K (fun b=>NN g.F f1 O1 b∨f2=some b) f2 H2 (NN g.F f2 O1) f2 H2:=⟨fun b xs n q=>⟨q,fun z=>n (by
   rcases z with z | z | z
   ·exact .inl (.inl z)
   ·exact .inl (.inr (.inl z))
   ·exact .inr z)⟩,fun _ _ q=>q,fun _ _ q=>q,fun _ q=>q⟩
 refine k v H2 f2 O1 (a1.trans a3) ⟨I1.nd,SlR.go c (fun b xs hb e=>?_) I1.sl,I1.fr,I1.st.trans ⟨fun b hb=>(by cases hb),a2.fe,fun b u e n z=>a2.same b u e n z,a2.mon⟩,I1.tr,I1.ff,fd2.car c2 fun _ _=>rfl,I1.nf_step a3.fe⟩ (Rep.go c2 _ _ r2)
 exact a3.same b _ e fun z=>I1.nf b z hb
theorem b01 (F:FnD X.prog X.w X.K X.mg X.base k f fd ps m) (hr:Room k X.A) (hg:Gl X x) (hm:X.mg x=some (.ref f)) (hk:PySem.W.keepIn X.K (.ref f)=true) (hb:Binds X.K fd ps [])
  (ha:AO X g (e::es) t) (hn:∀ s ds s',t s=some (ds,s')→ds.length=ps.length) (hdb:(x == ("__debug__" : Str))=false:=by decide) (he:starEach (e::es) X.env=(false,eval e X.env)::starEach es X.env:=by rfl) (hpl:(backTo pos (starEach es X.env)).any (·.1)=false:=by rfl) :
  EO X g (.Call (.Name x p) (e::es) [] pos) (e7 m t):=EO.w (b2u F hr hg hm hk hb .nil b3v ha.pe hdb he hpl) (b2O hn)
theorem i8:∀ s ds s',a8 s=some (ds,s')→ds.length=0:=fun s ds s' h=>by cases h;rfl
theorem c6 {a:DE}{r:DA}{n:Nat}(h:∀ s ds s',r s=some (ds,s')→ds.length=n):∀ s ds s',a7 a r s=some (ds,s')→ds.length=n+1:=fun s ds s' q=>by
 obtain⟨d,s1,es,h1,h2,h3⟩:=a0A q
 subst h3
 simp[h _ _ _ h2]
end
def ItD (K:PySem.W.Frag) (N:Addr→Prop) (fa:Option Addr) (H1:Hp) (J:It) (ds:List D):Prop:=∀ N' fa' H',Car K N fa H1 N' fa' H'→(∀ b u,H1 b=some u→fa≠some b→H' b=some u)→∀ i:Nat,
 (∀ d,ds[i]? = some d→J.go i H'∧∀ x H'',J.yld i H' x H''→H''=H'∧Rep K N' fa' H' d x)∧(ds.length≤i→J.stop i H')
def liftI (K:PySem.W.Frag) (g:Gh) (f:DA):TI:=fun σ H R=>∃ fa O s ds s',GI K g σ H fa O s∧f s=some (ds,s')∧ds.length≤sizeLine ∧
 ∀ J H' fa' O',StE fa O H fa' O' H'→GI K g σ H' fa' O' s'→ItD K (NN g.F fa' O') fa' H' J ds→R J H'
section
variable {K:PySem.W.Frag}{g:Gh}{σ:L2.St}{H:Hp}{G:Prop}
theorem liftI.elim {f:DA}{R:It→Hp→Prop}(h:liftI K g f σ H R) (k:∀ fa O s ds s',GI K g σ H fa O s→f s=some (ds,s')→ds.length≤sizeLine→(∀ J H' fa' O',StE fa O H fa' O' H'→GI K g σ H' fa' O' s'→ItD K (NN g.F fa' O') fa' H' J ds→R J H')→G):G:=by
 obtain⟨fa,O,s,d,s',a,r,b,c⟩:=h
 exact k fa O s d s' a r b c
end
structure IO (X:Cx) (g:Gh) (tg iter:Expr) (f:DA):Prop where
 pe:PI X tg iter (liftI X.K g f)
def G6 (f:DE):DA:=fun s=>(f s).bind fun x=>match x.1 with
 |.lst ds=>some (ds,x.2)
 |.tup ds=>some (ds,x.2)
 |_=>none
def N9 (f:DA):DA:=fun s=>(f s).bind fun x=>(U3 x.1).map fun ds=>(ds,x.2)
section
variable {X:Cx}{g:Gh}{tg iter:Expr}{f:DE}
theorem PIw {t t':TI}(h:PI X tg iter t) (w:∀ σ H R,t' σ H R→t σ H R):PI X tg iter t':=fun pins s σ H R I q=>h pins s σ H R I (w σ H R q)
theorem IO.w {f:DA}{t:TI}(h:PI X tg iter t) (w:∀ σ H R,liftI X.K g f σ H R→t σ H R):IO X g tg iter f:=⟨PIw h w⟩
theorem N8 (h:EO X g iter f):IO X g tg iter (G6 f):=IO.w (a6j h.pe) fun σ H R hQ=>by
 refine hQ.elim fun fa O s ds s' I e hz k=>?_
 refine v3 e fun d s1 h1 h2=>?_
 refine⟨fa,O,s,d,s1,I,h1,fun v H1 f1 O1 a1 I1 r=>?_⟩
 cases d with
 |lst es=>
  cases h2
  simp only[Rep] at r
  obtain⟨a,xs,rfl,na,q,w⟩:=r
  refine⟨a,rfl,.inl ⟨⟨xs,SqL.of q⟩,k _ H1 f1 O1 a1 I1 fun N' fa' H' c _ i=>⟨fun d hd=>?_,fun hl=>?_⟩⟩⟩
  ·obtain⟨x,hx,rx⟩:=Reps.get w hd
   have q':=(c.ls a xs na q).1
   refine⟨⟨xs,x,SqL.of q',hx⟩,fun y H'' hy=>?_⟩
   obtain⟨e1,e2⟩:=hy
   have:=e2 xs (SqL.of q')
   rw[hx] at this;cases this
   exact⟨e1,Rep.go c d x rx⟩
  ·exact⟨xs,SqL.of (c.ls a xs na q).1,by rw[w.length];exact hl⟩
 |tup es=>
  cases h2
  simp only[Rep] at r
  obtain⟨a,xs,rfl,q,w⟩:=r
  refine⟨a,rfl,.inr ⟨⟨xs,q⟩,k _ H1 f1 O1 a1 I1 fun N' fa' H' c _ i=>⟨fun d hd=>?_,fun hl=>?_⟩⟩⟩
  ·obtain⟨x,hx,rx⟩:=Reps.get w hd
   have q':=c.tp a xs q
   refine⟨⟨xs,x,q',hx⟩,fun y H'' hy=>?_⟩
   obtain⟨e1,e2⟩:=hy
   have:=e2 xs q'
   rw[hx] at this;cases this
   exact⟨e1,Rep.go c d x rx⟩
  ·exact⟨xs,c.tp a xs q,by rw[w.length];exact hl⟩
 |_=>cases h2
theorem a81 {K:PySem.W.Frag}{N:Addr→Prop}{fa:Option Addr}{H1:Hp}(lo:Int) (n:Nat):ItD K N fa H1 (Itr lo n) (ups lo n):=fun N' fa' H' c _ i=>⟨fun d hd=>by
 have hi:i<n:=by have:=(List.getElem?_eq_some_iff.mp hd).1;rwa [M7] at this
 rw[a2M hi] at hd
 cases hd
 refine⟨hi,fun x H'' hy=>?_⟩
 obtain⟨e1,e2⟩:=hy
 subst e2
 exact⟨e1,by simp only[Rep]⟩,fun hl=>by rw[M7] at hl;exact hl⟩
theorem a3S {a:Expr}{fa:DE}{p cpos:Pos}(hgl:Gl X "range") (hm:X.mg "range" = none) (ha:EO X g a fa) (hs1:starEach [a] X.env=[(false,eval a X.env)]:=by rfl) :
  IO X g tg (.Call (.Name "range" p) [a] [] cpos) (N9 (a7 fa a8)):=IO.w (a7r hgl hm (a47 ha b6 hs1).pe hs1) fun σ H R hQ=>by
 refine hQ.elim fun fa O s es s' I q hz k=>?_
 refine v3 q fun ds s1 h1 h2=>?_
 refine R9 h2 fun es' h3 h4=>?_
 cases h4
 obtain⟨d,s2,rs,e1,e2,e3⟩:=a0A h1
 cases e2
 obtain⟨j,rfl,j1,j2,rfl⟩:=a5W h3 e3
 refine⟨fa,O,s,ds,_,I,h1,fun vs H1 f1 O1 a1 I1 r=>?_⟩
 rw[e3] at r
 simp only[Reps,Rep] at r
 obtain⟨x,ys,rfl,rfl,rfl⟩:=r
 exact⟨j,rfl,j1,j2,k _ H1 f1 O1 a1 I1 (a81 0 j.toNat)⟩
end
def Z7 (sl:List Sl) (i:Nat):Sl:=match sl[i]? with
 |some (Sl.val d)=>Sl.val d
 |_=>Sl.no
def D4 (idx:List Nat) (sl:List Sl):List Sl:=idx.map (Z7 sl)
def A0 (mk:D→Option (List Sl)) (fc:DT) (fe:DE):List D→Option FS→Option (List D × Option FS)
 |[],fs=>some ([],fs)
 |d::r,fs=>(mk d).bind fun sl=>(fc ⟨sl,fs⟩).bind fun c=>if c.1=true then (fe c.2).bind fun y=>(A0 mk fc fe r y.2.fs).map fun z=>(y.1::z.1,z.2) else A0 mk fc fe r c.2.fs
def F7 (idx:List Nat) (fi:DA) (fc:DT) (fe:DE):DA:=fun s=>(fi s).bind fun x=>if x.1.length≤sizeLine then (A0 (fun d=>some (.val d::D4 idx x.2.sl)) fc fe x.1 x.2.fs).map fun y=>(y.1,{ x.2 with fs:=y.2 }) else none
def FF (g:Gh) (fa:Option Addr) (O:List Addr) (p:Addr):Addr→Prop:=fun b=>NN g.F fa O b∨b=p
structure CI (K:PySem.W.Frag) (g:Gh) (f1:Option Addr) (O1:List Addr) (Hd:Hp) (p:Addr) (fa:Option Addr) (H:Hp) (ys:List V) (res:List D) (fs:Option FS):Prop where
 st:Stp f1 [p] Hd fa [p] H
 ls:H p=some (.lst ys)
 rs:Reps K (FF g fa O1 p) fa H res ys
 fd:FeedR (FF g fa O1 p) H fa fs
 nf:fa≠some p
section
variable {K:PySem.W.Frag}{g:Gh}{f1 fa fa':Option Addr}{O1:List Addr}{Hd H H':Hp}{p:Addr}{ys:List V}{res:List D}{fs:Option FS}
theorem CI.nofa (c:CI K g f1 O1 Hd p fa H ys res fs):fa≠some p:=c.nf
theorem b1E (h0:∀ xs,fa≠none→∀ a,fa=some a→¬ Rd H a (.tup xs)) (hfz:∀ a,fa=some a→∀ o u,¬ H a=some (.frz o u)) (a:StE fa [] H fa' [] H'):Car K (FF g fa O1 p) fa H (FF g fa' O1 p) fa' H':=by
 refine⟨fun b xs n q=>⟨a.same b _ q fun z=>n (.inl (.inr (.inr z))),fun z=>?_⟩,fun b xs q=>?_,fun b xs q=>?_,fun x e=>a.stp.fa_keep e⟩
 ·rcases z with (z | z | z) | z
  ·exact n (.inl (.inl z))
  ·exact n (.inl (.inr (.inl z)))
  ·rcases a.fe with e | ⟨e,h⟩
   ·exact n (.inl (.inr (.inr (e▸z))))
   ·rw[h b z] at q;cases q
  ·exact n (.inr z)
 ·refine SqT.stp' a.stp (fun x e ys=>h0 ys (by rw[e];simp) x e) (fun x hx=>by cases hx) q
 ·rcases q with ⟨o,q⟩ | q
  ·exact .inl ⟨o,a.same _ _ q fun z=>hfz b z _ _ q⟩
  ·exact .inr q
theorem b5N {N:Addr→Prop}(h:FeedR N H fa fs):∀ xs,fa≠none→∀ a,fa=some a→¬ Rd H a (.tup xs):=fun xs _ a e z=>h.no_tup e z
theorem CI.step (c:CI K g f1 O1 Hd p fa H ys res fs) (a:StE fa [] H fa' [] H') {g':Gh}{σ:L2.St}{s':DS}(hF:∀ b,FF g fa' O1 p b→NN g'.F fa' [] b) (I:GI K g' σ H' fa' [] s'):CI K g f1 O1 Hd p fa' H' ys res s'.fs:=by
 have cr:Car K (FF g fa O1 p) fa H (FF g fa' O1 p) fa' H':=b1E (b5N c.fd) (fun x e o u=>c.fd.no_frz e) a
 refine⟨c.st.trans ⟨fun b hb=>.inl hb,a.fe,fun b u e _ n=>a.same b u e n,a.mon⟩,a.same p _ c.ls c.nofa,Reps.go cr _ _ c.rs,I.fd.car (K:=K) ⟨fun b xs n q=>⟨q,fun z=>n (hF b z)⟩,fun _ _ q=>q,fun _ _ q=>q,fun _ q=>q⟩ fun _ _=>rfl,fun z=>?_⟩
 rcases a.fe with y | ⟨_,y⟩
 ·rw[y] at z;exact c.nf z
 ·have:=c.ls;rw[y p z] at this;cases this
theorem CI.app (c:CI K g f1 O1 Hd p fa H ys res fs) {N:Addr→Prop}{d:D}{v:V}(hF:∀ b,FF g fa O1 p b→N b) (r:Rep K N fa H d v):CI K g f1 O1 Hd p fa (upd H p (.lst (ys++[v]))) (ys++[v]) (res++[d]) fs:=by
 have cr:Car K (FF g fa O1 p) fa H (FF g fa O1 p) fa (upd H p (.lst (ys++[v]))):=by
  refine⟨fun b xs n q=>⟨by rw[u3 (fun z=>n (.inr z))];exact q,n⟩,fun b xs q=>?_,fun b xs q=>?_,fun _ q=>q⟩
  ·rcases q with (q | ⟨o,q⟩) | q
   ·exact .inl (.inl (by rw[u3 (fun z=>by rw[z,c.ls] at q;cases q)];exact q))
   ·exact .inl (.inr ⟨o,by rw[u3 (fun z=>by rw[z,c.ls] at q;cases q)];exact q⟩)
   ·exact .inr q
  ·rcases q with ⟨o,q⟩ | q
   ·exact .inl ⟨o,by rw[u3 (fun z=>by rw[z,c.ls] at q;cases q)];exact q⟩
   ·exact .inr q
 have c0:Car K N fa H (FF g fa O1 p) fa H:=⟨fun b xs n q=>⟨q,fun z=>n (hF b z)⟩,fun _ _ q=>q,fun _ _ q=>q,fun _ q=>q⟩
 refine⟨c.st.trans ⟨fun b hb=>.inl hb,.inl rfl,fun b u e n _=>by rw[u3 (fun z=>n (by simp[z]))];exact e,fun b z=>?_⟩,B9,?_,c.fd.car cr fun a e=>u3 fun z=>c.nofa (z▸e),c.nf⟩
 ·by_cases hb:b=p
  ·subst hb;rw[B9] at z;cases z
  ·rw[u3 hb] at z;exact z
 ·exact Reps.append (Reps.go cr _ _ c.rs) (Reps.one (Rep.go cr _ _ (Rep.go c0 _ _ r)))
end
section
variable {X:Cx}{g:Gh}{scope:Scope}{cl:List (Str × Addr)}{N':List Str}{idx:List Nat}{iter elt tg:Expr}{ifs:List Expr}{pos:Pos}{fi:DA}{fc:DT}{fe:DE}
def V5 (X:Cx) (g:Gh) (ifs:List Expr) (f:DT):Prop:=a0l X ifs (liftT X.K g f)
def B7:DT:=fun s=>some (true,s)
theorem N6:V5 X g [] B7:=fun pins s σ H Q I ⟨fa,O,s0,d,s',G,e,k⟩=>b5m pins s σ H Q I (by cases e;exact k H fa O StE.refl G)
theorem a4Q {c:Expr}{f:DT}(h:TO X g c f):V5 X g [c] f:=b05 h.pe
theorem a6W {K:PySem.W.Frag}{N:Addr→Prop}{fa:Option Addr}{H:Hp}{sl:List Sl}{σ:L2.St}{O:List Addr}(h:SlR K N fa H sl σ O):∀ idx:List Nat,SlR K N fa H (D4 idx sl) (idx.map fun i=>(σ[i]?).join) []
 |[]=>by simp[D4,SlR]
 |i::r=>by
  have ih:=a6W h r
  have go:∀ e:sl[i]? = none∨(∃ z,sl[i]? = some z∧∀ d,z ≠ .val d),Z7 sl i = .no:=fun e=>by
   unfold Z7
   rcases e with e | ⟨z,e,n⟩
   ·rw[e]
   ·rw[e]
    cases z with
    |val d=>exact absurd rfl (n d)
    |no=>rfl
    |own ds=>rfl
  show SlR K N fa H (Z7 sl i::D4 r sl) ((σ[i]?).join::r.map fun i=>(σ[i]?).join) []
  cases e:sl[i]? with
  |none=>
   rw[go (.inl e)]
   simp only[SlR]
   exact⟨_,_,rfl,ih⟩
  |some z=>
   cases z with
   |no=>
    rw[go (.inr ⟨_,e,fun d z=>by cases z⟩)]
    simp only[SlR]
    exact⟨_,_,rfl,ih⟩
   |own ds=>
    rw[go (.inr ⟨_,e,fun d z=>by cases z⟩)]
    simp only[SlR]
    exact⟨_,_,rfl,ih⟩
   |val d=>
    obtain⟨u,e1,q⟩:=SlR.val h e
    have ec:Z7 sl i = .val d:=by unfold Z7;rw[e]
    rw[ec]
    simp only[SlR]
    exact⟨u,_,by rw[e1];rfl,q,ih⟩
def b5k (mk:List Sl→D→Option (List Sl)) (fi:DA) (fc:DT) (fe:DE):DA:=fun s=>(fi s).bind fun x=>if x.1.length≤sizeLine then (A0 (mk x.2.sl) fc fe x.1 x.2.fs).map fun y=>(y.1,{ x.2 with fs:=y.2 }) else none
theorem a8B {n:Nat}{G:TG}{mk:List Sl→D→Option (List Sl)}(hG:∀ (N:Addr→Prop) (fa:Option Addr) (sl:List Sl) (d:D) (sl0:List Sl) (x:V) (σ:L2.St) (H:Hp) (Q:L2.St→Hp→Prop),mk sl d=some sl0→Rep X.K N fa H d x→SlR X.K N fa H (D4 idx sl) (idx.map fun i=>(σ[i]?).join) [] →
  (∀ σ':L2.St,(σ'.length=(D5 n idx σ).length∧∀ (j:Nat) (v:V),(D5 n idx σ)[j]? = some (some v)→σ'[j]? = some (some v))→SlR X.K N fa H sl0 σ' []→Q σ' H)→G x (D5 n idx σ) H Q):∀ σ H Q,liftF X.K g (b5k mk fi fc fe) σ H Q→a0i n idx (liftI X.K g fi) G (fun σ H Q=>∃ g',liftT X.K g' fc σ H Q) (fun σ H Q=>∃ g',liftE X.K g' fe σ H Q) σ H Q:=by
 intro σ H Q ⟨fa,O,s,res,s',I,e,kk⟩
 refine v3 e fun ds s1 h1 h2=>?_
 by_cases hz:ds.length≤sizeLine
 ·simp only[if_pos hz] at h2
  refine mapP h2 fun out fsf h3 h4=>?_
  simp only[Prod.mk.injEq] at h4
  obtain⟨e1,e2⟩:=h4
  subst e1;subst e2
  refine⟨fa,O,s,ds,s1,I,h1,hz,fun J H1 f1 O1 a1 I1 J1 p hp=>?_⟩
  have stE:∀ {fa':Option Addr}{H':Hp},Stp f1 [p] (upd H1 p (.lst [])) fa' [p] H'→StE f1 O1 H1 fa' O1 H':=fun {fa' H'} a=>by
   refine⟨fun _ h=>h,?_,fun b u e n=>?_,fun b z=>(E4 (fa:=f1) (O:=O1) hp).mon b (a.mon b z)⟩
   ·rcases a.fe with e | ⟨e,h⟩
    ·exact .inl e
    ·exact .inr ⟨e,fun x z=>(E4 (fa:=f1) (O:=O1) hp).mon x (h x z)⟩
   ·have nb:b≠p:=M9 e hp
    exact a.same b u (by rw[u3 nb];exact e) (by simp[nb]) n
  have carP:∀ {fa':Option Addr}{H':Hp},Stp f1 [p] (upd H1 p (.lst [])) fa' [p] H'→Car X.K (NN g.F f1 O1) f1 H1 (FF g fa' O1 p) fa' H':=fun {fa' H'} a=>by
   have c:=I1.car (stE a).stp
   refine⟨fun b xs n q=>?_,c.tp,c.fz,c.fe⟩
   obtain⟨q',n'⟩:=c.ls b xs n q
   refine⟨q',?_⟩
   rintro(z | z)
   ·exact n' z
   ·subst z;rw[hp] at q;cases q
  refine⟨fun i m H'=>m=ds.length - i∧i≤ds.length∧∃ fa' ys res' rest fs',CI X.K g f1 O1 (upd H1 p (.lst [])) p fa' H' ys res' fs'∧A0 (mk s1.sl) fc fe (ds.drop i) fs'=some (rest,fsf)∧res'++rest=out∧ys.length≤i,?_,?_⟩
  ·refine⟨ds.length,by simp,Nat.zero_le _,f1,[],[],out,s1.fs,⟨Stp.refl,B9,Reps.nil,?_,fun z=>I1.fd.tracked z hp⟩,by simpa using h3,rfl,Nat.le_refl _⟩
   exact I1.fd.car (a1Q I1 hp) (I1.fd.same_new hp)
  ·rintro i m H' ⟨rfl,hil,fa',ys,res',rest,fs',c,hd,ho,hy⟩
   have Hcar:=carP c.st
   obtain⟨jgo,jstop⟩:=J1 _ _ _ Hcar (fun b u e n=>(stE c.st).same b u e n) i
   by_cases hlt:i<ds.length
   ·have hdi:ds[i]? = some ds[i]:=List.getElem?_eq_getElem hlt
    obtain⟨go,yl⟩:=jgo _ hdi
    refine .inr ⟨go,fun x H'' hx=>?_⟩
    obtain⟨e1,rx⟩:=yl x H'' hx
    subst e1
    rw[a5K hdi,A0] at hd
    refine M0 hd fun sl0 hm hd=>?_
    refine v3 hd fun b sb h5 h6=>?_
    have hNN:∀ b,NN (FF g fa' O1 p) fa' [] b→FF g fa' O1 p b:=fun b z=>by
     rcases z with z | z | z
     ·exact z
     ·cases z
     ·exact .inl (.inr (.inr z))
    have cN:Car X.K (FF g fa' O1 p) fa' H'' (NN (FF g fa' O1 p) fa' []) fa' H'':=⟨fun b xs n q=>⟨q,fun z=>n (hNN b z)⟩,fun _ _ q=>q,fun _ _ q=>q,fun _ q=>q⟩
    have trk:∀ b,FF g fa' O1 p b→H'' b≠none:=fun b z=>by
     rcases z with (z | z | z) | z
     ·exact fun w=>I1.trF z ((stE c.st).mon b w)
     ·obtain⟨xs,e⟩:=I1.owned z
      exact fun w=>by have:=(stE c.st).mon b w;rw[e] at this;cases this
     ·exact c.fd.tracked z
     ·rw[z,c.ls];simp
    refine hG (NN (FF g fa' O1 p) fa' []) fa' s1.sl ds[i] sl0 x σ H'' _ hm (Rep.go cN _ _ rx) (SlR.go cN (fun a xs ha=>by cases ha) (a6W (SlR.go Hcar (fun a xs ha e=>(stE c.st).same a _ e fun z=>I1.nf a z ha) I1.sl) idx)) fun σ1 hσ hsl=>⟨hσ,?_⟩
    have G0:GI X.K ⟨FF g fa' O1 p,H'',fa'⟩ σ1 H'' fa' [] ⟨sl0,fs'⟩:=⟨List.nodup_nil,hsl,fun b hb=>(by cases hb),Stp.refl,trk,fun a ha=>.inl (.inr (.inr ha)),c.fd.car cN fun _ _=>rfl,fun _ _ z=>(by cases z)⟩
    refine⟨⟨FF g fa' O1 p,H'',fa'⟩,fa',[],_,b,sb,G0,h5,fun H3 f3 O3 a3 I3=>?_⟩
    have eO:O3=[]:=List.eq_nil_iff_forall_not_mem.mpr fun z hz=>by have:=a3.sub z hz;cases this
    subst eO
    have hF3:∀ b,FF g f3 O1 p b→NN (FF g fa' O1 p) f3 [] b:=fun b z=>by
     rcases z with (z | z | z) | z
     ·exact .inl (.inl (.inl z))
     ·exact .inl (.inl (.inr (.inl z)))
     ·exact .inr (.inr z)
     ·exact .inl (.inr z)
    have c3:=c.step a3 hF3 I3
    cases b with
    |false=>
     rw[if_neg Bool.false_ne_true] at h6
     refine b37 ?_
     exact⟨ds.length - (i+1),by omega,rfl,hlt,f3,ys,res',rest,sb.fs,c3,h6,ho,Nat.le_succ_of_le hy⟩
    |true=>
     rw[if_pos rfl] at h6
     refine b25 ?_
     refine v3 h6 fun dd sd h7 h8=>?_
     refine mapP h8 fun rest2 fs2 h9 h10=>?_
     simp only[Prod.mk.injEq] at h10
     refine⟨⟨FF g fa' O1 p,H'',fa'⟩,f3,[],sb,dd,sd,I3,h7,fun v H4 f4 O4 a4 I4 r4=>?_⟩
     have eO:O4=[]:=List.eq_nil_iff_forall_not_mem.mpr fun z hz=>by have:=a4.sub z hz;cases this
     subst eO
     have hF4:∀ b,FF g f4 O1 p b→NN (FF g fa' O1 p) f4 [] b:=fun b z=>by
      rcases z with (z | z | z) | z
      ·exact .inl (.inl (.inl z))
      ·exact .inl (.inl (.inr (.inl z)))
      ·exact .inr (.inr z)
      ·exact .inl (.inr z)
     have c4:=c3.step a4 hF4 I4
     refine⟨ys,c4.ls,by omega,ds.length - (i+1),by omega,rfl,hlt,f4,ys++[v],res'++[dd],rest2,sd.fs,c4.app hF4 r4,by rw[h9,h10.2],?_,by simp;omega⟩
     rw[←ho,←h10.1];simp
   ·refine .inl ⟨jstop (Nat.le_of_not_lt hlt),?_⟩
    rw[List.drop_eq_nil_of_le (Nat.le_of_not_lt hlt),A0] at hd
    simp only[Option.some.injEq,Prod.mk.injEq] at hd
    obtain⟨hd1,hd2⟩:=hd
    subst hd1;subst hd2
    rw[List.append_nil] at ho
    subst ho
    have aE:=stE c.st
    have car1:=I1.car aE.stp
    have sameO:∀ a xs,a∈O1→H1 a=some (.lst xs)→H' a=some (.lst xs):=fun a xs ha e=>aE.same a _ e fun z=>I1.nf a z ha
    refine kk p ys H' fa' O1 (a1.trans aE) ⟨⟨I1.nd,SlR.go car1 sameO I1.sl,I1.fr,I1.st.trans ⟨fun b hb=>(by cases hb),aE.fe,fun b u e _ n=>aE.same b u e n,aE.mon⟩,I1.tr,I1.ff,?_,I1.nf_step aE.fe⟩,c.ls,SlR.go Hcar sameO I1.sl,c.fd,c.rs,c.nf⟩ (a1.mon p hp)
    exact c.fd.car (K:=X.K) ⟨fun b xs n q=>⟨q,fun z=>n (.inl z)⟩,fun _ _ q=>q,fun _ _ q=>q,fun _ q=>q⟩ fun _ _=>rfl
 ·simp only[if_neg hz] at h2;cases h2
theorem a6x (k:CompOk X scope cl N' 1 idx):∀ σ H Q,liftF X.K g (F7 idx fi fc fe) σ H Q→a0i 1 idx (liftI X.K g fi) (M3 0) (fun σ H Q=>∃ g',liftT X.K g' fc σ H Q) (fun σ H Q=>∃ g',liftE X.K g' fe σ H Q) σ H Q:=
 a8B (mk:=fun sl d=>some (.val d::D4 idx sl)) fun N fa sl d sl0 x σ H Q hm rx hc kk=>by
  cases hm
  refine kk _ ⟨by simp,fun j v hj=>?_⟩ ?_
  ·cases j with
   |zero=>simp[D5] at hj
   |succ j=>rw[List.getElem?_set_ne (by simp)];exact hj
  ·have eb:(D5 1 idx σ).set 0 (some x)=some x::idx.map fun i=>(σ[i]?).join:=by simp[D5]
   rw[eb]
   simp only[SlR]
   exact⟨x,_,rfl,rx,hc⟩
theorem a1w (hc:X.calm=true) (k:CompOk X scope cl N' 1 idx) (hi:IO X g tg iter fi) (hg:∀ C s0 H0 ex,PG (blk X N' scope cl C s0 H0 ex) tg (M3 0))
  (ht:∀ C s0 H0 ex g',V5 (blk X N' scope cl C s0 H0 ex) g' ifs fc) (he:∀ C s0 H0 ex g',EO (blk X N' scope cl C s0 H0 ex) g' elt fe) (hs:∀ x,foldedSetIterable iter X.env x=pure x:=by intro _;rfl) :
  FO X g (.ListComp elt [⟨tg,iter,ifs,0⟩] scope pos) (F7 idx fi fc fe):=by
 exact FO.w (a6F (tc:=fun σ H Q=>∃ g',liftT X.K g' fc σ H Q) (te:=fun σ H Q=>∃ g',liftE X.K g' fe σ H Q) hc k hi.pe hg (fun C s0 H0 ex pins s σ H Q I ⟨g',h⟩=>ht C s0 H0 ex g' pins s σ H Q I h) (fun C s0 H0 ex pins s σ H Q I ⟨g',h⟩=>(he C s0 H0 ex g').pe pins s σ H Q I h) hs) (a6x k)
end
end DL
namespace HT2
open PySem PyProof.Rows
theorem cat_tup0 {prog:Program}{w:World}{A:Around}{E:Value→Shared→Prop}{s:Shared}{t b:Addr}{ws:List Value}{Q:Value→Shared→Prop}(ht:IsTup s.heap t ([]:List Value).toArray) (hb:IsTup s.heap b ws.toArray)
  (h:Q (.ref b) s):wpAny (model prog w) A (binaryOp .Add (.ref t) (.ref b)) Q E s:=by
 obtain⟨⟨cls,dd,data,sl⟩,ho,hc,n,hd⟩:=id ht
 obtain⟨⟨cls2,dd2,data2,sl2⟩,ho2,hc2,n2,hd2⟩:=id hb
 simp only at hc hd hc2 hd2
 subst hc hd hc2 hd2
 exact concat_meets ⟨_,ho,rfl⟩ ⟨_,ho2,rfl⟩ noFill_tuple_add seq_tuple_add PySem.F.slot_tuple_add PySem.F.entry_tuple_add (PySem.F.args_tuple_add_2 _ _)
  (tuple_addW0 t b _ ws.toArray n n2 dd dd2 sl sl2 (by simp)) ⟨ho,ho2,h⟩
end HT2
namespace DL
open PySem PySem.Spec L2
def v6 (i:Int):Bool:=decide (i.natAbs.log2<1000000)
theorem a7P {i:Int}(h:v6 i=true):Builtin.Int.intBits i≤2 ^ 20:=by
 have h1:i.natAbs.log2<1000000:=of_decide_eq_true h
 unfold Builtin.Int.intBits
 split
 ·exact Nat.zero_le _
 ·have e:(2:Nat) ^ 20=1048576:=by decide
  rw[e];omega
def C1 (j:Int):Bool:=decide (j≠0)&&decide (j.natAbs.log2<9000)
section
variable {X:Cx}
theorem op_mulB:OpR X (binaryOp .Mult) (rI (fun i j=>v6 i=true∧v6 j=true) fun i j=>.int (i*j)):=opI fun _ _ _ _ _ _ _ hc q=>PyProof.Rows.mul_int q (IntMulOk.of_bits (a7P hc.1) (a7P hc.2))
theorem E6:OpR X (binaryOp .FloorDiv) (rI (fun _ j=>C1 j=true) fun i j=>.int (i.fdiv j)):=opI fun i j _ _ _ _ _ hc q=>by
 have hc':C1 j=true:=hc
 unfold C1 at hc'
 rw[Bool.and_eq_true] at hc'
 exact PyProof.Rows.floordiv_int (of_decide_eq_true hc'.1) q (.inl (PyProof.noPylong_of_log2 (of_decide_eq_true hc'.2)))
def a55 (K:PySem.W.Frag):R2:=fun x y H Q=>∃ a b ys,x = .ref a∧y = .ref b∧SqT K H a []∧SqT K H b ys∧Q (.ref b) H
theorem op_catT0:OpR X (binaryOp .Add) (a55 X.K):=by
 intro pins s σ H x y v u Q I rx ry h
 obtain⟨a,b,ys,rfl,rfl,ha,hb,q⟩:=h
 cases rx
 cases ry
 obtain⟨its,r1,ht,_⟩:=I.tuple ha
 obtain⟨its2,r2,ht2,_⟩:=I.tuple hb
 cases r1
 exact HT2.cat_tup0 ht ht2 ⟨.ref b,H,I,rfl,q⟩
def a7M (K:PySem.W.Frag):R2:=fun x y H Q=>(rI0 (fun i j=>.int (i+j)) x y H Q∨(∃ i j,x = .str i∧y = .str j∧i.length+j.length≤sizeLine∧Q (.str (i++j)) H))∨((a55 K x y H Q∨a6o K x y H Q)∨a4l x y H Q)
theorem C3:OpR X (binaryOp .Add) (a7M X.K):=(op_add.or b5s).or ((op_catT0.or b02).or a0f)
def a7V:R2:=fun x y H Q=>rI (fun i j=>v6 i=true∧v6 j=true) (fun i j=>.int (i*j)) x y H Q∨a5c x y H Q
theorem o7:OpR X (binaryOp .Mult) a7V:=op_mulB.or a5w
end
def p7:D→D→Option D
 |.int i,.int j=>some (.int (i+j))
 |.str x,.str y=>if x.length+y.length≤sizeLine then some (.str (x++y)) else none
 |.tup xs,.tup ys=>if xs.length+ys.length≤sizeLine then some (.tup (xs++ys)) else none
 |.lst xs,.lst ys=>if xs.length+ys.length≤sizeLine then some (.lst (xs++ys)) else none
 |_,_=>none
def B2:D→D→Option D
 |.int i,.int j=>some (.int (i - j))
 |_,_=>none
def l8:D→D→Option D
 |.int i,.int j=>if v6 i&&v6 j then some (.int (i*j)) else none
 |.lst xs,.int k=>if -(2 ^ 63)≤k∧k<2 ^ 63∧xs.length*k.toNat≤sizeLine then some (.lst (List.replicate k.toNat xs).flatten) else none
 |_,_=>none
def A4:D→D→Option D
 |.int i,.int j=>if C1 j then some (.int (i.fdiv j)) else none
 |_,_=>none
def y8:D→D→Option D
 |.int i,.int j=>if j≠0 then some (.int (i.fmod j)) else none
 |_,_=>none
def W8:D→D→Option D
 |.int i,.int j=>if 0≤j∧j≤1000000∧i.natAbs<2 ^ 64 then some (.int (i ^ j.toNat)) else none
 |_,_=>none
def v7:D→Option D
 |.int i=>some (.int (-i))
 |_=>none
def n9 (p:Int→Int→Bool):D→D→Option D
 |.int i,.int j=>some (.bl (p i j))
 |_,_=>none
def a2W:D→D→Option D
 |.non,.non=>some (.bl false)
 |.feed,.non=>none
 |.scr _,.non=>none
 |_,.non=>some (.bl true)
 |_,_=>none
theorem a66 {K:PySem.W.Frag}{N:Addr→Prop}{fa:Option Addr}{H:Hp}{ds:List D}{xs:List V}(r:Reps K N fa H ds xs):xs=[]↔ds=[]:=by
 have:=r.length
 cases xs <;> cases ds <;> simp_all
theorem Reps.flat {K:PySem.W.Frag}{N:Addr→Prop}{fa:Option Addr}{H:Hp}{ds:List D}{xs:List V}(r:Reps K N fa H ds xs):∀ k:Nat,Reps K N fa H (List.replicate k ds).flatten (List.replicate k xs).flatten
 |0=>by simp[Reps]
 |k+1=>by
  simp only[List.replicate_succ,List.flatten_cons]
  exact Reps.append r (Reps.flat r k)
section
variable {K:PySem.W.Frag}
theorem C4:R2D K (a7M K) p7:=by
 intro g σ H fa O s x y d1 d2 d Q I r1 r2 e k
 cases d1 with
 |int i=>
  cases d2 with
  |int j=>
   cases e
   simp only[RepB,Rep] at r1 r2
   exact .inl (.inl ⟨i,j,r1,r2,k _ H StE.refl I (by simp only[Rep])⟩)
  |_=>cases e
 |str a=>
  cases d2 with
  |str b=>
   have e:(if a.length+b.length≤sizeLine then some (D.str (a++b)) else none)=some d:=e
   by_cases h:a.length+b.length≤sizeLine
   ·rw[if_pos h] at e
    cases e
    simp only[RepB,Rep] at r1 r2
    refine .inl (.inr ⟨a,b,r1.1,r2.1,h,k _ H StE.refl I ?_⟩)
    simp only[Rep]
    exact⟨trivial,by rw[strLen_append];exact h⟩
   ·rw[if_neg h] at e;cases e
  |_=>cases e
 |tup as=>
  cases d2 with
  |tup bs=>
   have e:(if as.length+bs.length≤sizeLine then some (D.tup (as++bs)) else none)=some d:=e
   by_cases h:as.length+bs.length≤sizeLine
   ·rw[if_pos h] at e
    cases e
    simp only[RepB,Rep] at r1 r2
    obtain⟨a,xs,rfl,qa,wa⟩:=r1
    obtain⟨b,ys,rfl,qb,wb⟩:=r2
    by_cases hx:xs=[]
    ·have ha:=(a66 wa).mp hx
     subst hx;subst ha
     refine .inr (.inl (.inl ⟨a,b,ys,rfl,rfl,qa,qb,k _ H StE.refl I ?_⟩))
     simp only[Rep,List.nil_append]
     exact⟨b,ys,rfl,qb,wb⟩
    ·refine .inr (.inl (.inr ⟨a,b,xs,ys,rfl,rfl,qa,qb,hx,by rw[wa.length,wb.length];exact h,fun hy=>?_,fun hy p hp=>?_⟩))
     ·have hb:=(a66 wb).mp hy
      subst hy;subst hb
      refine k _ H StE.refl I ?_
      simp only[Rep,List.append_nil]
      exact⟨a,xs,rfl,qa,wa⟩
     ·have a2:StE fa O H fa O (upd H p (.tup (xs++ys))):=E4 hp
      refine k _ _ a2 (I.new hp) ?_
      simp only[Rep]
      exact⟨p,_,rfl,SqT.of B9,Reps.stp I a2.stp (Reps.append wa wb)⟩
   ·rw[if_neg h] at e;cases e
  |_=>cases e
 |lst as=>
  cases d2 with
  |lst bs=>
   have e:(if as.length+bs.length≤sizeLine then some (D.lst (as++bs)) else none)=some d:=e
   by_cases h:as.length+bs.length≤sizeLine
   ·rw[if_pos h] at e
    cases e
    obtain⟨a,xs,rfl,_,qa,wa⟩:=r1
    obtain⟨b,ys,rfl,_,qb,wb⟩:=r2
    refine .inr (.inr ⟨a,b,xs,ys,rfl,rfl,qa,qb,by rw[wa.length,wb.length];exact h,fun p hp=>?_⟩)
    have a2:StE fa O H fa O (upd H p (.lst (xs++ys))):=E4 hp
    have L:=X8 I hp (Reps.append wa wb)
    refine k _ _ a2 L.gi ?_
    simp only[Rep]
    exact⟨p,_,rfl,a1I I a2 L.gi hp L.nf,B9,Reps.stp I a2.stp (Reps.append wa wb)⟩
   ·rw[if_neg h] at e;cases e
  |_=>cases e
 |_=>cases e
def U7:D→D→Option (List D)
 |.lst xs,.lst ys=>if xs.length+ys.length≤sizeLine then some (xs++ys) else none
 |_,_=>none
theorem a00:R2F K a4l U7:=by
 intro g σ H fa O s x y d1 d2 ds Q I r1 r2 e k
 cases d1 with
 |lst as=>
  cases d2 with
  |lst bs=>
   simp only[U7] at e
   by_cases h:as.length+bs.length≤sizeLine
   ·rw[if_pos h] at e
    cases e
    obtain⟨a,xs,rfl,_,qa,wa⟩:=r1
    obtain⟨b,ys,rfl,_,qb,wb⟩:=r2
    refine⟨a,b,xs,ys,rfl,rfl,qa,qb,by rw[wa.length,wb.length];exact h,fun p hp=>?_⟩
    exact k p _ _ (E4 hp) (X8 I hp (Reps.append wa wb)) hp
   ·rw[if_neg h] at e;cases e
  |_=>cases e
 |_=>cases e
def a2h:D→D→Option (List D)
 |.lst xs,.int k=>if -(2 ^ 63)≤k∧k<2 ^ 63∧xs.length*k.toNat≤sizeLine then some (List.replicate k.toNat xs).flatten else none
 |_,_=>none
theorem a97:R2F K a5c a2h:=by
 intro g σ H fa O s x y d1 d2 ds Q I r1 r2 e k
 cases d1 with
 |lst as=>
  cases d2 with
  |int j=>
   simp only[a2h] at e
   by_cases h:-(2 ^ 63)≤j∧j<2 ^ 63∧as.length*j.toNat≤sizeLine
   ·rw[if_pos h] at e
    cases e
    obtain⟨a,xs,rfl,_,qa,wa⟩:=r1
    simp only[RepB,Rep] at r2
    subst r2
    refine⟨a,j,xs,rfl,rfl,qa,h.1,h.2.1,by rw[wa.length];exact h.2.2,fun p hp=>?_⟩
    exact k p _ _ (E4 hp) (X8 I hp (wa.flat _)) hp
   ·rw[if_neg h] at e;cases e
  |_=>cases e
 |_=>cases e
theorem a3z {C:Int→Int→Prop}{f:Int→Int→D}{f':Int→Int→V}{p:D→D→Option D}(hp:∀ d1 d2 d,p d1 d2=some d→∃ i j,d1 = .int i∧d2 = .int j∧C i j∧d=f i j) (hf:∀ N fa H i j,Rep K N fa H (f i j) (f' i j)):R2D K (rI C f') p:=by
 intro g σ H fa O s x y d1 d2 d Q I r1 r2 e k
 obtain⟨i,j,rfl,rfl,c,rfl⟩:=hp d1 d2 d e
 simp only[RepB,Rep] at r1 r2
 exact⟨i,j,r1,r2,c,k _ H StE.refl I (hf _ _ _ _ _)⟩
theorem a8u {f:Int→Int→D}{f':Int→Int→V}{p:D→D→Option D}(hp:∀ d1 d2 d,p d1 d2=some d→∃ i j,d1 = .int i∧d2 = .int j∧d=f i j) (hf:∀ N fa H i j,Rep K N fa H (f i j) (f' i j)):R2D K (rI0 f') p:=by
 intro g σ H fa O s x y d1 d2 d Q I r1 r2 e k
 obtain⟨i,j,rfl,rfl,rfl⟩:=hp d1 d2 d e
 simp only[RepB,Rep] at r1 r2
 exact⟨i,j,r1,r2,k _ H StE.refl I (hf _ _ _ _ _)⟩
def a44 (F:Int→Int→Option D):D→D→Option D
 |.int i,.int j=>F i j
 |_,_=>none
theorem a6m {F:Int→Int→Option D}{d1 d2 d:D}(e:a44 F d1 d2=some d):∃ i j,d1 = .int i∧d2 = .int j∧F i j=some d:=by
 cases d1 with
 |int i=>
  cases d2 with
  |int j=>exact⟨i,j,rfl,rfl,e⟩
  |_=>cases e
 |_=>cases e
theorem a4D {C:Int→Int→Prop}[∀ i j,Decidable (C i j)] {f:Int→Int→D}{d1 d2 d:D}(e:a44 (fun i j=>if C i j then some (f i j) else none) d1 d2=some d):∃ i j,d1 = .int i∧d2 = .int j∧C i j∧d=f i j:=by
 obtain⟨i,j,h1,h2,h3⟩:=a6m e
 by_cases h:C i j
 ·have h3:(if C i j then some (f i j) else none)=some d:=h3
  rw[if_pos h] at h3
  exact⟨i,j,h1,h2,h,(Option.some.inj h3).symm⟩
 ·have h3:(if C i j then some (f i j) else none)=some d:=h3
  rw[if_neg h] at h3
  cases h3
theorem a7i {f:Int→Int→D}{d1 d2 d:D}(e:a44 (fun i j=>some (f i j)) d1 d2=some d):∃ i j,d1 = .int i∧d2 = .int j∧d=f i j:=by
 obtain⟨i,j,h1,h2,h3⟩:=a6m e
 exact⟨i,j,h1,h2,(Option.some.inj h3).symm⟩
theorem P5:R2D K (rI0 fun i j=>.int (i - j)) B2:=a8u (f:=fun i j=>.int (i - j)) (fun d1 d2 d e=>a7i (f:=fun i j=>.int (i - j)) e) fun _ _ _ _ _=>by simp only[Rep]
theorem F0 (p:Int→Int→Bool):R2D K (rI0 fun i j=>.bl (p i j)) (n9 p):=a8u (f:=fun i j=>.bl (p i j)) (fun d1 d2 d e=>a7i (f:=fun i j=>.bl (p i j)) e) fun _ _ _ _ _=>by simp only[Rep]
theorem n8:R2D K a7V l8:=by
 intro g σ H fa O s x y d1 d2 d Q I r1 r2 e k
 cases d1 with
 |int i=>
  cases d2 with
  |int j=>
   have e:(if v6 i&&v6 j then some (D.int (i*j)) else none)=some d:=e
   by_cases h:(v6 i&&v6 j)=true
   ·rw[if_pos h] at e
    cases e
    rw[Bool.and_eq_true] at h
    simp only[RepB,Rep] at r1 r2
    exact .inl ⟨i,j,r1,r2,h,k _ H StE.refl I (by simp only[Rep])⟩
   ·rw[if_neg h] at e;cases e
  |_=>cases e
 |lst as=>
  cases d2 with
  |int j=>
   simp only[l8] at e
   by_cases h:-(2 ^ 63)≤j∧j<2 ^ 63∧as.length*j.toNat≤sizeLine
   ·rw[if_pos h] at e
    cases e
    obtain⟨a,xs,rfl,_,qa,wa⟩:=r1
    simp only[RepB,Rep] at r2
    subst r2
    refine .inr ⟨a,j,xs,rfl,rfl,qa,h.1,h.2.1,by rw[wa.length];exact h.2.2,fun p hp=>?_⟩
    have a2:StE fa O H fa O (upd H p (.lst (List.replicate j.toNat xs).flatten)):=E4 hp
    have L:=X8 I hp (wa.flat j.toNat)
    refine k _ _ a2 L.gi ?_
    simp only[Rep]
    exact⟨p,_,rfl,a1I I a2 L.gi hp L.nf,B9,Reps.stp I a2.stp (wa.flat j.toNat)⟩
   ·rw[if_neg h] at e;cases e
  |_=>cases e
 |_=>cases e
theorem E8:R2D K (rI (fun _ j=>C1 j=true) fun i j=>.int (i.fdiv j)) A4:=a3z (f:=fun i j=>.int (i.fdiv j)) (fun d1 d2 d e=>a4D (C:=fun _ j=>C1 j=true) (f:=fun i j=>.int (i.fdiv j)) e) fun _ _ _ _ _=>by simp only[Rep]
theorem J2:R2D K (rI (fun _ j=>j≠0) fun i j=>.int (i.fmod j)) y8:=a3z (f:=fun i j=>.int (i.fmod j)) (fun d1 d2 d e=>a4D (C:=fun _ j=>j≠0) (f:=fun i j=>.int (i.fmod j)) e) fun _ _ _ _ _=>by simp only[Rep]
theorem a6T:R2D K (rI a7W fun i j=>.int (i ^ j.toNat)) W8:=a3z (f:=fun i j=>.int (i ^ j.toNat)) (fun d1 d2 d e=>a4D (C:=fun i j=>0≤j∧j≤1000000∧i.natAbs<2 ^ 64) (f:=fun i j=>.int (i ^ j.toNat)) e) fun _ _ _ _ _=>by simp only[Rep]
theorem E2:R1D K (rU fun i=>.int (-i)) v7:=by
 intro g σ H fa O s x d1 d Q I r1 e k
 cases d1 with
 |int i=>cases e;simp only[RepB,Rep] at r1;exact⟨i,r1,k _ H StE.refl I (by simp only[Rep])⟩
 |_=>cases e
def a8h:D→Bool
 |.non=>true
 |_=>false
theorem a9X {N:Addr→Prop}{fa:Option Addr}{H:Hp}{d:D}{x:V}(r:RepB K N fa H d x):decide (x = .non)=a8h d:=by
 cases d with
 |non=>simp only[RepB,Rep] at r;subst r;rfl
 |bl b=>simp only[RepB,Rep] at r;subst r;rfl
 |int i=>simp only[RepB,Rep] at r;subst r;rfl
 |str x=>simp only[RepB,Rep] at r;obtain⟨r,_⟩:=r;subst r;rfl
 |tup ds=>simp only[RepB,Rep] at r;obtain⟨a,xs,rfl,_⟩:=r;rfl
 |lst ds=>obtain⟨a,xs,rfl,_⟩:=r;rfl
 |feed=>simp only[RepB,Rep] at r;obtain⟨a,_,rfl⟩:=r;rfl
 |scr ns=>simp only[RepB,Rep] at r;obtain⟨_,a,rfl,_⟩:=r;rfl
theorem b0d:R2D K (fun x y H Q=>y = .non∧Q (.bl (!decide (x = .non))) H) a2W:=by
 intro g σ H fa O s x y d1 d2 d Q I r1 r2 e k
 have h2:d2 = .non:=by cases d1 <;> cases d2 <;> first | rfl | cases e
 subst h2
 simp only[RepB,Rep] at r2
 refine⟨r2,k _ H StE.refl I ?_⟩
 rw[a9X r1]
 cases d1 <;> first | (cases e;simp[Rep,a8h];done) | cases e
end
section
variable {X:Cx}{pins:List (Addr × Obj)}{σ:L2.St}{H:Hp}{s:Shared}{N:Addr→Prop}{fa:Option Addr}
mutual
theorem a1a (I:Inv X pins σ H s):∀ (d:D) (v:V) (u:Value),P1 X.K N fa H d v→RelV v u→d.plain=true→∃ as,Reads s.heap u d.py as
 |.non,v,u,r,ru,_=>by
  simp only[P1,Rep] at r;subst r;cases ru
  simp only[D.py];exact⟨[],.none⟩
 |.bl b,v,u,r,ru,_=>by
  simp only[P1,Rep] at r;subst r;cases ru
  simp only[D.py];exact⟨[],.bool b⟩
 |.int i,v,u,r,ru,_=>by
  simp only[P1,Rep] at r;subst r
  obtain⟨t,rfl⟩:=ru
  simp only[D.py];exact⟨[],.int i t⟩
 |.str x,v,u,r,ru,_=>by
  simp only[P1,Rep] at r;obtain⟨r,_⟩:=r;subst r
  obtain⟨t,rfl⟩:=ru
  simp only[D.py];exact⟨[],.str x t⟩
 |.tup ds,v,u,r,ru,hp=>by
  simp only[P1,Rep] at r
  obtain⟨a,xs,rfl,q,w⟩:=r
  cases ru
  obtain⟨its,rv,⟨o,h1,h2,n,h3⟩,_⟩:=I.tuple q
  obtain⟨as,ra⟩:=a36 I ds xs its w rv (by simpa only[D.plain] using hp)
  simp only[D.py]
  exact⟨as,.tuple h1 h2 h3 (by simpa using ra)⟩
 |.lst ds,v,u,r,ru,hp=>by
  obtain⟨a,xs,rfl,q,w⟩:=r
  cases ru
  obtain⟨its,rv,⟨o,n,h1,h2,h3,h4⟩,_⟩:=I.list (SqL.of q)
  obtain⟨as,ra⟩:=a36 I ds xs its w rv (by simpa only[D.plain] using hp)
  simp only[D.py]
  exact⟨_,.list h1 h2 h4 (by simpa using ra)⟩
 |.feed,v,u,r,ru,hp=>by simp only[D.plain] at hp;cases hp
 |.scr _,v,u,r,ru,hp=>by simp only[D.plain] at hp;cases hp
theorem a36 (I:Inv X pins σ H s):∀ (ds:List D) (xs:List V) (us:List Value),Reps X.K N fa H ds xs→Vals xs us→D.plains ds=true→∃ as,ReadsAll s.heap us (D.pys ds) as
 |[],xs,us,r,ru,_=>by
  simp only[Reps] at r;subst r;cases ru
  simp only[D.pys];exact⟨[],.nil⟩
 |d::ds,xs,us,r,ru,hp=>by
  simp only[Reps] at r
  obtain⟨x,ys,rfl,r1,r2⟩:=r
  cases ru with
  |cons q qs=>
   simp only[D.plains,Bool.and_eq_true] at hp
   obtain⟨as,h1⟩:=a1a I d x _ r1.o q hp.1
   obtain⟨bs,h2⟩:=a36 I ds ys _ r2 qs hp.2
   simp only[D.pys];exact⟨_,.cons h1 h2⟩
end
end
def B8 (d:D):Bool:=d.plain&&SeqAt.shaped d.py
def pEq (d1 d2:D):Option D:=match d1,d2 with
 |.str x,.str y=>some (.bl (decide (x=y)))
 |d1,d2=>if B8 d1&&B8 d2 then some (.bl (PyData.eqv d1.py d2.py)) else none
def pNe (d1 d2:D):Option D:=match d1,d2 with
 |.str x,.str y=>some (.bl (!decide (x=y)))
 |d1,d2=>if B8 d1&&B8 d2 then some (.bl (!PyData.eqv d1.py d2.py)) else none
def a0d (K:PySem.W.Frag) (f:Bool→Bool):R2:=fun x y H Q=>∃ N fa d1 d2,RepB K N fa H d1 x∧RepB K N fa H d2 y∧B8 d1=true∧B8 d2=true∧Q (.bl (f (PyData.eqv d1.py d2.py))) H
section
variable {X:Cx}{K:PySem.W.Frag}
theorem a9j (hu:X.A.units+64<cLine):OpR X (compareOp .Eq) (a0d X.K id):=by
 intro pins s σ H x y v u Q I rx ry h
 obtain⟨N,fa,d1,d2,r1,r2,o1,o2,q⟩:=h
 unfold B8 at o1 o2
 rw[Bool.and_eq_true] at o1 o2
 obtain⟨as,h1⟩:=a1a I d1 x v r1.o rx o1.1
 obtain⟨bs,h2⟩:=a1a I d2 y u r2.o ry o2.1
 exact PyProof.Rows.eq_dataH h1 h2 o1.2 o2.2 hu ⟨.bl _,H,I,rfl,q⟩
theorem a99 (hu:X.A.units+64<cLine):OpR X (compareOp .NotEq) (a0d X.K not):=by
 intro pins s σ H x y v u Q I rx ry h
 obtain⟨N,fa,d1,d2,r1,r2,o1,o2,q⟩:=h
 unfold B8 at o1 o2
 rw[Bool.and_eq_true] at o1 o2
 obtain⟨as,h1⟩:=a1a I d1 x v r1.o rx o1.1
 obtain⟨bs,h2⟩:=a1a I d2 y u r2.o ry o2.1
 exact PyProof.Rows.ne_dataH h1 h2 o1.2 o2.2 hu ⟨.bl _,H,I,rfl,q⟩
theorem T8 (hu:X.A.units+64<cLine):OpR X (compareOp .Eq) (fun x y H Q=>rEq x y H Q∨a0d X.K id x y H Q):=op_eq.or (a9j hu)
theorem P9 (hu:X.A.units+64<cLine):OpR X (compareOp .NotEq) (fun x y H Q=>rNe x y H Q∨a0d X.K not x y H Q):=op_ne.or (a99 hu)
theorem b3R {d1 d2 d:D}(h:pEq d1 d2=some d):(∃ x y,d1 = .str x∧d2 = .str y∧d = .bl (decide (x=y)))∨(B8 d1=true∧B8 d2=true∧d = .bl (PyData.eqv d1.py d2.py)):=by
 unfold pEq at h
 split at h
 ·cases h;exact .inl ⟨_,_,rfl,rfl,rfl⟩
 ·split at h
  ·rename_i q
   rw[Bool.and_eq_true] at q
   cases h;exact .inr ⟨q.1,q.2,rfl⟩
  ·cases h
theorem b3t {d1 d2 d:D}(h:pNe d1 d2=some d):(∃ x y,d1 = .str x∧d2 = .str y∧d = .bl (!decide (x=y)))∨(B8 d1=true∧B8 d2=true∧d = .bl (!PyData.eqv d1.py d2.py)):=by
 unfold pNe at h
 split at h
 ·cases h;exact .inl ⟨_,_,rfl,rfl,rfl⟩
 ·split at h
  ·rename_i q
   rw[Bool.and_eq_true] at q
   cases h;exact .inr ⟨q.1,q.2,rfl⟩
  ·cases h
theorem a8l (x y:Str):decide (V.str x=V.str y)=decide (x=y):=by
 by_cases h:x=y
 ·subst h;simp
 ·rw[decide_eq_false h,decide_eq_false fun z=>h (V.str.inj z)]
theorem T5:R2D K (fun x y H Q=>rEq x y H Q∨a0d K id x y H Q) pEq:=by
 intro g σ H fa O s x y d1 d2 d Q I r1 r2 e k
 rcases b3R e with ⟨a,b,rfl,rfl,rfl⟩ | ⟨h1,h2,rfl⟩
 ·simp only[RepB,Rep] at r1 r2
  obtain⟨rfl,_⟩:=r1
  obtain⟨rfl,_⟩:=r2
  exact .inl ⟨rfl,k _ H StE.refl I (by simp only[Rep,a8l])⟩
 ·exact .inr ⟨_,_,d1,d2,r1,r2,h1,h2,k _ H StE.refl I (by simp only[Rep,id])⟩
theorem S0:R2D K (fun x y H Q=>rNe x y H Q∨a0d K not x y H Q) pNe:=by
 intro g σ H fa O s x y d1 d2 d Q I r1 r2 e k
 rcases b3t e with ⟨a,b,rfl,rfl,rfl⟩ | ⟨h1,h2,rfl⟩
 ·simp only[RepB,Rep] at r1 r2
  obtain⟨rfl,_⟩:=r1
  obtain⟨rfl,_⟩:=r2
  exact .inl ⟨rfl,k _ H StE.refl I (by simp only[Rep,a8l])⟩
 ·exact .inr ⟨_,_,d1,d2,r1,r2,h1,h2,k _ H StE.refl I (by simp only[Rep])⟩
def pIx:D→D→Option D
 |.tup ds,.int i=>atI ds i
 |.lst ds,.int i=>atI ds i
 |_,_=>none
theorem a5R {N:Addr→Prop}{fa:Option Addr}{H:Hp}{ds:List D}{xs:List V}{i:Int}{d:D}(r:Reps K N fa H ds xs) (h:atI ds i=some d):∃ v,atI xs i=some v∧Rep K N fa H d v:=by
 unfold atI at h ⊢
 rw[r.length]
 cases e:ixN ds.length i with
 |none=>rw[e] at h;cases h
 |some j=>
  rw[e] at h
  simp only[Option.bind_some] at h ⊢
  exact Reps.get r h
theorem j4:R2D K (fun x y H Q=>a4U K x y H Q∨a46 K x y H Q) pIx:=by
 intro g σ H fa O s x y d1 d2 d Q I r1 r2 e k
 cases d1 with
 |tup ds=>
  cases d2 with
  |int i=>
   simp only[RepB,Rep] at r1 r2
   obtain⟨a,xs,rfl,q,w⟩:=r1
   obtain⟨v,hv,rv⟩:=a5R w (show atI ds i=some d from e)
   exact .inr ⟨a,xs,i,v,rfl,r2,q,hv,k v H StE.refl I rv⟩
  |_=>cases e
 |lst ds=>
  cases d2 with
  |int i=>
   obtain⟨a,xs,rfl,_,q,w⟩:=r1
   simp only[RepB,Rep] at r2
   obtain⟨v,hv,rv⟩:=a5R w (show atI ds i=some d from e)
   exact .inl ⟨a,xs,i,v,rfl,r2,SqL.of q,hv,k v H StE.refl I rv⟩
  |_=>cases e
 |_=>cases e
theorem j3:IxR X (fun x y H Q=>a4U X.K x y H Q∨a46 X.K x y H Q):=ix_list.or b4i
end
def dCB (p:List D→Option D) (f:DA):DE:=fun s=>(f s).bind fun x=>(p x.1).map fun d=>(d,x.2)
def dCF (p:List D→Option (List D)) (f:DA):DA:=fun s=>(f s).bind fun x=>(p x.1).map fun d=>(d,x.2)
section
variable {X:Cx}{g:Gh}{x:Str}{p pos:Pos}{e:Expr}{es:List Expr}{t:DA}{id T:String}{r:List V→Hp→VK→Prop}{pr:List D→Option D}{pf:List D→Option (List D)}
theorem a53 (hr:RCD X.K r pr) (σ:L2.St) (H:Hp) (Q:VK) (h:liftE X.K g (dCB pr t) σ H Q):tCB r (liftBA X.K g t) σ H Q:=by
 obtain⟨f0,O,s,d,s',I,e,k⟩:=h
 refine v3 e fun ds s1 h1 h=>?_
 refine R9 h fun d' h3 h=>?_
 simp only[Prod.mk.injEq] at h
 obtain⟨e1,e2⟩:=h
 subst e1;subst e2
 exact⟨f0,O,s,ds,s1,I,h1,fun vs H1 f1 O1 a1 I1 r1=>hr g σ H1 f1 O1 s1 vs ds d' Q I1 r1 h3 fun z H3 a3 I3 r3=>k z H3 f1 O1 (a1.trans a3) I3 r3⟩
theorem a8Z (hr:RCF X.K r pf) (σ:L2.St) (H:Hp) (Q:VK) (h:liftF X.K g (dCF pf t) σ H Q):tCB r (liftBA X.K g t) σ H Q:=by
 obtain⟨f0,O,s,d,s',I,e,k⟩:=h
 refine v3 e fun ds s1 h1 h=>?_
 refine R9 h fun d' h3 h=>?_
 simp only[Prod.mk.injEq] at h
 obtain⟨e1,e2⟩:=h
 subst e1;subst e2
 exact⟨f0,O,s,ds,s1,I,h1,fun vs H1 f1 O1 a1 I1 r1=>hr g σ H1 f1 O1 s1 vs ds d' Q I1 r1 h3 fun q ys H3 a3 L e3=>k q ys H3 f1 O1 (a1.trans a3) L (a1.mon _ e3)⟩
theorem F2 (hc:CallR X (.builtin id) r) (hr:RCD X.K r pr) (hg:Gl X x) (hm:X.mg x=none) (hv:bootBuiltins x=some (.builtin id)) (ha:BAO X g (e::es) t) (hn:x ≠ "__name__" := by decide) (hdb:(x == ("__debug__" : Str))=false:=by decide)
  (he:starEach (e::es) X.env=(false,eval e X.env)::starEach es X.env:=by rfl) (hpl:(backTo pos (starEach es X.env)).any (·.1)=false:=by rfl):EO X g (.Call (.Name x p) (e::es) [] pos) (dCB pr t):=
 EO.w (b0c hc hg hm hv ha.pe hn hdb he hpl) (a53 hr)
theorem Q5 (hc:CallR X (.type T) r) (hr:RCD X.K r pr) (hg:Gl X x) (hm:X.mg x=none) (hv:bootBuiltins x=some (.type T)) (ha:BAO X g (e::es) t) (hn:x ≠ "__name__" := by decide) (hdb:(x == ("__debug__" : Str))=false:=by decide)
  (he:starEach (e::es) X.env=(false,eval e X.env)::starEach es X.env:=by rfl) (hpl:(backTo pos (starEach es X.env)).any (·.1)=false:=by rfl):EO X g (.Call (.Name x p) (e::es) [] pos) (dCB pr t):=
 EO.w (b0Q hc hg hm hv ha.pe hn hdb he hpl) (a53 hr)
end
theorem b4t {K:PySem.W.Frag}{N:Addr→Prop}{fa:Option Addr}{H:Hp}{d:D}{xs:List V}(r:S6 K N fa H [d] xs):∃ x,xs=[x]∧RepB K N fa H d x:=by
 obtain⟨x,ys,rfl,r1,r2⟩:=r
 simp only[S6] at r2;subst r2
 exact⟨x,rfl,r1⟩
def one {α:Type}(p:D→Option α):List D→Option α
 |[d]=>p d
 |_=>none
theorem b1W {α:Type}{p:D→Option α}{ds:List D}{a:α}(h:one p ds=some a):∃ d,ds=[d]∧p d=some a:=by
 cases ds with
 |nil=>cases h
 |cons d r=>
  cases r with
  |nil=>exact⟨d,rfl,h⟩
  |cons _ _=>cases h
def t6:D→Option D
 |.tup ds=>some (.int (ds.length:Nat))
 |.lst ds=>some (.int (ds.length:Nat))
 |.str x=>some (.int (x.length:Nat))
 |_=>none
def U5:D→Option D
 |.int i=>some (.int (if i<0 then -i else i))
 |_=>none
def a3W:D→Option D
 |.int i=>some (.int i)
 |.bl b=>some (.int (if b then 1 else 0))
 |_=>none
def G8:D→Option D
 |.tup ds=>some (.tup ds)
 |.lst ds=>some (.tup ds)
 |_=>none
section
variable {X:Cx}{K:PySem.W.Frag}
theorem J5:CallR X (.builtin "len") (fun xs H Q=>(∃ p ys,xs=[.ref p]∧(SqL X.K H p ys∨SqT X.K H p ys)∧Q (.int ys.length) H)∨(∃ z,xs=[.str z]∧z.length≤sizeLine∧Q (.int z.length) H)):=call_len_seq.or a87
theorem rc1 {r:List V→Hp→VK→Prop}{p:D→Option D}(h:∀ (g:Gh) (σ:L2.St) (H:Hp) (fa:Option Addr) (O:List Addr) (s:DS) (x:V) (d1 d:D) (Q:VK),GI K g σ H fa O s→RepB K (NN g.F fa O) fa H d1 x→p d1=some d →
  (∀ v H',StE fa O H fa O H'→GI K g σ H' fa O s→Rep K (NN g.F fa O) fa H' d v→Q v H')→r [x] H Q):RCD K r (one p):=by
 intro g σ H fa O s xs ds d Q I rs e k
 obtain⟨d1,rfl,e1⟩:=b1W e
 obtain⟨x,rfl,rx⟩:=b4t rs
 exact h g σ H fa O s x d1 d Q I rx e1 k
theorem K2:RCD K (fun xs H Q=>(∃ p ys,xs=[.ref p]∧(SqL K H p ys∨SqT K H p ys)∧Q (.int ys.length) H)∨(∃ z,xs=[.str z]∧z.length≤sizeLine∧Q (.int z.length) H)) (one t6):=rc1 fun g σ H fa O s x d1 d Q I r e k=>by
 cases d1 with
 |tup es=>
  cases e
  simp only[RepB,Rep] at r
  obtain⟨a,ys,rfl,q,w⟩:=r
  exact .inl ⟨a,ys,rfl,.inr q,k _ H StE.refl I (by rw[w.length];simp only[Rep])⟩
 |lst es=>
  cases e
  obtain⟨a,ys,rfl,_,q,w⟩:=r
  exact .inl ⟨a,ys,rfl,.inl (SqL.of q),k _ H StE.refl I (by rw[w.length];simp only[Rep])⟩
 |str z=>
  cases e
  simp only[RepB,Rep] at r
  obtain⟨rfl,l⟩:=r
  exact .inr ⟨z,rfl,l,k _ H StE.refl I (by simp only[Rep])⟩
 |_=>cases e
theorem a2a:RCD K (fun xs H Q=>∃ i,xs=[.int i]∧Q (.int (if i<0 then -i else i)) H) (one U5):=rc1 fun g σ H fa O s x d1 d Q I r e k=>by
 cases d1 with
 |int i=>
  cases e
  simp only[RepB,Rep] at r
  subst r
  exact⟨i,rfl,k _ H StE.refl I (by simp only[Rep])⟩
 |_=>cases e
theorem b5g:RCD K (fun xs H Q=>(∃ i,xs=[.int i]∧Q (.int i) H)∨∃ k,xs=[.bl k]∧Q (.int (if k then 1 else 0)) H) (one a3W):=rc1 fun g σ H fa O s x d1 d Q I r e k=>by
 cases d1 with
 |int i=>
  cases e
  simp only[RepB,Rep] at r
  subst r
  exact .inl ⟨i,rfl,k _ H StE.refl I (by simp only[Rep])⟩
 |bl b=>
  cases e
  simp only[RepB,Rep] at r
  subst r
  exact .inr ⟨b,rfl,k _ H StE.refl I (by simp only[Rep])⟩
 |_=>cases e
theorem T9:RCD K (fun xs H Q=>∃ p ys,xs=[.ref p]∧((SqL K H p ys∧∀ l,H l=none→Q (.ref l) (upd H l (.tup ys)))∨(SqT K H p ys∧Q (.ref p) H))) (one G8):=rc1 fun g σ H fa O s x d1 d Q I r e k=>by
 cases d1 with
 |tup es=>
  cases e
  simp only[RepB,Rep] at r
  obtain⟨a,ys,rfl,q,w⟩:=r
  exact⟨a,ys,rfl,.inr ⟨q,k _ H StE.refl I (by simp only[Rep];exact⟨a,ys,rfl,q,w⟩)⟩⟩
 |lst es=>
  cases e
  obtain⟨a,ys,rfl,_,q,w⟩:=r
  refine⟨a,ys,rfl,.inl ⟨SqL.of q,fun p hp=>?_⟩⟩
  have a2:StE fa O H fa O (upd H p (.tup ys)):=E4 hp
  refine k _ _ a2 (I.new hp) ?_
  simp only[Rep]
  exact⟨p,ys,rfl,SqT.of B9,Reps.stp I a2.stp w⟩
 |_=>cases e
end
end DL
namespace DL
open PySem PySem.Spec L2
def FS.get (key:Str) (f:FS):Option D:=
 if f.kind=0 then if key = "cells" then some (.lst (f.cells.map .int)) else if key = "at" then some (.int f.pos) else if key = "left" then some (.int f.left) else if key = "turn" then some (.int f.turn) else none else none
def FS.put (key:Str) (n:Int) (f:FS):Option FS:=
 if f.kind=0 then if key = "at" then some { f with pos:=n } else if key = "left" then some { f with left:=n } else if key = "turn" then some { f with turn:=n } else none else none
def dFG (i:Nat) (key:Str):DE:=fun s=>match s.sl[i]? with
 |some (.val .feed)=>s.fs.bind fun f=>(f.get key).map fun d=>(d,s)
 |_=>none
section
variable {X:Cx}{g:Gh}{i:Nat}{x key:Str}{p1 p2 pos pos':Pos}{j:Nat}
theorem b21 (xs:List V) (h:xs.length≤63):M1 xs none (some 63)=xs:=by
 unfold M1
 have e1:HT.sIx xs.length 0 none=0:=rfl
 have e2:HT.sIx xs.length xs.length (some 63)=xs.length:=by
  have:=HT.sIx_nat xs.length xs.length 63
  rw[show ((63:Nat):Int)=63 from rfl] at this
  rw[this];omega
 rw[e1,e2,List.drop_zero,Nat.sub_zero,List.take_length]
end
def FS.tget (n:Int) (f:FS):Option D:=
 if f.kind=0 then none else if n=0 then some (.lst (f.cells.map .int)) else if n=1 then some (.int f.pos) else if n=2 then some (.int f.left) else if n=3∧f.kind≠1 then some (.int f.turn) else none
def FS.tput (n v:Int) (f:FS):Option FS:=
 if f.kind=0 then none else if n=1 then some { f with pos:=v } else if n=2 then some { f with left:=v } else if n=3∧f.kind≠1 then some { f with turn:=v } else none
def dTG (i:Nat) (n:Int):DE:=fun s=>match s.sl[i]? with
 |some (.val .feed)=>s.fs.bind fun f=>(f.tget n).map fun d=>(d,s)
 |_=>none
def dTP (i:Nat) (n:Int) (fe:DE):DM:=fun s=>(fe s).bind fun x=>match x.2.sl[i]?,x.1 with
 |some (.val .feed),.int v=>x.2.fs.bind fun f=>(f.tput n v).map fun f'=>(.next,{ x.2 with fs:=some f' })
 |_,_=>none
def dTN (i:Nat):DE:=fun s=>match s.sl[i]?,s.fs with
 |some (.val (.scr ns)),none=>some (.feed,{ s with fs:=some ⟨ns,0,0,0,1⟩ })
 |_,_=>none
theorem FS.tget_val {n:Int}{f:FS}{d:D}(h:f.tget n=some d) (c:Addr):∃ v,atI (G4 c f) n=some v∧((v = .ref c∧d = .lst (f.cells.map .int))∨∃ i,v = .int i∧d = .int i)∧f.kind≠0:=by
 unfold FS.tget at h
 split at h
 ·cases h
 rename_i hk
 unfold G4
 split at h
 ·rename_i e;subst e;cases h
  refine⟨.ref c,?_,.inl ⟨rfl,rfl⟩,hk⟩
  split <;> rfl
 split at h
 ·rename_i e;subst e;cases h
  refine⟨.int f.pos,?_,.inr ⟨_,rfl,rfl⟩,hk⟩
  split <;> rfl
 split at h
 ·rename_i e;subst e;cases h
  refine⟨.int f.left,?_,.inr ⟨_,rfl,rfl⟩,hk⟩
  split <;> rfl
 split at h
 ·rename_i e;obtain⟨e,e2⟩:=e;subst e;cases h
  refine⟨.int f.turn,?_,.inr ⟨_,rfl,rfl⟩,hk⟩
  rw[if_neg e2];rfl
 ·cases h
theorem FS.tput_val {n v:Int}{f f':FS}(h:f.tput n v=some f') (c:Addr):∃ j,ixN (G4 c f).length n=some j∧(G4 c f).set j (.int v)=G4 c f'∧f'.cells=f.cells∧f.kind≠0∧f'.kind≠0:=by
 unfold FS.tput at h
 split at h
 ·cases h
 rename_i hk
 split at h
 ·rename_i e;subst e;cases h
  refine⟨1,?_,?_,rfl,hk,hk⟩
  ·unfold G4;split <;> rfl
  ·by_cases z:f.kind=1
   ·simp[G4,z]
   ·simp[G4,z]
 split at h
 ·rename_i e;subst e;cases h
  refine⟨2,?_,?_,rfl,hk,hk⟩
  ·unfold G4;split <;> rfl
  ·by_cases z:f.kind=1
   ·simp[G4,z]
   ·simp[G4,z]
 split at h
 ·rename_i e;obtain⟨e,e2⟩:=e;subst e;cases h
  refine⟨3,?_,?_,rfl,hk,hk⟩
  ·unfold G4;rw[if_neg e2];rfl
  ·simp[G4,e2]
 ·cases h
section
variable {X:Cx}{g:Gh}{i:Nat}{x:Str}{n:Int}{p1 p2 pos pos':Pos}{j:Nat}
theorem U4 (hv:PE X (.Name x p1) (R8 i)):EO X g (.Subscript (.Name x p1) (.Constant (.int n) j p2) pos) (dTG i n):=
 EO.w (a6y ix_list hv Z8 (fun _ _=>rfl)) fun σ H Q hQ=>by
  refine hQ.elim fun fa O s d s' I e k=>?_
  unfold dTG at e
  cases q:s.sl[i]? with
  |none=>rw[q] at e;cases e
  |some z=>
   rw[q] at e
   cases z with
   |no=>cases e
   |own _=>cases e
   |val dz=>
    cases dz with
    |feed=>
     refine M0 e fun f h1 h2=>?_
     refine R9 h2 fun d' h3 h4=>?_
     cases h4
     obtain⟨u,e1,r⟩:=SlR.val I.sl q
     simp only[Rep] at r
     obtain⟨a,ha,rfl⟩:=r
     have fd:=I.fd
     rw[h1,ha] at fd
     obtain⟨_,c,hc,nc,lc⟩:=fd
     obtain⟨v,hval,hd,hk⟩:=FS.tget_val h3 c
     rw[a3x hk] at hc
     refine⟨_,e1,a,_,n,v,rfl,rfl,SqL.of hc,hval,k v H fa O StE.refl I ?_⟩
     rcases hd with ⟨rfl,rfl⟩ | ⟨n,rfl,rfl⟩
     ·simp only[Rep]
      exact⟨c,_,rfl,by rw[ha];exact nc,lc,Reps.ints⟩
     ·simp only[Rep]
    |_=>cases e
theorem a4e {e:Expr}{fe:DE}(hv:PE X (.Name x p1) (R8 i)) (he:EO X g e fe) (hs:swapsWithSole [.Subscript (.Name x p1) (.Constant (.int n) j p2) pos'] e pos.line X.env=pure false:=by rfl) (hw:swappedStores [.Subscript (.Name x p1) (.Constant (.int n) j p2) pos'] e X.env=pure none:=by rfl) :
  SO X g (.Assign [.Subscript (.Name x p1) (.Constant (.int n) j p2) pos'] e pos) (dTP i n fe):=
 SO.w (a5F he.pe (b5j hv Z8 a84) hs hw) fun E σ H hQ=>by
  refine hQ.elim fun fa O s fl s' I q k=>?_
  refine v3 q fun d s1 h1 h2=>?_
  simp only[] at h2
  cases q1:s1.sl[i]? with
  |none=>rw[q1] at h2;cases h2
  |some z=>
   rw[q1] at h2
   cases z with
   |no=>cases h2
   |own _=>cases h2
   |val dz=>
    cases dz with
    |feed=>
     cases d with
     |int w=>
      simp only[] at h2
      refine M0 h2 fun f h3 h4=>?_
      refine R9 h4 fun f' h5 h6=>?_
      cases h6
      refine⟨fa,O,s,.int w,s1,I,h1,fun v H1 f1 O1 a1 I1 r=>?_⟩
      simp only[Rep] at r
      subst r
      obtain⟨u,e1,ru⟩:=SlR.val I1.sl q1
      simp only[Rep] at ru
      obtain⟨a,ha,rfl⟩:=ru
      have fd:=I1.fd
      rw[h3,ha] at fd
      obtain⟨lc63,c,hc,nc,lc⟩:=fd
      obtain⟨m,hix,hput,hcell,hk,hk'⟩:=FS.tput_val h5 c
      rw[a3x hk] at hc
      refine⟨_,e1,a,_,n,m,rfl,rfl,hc,hix,?_⟩
      rw[hput]
      have a2:StE f1 O1 H1 f1 O1 (upd H1 a (.lst (G4 c f'))):=⟨fun _ h=>h,.inl rfl,fun b w e nb=>by rw[u3 (fun z=>nb (by rw[z];exact ha))];exact e,fun b z=>by
       by_cases hb:b=a
       ·subst hb;rw[B9] at z;cases z
       ·rw[u3 hb] at z;exact z⟩
      have cr:=I1.car a2.stp
      refine k σ _ f1 O1 (a1.stp.trans a2.stp) ⟨I1.nd,SlR.go cr (fun b xs hb e=>a2.same b _ e fun z=>I1.nf b z hb) I1.sl,I1.fr,?_,I1.tr,I1.ff,?_,I1.nf⟩
      ·refine⟨fun b hb=>(by cases hb),I1.st.fe,fun b w e _ nb=>?_,fun b z=>I1.st.mon b (a2.mon b z)⟩
       refine a2.same b w (I1.st.same b w e (by simp) nb) fun z=>?_
       rcases I1.st.fe with y | ⟨y,y2⟩
       ·rw[y] at z;exact nb z
       ·rw[y2 b z] at e;cases e
      ·rw[ha]
       refine⟨by rw[hcell];exact lc63,c,by rw[a3x hk',B9],nc,?_⟩
       rw[u3 (fun z=>nc (.inr (.inr (by rw[z])))),hcell]
       exact lc
     |_=>cases h2
    |_=>cases h2
theorem b3d {j63 j0 j1:Nat}{q5 q6 q7 q8 q9:Pos}(hv:PE X (.Name x p1) (R8 i)) :
  EO X g (.List [.Subscript (.Name x p1) (.Slice none (some (.Constant (.int 63) j63 q5)) none q6) q7,.Constant (.int 0) j0 q8,.Constant (.int 0) j1 q9] pos) (dTN i):=
 EO.w (a7Z (Z2 (a5O a74 hv a7T (a6a Z8)) (Z2 Z8 (Z2 Z8 a1k)))) fun σ H Q hQ=>by
  refine hQ.elim fun fa O s d s' I e k=>?_
  unfold dTN at e
  cases q:s.sl[i]? with
  |none=>rw[q] at e;cases e
  |some z=>
   rw[q] at e
   cases z with
   |no=>cases e
   |own _=>cases e
   |val dz=>
    cases dz with
    |scr ns=>
     cases hf:s.fs with
     |some f=>rw[hf] at e;cases e
     |none=>
      rw[hf] at e
      cases e
      obtain⟨u,e1,r⟩:=SlR.val I.sl q
      simp only[Rep] at r
      obtain⟨l63,a,rfl,sq⟩:=r
      have fd:=I.fd
      rw[hf] at fd
      have fan:fa=none:=by cases fa with | none=>rfl | some _=>exact fd.elim
      subst fan
      refine⟨_,e1,63,rfl,a,_,rfl,sq.sq,fun c hcH=>?_⟩
      rw[b21 _ (by rw[List.length_map];exact l63)]
      refine⟨by show 3≤sizeLine;decide,fun p hp'=>?_⟩
      have npc:c≠p:=fun z=>by rw[←z,B9] at hp';cases hp'
      have hp:H p=none:=by rw[u3 (Ne.symm npc)] at hp';exact hp'
      have fresh:∀ b u,H b=some u→b≠p∧b≠c:=fun b u e=>⟨M9 e hp,M9 e hcH⟩
      have a2:StE none O H (some p) O (upd (upd H c (.lst (ns.map V.int))) p (.lst [V.ref c,V.int 0,V.int 0])):=by
       refine⟨fun _ h=>h,.inr ⟨rfl,fun b z=>by cases z;exact hp⟩,fun b u e _=>?_,fun b z=>?_⟩
       ·obtain⟨n1,n2⟩:=fresh b u e
        rw[u3 n1,u3 n2];exact e
       ·by_cases h1:b=p
        ·subst h1;exact hp
        ·by_cases h2:b=c
         ·subst h2;exact hcH
         ·rw[u3 h1,u3 h2] at z;exact z
      have cr:=I.car a2.stp
      refine k _ _ (some p) O a2 ⟨I.nd,SlR.go cr (fun b xs hb e=>a2.same b _ e (by simp)) I.sl,I.fr,I.st.trans ⟨fun b hb=>(by cases hb),a2.fe,fun b u e _ n=>a2.same b u e n,a2.mon⟩,I.tr,I.ff,?_,I.nf_step a2.fe⟩ (by simp only[Rep];exact⟨p,rfl,rfl⟩)
      refine⟨l63,c,B9,?_,?_⟩
      ·rintro(z | z | z)
       ·exact I.trF z hcH
       ·obtain⟨xs,e⟩:=I.owned z
        rw[hcH] at e;cases e
       ·exact npc (Option.some.inj z).symm
      ·rw[u3 npc,B9]
    |_=>cases e
end
structure Cal (P:Program) (w:World) (K:PySem.W.Frag) (mg:Str→Option Value) (base:Heap) (k:Nat) (x:Str) (ps:List Str) (m:DFn):Prop where
 ex:∃ (f:Addr) (fd:FuncData),FnD P w K mg base k f fd ps m∧mg x=some (.ref f)∧PySem.W.keepIn K (.ref f)=true∧Binds K fd ps []
structure Blt (mg:Str→Option Value):Prop where
 len:mg "len" = none
 range:mg "range" = none
 abs:mg "abs" = none
 tuple:mg "tuple" = none
 list:mg "list" = none
 int:mg "int" = none
 bool:mg "bool" = none
 str:mg "str" = none
 repr:mg "repr" = none
 all:mg "all" = none
 isinstance:mg "isinstance" = none
 zip:mg "zip" = none
 enumerate:mg "enumerate" = none
 min:mg "min" = none
 max:mg "max" = none
 reversed:mg "reversed" = none
 any:mg "any" = none
 sum:mg "sum" = none
 sorted:mg "sorted" = none
section
variable {X:Cx}{g:Gh}{k:Nat}{ps:List Str}{m:DFn}{x:Str}{p pos:Pos}{e:Expr}{es:List Expr}{t:DA}
theorem i7 (C:Cal X.prog X.w X.K X.mg X.base k x ps m) (k':Nat) (hr:Room k' X.A) (hk:k≤k') (hg:Gl X x)
  (ha:AO X g (e::es) t) (hn:∀ s ds s',t s=some (ds,s')→ds.length=ps.length) (hdb:(x == ("__debug__" : Str))=false:=by decide) (he:starEach (e::es) X.env=(false,eval e X.env)::starEach es X.env:=by rfl) (hpl:(backTo pos (starEach es X.env)).any (·.1)=false:=by rfl) :
  EO X g (.Call (.Name x p) (e::es) [] pos) (e7 m t):=by
 obtain⟨f,fd,F,hm,hkp,hb⟩:=C.ex
 exact b01 F (hr.mono hk) hg hm hkp hb ha hn hdb he hpl
end
theorem b38 {P:Program}{w:World}{K:PySem.W.Frag}{mg:Str→Option Value}{base:Heap}{x:Str}{st:Stmt}{f:Addr}{fd:FuncData}{N ps:List Str}{k:Nat}{b:DM}(F:Fun K x x st f fd) (hm:mg x=some (.ref f)) (hb:Binds K fd ps []) (S:FnScope N ps (m5 st))
  (hbody:∀ (cdv:Value) (A:Around) (outer:List Env) (s:Shared) (H:Hp) (E:XK) (g:Gh),Room k (A.deeper (PyProof.Rows.envOfC x (m5 st) s.heap.objs.size f cdv))→SSO (Q6 CX0 P w K mg base N x (m5 st) f cdv A outer s H E).nox g (M5 st) b) :
  Cal P w K mg base (k+1) x ps (mFn N.length b):=⟨f,fd,a8x F S hbody,hm,F.kp,hb⟩
theorem u64 {A:Around}{k:Nat}(hr:Room k A):A.units+64<cLine:=by have:=hr.un;omega
theorem K1:bootBuiltins ("len" : Str)=some (.builtin "len"):=by decide +kernel
theorem a2j:bootBuiltins ("abs" : Str)=some (.builtin "abs"):=by decide +kernel
theorem U2:bootBuiltins ("tuple" : Str)=some (.type "tuple"):=by decide +kernel
theorem b2I:bootBuiltins ("int" : Str)=some (.type "int"):=by decide +kernel
theorem a1s {κ:Type}[BEq κ] [LawfulBEq κ] {β:Type}:∀ {l:List (κ × β)}{x:κ}{v:β},l.lookup x=some v→(x,v)∈l
 |[],_,_,h=>by simp at h
 |(a,b)::r,x,v,h=>by
  rw[List.lookup_cons] at h
  cases e:x == a with
  |true=>
   rw[e] at h
   cases h
   rw[eq_of_beq e]
   exact List.mem_cons_self ..
  |false=>
   rw[e] at h
   exact List.mem_cons_of_mem _ (a1s h)
def hasAll (names:List (Str × NameKind)) (cl:List (Str × Addr)):Bool:=names.all fun p=>!(p.2 == .cell||p.2 == .free)||(cl.lookup p.1).isSome
theorem a6J {names:List (Str × NameKind)}{cl:List (Str × Addr)}(h:hasAll names cl=true):∀ x,(names.lookup x=some .cell∨names.lookup x=some .free)→∃ c,cl.lookup x=some c:=fun x hx=>by
 have key:∀ kd,names.lookup x=some kd→(kd == NameKind.cell||kd == NameKind.free)=true→∃ c,cl.lookup x=some c:=fun kd e q=>by
  have m:=a1s e
  have z:=List.all_eq_true.mp h _ m
  simp only[q,Bool.not_true,Bool.false_or] at z
  exact Option.isSome_iff_exists.mp z
 rcases hx with e | e
 ·exact key _ e rfl
 ·exact key _ e rfl
inductive CapL (X:Cx) (scope:Scope):List Nat→List Str→Prop where
 | nil:CapL X scope [] []
 | cons {i:Nat}{y:Str}{r:List Nat}{ys:List Str}(h1:X.N[i]? = some y) (h2:X.env.scope.names.lookup y=some .cell∨X.env.scope.names.lookup y=some .free)
   (h3:(relabel scope X.env).names.lookup y=some .cell∨(relabel scope X.env).names.lookup y=some .free) (t:CapL X scope r ys):CapL X scope (i::r) (y::ys)
theorem CapL.len {X:Cx}{scope:Scope}:∀ {idx:List Nat}{ys:List Str},CapL X scope idx ys→ys.length=idx.length
:= by
 intro idx ys h
 induction h with
 |nil=>rfl
 |cons _ _ _ t ih=>rw[List.length_cons,List.length_cons,ih]
theorem CapL.at {X:Cx}{scope:Scope}:∀ {idx:List Nat}{ys:List Str},CapL X scope idx ys→∀ (j i:Nat) (y:Str),idx[j]? = some i→ys[j]? = some y →
  X.N[i]? = some y∧(X.env.scope.names.lookup y=some .cell∨X.env.scope.names.lookup y=some .free)∧((relabel scope X.env).names.lookup y=some .cell∨(relabel scope X.env).names.lookup y=some .free)
:= by
 intro idx ys h
 induction h with
 |nil=>intro j i y h;cases h
 |cons h1 h2 h3 t ih=>
  intro j i y e1 e2
  cases j with
  |zero=>
   cases e1
   cases e2
   exact⟨h1,h2,h3⟩
  |succ j=>exact ih j i y e1 e2
inductive SubL (cells:List (Str × Addr)):List (Str × Addr)→Prop where
 | nil:SubL cells []
 | cons {x:Str}{c:Addr}{r:List (Str × Addr)}(h:cells.lookup x=some c) (t:SubL cells r):SubL cells ((x,c)::r)
theorem SubL.mem {cells:List (Str × Addr)}:∀ {cl:List (Str × Addr)},SubL cells cl→∀ x c,(x,c)∈cl→cells.lookup x=some c
:= by
 intro cl h
 induction h with
 |nil=>intro x c h;cases h
 |cons e t ih=>
  intro x c h
  rcases List.mem_cons.mp h with z | z
  ·cases z;exact e
  ·exact ih x c z
theorem W2 {X:Cx}{scope:Scope}{cl:List (Str × Addr)}{x:Str}{caps:List Str}{idx:List Nat}(clos:closureFor scope X.env=pure cl) (sub:SubL X.env.cells cl) (cell:∀ y∈scope.names,y.2 ≠ .cell) (kind:scope.kind = .function)
  (names:∀ y∈scope.names,y.2 = .local→scope.names.lookup y.1=some .local) (has:hasAll (relabel scope X.env).names cl=true) (cap:CapL X scope idx caps):CompOk X scope cl (x::caps) 1 idx:=
 ⟨clos,fun y c e=>sub.mem y c (a1s e),cell,kind,names,a6J has,by rw[List.length_cons,cap.len,Nat.add_comm],fun j i y e1 e2=>cap.at j i y e1 (by rw[Nat.add_comm] at e2;simpa using e2)⟩
def D9 (i j:Nat) (f:DA):DM:=fun s=>(f s).bind fun x=>match x.1 with
 |[a,b]=>some (.next,{ x.2 with sl:=(x.2.sl.set i (.val a)).set j (.val b) })
 |_=>none
section
variable {X:Cx}{g:Gh}
theorem a3H {i j:Nat}{x y:Str}{a b:Expr}{f:DA}{px py pt pos:Pos}{kt k2 pt2} (hc:X.calm=true) (hN:X.N.Nodup) (hi:X.N[i]? = some x) (hj:X.N[j]? = some y) (hij:i≠j)
  (hx:X.env.scope.names.lookup x=some .local) (hy:X.env.scope.names.lookup y=some .local) (ha:AO X g [a,b] f)
  (hw:swappedStores [.Tuple [.Name x px,.Name y py] kt pt] (.Tuple [a,b] k2 pt2) X.env=pure (some [x,y]))
  (hs:swapsWithSole [.Tuple [.Name x px,.Name y py] kt pt] (.Tuple [a,b] k2 pt2) pos.line X.env=pure false:=by rfl) :
  SO X g (.Assign [.Tuple [.Name x px,.Name y py] kt pt] (.Tuple [a,b] k2 pt2) pos) (D9 i j f):=SO.w (b5E hc hN hi hj hij hx hy ha.pe hw hs) fun E σ H hQ=>by
 refine hQ.elim fun fa O s fl s' I q k=>?_
 refine v3 q fun ds s1 h1 h2=>?_
 refine⟨fa,O,s,ds,s1,I,h1,fun vs H1 f1 O1 a1 I1 r=>?_⟩
 match ds,h2,r with
 |[d1,d2],h2,r=>
  simp only[Option.some.injEq,Prod.mk.injEq] at h2
  obtain⟨e1,e2⟩:=h2
  subst e1;subst e2
  simp only[Reps] at r
  obtain⟨v,ys,rfl,rv,u,zs,rfl,ru,rfl⟩:=r
  refine⟨v,u,rfl,?_⟩
  obtain⟨P,sub,I2⟩:=I1.put i rv
  have a2:StE f1 O1 H1 f1 P H1:=a17 sub
  obtain⟨P3,sub3,I3⟩:=I2.put j (Rep.stp I1 a2.stp ru)
  exact k _ H1 f1 P3 (a1.stp.trans (a2.stp.trans (a17 sub3).stp)) I3
end
theorem walkD {l:PySem.W.OpenLaw}{q:Program}{loose:List Str}{XP:(Str→Option Value)→Heap→Prop}{YP:World→Heap→Prop}{d:DefRec}{K:Params→PySem.W.Frag}{m:DFn}{k:Nat}(hn:l.most=some 63) (hdf:d.params.defaults=[]) (hr:Room k callerA)
  (hY:∀ (w:World) (h:Heap),YP w h→(K w.params).In h)
  (F:∀ (w:World) (mg:Str→Option Value) (fa:Addr) (h:Heap),(K w.params).In h→h.Ns mainGlobals mg→mg d.name=some (.ref fa) →
   ∃ fd:FuncData,(∀ (s:Shared) (u:Value),BindsTo s fd ⟨[u],[]⟩ [("_law_script",u)])∧∀ base:Heap,(K w.params).In base→base.Ns mainGlobals mg→FnOk l.prog w (K w.params) mg base CX0 k fa fd ["_law_script"] (spD (K w.params) 1 m))
  (math:∀ ns:List Int,ns.length≤63→∃ fs',m [.scr ns] none=some (.bl true,fs')) :
  PySem.W.WalkO q loose XP YP l.row.toRowW d [] (fun f vs=>PySem.call f vs):=
 L2.walk_of (n:=63) (k:=k) (x := "_law_script") (CX:=fun _=>CX0) (sp:=fun w=>spD (K w.params) 1 m) hn (by decide) hdf hr hY F (fun w H a ns hl hO hS=>by
  obtain⟨fs',e⟩:=math ns hl
  refine⟨fun _=>False,none,[.scr ns],none,.bl true,fs',fun b z=>z.elim,fun a z=>(by cases z),?_,trivial,e,rfl,fun v H' fa' _ _ r=>by simpa only[Rep] using r⟩
  simp only[Reps,Rep]
  refine⟨_,_,rfl,⟨hl,a,rfl,?_⟩,rfl⟩
  rcases hS with (z | ⟨o,z⟩) | z
  ·rcases hO a with y | ⟨o,xs,y⟩ <;> · rw[z] at y;cases y
  ·exact .inl ⟨o,z⟩
  ·exact .inr z) fun _ _ _ _ _ z=>z
section
variable {X:Cx}{g:Gh}{a b c:Expr}{fa fb fc:DE}{pos:Pos}
abbrev DO:=DS→Option (Option Int × DS)
def liftO (K:PySem.W.Frag) (g:Gh) (f:DO):L2.TO:=fun σ H Q=>∃ fa O s d s',GI K g σ H fa O s∧f s=some (d,s')∧∀ H' fa' O',StE fa O H fa' O' H'→GI K g σ H' fa' O' s'→Q d H'
theorem liftO.elim {K:PySem.W.Frag}{g:Gh}{σ:L2.St}{H:Hp}{G:Prop}{f:DO}{Q:Option Int→Hp→Prop}(h:liftO K g f σ H Q) (k:∀ fa O s d s',GI K g σ H fa O s→f s=some (d,s')→(∀ H' fa' O',StE fa O H fa' O' H'→GI K g σ H' fa' O' s'→Q d H')→G):G:=by
 obtain⟨fa,O,s,d,s',a,b,c⟩:=h
 exact k fa O s d s' a b c
structure OO (X:Cx) (g:Gh) (e:Option Expr) (f:DO):Prop where
 pe:PO X e (liftO X.K g f)
def dNo:DO:=fun s=>some (none,s)
def dAt (f:DE):DO:=fun s=>(f s).bind fun x=>match x.1 with | .int i=>some (some i,x.2) | _=>none
theorem POw {e:Option Expr}{t t':L2.TO}(h:PO X e t) (w:∀ σ H Q,t' σ H Q→t σ H Q):PO X e t':=fun pins s σ H Q I q=>h pins s σ H Q I (w σ H Q q)
theorem OO.w {e:Option Expr}{f:DO}{t:L2.TO}(h:PO X e t) (w:∀ σ H Q,liftO X.K g f σ H Q→t σ H Q):OO X g e f:=⟨POw h w⟩
theorem a0q:OO X g none dNo:=OO.w a7T fun σ H Q hQ=>by
 refine hQ.elim fun f0 O s d s' I e k=>?_
 cases e
 exact k H f0 O StE.refl I
theorem a0v (h:BO X g a fa):OO X g (some a) (dAt fa):=OO.w (a6a h.pe) fun σ H Q hQ=>by
 refine hQ.elim fun f0 O s d s' I e k=>?_
 refine v3 e fun x s1 h1 e=>?_
 cases x with
 |int i=>
  simp only[Option.some.injEq,Prod.mk.injEq] at e
  obtain⟨e1,e2⟩:=e
  subst e1;subst e2
  exact⟨f0,O,s,.int i,s1,I,h1,fun v H1 f1 O1 a1 I1 r1=>⟨i,by simpa only[RepB,Rep] using r1,k H1 f1 O1 a1 I1⟩⟩
 |_=>cases e
def K9 (xs:List D) (lo hi:Option Int):List D:=(xs.drop (HT.sIx xs.length 0 lo)).take (HT.sIx xs.length xs.length hi - HT.sIx xs.length 0 lo)
theorem a3h {K:PySem.W.Frag}{N:Addr→Prop}{fa:Option Addr}{H:Hp}{ds:List D}{xs:List V}(r:Reps K N fa H ds xs) (lo hi:Option Int):Reps K N fa H (K9 ds lo hi) (M1 xs lo hi):=by
 unfold K9 M1
 rw[r.length]
 exact(r.drop _).take _
end
end DL
namespace HT2
open PySem PyProof.Rows HT
section
variable {prog:Program}{w:World}{A:Around}{E:Value→Shared→Prop}{s:Shared}
theorem getItem_tuple_whole {t sl:Addr}{items:Array Value}{vl vu:Value}{lo hi:Option Int}{Q:Value→Shared→Prop}(ht:IsTup s.heap t items) (hs:s.heap.IsSliceOf sl vl vu .none) (pl:IsPart vl lo) (pu:IsPart vu hi)
  (hw:sIx items.size 0 lo=0∧sIx items.size items.size hi=items.size) (h:Q (.ref t) s):wpAny (model prog w) A (getItem (.ref t) (.ref sl)) Q E s:=by
 obtain⟨os,hos,hcs,hds⟩:=id hs
 have hTs:s.TypeIs (.ref sl) "slice" := ⟨os,hos,hcs⟩
 unfold getItem
 try with_reducible refine wpAny_holding ?_
 first | refine wpAny_bind (wpAny_pure ?_) | skip
 refine wpAny_bind (wpAny_sequenceKey ht.typeIs (by decide) ?_)
 refine wpAny_bind (wpAny_callSpecial?_slot (name:=Str.ofString "__getitem__") ht.typeIs PyProof.Rows.slot_tuple_getitem
  (wpAny_call_entry PyProof.Rows.slot_tuple_getitem ht.typeIs entry_tuple_getitem ?_ (args_tuple_getitem _ _)))
 show wpAny _ _ (Builtin.Tuple.tupleItemsOf (.ref t) >>= _) _ _ s
 refine wpAny_bind (tupleItemsOf_ ht ?_)
 refine wpAny_bind (wpAny_typeOf hTs ?_)
 rw[if_pos (by decide)]
 refine wpAny_bind (a8y hs pl pu ?_)
 have hyes:(((sIx items.size 0 lo:Nat):Int) == 0&&(1:Int) == 1&&(sIx items.size items.size hi - sIx items.size 0 lo) == items.size)=true:=by
  rw[hw.1,hw.2];simp
 show wpAny _ _ (if (((sIx items.size 0 lo:Nat):Int) == 0&&(1:Int) == 1&&(sIx items.size items.size hi - sIx items.size 0 lo) == items.size)=true then _ else _) _ _ s
 rw[if_pos hyes]
 refine wpAny_bind (m:=Builtin.Tuple.tupleIsExact _) (wpAny_bind (wpAny_typeOf ht.typeIs (wpAny_pure ?_)))
 rw[if_pos (by decide)]
 first
  | exact wpAny_bind (wpAny_rule (wpAny_bind (wpAny_pure (wpAny_pure ⟨_,rfl,wpAny_pure h⟩))))
  | exact wpAny_bind (wpAny_rule (wpAny_pure ⟨_,rfl,wpAny_pure h⟩))
  | exact wpAny_bind (wpAny_rule (wpAny_bind (wpAny_pure ⟨_,rfl,wpAny_pure h⟩)))
end
end HT2
namespace DL
open PySem PySem.Spec L2
section
variable {X:Cx}{g:Gh}{a:Expr}{fa:DE}{pos:Pos}
def b2K (K:PySem.W.Frag):V→Option Int→Option Int→Hp→VK→Prop:=fun x lo hi H Q=>∃ a xs,x = .ref a∧SqT K H a xs∧(HT.sIx xs.length 0 lo=0∧HT.sIx xs.length xs.length hi=xs.length)∧Q (.ref a) H
theorem b3o:L2.SlR X (b2K X.K):=by
 intro pins s σ H x v vl vu lo hi sl Q I rx hs pl pu h
 obtain⟨a,xs,rfl,hx,hw,q⟩:=h
 cases rx
 obtain⟨its,r,ht,hz⟩:=I.tuple hx
 have hlen:its.toArray.size=xs.length:=by rw[List.size_toArray];exact r.length.symm
 refine⟨"tuple",_,PyProof.Rows.slot_tuple_getitem.lookup,ht.typeIs,?_⟩
 exact HT2.getItem_tuple_whole ht hs pl pu (by rw[hlen];exact hw) ⟨.ref a,H,I,rfl,q⟩
theorem b4v {xs:List D}{lo hi:Option Int}(h:HT.sIx xs.length 0 lo=0∧HT.sIx xs.length xs.length hi=xs.length):K9 xs lo hi=xs:=by
 unfold K9
 rw[h.1,h.2,List.drop_zero,Nat.sub_zero,List.take_length]
def dSl (f:DE) (lo hi:DO):DE:=fun s=>(f s).bind fun x=>(lo x.2).bind fun l=>(hi l.2).bind fun h=>match x.1 with
 |.tup ds=>some (.tup (K9 ds l.1 h.1),h.2)
 |.lst ds=>some (.lst (K9 ds l.1 h.1),h.2)
 |_=>none
theorem b0G {x r:D}{F:List D→List D}{t z:DS}(e:(match x with
 |.tup ds=>some (D.tup (F ds),t)
 |.lst ds=>some (D.lst (F ds),t)
 |_=>none)=some (r,z)):t=z∧((∃ ds,x = .lst ds∧r = .lst (F ds))∨∃ ds,x = .tup ds∧r = .tup (F ds)):=by
 cases x with
 |tup ds=>cases e;exact⟨rfl,.inr ⟨ds,rfl,rfl⟩⟩
 |lst ds=>cases e;exact⟨rfl,.inl ⟨ds,rfl,rfl⟩⟩
 |_=>cases e
theorem a0I {lo hi:Option Expr}{fl fh:DO}{p2:Pos}(ha:BO X g a fa) (hl:OO X g lo fl) (hh:OO X g hi fh):EO X g (.Subscript a (.Slice lo hi none p2) pos) (dSl fa fl fh):=
 EO.w (a5O (L2.SlR.or (L2.SlR.or a9B b3o) a74) ha.pe hl.pe hh.pe) fun σ H Q hQ=>by
  refine hQ.elim fun f0 O s d s' I e k=>?_
  refine v3 e fun x s1 h1 e=>?_
  refine v3 e fun l s2 h2 e=>?_
  refine v3 e fun h s3 h3 e=>?_
  obtain⟨rfl,c⟩:=b0G (F:=fun ds=>K9 ds l h) e
  refine⟨f0,O,s,x,s1,I,h1,fun v H1 f1 O1 a1 I1 r1=>⟨f1,O1,s1,l,s2,I1,h2,fun H2 f2 O2 a2 I2=>⟨f2,O2,s2,h,s3,I2,h3,fun H3 f3 O3 a3 I3=>?_⟩⟩⟩
  have r3:=RepB.stp I2 a3 (RepB.stp I1 a2 r1)
  rcases c with ⟨ds,rfl,rfl⟩ | ⟨ds,rfl,rfl⟩
  ·obtain⟨c,xs,rfl,_,q,w⟩:=r3
   refine .inr ⟨c,xs,rfl,SqL.of q,fun p hp=>?_⟩
   have a4:StE f3 O3 H3 f3 O3 (upd H3 p (.lst (M1 xs l h))):=E4 hp
   have L:=X8 I3 hp (a3h w l h)
   refine k _ _ f3 O3 (a1.trans (a2.trans (a3.trans a4))) L.gi ?_
   simp only[Rep]
   exact⟨p,_,rfl,a1I I3 a4 L.gi hp L.nf,B9,Reps.stp I3 a4.stp (a3h w l h)⟩
  ·simp only[RepB,Rep] at r3
   obtain⟨c,xs,rfl,q,w⟩:=r3
   by_cases hw:HT.sIx xs.length 0 l=0∧HT.sIx xs.length xs.length h=xs.length
   ·refine .inl (.inr ⟨c,xs,rfl,q,hw,k _ H3 f3 O3 (a1.trans (a2.trans a3)) I3 ?_⟩)
    rw[w.length] at hw
    rw[b4v hw]
    simp only[Rep]
    exact⟨c,xs,rfl,q,w⟩
   ·refine .inl (.inl ⟨c,xs,rfl,q,hw,fun p hp=>?_⟩)
    have a4:StE f3 O3 H3 f3 O3 (upd H3 p (.tup (M1 xs l h))):=E4 hp
    refine k _ _ f3 O3 (a1.trans (a2.trans (a3.trans a4))) (I3.new hp) ?_
    simp only[Rep]
    exact⟨p,_,rfl,SqT.of B9,Reps.stp I3 a4.stp (a3h w l h)⟩
end
end DL
namespace HT3
open PySem PyProof.Rows HT
section
variable {prog:Program}{w:World}{A:Around}{E:Value→Shared→Prop}{s:Shared}
theorem a9F (n:Nat):Builtin.Slice.sliceAdjust none none (-1) (n:Int)=((n:Int) - 1,-1):=by
 have h1:((-1:Int)<0):=by omega
 unfold Builtin.Slice.sliceAdjust
 simp only[h1,if_true]
theorem b4a (n:Nat):Builtin.Slice.slicePlaces ((n:Int) - 1) (-1) (-1)=n:=by
 unfold Builtin.Slice.slicePlaces
 have h1:¬ ((-1:Int)>0):=by omega
 simp only[h1,if_false]
 have e:-(-1:Int)=1:=rfl
 rw[e,Int.ediv_one]
 split <;> omega
theorem b0F {sl:Addr}{t:Tok}{n:Nat}{Q:Int × Int × Nat→Shared→Prop}(hs:s.heap.IsSliceOf sl .none .none (.int (-1) t))
  (h:Q ((n:Int) - 1,-1,n) s):wpAny (model prog w) A (Builtin.Slice.sliceApplied (.ref sl) (pure (n:Int))) Q E s:=by
 obtain⟨os,hos,hcs,hds⟩:=id hs
 unfold Builtin.Slice.sliceApplied Builtin.Slice.sliceFields
 refine wpAny_bind (wpAny_bind (wpAny_field hos hds (x:=.none) rfl (wpAny_bind (wpAny_field hos hds (x:=.none) rfl (wpAny_bind (wpAny_field hos hds (x:=.int (-1) t) rfl (wpAny_pure ?_)))))))
 refine wpAny_bind (slicePart_int ?_)
 show wpAny _ _ (if ((-1:Int) == 0)=true then _ else _) _ _ s
 rw[if_neg (by decide)]
 refine wpAny_bind (slicePart_none (wpAny_bind (slicePart_none (wpAny_bind (wpAny_pure ?_)))))
 show wpAny _ _ (match Builtin.Slice.sliceAdjust none none (-1) (n:Int) with | (lo,hi)=>pure (lo,(-1:Int),Builtin.Slice.slicePlaces lo hi (-1))) _ _ s
 rw[a9F n]
 show wpAny _ _ (pure ((n:Int) - 1,(-1:Int),Builtin.Slice.slicePlaces ((n:Int) - 1) (-1) (-1))) _ _ s
 rw[b4a]
 exact wpAny_pure h
theorem b2q (xs:Array Value):((List.range xs.size).filterMap fun (m:Nat)=>xs[(((xs.size:Int) - 1)+(m:Int)*(-1)).toNat]?).toArray=xs.toList.reverse.toArray:=by
 congr 1
 have e:((List.range xs.size).filterMap fun (m:Nat)=>xs[(((xs.size:Int) - 1)+(m:Int)*(-1)).toNat]?)=((List.range xs.size).filterMap fun (m:Nat)=>xs.toList.reverse[m]?):=by
  have cg:∀ (l:List Nat) (f g:Nat→Option Value),(∀ m∈l,f m=g m)→l.filterMap f=l.filterMap g:=by
   intro l f g
   induction l with
   |nil=>intro _;rfl
   |cons a r ih=>intro h;rw[List.filterMap_cons,List.filterMap_cons,h a (List.mem_cons_self ..),ih fun m hm=>h m (List.mem_cons_of_mem _ hm)]
  refine cg _ _ _ fun m hm=>?_
  have hm':m<xs.size:=List.mem_range.mp hm
  have:(((xs.size:Int) - 1)+(m:Int)*(-1)).toNat=xs.size - 1 - m:=by omega
  rw[this,List.getElem?_reverse (by simpa using hm')]
  simp
 rw[e]
 have hl:xs.size=xs.toList.reverse.length:=by simp
 rw[hl]
 generalize xs.toList.reverse=l
 clear e hl
 induction l with
 |nil=>rfl
 |cons a r ih=>
  rw[List.length_cons,List.range_succ_eq_map,List.filterMap_cons]
  simp only[List.getElem?_cons_zero,List.filterMap_map]
  congr 1
theorem getItem_tuple_rev {t sl:Addr}{items:Array Value}{tk:Tok}{Q:Value→Shared→Prop}(ht:IsTup s.heap t items) (hs:s.heap.IsSliceOf sl .none .none (.int (-1) tk))
  (h:Q (.ref s.heap.objs.size) { s with heap:=s.heap.push { cls:=.type "tuple",data:=.seq items.toList.reverse.toArray } })
  (hsz:items.size≤sizeLine):wpAny (model prog w) A (getItem (.ref t) (.ref sl)) Q E s:=by
 have htake:sizeOk (.seq items.toList.reverse.toArray):=by
  show items.toList.reverse.toArray.size≤sizeLine
  rw[List.size_toArray,List.length_reverse,Array.length_toList]
  exact hsz
 obtain⟨os,hos,hcs,hds⟩:=id hs
 have hTs:s.TypeIs (.ref sl) "slice" := ⟨os,hos,hcs⟩
 unfold getItem
 try with_reducible refine wpAny_holding ?_
 first | refine wpAny_bind (wpAny_pure ?_) | skip
 refine wpAny_bind (wpAny_sequenceKey ht.typeIs (by decide) ?_)
 refine wpAny_bind (wpAny_callSpecial?_slot (name:=Str.ofString "__getitem__") ht.typeIs PyProof.Rows.slot_tuple_getitem
  (wpAny_call_entry PyProof.Rows.slot_tuple_getitem ht.typeIs entry_tuple_getitem ?_ (args_tuple_getitem _ _)))
 show wpAny _ _ (Builtin.Tuple.tupleItemsOf (.ref t) >>= _) _ _ s
 refine wpAny_bind (tupleItemsOf_ ht ?_)
 refine wpAny_bind (wpAny_typeOf hTs ?_)
 rw[if_pos (by decide)]
 refine wpAny_bind (b0F hs ?_)
 have hno:¬ ((((items.size:Int) - 1) == 0&&(-1:Int) == 1&&items.size == items.size)=true):=by
  intro q
  rw[Bool.and_eq_true,Bool.and_eq_true] at q
  exact absurd q.1.2 (by decide)
 show wpAny _ _ (if (((items.size:Int) - 1) == 0&&(-1:Int) == 1&&items.size == items.size)=true then _ else _) _ _ s
 rw[if_neg hno,b2q]
 first
  | exact wpAny_bind (m:=Builtin.Tuple.tupleExact _) (wpAny_newObj_type (wpAny_pure ⟨_,rfl,wpAny_pure h⟩) htake)
  | exact wpAny_bind (m:=Builtin.Tuple.tupleExact _) (wpAny_newObj_type (wpAny_bind (wpAny_pure (wpAny_pure ⟨_,rfl,wpAny_pure h⟩))) htake)
  | exact wpAny_bind (wpAny_bind (m:=Builtin.Tuple.tupleExact _) (wpAny_newObj_type (wpAny_pure (wpAny_pure ⟨_,rfl,wpAny_pure h⟩)) htake))
  | exact wpAny_bind (wpAny_bind (m:=Builtin.Tuple.tupleExact _) (wpAny_newObj_type (wpAny_pure ⟨_,rfl,wpAny_pure h⟩) htake))
theorem a9E {sl:Addr}{t:Tok}{n:Nat}{Q:Int × Int × Nat→Shared→Prop}(hs:s.heap.IsSliceOf sl .none .none (.int 1 t))
  (h:Q (0,1,n) s):wpAny (model prog w) A (Builtin.Slice.sliceApplied (.ref sl) (pure (n:Int))) Q E s:=by
 obtain⟨os,hos,hcs,hds⟩:=id hs
 unfold Builtin.Slice.sliceApplied Builtin.Slice.sliceFields
 refine wpAny_bind (wpAny_bind (wpAny_field hos hds (x:=.none) rfl (wpAny_bind (wpAny_field hos hds (x:=.none) rfl (wpAny_bind (wpAny_field hos hds (x:=.int 1 t) rfl (wpAny_pure ?_)))))))
 refine wpAny_bind (slicePart_int ?_)
 show wpAny _ _ (if ((1:Int) == 0)=true then _ else _) _ _ s
 rw[if_neg (by decide)]
 refine wpAny_bind (slicePart_none (wpAny_bind (slicePart_none (wpAny_bind (wpAny_pure ?_)))))
 show wpAny _ _ (match Builtin.Slice.sliceAdjust none none 1 (n:Int) with | (lo,hi)=>pure (lo,(1:Int),Builtin.Slice.slicePlaces lo hi 1)) _ _ s
 rw[a7S none none n]
 show wpAny _ _ (pure (((sIx n 0 none:Nat):Int),(1:Int),Builtin.Slice.slicePlaces ((sIx n 0 none:Nat):Int) ((sIx n n none:Nat):Int) 1)) _ _ s
 rw[a7I]
 exact wpAny_pure h
theorem getItem_tuple_one {t sl:Addr}{items:Array Value}{tk:Tok}{Q:Value→Shared→Prop}(ht:IsTup s.heap t items) (hs:s.heap.IsSliceOf sl .none .none (.int 1 tk)) (h:Q (.ref t) s):wpAny (model prog w) A (getItem (.ref t) (.ref sl)) Q E s:=by
 obtain⟨os,hos,hcs,hds⟩:=id hs
 have hTs:s.TypeIs (.ref sl) "slice" := ⟨os,hos,hcs⟩
 unfold getItem
 try with_reducible refine wpAny_holding ?_
 first | refine wpAny_bind (wpAny_pure ?_) | skip
 refine wpAny_bind (wpAny_sequenceKey ht.typeIs (by decide) ?_)
 refine wpAny_bind (wpAny_callSpecial?_slot (name:=Str.ofString "__getitem__") ht.typeIs PyProof.Rows.slot_tuple_getitem
  (wpAny_call_entry PyProof.Rows.slot_tuple_getitem ht.typeIs entry_tuple_getitem ?_ (args_tuple_getitem _ _)))
 show wpAny _ _ (Builtin.Tuple.tupleItemsOf (.ref t) >>= _) _ _ s
 refine wpAny_bind (tupleItemsOf_ ht ?_)
 refine wpAny_bind (wpAny_typeOf hTs ?_)
 rw[if_pos (by decide)]
 refine wpAny_bind (a9E hs ?_)
 have hyes:((0:Int) == 0&&(1:Int) == 1&&items.size == items.size)=true:=by simp
 show wpAny _ _ (if ((0:Int) == 0&&(1:Int) == 1&&items.size == items.size)=true then _ else _) _ _ s
 rw[if_pos hyes]
 refine wpAny_bind (m:=Builtin.Tuple.tupleIsExact _) (wpAny_bind (wpAny_typeOf ht.typeIs (wpAny_pure ?_)))
 rw[if_pos (by decide)]
 first
  | exact wpAny_bind (wpAny_rule (wpAny_bind (wpAny_pure (wpAny_pure ⟨_,rfl,wpAny_pure h⟩))))
  | exact wpAny_bind (wpAny_rule (wpAny_pure ⟨_,rfl,wpAny_pure h⟩))
  | exact wpAny_bind (wpAny_rule (wpAny_bind (wpAny_pure ⟨_,rfl,wpAny_pure h⟩)))
end
end HT3
namespace DL
open PySem PySem.Spec L2 PyProof.Rows
section
variable {X:Cx}{g:Gh}{a st:Expr}{fa fs:DE}{pos p2:Pos}
def b5e (K:PySem.W.Frag) (te ts:TE):TE:=fun σ H Q=>te σ H fun x H1=>ts σ H1 fun y H2=>(y = .int (-1)∧∃ p xs,x = .ref p∧SqT K H2 p xs∧∀ l,H2 l=none→Q (.ref l) (upd H2 l (.tup xs.reverse)))∨(y = .int 1∧∃ p xs,x = .ref p∧SqT K H2 p xs∧Q (.ref p) H2)
theorem b1n {te ts:TE}(he:PE X a te) (hs:PE X st ts):PE X (.Subscript a (.Slice none none (some st) p2) pos) (b5e X.K te ts):=by
 intro pins s σ H Q I h
 refine Subscript_ (thn (he pins s σ H _ I h) fun v s1 ⟨x,H1,I1,r1,q1⟩=>?_)
 refine wpAny_Slice ?_
 rw[evalPart_none]
 refine wpAny_pure (wpAny_pure ?_)
 rw[evalPart_some]
 refine thn (hs pins s1 σ H1 _ I1 q1) fun u s3 ⟨y,H3,I3,r3,q3⟩=>?_
 rcases q3 with ⟨rfl,p,xs,rfl,hx,q⟩ | ⟨rfl,p,xs,rfl,hx,q⟩
 case inr=>
  obtain⟨tk,rfl⟩:=r3
  cases r1
  have I4:Inv X pins σ H3 { s3 with heap:=s3.heap.push { cls:=.type "slice",data:=.fields #[.none,.none,.int 1 tk] } }:=I3.kept (t':=s3.toks) fun b ob q=>Heap.get?_push_of_some _ q
  obtain⟨its,r,ht,hz⟩:=I4.tuple hx
  show wpAny (model X.prog X.w) X.A (subscriptTail a (.Slice none none (some st) p2) (.ref p) (.ref s3.heap.objs.size)) (EP X pins σ Q) X.xe { s3 with heap:=s3.heap.push { cls:=.type "slice",data:=.fields #[.none,.none,.int 1 tk] } }
  refine tail_any (ops:=[.ref p,.ref s3.heap.objs.size]) ht.typeIs PyProof.Rows.slot_tuple_getitem.lookup ?_ (by with_unfolding_all rfl)
  exact HT3.getItem_tuple_one ht (Heap.IsSliceOf.new ..) ⟨.ref p,H3,I4,rfl,q⟩
 obtain⟨tk,rfl⟩:=r3
 cases r1
 have I4:Inv X pins σ H3 { s3 with heap:=s3.heap.push { cls:=.type "slice",data:=.fields #[.none,.none,.int (-1) tk] } }:=I3.kept (t':=s3.toks) fun b ob q=>Heap.get?_push_of_some _ q
 obtain⟨its,r,ht,hz⟩:=I4.tuple hx
 have hlen:its.toArray.size=xs.length:=by rw[List.size_toArray];exact r.length.symm
 show wpAny (model X.prog X.w) X.A (subscriptTail a (.Slice none none (some st) p2) (.ref p) (.ref s3.heap.objs.size)) (EP X pins σ Q) X.xe { s3 with heap:=s3.heap.push { cls:=.type "slice",data:=.fields #[.none,.none,.int (-1) tk] } }
 refine tail_any (ops:=[.ref p,.ref s3.heap.objs.size]) ht.typeIs PyProof.Rows.slot_tuple_getitem.lookup ?_ (by with_unfolding_all rfl)
 refine HT3.getItem_tuple_rev ht (Heap.IsSliceOf.new ..) ?_ (by rw[hlen];exact hz)
 refine⟨.ref (s3.heap.push { cls:=.type "slice",data:=.fields #[.none,.none,.int (-1) tk] }).objs.size,_,I4.laid (t':=s3.toks) (o:=.tup xs.reverse) (fun b ob q=>Heap.get?_push_of_some _ q) (Nat.le_refl _) ?_,rfl,q _ (I4.hok.fresh (Nat.le_refl _))⟩
 exact⟨by rw[List.length_reverse];exact hz,_,r.reverse,IsTup.new _ _⟩
def a1i (f h:DE):DE:=fun s=>(f s).bind fun x=>(h x.2).bind fun y=>match x.1,y.1 with
 |.tup ds,.int i=>if i = -1 then some (.tup ds.reverse,y.2) else if i=1 then some (.tup ds,y.2) else none
 |_,_=>none
theorem b31 {x y r:D}{t:DS}{z:DS}(e:(match x,y with
 |.tup ds,.int i=>if i = -1 then some (D.tup ds.reverse,t) else if i=1 then some (.tup ds,t) else none
 |_,_=>none)=some (r,z)):∃ ds i,x = .tup ds∧y = .int i∧t=z∧((i = -1∧r = .tup ds.reverse)∨(i=1∧r = .tup ds)):=by
 cases x with
 |tup ds=>
  cases y with
  |int i=>
   have e:(if i = -1 then some (D.tup ds.reverse,t) else if i=1 then some (.tup ds,t) else none)=some (r,z):=e
   by_cases hi:i = -1
   ·rw[if_pos hi] at e
    cases e
    exact⟨ds,i,rfl,rfl,rfl,.inl ⟨hi,rfl⟩⟩
   ·rw[if_neg hi] at e
    by_cases h1:i=1
    ·rw[if_pos h1] at e
     cases e
     exact⟨ds,i,rfl,rfl,rfl,.inr ⟨h1,rfl⟩⟩
    ·rw[if_neg h1] at e
     cases e
  |_=>cases e
 |_=>cases e
theorem b3f (ha:BO X g a fa) (hs:BO X g st fs):EO X g (.Subscript a (.Slice none none (some st) p2) pos) (a1i fa fs):=EO.w (b1n ha.pe hs.pe) fun σ H Q hQ=>by
 refine hQ.elim fun f0 O s d s' I e k=>?_
 refine v3 e fun x s1 h1 e=>?_
 refine v3 e fun y s2 h2 e=>?_
 obtain⟨ds,i,rfl,rfl,rfl,c⟩:=b31 e
 refine⟨f0,O,s,_,s1,I,h1,fun v H1 f1 O1 a1 I1 r1=>⟨f1,O1,s1,_,s2,I1,h2,fun u H2 f2 O2 a2 I2 r2=>?_⟩⟩
 have r3:=RepB.stp I1 a2 r1
 simp only[RepB,Rep] at r2 r3
 subst r2
 obtain⟨c',xs,rfl,q,w⟩:=r3
 rcases c with ⟨rfl,rfl⟩ | ⟨rfl,rfl⟩
 ·refine .inl ⟨rfl,c',xs,rfl,q,fun l hl=>?_⟩
  have a4:StE f2 O2 H2 f2 O2 (upd H2 l (.tup xs.reverse)):=E4 hl
  refine k _ _ f2 O2 (a1.trans (a2.trans a4)) (I2.new hl) ?_
  simp only[Rep]
  exact⟨l,_,rfl,SqT.of B9,Reps.stp I2 a4.stp (Reps.reverse w)⟩
 ·refine .inr ⟨rfl,c',xs,rfl,q,k _ _ f2 O2 (a1.trans a2) I2 ?_⟩
  simp only[Rep]
  exact⟨c',xs,rfl,q,w⟩
end
end DL
namespace DL
open PySem PySem.Spec L2
def a2U:Expr→Bool
 |.Starred _ _=>false
 |_=>true
theorem a8m {a:Expr}{es:List Expr}{env:Env}(h:a2U a=true):starEach (a::es) env=(false,eval a env)::starEach es env:=by
 cases a <;> first | rfl | (cases h)
section
variable {X:Cx}{g:Gh}{a:Expr}{es:List Expr}{fa:DE}{fr:DA}
theorem ac (ha:EO X g a fa) (hr:AO X g es fr) (hs:a2U a=true:=by rfl):AO X g (a::es) (a7 fa fr):=a47 ha hr (a8m hs)
theorem bc (ha:BO X g a fa) (hr:BAO X g es fr) (hs:a2U a=true:=by rfl):BAO X g (a::es) (a7 fa fr):=b5Y ha hr (a8m hs)
end
end DL
namespace DL
open PySem PySem.Spec L2 PyProof.Rows
structure LitV (K:PySem.W.Frag) (d:D) (u:Value):Prop where
 ex:∃ v:V,RelV v u∧∀ N fa H,Rep K N fa H d v
section
variable {K:PySem.W.Frag}
theorem b5O (i:Int) (t:Tok):LitV K (.int i) (.int i t):=⟨.int i,⟨t,rfl⟩,fun _ _ _=>by simp only[Rep]⟩
end
structure Con (K:PySem.W.Frag) (mg:Str→Option Value) (x:Str) (d:D):Prop where
 ex:∃ u:Value,mg x=some u∧LitV K d u
theorem b4x {X:Cx}{g:Gh}{x:Str}{d:D}{pos:Pos}(C:Con X.K X.mg x d) (hg:Gl X x) (hd:(x == ("__debug__" : Str))=false:=by decide):EO X g (.Name x pos) (dC d):=by
 obtain⟨u,hm,h⟩:=C.ex
 obtain⟨v,r,q⟩:=h.ex
 exact EO.w (a9R (v:=v) hg hm r hd) fun σ H Q hQ=>by
  refine hQ.elim fun fa O s d' s' I e k=>?_
  simp only[dC,Option.some.injEq,Prod.mk.injEq] at e
  obtain⟨q1,q2⟩:=e
  subst q1;subst q2
  exact k v H fa O StE.refl I (q _ _ _)
end DL
namespace DL
open PySem PySem.Spec L2
def mk2 (idx:List Nat) (sl:List Sl):D→Option (List Sl)
 |.tup [a,b]=>some (.val a :: .val b::D4 idx sl)
 |_=>none
theorem b0e {idx:List Nat}{sl:List Sl}{d:D}{r:List Sl}(h:mk2 idx sl d=some r):∃ a b,d = .tup [a,b]∧r = .val a :: .val b::D4 idx sl:=by
 cases d with
 |tup ds=>
  match ds,h with
  |[a,b],h=>cases h;exact⟨a,b,rfl,rfl⟩
 |_=>cases h
def L6 (idx:List Nat) (fi:DA) (fc:DT) (fe:DE):DA:=fun s=>(fi s).bind fun x=>if x.1.length≤sizeLine then (A0 (mk2 idx x.2.sl) fc fe x.1 x.2.fs).map fun y=>(y.1,{ x.2 with fs:=y.2 }) else none
section
variable {X:Cx}{g:Gh}{scope:Scope}{cl:List (Str × Addr)}{N':List Str}{idx:List Nat}{iter elt tg:Expr}{ifs:List Expr}{pos:Pos}{fi:DA}{fc:DT}{fe:DE}
theorem a6M {G:TG}(k:CompOk X scope cl N' 2 idx)
  (hG:∀ (a:Addr) (x y:V) (σ:L2.St) (H:Hp) (Q:L2.St→Hp→Prop),SqT X.K H a [x,y]→Q ((σ.set 0 (some x)).set 1 (some y)) H→G (.ref a) σ H Q):∀ σ H Q,liftF X.K g (L6 idx fi fc fe) σ H Q→a0i 2 idx (liftI X.K g fi) G (fun σ H Q=>∃ g',liftT X.K g' fc σ H Q) (fun σ H Q=>∃ g',liftE X.K g' fe σ H Q) σ H Q:=
 a8B (mk:=mk2 idx) fun N fa sl d sl0 x σ H Q hm rx hc kk=>by
  obtain⟨da,db,rfl,rfl⟩:=b0e hm
  simp only[Rep,Reps] at rx
  obtain⟨ad,xs0,rfl,hsq,u,ys0,rfl,ru,w,ys1,rfl,rw',rfl⟩:=rx
  refine hG ad u w _ _ _ hsq (kk _ ⟨by simp,fun j v hj=>?_⟩ ?_)
  ·cases j with
   |zero=>simp[D5] at hj
   |succ j=>
    cases j with
    |zero=>simp[D5] at hj
    |succ j=>rw[List.getElem?_set_ne (by simp),List.getElem?_set_ne (by simp)];exact hj
  ·have eb:((D5 2 idx σ).set 0 (some u)).set 1 (some w)=some u::some w::idx.map fun i=>(σ[i]?).join:=by simp[D5]
   rw[eb]
   simp only[SlR]
   exact⟨u,_,rfl,ru,w,_,rfl,rw',hc⟩
theorem b0B {G:TG}(hc:X.calm=true) (k:CompOk X scope cl N' 2 idx) (hi:IO X g tg iter fi) (hg:∀ C s0 H0 ex,PG (blk X N' scope cl C s0 H0 ex) tg G)
  (hG:∀ (a:Addr) (x y:V) (σ:L2.St) (H:Hp) (Q:L2.St→Hp→Prop),SqT X.K H a [x,y]→Q ((σ.set 0 (some x)).set 1 (some y)) H→G (.ref a) σ H Q)
  (ht:∀ C s0 H0 ex g',V5 (blk X N' scope cl C s0 H0 ex) g' ifs fc) (he:∀ C s0 H0 ex g',EO (blk X N' scope cl C s0 H0 ex) g' elt fe) (hs:∀ x,foldedSetIterable iter X.env x=pure x:=by intro _;rfl) :
  FO X g (.ListComp elt [⟨tg,iter,ifs,0⟩] scope pos) (L6 idx fi fc fe):=by
 exact FO.w (a6F (tc:=fun σ H Q=>∃ g',liftT X.K g' fc σ H Q) (te:=fun σ H Q=>∃ g',liftE X.K g' fe σ H Q) hc k hi.pe hg (fun C s0 H0 ex pins s σ H Q I ⟨g',h⟩=>ht C s0 H0 ex g' pins s σ H Q I h) (fun C s0 H0 ex pins s σ H Q I ⟨g',h⟩=>(he C s0 H0 ex g').pe pins s σ H Q I h) hs) (a6M k hG)
theorem Z3 {X:Cx}{scope:Scope}{cl:List (Str × Addr)}{x y:Str}{caps:List Str}{idx:List Nat}(clos:closureFor scope X.env=pure cl) (sub:SubL X.env.cells cl) (cell:∀ y∈scope.names,y.2 ≠ .cell) (kind:scope.kind = .function)
  (names:∀ y∈scope.names,y.2 = .local→scope.names.lookup y.1=some .local) (has:hasAll (relabel scope X.env).names cl=true) (cap:CapL X scope idx caps):CompOk X scope cl (x::y::caps) 2 idx:=
 ⟨clos,fun y c e=>sub.mem y c (a1s e),cell,kind,names,a6J has,by rw[List.length_cons,List.length_cons,cap.len];omega,fun j i y e1 e2=>cap.at j i y e1 (by
  rw[show 2+j=j+1+1 by omega] at e2;simpa using e2)⟩
end
def RwIt (h:Heap) (i l:Addr) (xs:Array Value) (k:Nat):Prop:=(h.IsListIter i l k∧h.IsList l xs)∨(h.IsTupleIter i l k∧h.IsTuple l xs)
section
variable {h h':Heap}{i l:Addr}{xs:Array Value}{k:Nat}
theorem RwIt.at (x:RwIt h i l xs k) (ei:∀ o,h.get? i=some o→h'.get? i=some o) (el:∀ o,h.get? l=some o→h'.get? l=some o):RwIt h' i l xs k:=by
 rcases x with ⟨⟨o,q,r⟩,⟨p,u,v⟩⟩ | ⟨⟨o,q,r⟩,⟨p,u,v⟩⟩
 ·exact .inl ⟨⟨o,ei o q,r⟩,⟨p,el p u,v⟩⟩
 ·exact .inr ⟨⟨o,ei o q,r⟩,⟨p,el p u,v⟩⟩
theorem RwIt.lt (x:RwIt h i l xs k):i<h.objs.size:=by
 rcases x with ⟨⟨o,q,r⟩,_⟩ | ⟨⟨o,q,r⟩,_⟩ <;> exact Heap.lt_size q
end
section
variable {prog:Program}{w:World}{A:Around}{E:Value→Shared→Prop}{s:Shared}
theorem b4r {it t:Addr}{i:Nat}{items:Array Value}{x:Value}{Q:Value→Shared→Prop}(hit:s.heap.IsTupleIter it t i) (ht:s.heap.IsTuple t items) (hx:items[i]? = some x)
  (hQ:∀ h',h'.IsTupleIter it t (i+1)→Heap.SameBut it s.heap h'→Q x { s with heap:=h' }):wpAny (model prog w) A (Builtin.SmallTypes.nextOf (.ref it)) Q E s:=by
 obtain⟨o,ho,hc,hd⟩:=id hit
 obtain⟨ol,hol,_,nl,hdl⟩:=ht
 unfold Builtin.SmallTypes.nextOf
 refine wpAny_bind (wpAny_callSpecial?_slot (name:=Str.ofString "__next__") hit.typeIs PySem.F.slot_tuple_iterator_next (wpAny_call_entry PySem.F.slot_tuple_iterator_next hit.typeIs PySem.F.entry_tuple_iterator_next ?_ (PySem.F.args_tuple_iterator_next_1 _)))
 show wpAny _ _ (field (.ref it) 0 >>= _) _ _ s
 refine wpAny_bind (wpAny_field ho hd (x:=.ref t) rfl ?_)
 show wpAny _ _ (if (Value.ref t == Value.none)=true then _ else _) _ _ s
 rw[if_neg (show ¬ ((Value.ref t == Value.none)=true) from Bool.false_ne_true)]
 show wpAny _ _ (field (.ref it) 1 >>= _) _ _ s
 refine wpAny_bind (wpAny_field ho hd (x:=.int i 0) rfl ?_)
 show wpAny _ _ (seqItems? (.ref t) >>= _) _ _ s
 refine wpAny_bind (wpAny_seqItems hol hdl ?_)
 simp only[Int.toNat_natCast,hx]
 refine wpAny_bind (wpAny_setField ho hd (by simp) (wpAny_pure ⟨x,rfl,wpAny_pure (hQ _ ?_ (Heap.SameBut.update ..))⟩))
 exact⟨_,Heap.get?_update_self _ ho (Obj.isFreed_of_fields (Obj.data_mapFields hd _)),(Obj.cls_mapFields ..).trans hc,by rw[Obj.data_mapFields hd];simp[rawInt]⟩
theorem b4s {it t:Addr}{i:Nat}{items:Array Value}{Q:Value→Shared→Prop}(hh:A.handled=none) (hit:s.heap.IsTupleIter it t i) (ht:s.heap.IsTuple t items) (hx:items[i]? = none)
  (hE:∀ h' e,Heap.ExtBut it s.heap h'→(∃ o,h'.get? e=some o∧o.cls = .type "StopIteration")→E (.ref e) { s with heap:=h' }):wpAny (model prog w) A (Builtin.SmallTypes.nextOf (.ref it)) Q E s:=by
 obtain⟨o,ho,hc,hd⟩:=id hit
 obtain⟨ol,hol,_,nl,hdl⟩:=ht
 unfold Builtin.SmallTypes.nextOf
 refine wpAny_bind (wpAny_callSpecial?_slot (name:=Str.ofString "__next__") hit.typeIs PySem.F.slot_tuple_iterator_next (wpAny_call_entry PySem.F.slot_tuple_iterator_next hit.typeIs PySem.F.entry_tuple_iterator_next ?_ (PySem.F.args_tuple_iterator_next_1 _)))
 show wpAny _ _ (field (.ref it) 0 >>= _) _ _ s
 refine wpAny_bind (wpAny_field ho hd (x:=.ref t) rfl ?_)
 show wpAny _ _ (if (Value.ref t == Value.none)=true then _ else _) _ _ s
 rw[if_neg (show ¬ ((Value.ref t == Value.none)=true) from Bool.false_ne_true)]
 show wpAny _ _ (field (.ref it) 1 >>= _) _ _ s
 refine wpAny_bind (wpAny_field ho hd (x:=.int i 0) rfl ?_)
 show wpAny _ _ (seqItems? (.ref t) >>= _) _ _ s
 refine wpAny_bind (wpAny_seqItems hol hdl ?_)
 simp only[Int.toNat_natCast,hx]
 refine wpAny_bind (wpAny_rule (wpAny_bind (wpAny_setField ho hd (by simp) ?_)))
 show wpAny _ _ (newExc (.type "StopIteration") [] >>= _) _ _ _
 refine wpAny_bind ?_
 simp only[newExc,newTuple]
 refine wpAny_bind (wpAny_newObj_type ?_ (by size_fits))
 refine wpAny_bind (m:=firstArgMember _ _) (wpAny_of_eq (a:=Value.none) (by first | rfl | (simp only[firstArgMember];rfl)) ?_)
 refine wpAny_newObj_type ?_ (by size_fits)
 simp only[raiseNew]
 refine wpAny_bind (wpAny_handled ?_)
 first | rw[show A.in1.handled=none from hh] | rw[hh]
 refine wpAny_bind (wpAny_pure (wpAny_throw ?_))
 exact hE _ _ (((Heap.SameBut.update ..).extBut.push _).push _) ⟨_,Heap.get?_push_size _ rfl,rfl⟩
theorem Y5 {it l:Addr}{i:Nat}{xs:Array Value}{x:Value}{Q:Value→Shared→Prop}(r:RwIt s.heap it l xs i) (hl:l≠it) (hx:xs[i]? = some x)
  (hQ:∀ h',RwIt h' it l xs (i+1)→Heap.SameBut it s.heap h'→Q x { s with heap:=h' }):wpAny (model prog w) A (Builtin.SmallTypes.nextOf (.ref it)) Q E s:=by
 rcases r with ⟨a,b⟩ | ⟨a,b⟩
 ·exact wpAny_nextOf_list_item a b hx fun h' a' hs=>hQ h' (.inl ⟨a',b.extBut hs.extBut hl⟩) hs
 ·exact b4r a b hx fun h' a' hs=>hQ h' (.inr ⟨a',b.extBut hs.extBut hl⟩) hs
theorem a1n {it l:Addr}{i:Nat}{xs:Array Value}{Q:Value→Shared→Prop}(hh:A.handled=none) (r:RwIt s.heap it l xs i) (hx:xs[i]? = none)
  (hE:∀ h' e,Heap.ExtBut it s.heap h'→(∃ o,h'.get? e=some o∧o.cls = .type "StopIteration")→E (.ref e) { s with heap:=h' }):wpAny (model prog w) A (Builtin.SmallTypes.nextOf (.ref it)) Q E s:=by
 rcases r with ⟨a,b⟩ | ⟨a,b⟩
 ·exact wpAny_nextOf_list_end hh a b hx hE
 ·exact b4s hh a b hx hE
abbrev C8 (h:Heap) (z TI TO:Addr) (f0 f1:Value):Prop:=h.get? z=some { cls:=.type "zip",dict:=none,data:=.fields #[f0,f1,.bool false,.ref TI,.ref TO],slots:=#[] }
variable {z TI TO i1 i2 l1 l2:Addr}{xs ys:Array Value}{k:Nat}
theorem a8z {x y a b:Value}{Q:Value→Shared→Prop}(D:ZipApart z TI TO i1 i2 l1 l2)
  (hz:C8 s.heap z TI TO .none (.bool false)) (hTI:IsPair s.heap TI (.ref i1) (.ref i2)) (hTO:IsPair s.heap TO a b) (h1:RwIt s.heap i1 l1 xs k) (h2:RwIt s.heap i2 l2 ys k) (hx:xs[k]? = some x) (hy:ys[k]? = some y)
  (hQ:∀ h',C8 h' z TI TO (rawInt s.heap.objs.size) (.bool false)→RwIt h' i1 l1 xs (k+1)→RwIt h' i2 l2 ys (k+1)→IsPair h' s.heap.objs.size x y →
   (∀ c o,c≠z→c≠TO→c≠i1→c≠i2→s.heap.get? c=some o→h'.get? c=some o)→IsPair h' TO x y→Q (.ref s.heap.objs.size) { s with heap:=h' }) :
  wpAny (model prog w) A (Builtin.«zip.__next__» ⟨[.ref z],[]⟩) (fun fin s'=>∃ v,fin = .done (.ret v)∧Q v s') E s:=by
 show wpAny _ _ (field (.ref z) 2 >>= _) _ _ _
 refine wpAny_bind (wpAny_field hz rfl (x:=.bool false) rfl ?_)
 show wpAny _ _ (field (.ref z) 3 >>= _) _ _ _
 refine wpAny_bind (wpAny_field hz rfl (x:=.ref TI) rfl ?_)
 refine wpAny_bind (wpAny_seqItems hTI rfl ?_)
 show wpAny _ _ (Builtin.SmallTypes.ownedTupleIsFree (.ref z) >>= _) _ _ _
 refine wpAny_bind ?_
 unfold Builtin.SmallTypes.ownedTupleIsFree
 refine wpAny_bind (wpAny_field hz rfl (x:=.none) rfl (wpAny_pure ?_))
 simp only[if_true]
 refine wpAny_bind (wpAny_rule ?_)
 refine wpAny_bind (wpAny_field hz rfl (x:=.ref TO) rfl ?_)
 refine wpAny_bind (wpAny_setField_rec hz (by simp) fun g1 z1 k1=>?_)
 replace z1:C8 g1 z TI TO .ellipsis (.bool false):=z1
 refine wpAny_bind ?_
 simp only[List.zipIdx_cons,List.zipIdx_nil,List.forIn_cons,List.forIn_nil]
 refine wpAny_bind (wpAny_bind (wpAny_onRaise ?_))
 show wpAny _ _ (Builtin.SmallTypes.nextOf (.ref i1) >>= _) _ _ _
 refine wpAny_bind (Y5 (h1.at (fun o e=>k1.extBut _ o D.i1z e) fun o e=>k1.extBut _ o D.l1z e) D.l1i1 hx fun g2 r2 k2=>wpAny_pure ?_)
 have o2:IsPair g2 TO a b:=k2.extBut _ _ D.TOi1 (k1.extBut _ _ D.TOz hTO)
 refine wpAny_bind (wpAny_seqItems o2 rfl ?_)
 refine wpAny_bind (wpAny_updateSeq_pair o2 fun g3 o3 k3=>?_)
 replace o3:IsPair g3 TO x b:=o3
 refine wpAny_bind (wpAny_letGo (wpAny_pure ?_))
 refine wpAny_bind (wpAny_bind (wpAny_onRaise ?_))
 show wpAny _ _ (Builtin.SmallTypes.nextOf (.ref i2) >>= _) _ _ _
 refine wpAny_bind (Y5 (h2.at (fun o e=>k3.extBut _ o D.TOi2.symm (k2.extBut _ o D.i12.symm (k1.extBut _ o D.i2z e))) fun o e=>k3.extBut _ o D.l2TO (k2.extBut _ o D.l2i1 (k1.extBut _ o D.l2z e))) D.l2i2 hy fun g4 r4 k4=>wpAny_pure ?_)
 have o4:IsPair g4 TO x b:=k4.extBut _ _ D.TOi2 o3
 refine wpAny_bind (wpAny_seqItems o4 rfl ?_)
 refine wpAny_bind (wpAny_updateSeq_pair o4 fun g5 o5 k5=>?_)
 replace o5:IsPair g5 TO x y:=o5
 refine wpAny_bind (wpAny_letGo (wpAny_pure (wpAny_pure ?_)))
 refine wpAny_bind (wpAny_seqItems o5 rfl ?_)
 refine wpAny_bind (wpAny_newTuple ?_)
 have sz:g5.objs.size=s.heap.objs.size:=by rw[k5.1,k4.1,k3.1,k2.1,k1.1]
 have z5:C8 g5 z TI TO .ellipsis (.bool false):=k5.extBut _ _ D.TOz.symm (k4.extBut _ _ D.i2z.symm (k3.extBut _ _ D.TOz.symm (k2.extBut _ _ D.i1z.symm z1)))
 have q5:∀ c o,c≠z→c≠TO→c≠i1→c≠i2→s.heap.get? c=some o→g5.get? c=some o:=fun c o c1 c2 c3 c4 e=>
  k5.extBut _ _ c2 (k4.extBut _ _ c4 (k3.extBut _ _ c2 (k2.extBut _ _ c3 (k1.extBut _ _ c1 e))))
 have p1:RwIt g5 i1 l1 xs (k+1):=r2.at (fun o e=>k5.extBut _ o D.TOi1.symm (k4.extBut _ o D.i12 (k3.extBut _ o D.TOi1.symm e))) fun o e=>k5.extBut _ o D.l1TO (k4.extBut _ o D.l1i2 (k3.extBut _ o D.l1TO e))
 have p2:RwIt g5 i2 l2 ys (k+1):=r4.at (fun o e=>k5.extBut _ o D.TOi2.symm e) fun o e=>k5.extBut _ o D.l2TO e
 have zl:z<g5.objs.size:=Heap.lt_size z5
 show wpAny _ _ (Builtin.SmallTypes.ownedTupleHandOut (.ref z) (.ref g5.objs.size) >>= _) _ _ _
 refine wpAny_bind ?_
 unfold Builtin.SmallTypes.ownedTupleHandOut
 have z6:C8 (g5.push { cls:=.type "tuple",data:=.seq #[x,y] }) z TI TO .ellipsis (.bool false):=Heap.get?_push_of_some _ z5
 refine wpAny_bind (wpAny_setField_rec z6 (by simp) fun g7 z7 k7=>?_)
 replace z7:C8 g7 z TI TO (rawInt g5.objs.size) (.bool false):=z7
 refine wpAny_setField_rec z7 (by simp) fun g8 z8 k8=>?_
 replace z8:C8 g8 z TI TO (rawInt g5.objs.size) (.bool false):=z8
 have up:∀ c o,c≠z→g5.get? c=some o→g8.get? c=some o:=fun c o c1 e=>k8.extBut _ _ c1 (k7.extBut _ _ c1 (Heap.get?_push_of_some _ e))
 have t8:IsPair g8 g5.objs.size x y:=k8.extBut _ _ (Nat.ne_of_gt zl) (k7.extBut _ _ (Nat.ne_of_gt zl) (Heap.get?_push_size _ rfl))
 rw[sz] at z8 t8
 refine wpAny_pure ⟨_,rfl,?_⟩
 show Q (.ref g5.objs.size) _
 rw[sz]
 exact hQ g8 z8 (p1.at (fun o e=>up _ o D.i1z e) fun o e=>up _ o D.l1z e) (p2.at (fun o e=>up _ o D.i2z e) fun o e=>up _ o D.l2z e) t8 (fun c o c1 c2 c3 c4 e=>up c o c1 (q5 c o c1 c2 c3 c4 e)) (up _ _ D.TOz o5)
theorem a6R {a b:Value}{Q:Fin→Shared→Prop}(hh:A.handled=none) (D:ZipApart z TI TO i1 i2 l1 l2)
  (hz:C8 s.heap z TI TO .none (.bool false)) (hTI:IsPair s.heap TI (.ref i1) (.ref i2)) (hTO:IsPair s.heap TO a b) (h1:RwIt s.heap i1 l1 xs k) (h2:RwIt s.heap i2 l2 ys k) (hend:xs[k]? = none∨ys[k]? = none)
  (hE:∀ h' e,(∀ c o,c≠z→c≠TO→c≠i1→c≠i2→s.heap.get? c=some o→h'.get? c=some o)→(∃ o,h'.get? e=some o∧o.cls = .type "StopIteration")→E (.ref e) { s with heap:=h' }) :
  wpAny (model prog w) A (Builtin.«zip.__next__» ⟨[.ref z],[]⟩) Q E s:=by
 show wpAny _ _ (field (.ref z) 2 >>= _) _ _ _
 refine wpAny_bind (wpAny_field hz rfl (x:=.bool false) rfl ?_)
 show wpAny _ _ (field (.ref z) 3 >>= _) _ _ _
 refine wpAny_bind (wpAny_field hz rfl (x:=.ref TI) rfl ?_)
 refine wpAny_bind (wpAny_seqItems hTI rfl ?_)
 show wpAny _ _ (Builtin.SmallTypes.ownedTupleIsFree (.ref z) >>= _) _ _ _
 refine wpAny_bind ?_
 unfold Builtin.SmallTypes.ownedTupleIsFree
 refine wpAny_bind (wpAny_field hz rfl (x:=.none) rfl (wpAny_pure ?_))
 simp only[if_true]
 refine wpAny_bind (wpAny_rule ?_)
 refine wpAny_bind (wpAny_field hz rfl (x:=.ref TO) rfl ?_)
 refine wpAny_bind (wpAny_setField_rec hz (by simp) fun g1 z1 k1=>?_)
 replace z1:C8 g1 z TI TO .ellipsis (.bool false):=z1
 refine wpAny_bind ?_
 simp only[List.zipIdx_cons,List.zipIdx_nil,List.forIn_cons,List.forIn_nil]
 refine wpAny_bind (wpAny_bind (wpAny_onRaise ?_))
 show wpAny _ _ (Builtin.SmallTypes.nextOf (.ref i1) >>= _) _ _ _
 cases hx:xs[k]? with
 |none=>
  refine wpAny_bind (a1n hh (h1.at (fun o e=>k1.extBut _ o D.i1z e) fun o e=>k1.extBut _ o D.l1z e) hx fun g2 e k2 he=>?_)
  obtain⟨oe,hoe,hce⟩:=he
  have z2:C8 g2 z TI TO .ellipsis (.bool false):=k2 _ _ D.i1z.symm z1
  have hez:e≠z:=fun x=>by subst x;rw[z2] at hoe;cases hoe;simp at hce
  exact wpAny_setField_rec z2 (by simp) fun g3 _ k3=>hE g3 e (fun c o c1 _ c3 _ x=>k3.extBut _ _ c1 (k2 _ _ c3 (k1.extBut _ _ c1 x))) ⟨oe,k3.extBut _ _ hez hoe,hce⟩
 |some x=>
  have hy:ys[k]? = none:=by
   rcases hend with h | h
   ·rw[hx] at h;cases h
   ·exact h
  refine wpAny_bind (Y5 (h1.at (fun o e=>k1.extBut _ o D.i1z e) fun o e=>k1.extBut _ o D.l1z e) D.l1i1 hx fun g2 r2 k2=>wpAny_pure ?_)
  have o2:IsPair g2 TO a b:=k2.extBut _ _ D.TOi1 (k1.extBut _ _ D.TOz hTO)
  refine wpAny_bind (wpAny_seqItems o2 rfl ?_)
  refine wpAny_bind (wpAny_updateSeq_pair o2 fun g3 o3 k3=>?_)
  refine wpAny_bind (wpAny_letGo (wpAny_pure ?_))
  refine wpAny_bind (wpAny_bind (wpAny_onRaise ?_))
  show wpAny _ _ (Builtin.SmallTypes.nextOf (.ref i2) >>= _) _ _ _
  refine wpAny_bind (a1n hh (h2.at (fun o e=>k3.extBut _ o D.TOi2.symm (k2.extBut _ o D.i12.symm (k1.extBut _ o D.i2z e))) fun o e=>k3.extBut _ o D.l2TO (k2.extBut _ o D.l2i1 (k1.extBut _ o D.l2z e))) hy fun g4 e k4 he=>?_)
  obtain⟨oe,hoe,hce⟩:=he
  have z4:C8 g4 z TI TO .ellipsis (.bool false):=k4 _ _ D.i2z.symm (k3.extBut _ _ D.TOz.symm (k2.extBut _ _ D.i1z.symm z1))
  have hez:e≠z:=fun x=>by subst x;rw[z4] at hoe;cases hoe;simp at hce
  exact wpAny_setField_rec z4 (by simp) fun g5 _ k5=>hE g5 e (fun c o c1 c2 c3 c4 x=>k5.extBut _ _ c1 (k4 _ _ c4 (k3.extBut _ _ c2 (k2.extBut _ _ c3 (k1.extBut _ _ c1 x))))) ⟨oe,k5.extBut _ _ hez hoe,hce⟩
end
section
variable {prog:Program}{w:World}{A:Around}{E:Value→Shared→Prop}{s:Shared}
variable {z TI TO i1 i2 l1 l2:Addr}{xs ys:Array Value}{k:Nat}
theorem a9c {a:Addr}{o:Obj}{Q:Option Obj→Shared→Prop}(ho:s.heap.get? a=some o) (h:Q (some o) s):wpAny (model prog w) A (loadIfAlive a) Q E s:=by
 have h':Q (s.heap.get? a) s:=by rw[ho];exact h
 exact fun _ _ _=>h'
theorem a57 {T:Addr}{f:Bool}{oT:Obj}{Q:Bool→Shared→Prop}(hz:C8 s.heap z TI TO (rawInt T) (.bool f)) (hT:s.heap.get? T=some oT)
  (hQ:∀ h',C8 h' z TI TO (rawInt T) (.bool true)→Heap.SameBut z s.heap h'→Q false { s with heap:=h' }):wpAny (model prog w) A (Builtin.SmallTypes.ownedTupleIsFree (.ref z)) Q E s:=by
 unfold Builtin.SmallTypes.ownedTupleIsFree
 refine wpAny_bind (wpAny_field hz rfl (x:=rawInt T) rfl ?_)
 show wpAny _ _ (loadIfAlive ((T:Int).toNat) >>= _) _ _ _
 rw[Int.toNat_natCast]
 refine wpAny_bind (a9c hT ?_)
 simp only[Option.isNone_some,Bool.false_eq_true,if_false]
 refine wpAny_bind (wpAny_field hz rfl (x:=.bool f) rfl ?_)
 cases f with
 |true=>
  rw[if_neg (show ¬ ((Value.bool true != Value.bool true)=true) from Bool.false_ne_true)]
  exact wpAny_pure (hQ s.heap hz (Heap.SameBut.refl _ _))
 |false=>
  rw[if_pos (show (Value.bool false != Value.bool true)=true from rfl)]
  exact wpAny_bind (wpAny_setField_rec hz (by simp) fun g gz gk=>wpAny_pure (hQ g gz gk))
theorem b0m {x y:Value}{T:Addr}{f:Bool}{oT:Obj}{Q:Value→Shared→Prop}(D:ZipApart z TI TO i1 i2 l1 l2)
  (hz:C8 s.heap z TI TO (rawInt T) (.bool f)) (hT:s.heap.get? T=some oT) (hTI:IsPair s.heap TI (.ref i1) (.ref i2)) (h1:RwIt s.heap i1 l1 xs k) (h2:RwIt s.heap i2 l2 ys k) (hx:xs[k]? = some x) (hy:ys[k]? = some y)
  (hQ:∀ h',C8 h' z TI TO (rawInt T) (.bool true)→RwIt h' i1 l1 xs (k+1)→RwIt h' i2 l2 ys (k+1)→IsPair h' s.heap.objs.size x y →
   (∀ c o,c≠z→c≠TO→c≠i1→c≠i2→s.heap.get? c=some o→h'.get? c=some o)→Q (.ref s.heap.objs.size) { s with heap:=h' }) :
  wpAny (model prog w) A (Builtin.«zip.__next__» ⟨[.ref z],[]⟩) (fun fin s'=>∃ v,fin = .done (.ret v)∧Q v s') E s:=by
 show wpAny _ _ (field (.ref z) 2 >>= _) _ _ _
 refine wpAny_bind (wpAny_field hz rfl (x:=.bool false) rfl ?_)
 show wpAny _ _ (field (.ref z) 3 >>= _) _ _ _
 refine wpAny_bind (wpAny_field hz rfl (x:=.ref TI) rfl ?_)
 refine wpAny_bind (wpAny_seqItems hTI rfl ?_)
 show wpAny _ _ (Builtin.SmallTypes.ownedTupleIsFree (.ref z) >>= _) _ _ _
 refine wpAny_bind (a57 hz hT fun g1 z1 k1=>?_)
 simp only[Bool.false_eq_true,if_false]
 simp only[List.forIn_toArray,List.forIn_cons,List.forIn_nil]
 refine wpAny_bind (wpAny_bind (wpAny_bind (wpAny_holding ?_)))
 show wpAny _ _ (Builtin.SmallTypes.nextOf (.ref i1) >>= _) _ _ _
 refine wpAny_bind (Y5 (h1.at (fun o e=>k1.extBut _ o D.i1z e) fun o e=>k1.extBut _ o D.l1z e) D.l1i1 hx fun g2 r2 k2=>wpAny_pure ?_)
 refine wpAny_pure ?_
 refine wpAny_bind (wpAny_bind (wpAny_holding ?_))
 show wpAny _ _ (Builtin.SmallTypes.nextOf (.ref i2) >>= _) _ _ _
 refine wpAny_bind (Y5 (h2.at (fun o e=>k2.extBut _ o D.i12.symm (k1.extBut _ o D.i2z e)) fun o e=>k2.extBut _ o D.l2i1 (k1.extBut _ o D.l2z e)) D.l2i2 hy fun g4 r4 k4=>wpAny_pure ?_)
 refine wpAny_pure (wpAny_pure ?_)
 show wpAny _ _ (newTuple [x,y] >>= _) _ _ _
 refine wpAny_bind (wpAny_newTuple (items:=[x,y]) ?_ (show 2≤sizeLine by decide))
 have sz:g4.objs.size=s.heap.objs.size:=by rw[k4.1,k2.1,k1.1]
 have q4:∀ c o,c≠z→c≠i1→c≠i2→s.heap.get? c=some o→g4.get? c=some o:=fun c o c1 c3 c4 e=>k4.extBut _ _ c4 (k2.extBut _ _ c3 (k1.extBut _ _ c1 e))
 refine wpAny_pure ⟨_,rfl,?_⟩
 show Q (.ref g4.objs.size) _
 rw[sz]
 refine hQ _ (Heap.get?_push_of_some _ (k4.extBut _ _ D.i2z.symm (k2.extBut _ _ D.i1z.symm z1)))
  (r2.at (fun o e=>Heap.get?_push_of_some _ (k4.extBut _ o D.i12 e)) fun o e=>Heap.get?_push_of_some _ (k4.extBut _ o D.l1i2 e))
  (r4.at (fun o e=>Heap.get?_push_of_some _ e) fun o e=>Heap.get?_push_of_some _ e) ?_ fun c o c1 c2 c3 c4 e=>Heap.get?_push_of_some _ (q4 c o c1 c3 c4 e)
 rw[←sz]
 exact Heap.get?_push_size _ rfl
theorem a9o {T:Addr}{f:Bool}{oT:Obj}{Q:Fin→Shared→Prop}(hh:A.handled=none) (D:ZipApart z TI TO i1 i2 l1 l2)
  (hz:C8 s.heap z TI TO (rawInt T) (.bool f)) (hT:s.heap.get? T=some oT) (hTI:IsPair s.heap TI (.ref i1) (.ref i2)) (h1:RwIt s.heap i1 l1 xs k) (h2:RwIt s.heap i2 l2 ys k) (hend:xs[k]? = none∨ys[k]? = none)
  (hE:∀ h' e,(∀ c o,c≠z→c≠TO→c≠i1→c≠i2→s.heap.get? c=some o→h'.get? c=some o)→(∃ o,h'.get? e=some o∧o.cls = .type "StopIteration")→E (.ref e) { s with heap:=h' }) :
  wpAny (model prog w) A (Builtin.«zip.__next__» ⟨[.ref z],[]⟩) Q E s:=by
 show wpAny _ _ (field (.ref z) 2 >>= _) _ _ _
 refine wpAny_bind (wpAny_field hz rfl (x:=.bool false) rfl ?_)
 show wpAny _ _ (field (.ref z) 3 >>= _) _ _ _
 refine wpAny_bind (wpAny_field hz rfl (x:=.ref TI) rfl ?_)
 refine wpAny_bind (wpAny_seqItems hTI rfl ?_)
 show wpAny _ _ (Builtin.SmallTypes.ownedTupleIsFree (.ref z) >>= _) _ _ _
 refine wpAny_bind (a57 hz hT fun g1 z1 k1=>?_)
 simp only[Bool.false_eq_true,if_false]
 simp only[List.forIn_toArray,List.forIn_cons,List.forIn_nil]
 refine wpAny_bind (wpAny_bind (wpAny_bind (wpAny_holding ?_)))
 show wpAny _ _ (Builtin.SmallTypes.nextOf (.ref i1) >>= _) _ _ _
 cases hx:xs[k]? with
 |none=>
  refine wpAny_bind (a1n hh (h1.at (fun o e=>k1.extBut _ o D.i1z e) fun o e=>k1.extBut _ o D.l1z e) hx fun g2 e k2 he=>?_)
  exact hE g2 e (fun c o c1 _ c3 _ x=>k2 _ _ c3 (k1.extBut _ _ c1 x)) he
 |some x=>
  have hy:ys[k]? = none:=by
   rcases hend with h | h
   ·rw[hx] at h;cases h
   ·exact h
  refine wpAny_bind (Y5 (h1.at (fun o e=>k1.extBut _ o D.i1z e) fun o e=>k1.extBut _ o D.l1z e) D.l1i1 hx fun g2 r2 k2=>wpAny_pure ?_)
  refine wpAny_pure ?_
  refine wpAny_bind (wpAny_bind (wpAny_holding ?_))
  show wpAny _ _ (Builtin.SmallTypes.nextOf (.ref i2) >>= _) _ _ _
  refine wpAny_bind (a1n hh (h2.at (fun o e=>k2.extBut _ o D.i12.symm (k1.extBut _ o D.i2z e)) fun o e=>k2.extBut _ o D.l2i1 (k1.extBut _ o D.l2z e)) hy fun g4 e k4 he=>?_)
  exact hE g4 e (fun c o c1 c2 c3 c4 x=>k4 _ _ c4 (k2.extBut _ _ c3 (k1.extBut _ _ c1 x))) he
structure ZSt (h:Heap) (z TI TO i1 i2 l1 l2 S:Addr) (xs ys:Array Value) (k:Nat):Prop where
 ti:IsPair h TI (.ref i1) (.ref i2)
 r1:RwIt h i1 l1 xs k
 r2:RwIt h i2 l2 ys k
 zz:(C8 h z TI TO .none (.bool false)∧∃ a b,IsPair h TO a b)∨∃ (T:Addr) (f:Bool) (oT:Obj),C8 h z TI TO (rawInt T) (.bool f)∧h.get? T=some oT∧T≠z∧T≠TO∧T≠i1∧T≠i2∧T≠S
theorem b0y {S:Addr}{x y:Value}{Q:Option Value→Shared→Prop}(D:ZipApart z TI TO i1 i2 l1 l2) (st:ZSt s.heap z TI TO i1 i2 l1 l2 S xs ys k) (hS:S<s.heap.objs.size) (hTO:TO<s.heap.objs.size) (hx:xs[k]? = some x) (hy:ys[k]? = some y)
  (hQ:∀ h',ZSt h' z TI TO i1 i2 l1 l2 S xs ys (k+1)→IsPair h' s.heap.objs.size x y→(∀ c o,c ∉ [z,TO,i1,i2]→s.heap.get? c=some o→h'.get? c=some o)→Q (some (.ref s.heap.objs.size)) { s with heap:=h' }) :
  wpAny (model prog w) A (pyNext (.ref z)) Q E s:=by
 obtain⟨ti,r1,r2,zz⟩:=st
 have K:∀ {h':Heap},(∀ c o,c≠z→c≠TO→c≠i1→c≠i2→s.heap.get? c=some o→h'.get? c=some o)→∀ c o,c ∉ [z,TO,i1,i2]→s.heap.get? c=some o→h'.get? c=some o:=fun k c o hc e=>by
  simp only[List.mem_cons,List.not_mem_nil,or_false,not_or] at hc
  exact k c o hc.1 hc.2.1 hc.2.2.1 hc.2.2.2 e
 unfold pyNext
 rcases zz with ⟨hz,a,b,ho⟩ | ⟨T,f,oT,hz,hT,t1,t2,t3,t4,t5⟩
 ·have tz:s.TypeIs (.ref z) "zip" := ⟨_,hz,rfl⟩
  exact wpAny_bind (wpAny_attempt (wpAny_callSpecial?_slot (name:=Str.ofString "__next__") tz PySem.F.slot_zip_next (wpAny_call_entry PySem.F.slot_zip_next tz PySem.F.entry_zip_next
   (a8z D hz ti ho r1 r2 hx hy fun h' a1 a2 a3 a4 a5 _=>wpAny_pure (hQ h' ⟨a5 _ _ D.TIz D.TITO D.TIi1 D.TIi2 ti,a2,a3,.inr ⟨_,_,_,a1,a4,Nat.ne_of_gt (Heap.lt_size hz),Nat.ne_of_gt hTO,Nat.ne_of_gt r1.lt,Nat.ne_of_gt r2.lt,Nat.ne_of_gt hS⟩⟩ a4 (K a5))) (PySem.F.args_zip_next_1 _))))
 ·have tz:s.TypeIs (.ref z) "zip" := ⟨_,hz,rfl⟩
  exact wpAny_bind (wpAny_attempt (wpAny_callSpecial?_slot (name:=Str.ofString "__next__") tz PySem.F.slot_zip_next (wpAny_call_entry PySem.F.slot_zip_next tz PySem.F.entry_zip_next
   (b0m D hz hT ti r1 r2 hx hy fun h' a1 a2 a3 a4 a5=>wpAny_pure (hQ h' ⟨a5 _ _ D.TIz D.TITO D.TIi1 D.TIi2 ti,a2,a3,.inr ⟨T,true,oT,a1,a5 _ _ t1 t2 t3 t4 hT,t1,t2,t3,t4,t5⟩⟩ a4 (K a5))) (PySem.F.args_zip_next_1 _))))
theorem b0f {S:Addr}{Q:Option Value→Shared→Prop}(hh:A.handled=none) (D:ZipApart z TI TO i1 i2 l1 l2) (st:ZSt s.heap z TI TO i1 i2 l1 l2 S xs ys k) (hend:xs[k]? = none∨ys[k]? = none)
  (hQ:∀ h',(∀ c o,c ∉ [z,TO,i1,i2]→s.heap.get? c=some o→h'.get? c=some o)→Q none { s with heap:=h' }):wpAny (model prog w) A (pyNext (.ref z)) Q E s:=by
 obtain⟨ti,r1,r2,zz⟩:=st
 have K:∀ {h':Heap},(∀ c o,c≠z→c≠TO→c≠i1→c≠i2→s.heap.get? c=some o→h'.get? c=some o)→∀ c o,c ∉ [z,TO,i1,i2]→s.heap.get? c=some o→h'.get? c=some o:=fun k c o hc e=>by
  simp only[List.mem_cons,List.not_mem_nil,or_false,not_or] at hc
  exact k c o hc.1 hc.2.1 hc.2.2.1 hc.2.2.2 e
 unfold pyNext
 rcases zz with ⟨hz,a,b,ho⟩ | ⟨T,f,oT,hz,hT,t1,t2,t3,t4,t5⟩
 ·have tz:s.TypeIs (.ref z) "zip" := ⟨_,hz,rfl⟩
  refine wpAny_bind (wpAny_attempt (wpAny_callSpecial?_slot (name:=Str.ofString "__next__") tz PySem.F.slot_zip_next (wpAny_call_entry PySem.F.slot_zip_next tz PySem.F.entry_zip_next (a6R hh D hz ti ho r1 r2 hend fun h' e hk he=>?_) (PySem.F.args_zip_next_1 _))))
  obtain⟨o,ho,hc⟩:=he
  refine wpAny_bind (wpAny_isInstance (T := "StopIteration") (b:=true) ⟨o,ho,hc⟩ isSubtype_stop ?_)
  exact wpAny_pure (hQ _ (K hk))
 ·have tz:s.TypeIs (.ref z) "zip" := ⟨_,hz,rfl⟩
  refine wpAny_bind (wpAny_attempt (wpAny_callSpecial?_slot (name:=Str.ofString "__next__") tz PySem.F.slot_zip_next (wpAny_call_entry PySem.F.slot_zip_next tz PySem.F.entry_zip_next (a9o hh D hz hT ti r1 r2 hend fun h' e hk he=>?_) (PySem.F.args_zip_next_1 _))))
  obtain⟨o,ho,hc⟩:=he
  refine wpAny_bind (wpAny_isInstance (T := "StopIteration") (b:=true) ⟨o,ho,hc⟩ isSubtype_stop ?_)
  exact wpAny_pure (hQ _ (K hk))
end
structure LW (prog:Program) (w:World) (A:Around) (I S:Addr) (wr:List Addr) (n:Nat) (P:Nat→Value→Heap→Prop) (St:Nat→Heap→Prop):Prop where
 item:∀ (i:Nat) (s:Shared) (Q:Option Value→Shared→Prop) (E:Value→Shared→Prop),i<n→St i s.heap→S<s.heap.objs.size →
  (∀ v h',P i v h'→St (i+1) h'→(∀ j u,P j u s.heap→u≠v)→(∀ b o,b ∉ wr→s.heap.get? b=some o→h'.get? b=some o)→Q (some v) { s with heap:=h' })→wpAny (model prog w) A (pyNext (.ref I)) Q E s
 done:∀ (s:Shared) (Q:Option Value→Shared→Prop) (E:Value→Shared→Prop),St n s.heap→(∀ h',(∀ b o,b ∉ wr→s.heap.get? b=some o→h'.get? b=some o)→Q none { s with heap:=h' })→wpAny (model prog w) A (pyNext (.ref I)) Q E s
 stay:∀ i h h',St i h→(∀ b o,b≠S→h.get? b=some o→h'.get? b=some o)→St i h'
 pay:∀ i v h h',P i v h→(∀ b o,b≠S→b ∉ wr→h.get? b=some o→h'.get? b=some o)→P i v h'
 self:∀ (A:Around) (s:Shared) (Q:Value→Shared→Prop) (E:Value→Shared→Prop),St 0 s.heap→Q (.ref I) s→wpAny (model prog w) A (pyIter (.ref I)) Q E s
 out:S ∉ wr
section
variable {prog:Program}{w:World}{A:Around}{I S:Addr}{wr:List Addr}{n:Nat}{P:Nat→Value→Heap→Prop}{St:Nat→Heap→Prop}{s:Shared}{R:Result→Shared→Prop}
def Got (P:Nat→Value→Heap→Prop) (h:Heap) (acc:Array Value) (i:Nat):Prop:=acc.size=i∧(∀ j v,acc[j]? = some v→P j v h)∧acc.toList.Nodup
abbrev U1 (h:Heap) (S:Addr) (acc:Array Value) (c:Nat):Prop:=h.get? S=some { cls:=.type "list",dict:=none,data:=.seq acc c,slots:=#[] }
theorem b0C (W:LW prog w A.in1 I S wr n P St) (hn:n≤sizeLine) (res:Value) {h₁:Heap}
  (hR:∀ h' acc c,(∀ b o,b≠S→b ∉ wr→h₁.get? b=some o→h'.get? b=some o)→U1 h' S acc c→Got P h' acc n→R (.ok (.ret res)) { s with heap:=h' }) :
  ∀ (k i:Nat) (h:Heap) (c:Nat) (acc:Array Value),n - i=k→i≤n→St i h→(∀ b o,b≠S→b ∉ wr→h₁.get? b=some o→h.get? b=some o)→U1 h S acc c→Got P h acc i →
   codeAny (model prog w) A (.builtin "list.extend.loop" ⟨[.ref S,.ref I,res],[]⟩) R { s with heap:=h }:=by
 intro k
 induction k with
 |zero=>
  intro i h c acc hk hi hst kp hS hG
  have e:i=n:=by omega
  subst e
  refine codeAny_builtin PySem.F.entry_extend_loop ?_
  rw[Around.under_plainId PySem.F.plain_extend_loop _]
  show wpAny _ A.in1 (pyNext (.ref I) >>= _) _ _ _
  refine wpAny_bind (W.done { s with heap:=h } _ _ hst fun h' he=>?_)
  exact wpAny_pure (hR h' acc c (fun b o h1 h2 e=>he b o h2 (kp b o h1 h2 e)) (he S _ W.out hS) ⟨hG.1,fun j v e=>W.pay j v h h' (hG.2.1 j v e) fun b o _ h2 e=>he b o h2 e,hG.2.2⟩)
 |succ k ih=>
  intro i h c acc hk hi hst kp hS hG
  have hlt:i<n:=by omega
  refine codeAny_builtin PySem.F.entry_extend_loop ?_
  rw[Around.under_plainId PySem.F.plain_extend_loop _]
  show wpAny _ A.in1 (pyNext (.ref I) >>= _) _ _ _
  refine wpAny_bind (W.item i { s with heap:=h } _ _ hlt hst (Heap.lt_size hS) fun v h' hP hst' hne he=>?_)
  dsimp only at he hne ⊢
  have hS':U1 h' S acc c:=he S _ W.out hS
  have up:∀ b o,b≠S→h'.get? b=some o→(h'.update S (Obj.mapSeq (·.push v))).get? b=some o:=fun b o hb e=>(Heap.get?_update_other _ _ (Ne.symm hb)).trans e
  show wpAny _ A.in1 (updateSeq S (·.push v) >>= _) _ _ _
  refine wpAny_bind ?_
  have hsz:=hG.1
  refine wpAny_updateSeq hS' rfl (wpAny_pure ⟨plainId_quiet PySem.F.plain_extend_loop _,ih (i+1) _ _ (acc.push v) (by omega) hlt (W.stay _ h' _ hst' up)
   (fun b o h1 h2 e=>up b o h1 (he b o h2 (kp b o h1 h2 e))) (Heap.get?_update_self _ hS' rfl) ⟨by rw[Array.size_push,hsz],fun j x hj=>?_,?_⟩⟩) (by rw[hsz];omega) (by show (acc.push v).size≤sizeLine+1;rw[Array.size_push,hsz];omega)
  ·rw[Array.getElem?_push] at hj
   split at hj
   ·rename_i e
    cases hj
    rw[e,hsz]
    exact W.pay i v h' _ hP fun b o h1 _ e=>up b o h1 e
   ·exact W.pay j x h _ (hG.2.1 j x hj) fun b o h1 h2 e=>up b o h1 (he b o h2 e)
  ·rw[Array.toList_push]
   refine List.nodup_append.mpr ⟨hG.2.2,by simp,fun a ha b hb=>?_⟩
   have e:b=v:=by simpa using hb
   subst e
   obtain⟨j,hj⟩:=List.mem_iff_getElem?.mp ha
   exact hne j a (hG.2.1 j a (by simpa using hj))
theorem b0I {T:String}(W:LW prog w A.in1 I S wr n P St) (hn:n≤sizeLine) (hT:s.TypeIs (.ref I) T) (hl:(Value.type T == Value.type "list")=false) (ht:(Value.type T == Value.type "tuple")=false)
  (nl:typeLookup (.type T) "__len__" = pure none) (nh:typeLookup (.type T) "__length_hint__" = pure none) (hst:St 0 s.heap) (hSI:S≠I) (res:Value) (c₀:Nat) (hS:U1 s.heap S #[] c₀)
  (hR:∀ h' acc c,(∀ b o,b≠S→b ∉ wr→s.heap.get? b=some o→h'.get? b=some o)→U1 h' S acc c→Got P h' acc n→R (.ok (.ret res)) { s with heap:=h' }) :
  wpAny (model prog w) A.in1 (Builtin.List.listExtendWith (.ref S) (.ref I) res)
   (fun fin s'=>match fin with | .done f=>R (.ok f) s' | .again c'=>c'.quiet=true∧codeAny (model prog w) A c' R s') (fun e s'=>R (.error e) s') s:=by
 have key:∀ (h:Heap) (c₁:Nat),(∀ b o,b≠S→s.heap.get? b=some o→h.get? b=some o)→U1 h S #[] c₁ →
   codeAny (model prog w) A (.builtin "list.extend.loop" ⟨[.ref S,.ref I,res],[]⟩) R { s with heap:=h }:=fun h c₁ hk hS₁=>
  b0C (h₁:=s.heap) W hn res hR n 0 h c₁ #[] (Nat.sub_zero _) (Nat.zero_le _) (W.stay 0 _ h hst hk) (fun b o h1 _ e=>hk b o h1 e) hS₁ ⟨rfl,fun j v e=>by simp at e,by simp⟩
 unfold Builtin.List.listExtendWith
 refine wpAny_bind (wpAny_typeOf hT ?_)
 have h1:Builtin.List.listSameRef (.ref S) (.ref I)=false:=by simp[Builtin.List.listSameRef,hSI]
 simp only[h1,hl,ht,Bool.or_false,Bool.false_eq_true,if_false]
 refine wpAny_bind (W.self _ _ _ _ hst ?_)
 refine wpAny_bind (wpAny_holding ?_)
 unfold Builtin.List.listLengthHint
 refine wpAny_bind (wpAny_specialOf hT nl ?_)
 show wpAny _ A.in1 (specialOf (Value.ref I) (Str.ofString "__length_hint__") >>= _) _ _ _
 refine wpAny_bind (wpAny_specialOf hT nh ?_)
 refine wpAny_pure ?_
 show wpAny _ A.in1 (rule "list.extend.makes-room" >>= fun _=>Builtin.List.listTouch (.ref S) >>= fun _=>
  again (.builtin "list.extend.loop" ⟨[.ref S,.ref I,res],[]⟩)) _ _ _
 refine wpAny_bind (wpAny_rule ?_)
 refine wpAny_bind ?_
 show wpAny _ A.in1 (updateSeq S (·.push .none) >>= fun _=>updateSeq S (·.pop)) _ _ _
 refine wpAny_bind (wpAny_updateSeq hS rfl ?_)
 have hS₂:=Heap.get?_update_self (Obj.mapSeq (·.push Value.none)) hS rfl
 refine wpAny_updateSeq (hz:=by seq_fits) hS₂ rfl ?_
 have hS₃:=Heap.get?_update_self (Obj.mapSeq (·.pop)) hS₂ rfl
 refine wpAny_pure ⟨plainId_quiet PySem.F.plain_extend_loop _,key _ _ (fun b o hb e=>?_) hS₃⟩
 exact(Heap.get?_update_other _ _ (Ne.symm hb)).trans ((Heap.get?_update_other _ _ (Ne.symm hb)).trans e)
theorem b5y {T:String}{E:Value→Shared→Prop}{Q:Value→Shared→Prop}(W:LW prog w A.in1.in1 I s.heap.objs.size wr n P St) (hn:n≤sizeLine) (hT:s.TypeIs (.ref I) T) (hl:(Value.type T == Value.type "list")=false) (ht:(Value.type T == Value.type "tuple")=false)
  (nl:typeLookup (.type T) "__len__" = pure none) (nh:typeLookup (.type T) "__length_hint__" = pure none) (hst:St 0 s.heap)
  (hQ:∀ h' acc c,(∀ b o,b ∉ wr→s.heap.get? b=some o→h'.get? b=some o)→U1 h' s.heap.objs.size acc c→Got P h' acc n→Q (.ref s.heap.objs.size) { s with heap:=h' }) :
  wpAny (model prog w) A (call (.type "list") [.ref I]) Q E s:=by
 refine callType_codes (Q₁:=fun obj s₁=>obj = .ref s.heap.objs.size∧s₁={ s with heap:=s.heap.push { cls:=.type "list",data:=.seq #[] } }) PySem.F.called_list (PySem.F.typeCall_list_1 _) PySem.F.entry_list_init
  (code_list_new _ ⟨rfl,rfl⟩) fun obj s₁ h₁=>?_
 obtain⟨rfl,rfl⟩:=h₁
 have hS:(s.heap.push { cls:=.type "list",data:=.seq #[] }).get? s.heap.objs.size=some { cls:=.type "list",data:=.seq #[] }:=Heap.get?_push_size _ rfl
 obtain⟨oI,hoI,hcI⟩:=id hT
 have hI:I<s.heap.objs.size:=Heap.lt_size hoI
 refine⟨⟨_,hS,rfl⟩,PySem.F.args_list_init_2 _ _,?_⟩
 show wpAny _ _ (do let old ←Builtin.List.listItems (.ref s.heap.objs.size);Builtin.List.listUpdate (.ref s.heap.objs.size) (fun _=>#[]);letGo old.toList.reverse;Builtin.List.listExtendWith (.ref s.heap.objs.size) (.ref I) .none) _ _ _
 refine wpAny_bind ?_
 unfold Builtin.List.listItems
 refine wpAny_bind (wpAny_seqItems hS rfl (wpAny_pure ?_))
 show wpAny _ _ (updateSeq s.heap.objs.size (fun _=>#[]) >>= fun _=>letGo (#[]:Array Value).toList.reverse >>= fun _=>Builtin.List.listExtendWith (.ref s.heap.objs.size) (.ref I) .none) _ _ _
 refine wpAny_bind (wpAny_updateSeq hS rfl ?_)
 have hS₂:=Heap.get?_update_self (Obj.mapSeq (fun _=>(#[]:Array Value))) hS rfl
 have oth:∀ b o,b≠s.heap.objs.size→s.heap.get? b=some o→((s.heap.push { cls:=.type "list",data:=.seq #[] }).update s.heap.objs.size (Obj.mapSeq (fun _=>(#[]:Array Value)))).get? b=some o:=
  fun b o hb e=>(Heap.get?_update_other _ _ (Ne.symm hb)).trans (Heap.get?_push_of_some _ e)
 refine wpAny_bind (wpAny_letGo ?_)
 refine b0I (A:=A.in1) W hn ⟨oI,oth I _ (Nat.ne_of_lt hI) hoI,hcI⟩ hl ht nl nh (W.stay 0 s.heap _ hst oth) (Nat.ne_of_gt hI) .none _ hS₂ fun h' acc c hk hS' hG=>?_
 exact⟨rfl,hQ h' acc c (fun b o h2 e=>hk b o (Nat.ne_of_lt (Heap.lt_size e)) h2 (oth b o (Nat.ne_of_lt (Heap.lt_size e)) e)) hS' hG⟩
end
theorem b2N:typeLookup (.type "zip") "__len__" = pure none:=by rw[typeLookup_type,builtinLookup_eq_fast];kernel_rfl
theorem b4m:typeLookup (.type "zip") "__length_hint__" = pure none:=by rw[typeLookup_type,builtinLookup_eq_fast];kernel_rfl
theorem b5D {prog:Program}{w:World}{A:Around}{z TI TO i1 i2 l1 l2 S:Addr}{xs ys:Array Value}(hh:A.handled=none) (D:ZipApart z TI TO i1 i2 l1 l2) (hTO:TO<S) (hS:S ∉ [z,TI,TO,i1,i2,l1,l2]) (top:∀ b∈[z,TO,i1,i2],b<S) :
  LW prog w A z S [z,TO,i1,i2] (min xs.size ys.size) (fun j v h=>∃ a x y,v = .ref a∧S≤a∧a≠S∧xs[j]? = some x∧ys[j]? = some y∧IsPair h a x y) (fun k h=>ZSt h z TI TO i1 i2 l1 l2 S xs ys k) where
 item:=fun i s Q E hi st hs hQ=>by
  have hix:i<xs.size:=Nat.lt_of_lt_of_le hi (Nat.min_le_left ..)
  have hiy:i<ys.size:=Nat.lt_of_lt_of_le hi (Nat.min_le_right ..)
  exact b0y D st hs (Nat.lt_trans hTO hs) (Array.getElem?_eq_getElem hix) (Array.getElem?_eq_getElem hiy) fun h' a1 a2 a3=>hQ _ h' ⟨_,_,_,rfl,Nat.le_of_lt hs,Nat.ne_of_gt hs,Array.getElem?_eq_getElem hix,Array.getElem?_eq_getElem hiy,a2⟩ a1 (fun j u ⟨a,x,y,e,_,_,_,_,q⟩ z=>by
   rw[e] at z;cases z;exact absurd (Heap.lt_size q) (Nat.lt_irrefl _)) a3
 done:=fun s Q E st hQ=>by
  have hend:xs[min xs.size ys.size]? = none∨ys[min xs.size ys.size]? = none:=by
   rcases Nat.le_total xs.size ys.size with h | h
   ·exact .inl (by rw[Nat.min_eq_left h];exact Array.getElem?_eq_none (Nat.le_refl _))
   ·exact .inr (by rw[Nat.min_eq_right h];exact Array.getElem?_eq_none (Nat.le_refl _))
  exact b0f hh D st hend hQ
 stay:=fun i h h' st k=>by
  simp only[List.mem_cons,List.not_mem_nil,or_false,not_or] at hS
  obtain⟨n1,n2,n3,n4,n5,n6,n7⟩:=hS
  obtain⟨ti,r1,r2,zz⟩:=st
  refine⟨k _ _ (Ne.symm n2) ti,r1.at (fun o e=>k _ o (Ne.symm n4) e) (fun o e=>k _ o (Ne.symm n6) e),r2.at (fun o e=>k _ o (Ne.symm n5) e) (fun o e=>k _ o (Ne.symm n7) e),?_⟩
  rcases zz with ⟨hz,a,b,ho⟩ | ⟨T,f,oT,hz,hT,t1,t2,t3,t4,t5⟩
  ·exact .inl ⟨k _ _ (Ne.symm n1) hz,a,b,k _ _ (Ne.symm n3) ho⟩
  ·exact .inr ⟨T,f,oT,k _ _ (Ne.symm n1) hz,k _ _ t5 hT,t1,t2,t3,t4,t5⟩
 pay:=fun i v h h' p k=>by
  obtain⟨a,x,y,e,ha,na,hx,hy,q⟩:=p
  refine⟨a,x,y,e,ha,na,hx,hy,k _ _ na (fun hb=>?_) q⟩
  exact absurd (Nat.lt_of_lt_of_le (top a hb) ha) (Nat.lt_irrefl _)
 self:=fun A s Q E st hQ=>by
  have tz:s.TypeIs (.ref z) "zip":= by
   rcases st.zz with ⟨hz,_⟩ | ⟨T,f,oT,hz,_⟩ <;> exact⟨_,hz,rfl⟩
  refine wpAny_pyIter_slot tz PySem.F.slot_zip_iter (wpAny_call_entry PySem.F.slot_zip_iter tz PySem.F.entry_zip_iter ?_ (PySem.F.args_zip_iter_1 _))
  show wpAny _ _ (ret (.ref z)) _ _ s
  exact wpAny_pure ⟨_,rfl, "zip",_,tz,PySem.F.slot_zip_next.lookup,hQ⟩
 out:=fun h=>hS (by
  simp only[List.mem_cons,List.not_mem_nil,or_false] at h ⊢
  rcases h with h | h | h | h <;> simp[h])
def N7 (t:Bool) (l:Addr):Obj:={ cls:=.type (if t then "tuple_iterator" else "list_iterator"),data:=.fields #[.ref l,.int 0 0] }
def RwB (t:Bool) (h:Heap) (l:Addr) (xs:Array Value):Prop:=if t then h.IsTuple l xs else h.IsList l xs
section
variable {prog:Program}{w:World}{A:Around}{E:Value→Shared→Prop}{s:Shared}
theorem a7G {t:Bool}{l:Addr}{xs:Array Value}{Q:Value→Shared→Prop}(h:RwB t s.heap l xs) (hQ:Q (.ref s.heap.objs.size) { s with heap:=s.heap.push (N7 t l) }):wpAny (model prog w) A (pyIter (.ref l)) Q E s:=by
 cases t with
 |true=>exact wpAny_pyIter_tuple h hQ
 |false=>exact wpAny_pyIter_list h hQ
end
abbrev zq1 (h:Heap) (t1:Bool) (l1:Addr):Heap:=h.push (N7 t1 l1)
abbrev zq2 (h:Heap) (t1 t2:Bool) (l1 l2:Addr):Heap:=(zq1 h t1 l1).push (N7 t2 l2)
abbrev zq3 (h:Heap) (t1 t2:Bool) (l1 l2:Addr):Heap:=(zq2 h t1 t2 l1 l2).push { cls:=.type "tuple",data:=.seq #[.ref h.objs.size,.ref (zq1 h t1 l1).objs.size] }
abbrev zq4 (h:Heap) (t1 t2:Bool) (l1 l2:Addr):Heap:=(zq3 h t1 t2 l1 l2).push { cls:=.type "tuple",data:=.seq #[.none,.none] }
abbrev zq5 (h:Heap) (t1 t2:Bool) (l1 l2:Addr):Heap:=(zq4 h t1 t2 l1 l2).push { cls:=.type "zip",data:=.fields #[.none,.bool false,.bool false,.ref (zq2 h t1 t2 l1 l2).objs.size,.ref (zq3 h t1 t2 l1 l2).objs.size] }
theorem RwB.push {t:Bool}{h:Heap}{l:Addr}{xs:Array Value}(x:RwB t h l xs) (o:Obj):RwB t (h.push o) l xs:=by
 cases t with
 |true=>exact Heap.IsTuple.push x o
 |false=>exact Heap.IsList.push x o
theorem b5Q (t1 t2:Bool) (l1 l2:Addr) (xs ys:Array Value) :
  Meets (Builtin.«zip.__new__» ⟨[.type "zip",.ref l1,.ref l2],[]⟩) (fun _ R s=>RwB t1 s.heap l1 xs∧RwB t2 s.heap l2 ys ∧
   R (.ok (.ret (.ref (zq4 s.heap t1 t2 l1 l2).objs.size))) { s with heap:=zq5 s.heap t1 t2 l1 l2 }):=
 .of_wp fun prog w A R s h=>by
  obtain⟨hp,g,d,tk,os⟩:=s;obtain⟨hl1,hl2,h⟩:=h
  have hsub:=sub_zip
  have hL1:RwB t1 (Shared.heap ⟨hp,g,d,tk,os⟩) l1 xs:=hl1
  have hL2:RwB t2 (Shared.heap ⟨hp.push (N7 t1 l1),g,d,tk,os⟩) l2 ys:=RwB.push hl2 _
  wp_walk using a7G hL1,a7G hL2
  exact⟨_,rfl,h⟩
section
variable {prog:Program}{w:World}{A:Around}{E:Value→Shared→Prop}{s:Shared}
theorem RwB.it {t:Bool}{h:Heap}{i l:Addr}{xs:Array Value}(x:RwB t h l xs) (e:h.get? i=some (N7 t l)):RwIt h i l xs 0:=by
 cases t with
 |true=>exact .inr ⟨⟨_,e,rfl,rfl⟩,x⟩
 |false=>exact .inl ⟨⟨_,e,rfl,rfl⟩,x⟩
theorem RwB.at {t:Bool}{h h':Heap}{l:Addr}{xs:Array Value}(x:RwB t h l xs) (e:∀ o,h.get? l=some o→h'.get? l=some o):RwB t h' l xs:=by
 cases t with
 |true=>obtain⟨o,q,r⟩:=x;exact⟨o,e o q,r⟩
 |false=>obtain⟨o,q,r⟩:=x;exact⟨o,e o q,r⟩
theorem RwB.lt {t:Bool}{h:Heap}{l:Addr}{xs:Array Value}(x:RwB t h l xs):l<h.objs.size:=by
 cases t with
 |true=>obtain⟨o,q,r⟩:=x;exact Heap.lt_size q
 |false=>obtain⟨o,q,r⟩:=x;exact Heap.lt_size q
def a56 (h:Heap) (m:Nat) (xs ys:Array Value):Prop:=∃ l1 l2,ZipApart (m+4) (m+2) (m+3) m (m+1) l1 l2∧l1<m∧l2<m∧h.objs.size=m+5∧∀ S,m+5≤S→ZSt h (m+4) (m+2) (m+3) m (m+1) l1 l2 S xs ys 0
def b1R (h:Heap) (m:Nat) (t1 t2:Bool) (l1 l2:Addr):Prop:=ZipApart (m+4) (m+2) (m+3) m (m+1) l1 l2∧h.get? m=some (N7 t1 l1)∧h.get? (m+1)=some (N7 t2 l2)∧IsPair h (m+2) (.ref m) (.ref (m+1))∧C8 h (m+4) (m+2) (m+3) .none (.bool false)∧∃ a b,IsPair h (m+3) a b
theorem a50 {t1 t2:Bool}{l1 l2:Addr}{xs ys:Array Value}{Q:Value→Shared→Prop}(h1:RwB t1 s.heap l1 xs) (h2:RwB t2 s.heap l2 ys)
  (h:∀ h',a56 h' s.heap.objs.size xs ys→(∀ c o,s.heap.get? c=some o→h'.get? c=some o)→b1R h' s.heap.objs.size t1 t2 l1 l2→Q (.ref (s.heap.objs.size+4)) { s with heap:=h' }) :
  wpAny (model prog w) A (call (.type "zip") [.ref l1,.ref l2]) Q E s:=by
 refine callType_new PySem.F.called_zip (by decide) (PySem.F.typeCall_zip_2 _ _) (PySem.F.newCall_zip_2 _ _) (fun obj=>PySem.F.args_object_init_3 obj _ _) PySem.F.entry_zip_new
  (b5Q t1 t2 l1 l2 xs ys) ⟨h1,h2,?_⟩
 have z1:(zq1 s.heap t1 l1).objs.size=s.heap.objs.size+1:=Heap.size_push ..
 have z2:(zq2 s.heap t1 t2 l1 l2).objs.size=s.heap.objs.size+2:=by rw[Heap.size_push,z1]
 have z3:(zq3 s.heap t1 t2 l1 l2).objs.size=s.heap.objs.size+3:=by rw[Heap.size_push,z2]
 have z4:(zq4 s.heap t1 t2 l1 l2).objs.size=s.heap.objs.size+4:=by rw[Heap.size_push,z3]
 have z5:(zq5 s.heap t1 t2 l1 l2).objs.size=s.heap.objs.size+5:=by rw[Heap.size_push,z4]
 have fr:∀ t l,(N7 t l).isFreed=false:=fun t l=>rfl
 have g5:(zq5 s.heap t1 t2 l1 l2).get? (zq4 s.heap t1 t2 l1 l2).objs.size=some _:=Heap.get?_push_size _ rfl
 have g4:(zq5 s.heap t1 t2 l1 l2).get? (zq3 s.heap t1 t2 l1 l2).objs.size=some _:=Heap.get?_push_of_some _ (Heap.get?_push_size _ rfl)
 have g3:(zq5 s.heap t1 t2 l1 l2).get? (zq2 s.heap t1 t2 l1 l2).objs.size=some _:=Heap.get?_push_of_some _ (Heap.get?_push_of_some _ (Heap.get?_push_size _ rfl))
 have g2:(zq5 s.heap t1 t2 l1 l2).get? (zq1 s.heap t1 l1).objs.size=some (N7 t2 l2):=Heap.get?_push_of_some _ (Heap.get?_push_of_some _ (Heap.get?_push_of_some _ (Heap.get?_push_size _ (fr _ _))))
 have g1:(zq5 s.heap t1 t2 l1 l2).get? s.heap.objs.size=some (N7 t1 l1):=Heap.get?_push_of_some _ (Heap.get?_push_of_some _ (Heap.get?_push_of_some _ (Heap.get?_push_of_some _ (Heap.get?_push_size _ (fr _ _)))))
 show _∧_
 rw[z2,z3,z4] at g5
 rw[z1,z2] at g3
 rw[z3] at g4
 rw[z1] at g2
 rw[z4]
 have up:∀ c o,s.heap.get? c=some o→(zq5 s.heap t1 t2 l1 l2).get? c=some o:=fun c o x=>
  Heap.get?_push_of_some _ (Heap.get?_push_of_some _ (Heap.get?_push_of_some _ (Heap.get?_push_of_some _ (Heap.get?_push_of_some _ x))))
 refine⟨⟨_,g5,rfl⟩,h _ ⟨l1,l2,PyProof.Rows.zipApart_new h1.lt h2.lt,h1.lt,h2.lt,z5,fun S hS=>⟨g3,(h1.at fun o e=>up _ o e).it g1,(h2.at fun o e=>up _ o e).it g2,.inl ⟨g5,_,_,g4⟩⟩⟩ up ⟨PyProof.Rows.zipApart_new h1.lt h2.lt,g1,g2,g3,g5,_,_,g4⟩⟩
structure LZ (h h':Heap) (S:Addr) (xs ys:Array Value) (as:List Addr) (c:Nat):Prop where
 keep:∀ b o,h.get? b=some o→h'.get? b=some o
 low:h.objs.size≤S
 lst:U1 h' S (as.map Value.ref).toArray c
 len:as.length=min xs.size ys.size
 new:∀ a∈as,h.objs.size≤a∧a≠S
 nd:as.Nodup
 at':∀ (j:Nat) a,as[j]? = some a→∃ x y,xs[j]? = some x∧ys[j]? = some y∧IsPair h' a x y
theorem b1r {P:Nat→Value→Heap→Prop}{h:Heap}{acc:Array Value}{n:Nat}(g:Got P h acc n) (hp:∀ j v,P j v h→∃ a,v = .ref a):∃ as:List Addr,acc=(as.map Value.ref).toArray:=by
 have:∀ l:List Value,(∀ v∈l,∃ a,v=Value.ref a)→∃ as:List Addr,l=as.map Value.ref:=by
  intro l
  induction l with
  |nil=>exact fun _=>⟨[],rfl⟩
  |cons v r ih=>
   intro hv
   obtain⟨a,e⟩:=hv v (.head _)
   obtain⟨as,e'⟩:=ih fun u hu=>hv u (.tail _ hu)
   exact⟨a::as,by rw[e,e'];rfl⟩
 obtain⟨as,e⟩:=this acc.toList fun v hv=>by
  obtain⟨j,hj⟩:=List.mem_iff_getElem?.mp hv
  exact hp j v (g.2.1 j v (by simpa using hj))
 exact⟨as,by rw[←e,Array.toArray_toList]⟩
theorem a9P {m:Nat}{h₀:Heap}{xs ys:Array Value}{Q:Value→Shared→Prop}(hh:A.handled=none) (Z:a56 s.heap m xs ys) (k₀:∀ c o,h₀.get? c=some o→s.heap.get? c=some o) (hm:h₀.objs.size=m) (hn:xs.size≤sizeLine)
  (hQ:∀ S h' as c,LZ h₀ h' S xs ys as c→Q (.ref S) { s with heap:=h' }):wpAny (model prog w) A (call (.type "list") [.ref (m+4)]) Q E s:=by
 obtain⟨l1,l2,D,b1,b2,sz,st⟩:=Z
 have st0:=st s.heap.objs.size (by omega)
 have tz:s.TypeIs (.ref (m+4)) "zip":= by
  rcases st0.zz with ⟨hz,_⟩ | ⟨T,f,oT,hz,_⟩ <;> exact⟨_,hz,rfl⟩
 refine b5y (T := "zip") (b5D (A:=A.in1.in1) hh D (show (m+3:Nat)<s.heap.objs.size by omega) (by
  simp only[List.mem_cons,List.not_mem_nil,or_false,not_or]
  have ms:m≤s.heap.objs.size:=by omega
  exact⟨show (s.heap.objs.size:Nat)≠m+4 by omega,show (s.heap.objs.size:Nat)≠m+2 by omega,show (s.heap.objs.size:Nat)≠m+3 by omega,show (s.heap.objs.size:Nat)≠m by omega,show (s.heap.objs.size:Nat)≠m+1 by omega,
   Nat.ne_of_gt (Nat.lt_of_lt_of_le b1 ms),Nat.ne_of_gt (Nat.lt_of_lt_of_le b2 ms)⟩) (by
  simp only[List.mem_cons,List.not_mem_nil,or_false]
  intro b hb
  have ml:∀ j,j≤4→m+j<s.heap.objs.size:=fun j _=>by omega
  rcases hb with e | e | e | e
  ·rw[e];exact ml 4 (by omega)
  ·rw[e];exact ml 3 (by omega)
  ·rw[e];exact ml 0 (by omega)
  ·rw[e];exact ml 1 (by omega))) (Nat.le_trans (Nat.min_le_left ..) hn) tz (by decide) (by decide) b2N b4m st0 fun h' acc c k l g=>?_
 obtain⟨as,ea⟩:=b1r g fun j v ⟨a,_,_,e,_⟩=>⟨a,e⟩
 subst ea
 refine hQ _ h' as c ⟨fun b o e=>k b o (fun hb=>?_) (k₀ b o e),by omega,l,by simpa using g.1,fun a ha=>?_,?_,fun j a e=>?_⟩
 ·have hl:b<m:=hm▸Heap.lt_size e
  simp only[List.mem_cons,List.not_mem_nil,or_false] at hb
  have up:∀ j:Nat,¬ (m+j<m):=fun j=>by omega
  rcases hb with e | e | e | e
  ·exact up 4 (e▸hl)
  ·exact up 3 (e▸hl)
  ·exact up 0 (e▸hl)
  ·exact up 1 (e▸hl)
 ·obtain⟨j,hj⟩:=List.mem_iff_getElem?.mp ha
  obtain⟨a',x,y,e,q1,q2,_⟩:=g.2.1 j (.ref a) (by simp[hj])
  cases e
  exact⟨Nat.le_trans (show (h₀.objs.size:Nat)≤s.heap.objs.size by omega) q1,q2⟩
 ·have nd:=g.2.2
  simp only[List.toList_toArray] at nd
  exact(List.pairwise_map.mp nd).imp fun h e=>h (by rw[e])
 ·obtain⟨a',x,y,e',q1,q2,q3,q4,q5⟩:=g.2.1 j (.ref a) (by simp[e])
  cases e'
  exact⟨x,y,q3,q4,q5⟩
end
def J9 (H:Hp):List (Addr × List V)→Hp
 |[]=>H
 |(a,p)::r=>upd (J9 H r) a (.tup p)
section
variable {H:Hp}
theorem a0Y:∀ {ps:List (Addr × List V)}{b:Addr},(∀ q∈ps,q.1≠b)→J9 H ps b=H b
 |[],b,h=>rfl
 |(a,p)::r,b,h=>by
  show upd (J9 H r) a (.tup p) b=H b
  rw[u3 (Ne.symm (h _ (.head _)))]
  exact a0Y fun q hq=>h q (.tail _ hq)
theorem a8j:∀ {ps:List (Addr × List V)}{b:Addr}{u:HO},J9 H ps b=some u→(∃ p,(b,p)∈ps∧u = .tup p)∨H b=some u
 |[],b,u,h=>.inr h
 |(a,p)::r,b,u,h=>by
  replace h:upd (J9 H r) a (.tup p) b=some u:=h
  by_cases hb:b=a
  ·subst hb;rw[B9] at h;cases h;exact .inl ⟨p,.head _,rfl⟩
  ·rw[u3 hb] at h
   rcases a8j h with ⟨p',q,e⟩ | e
   ·exact .inl ⟨p',.tail _ q,e⟩
   ·exact .inr e
theorem a8A:∀ {ps:List (Addr × List V)}{b:Addr}{p:List V},(ps.map (·.1)).Nodup→(b,p)∈ps→J9 H ps b=some (.tup p)
 |(a,p')::r,b,p,nd,h=>by
  show upd (J9 H r) a (.tup p') b=_
  rcases List.mem_cons.mp h with e | h
  ·cases e;exact B9
  ·have nd':=List.nodup_cons.mp nd
   have hb:b≠a:=fun e=>nd'.1 (e▸List.mem_map.mpr ⟨(b,p),h,rfl⟩)
   rw[u3 hb]
   exact a8A nd'.2 h
end
theorem a9h {fs ex:List Addr}{H H':Hp}{h h':Heap}(k:∀ b u,h.get? b=some u→h'.get? b=some u) (hn:∀ b,b<h.objs.size→H' b=H b) (hs:∀ b u,H b=some u→H' b=some u):Un fs ex H H' h h' where
 keep:=fun b u q _ _ _=>k b u q
 slot:=fun b u q _ _ _=>⟨u.slots,k b u q⟩
 free:=fun b u q n _=>by rw[hn b (Heap.lt_size q)];exact n
 there:=fun b u q _=>⟨u,k b u q⟩
 tups:=fun b xs q=>hs b _ q
 frzs:=fun b u xs q=>hs b _ q
 tbls:=fun b ps q=>⟨#[],by rw[hs b _ q];simp⟩
def prs (xs ys:List V):List (List V):=List.zipWith (fun x y=>[x,y]) xs ys
theorem b1v {xs ys:List V}{j:Nat}{p:List V}(e:(prs xs ys)[j]? = some p):∃ x y,xs[j]? = some x∧ys[j]? = some y∧p=[x,y]:=by
 unfold prs at e
 rw[List.getElem?_zipWith] at e
 cases hx:xs[j]? with
 |none=>rw[hx] at e;simp at e
 |some x=>
  cases hy:ys[j]? with
  |none=>rw[hx,hy] at e;simp at e
  |some y=>rw[hx,hy] at e;simp at e;exact⟨x,y,rfl,rfl,e.symm⟩
def Sq (K:PySem.W.Frag) (H:Hp) (a:Addr) (xs:List V):Prop:=SqL K H a xs∨SqT K H a xs
def rLZ (K:PySem.W.Frag):List V→Hp→VK→Prop:=fun vs H Q=>∃ p q xs ys,vs=[.ref p,.ref q]∧Sq K H p xs∧Sq K H q ys ∧
 ∀ S as,(S::as).Nodup→(∀ a∈S::as,H a=none)→as.length=(prs xs ys).length→Q (.ref S) (upd (J9 H (as.zip (prs xs ys))) S (.lst (as.map V.ref)))
section
variable {X:Cx}{pins:List (Addr × Obj)}{σ:St}{H:Hp}{s:Shared}
theorem a6G (I:Inv X pins σ H s) {p:Addr}{xs:List V}(h:Sq X.K H p xs):∃ (t:Bool) (its:List Value),Vals xs its∧RwB t s.heap p its.toArray∧xs.length≤sizeLine:=by
 rcases h with h | h
 ·obtain⟨its,r,⟨o,n,e,c,_,d⟩,z⟩:=I.list h
  exact⟨false,its,r,⟨o,e,c,n,d⟩,z⟩
 ·obtain⟨its,r,⟨o,e,c,n,d⟩,z⟩:=I.tuple h
  exact⟨true,its,r,⟨o,e,c,n,d⟩,z⟩
theorem a73 {as:List Addr}{ps:List (List V)}(h:as.length=ps.length):(as.zip ps).map (·.1)=as:=by
 rw[List.map_fst_zip (by omega)]
theorem Inv.lz {xs ys:List V}{it jt:List Value}{S:Addr}{h':Heap}{as:List Addr}{c:Nat}(I:Inv X pins σ H s) (rx:Vals xs it) (ry:Vals ys jt) (zx:xs.length≤sizeLine) (Z:LZ s.heap h' S it.toArray jt.toArray as c) :
  (S::as).Nodup∧(∀ a∈S::as,H a=none)∧as.length=(prs xs ys).length∧Inv X pins σ (upd (J9 H (as.zip (prs xs ys))) S (.lst (as.map V.ref))) { s with heap:=h' }:=by
 have hl:as.length=(prs xs ys).length:=by
  have e:=Z.len
  simp only[List.size_toArray] at e
  rw[e,prs,List.length_zipWith,rx.length,ry.length]
 have fr:∀ a∈S::as,s.heap.objs.size≤a:=fun a ha=>by
  rcases List.mem_cons.mp ha with e | e
  ·rw[e];exact Z.low
  ·exact(Z.new a e).1
 have nn:∀ a∈S::as,H a=none:=fun a ha=>I.hok.fresh (fr a ha)
 have nd:(S::as).Nodup:=List.nodup_cons.mpr ⟨fun h=>(Z.new S h).2 rfl,Z.nd⟩
 have ky:=a73 hl
 have ndz:((as.zip (prs xs ys)).map (·.1)).Nodup:=by rw[ky];exact Z.nd
 have kin:∀ q∈as.zip (prs xs ys),q.1∈as:=fun q hq=>(List.of_mem_zip hq).1
 refine⟨nd,nn,hl,?_⟩
 have hs:∀ b u,H b=some u→upd (J9 H (as.zip (prs xs ys))) S (.lst (as.map V.ref)) b=some u:=fun b u e=>by
  have n:∀ a∈S::as,a≠b:=fun a ha z=>by rw[z] at ha;rw[nn b ha] at e;cases e
  rw[u3 (Ne.symm (n S (.head _))),a0Y fun q hq=>n _ (.tail _ (kin q hq))]
  exact e
 refine I.un (t':=s.toks) (a9h Z.keep (fun b hb=>?_) hs) fun b u e=>?_
 ·have n:∀ a∈S::as,a≠b:=fun a ha z=>absurd (Nat.lt_of_lt_of_le hb (z▸fr a ha)) (Nat.lt_irrefl _)
  rw[u3 (Ne.symm (n S (.head _))),a0Y fun q hq=>n _ (.tail _ (kin q hq))]
 ·by_cases hb:b=S
  ·subst hb
   rw[B9] at e;cases e
   refine⟨?_,as.map Value.ref,c,?_,Z.lst⟩
   ·rw[List.length_map,hl,prs,List.length_zipWith]
    exact Nat.le_trans (Nat.min_le_left ..) zx
   ·have:∀ l:List Addr,Vals (l.map V.ref) (l.map Value.ref):=fun l=>by
     induction l with
     |nil=>exact .nil
     |cons a r ih=>exact .cons rfl ih
    exact this as
  ·rw[u3 hb] at e
   rcases a8j e with ⟨p,hp,rfl⟩ | e0
   ·obtain⟨j,hj⟩:=List.mem_iff_getElem?.mp hp
    obtain⟨ha,hpj⟩:=List.getElem?_zip_eq_some.mp hj
    obtain⟨x,y,ex,ey,rfl⟩:=b1v hpj
    obtain⟨x',y',ex',ey',q⟩:=Z.at' j b ha
    obtain⟨u1,f1,g1⟩:=rx.get ex
    obtain⟨u2,f2,g2⟩:=ry.get ey
    have e1:u1=x':=by simpa [f1] using ex'
    have e2:u2=y':=by simpa [f2] using ey'
    subst e1;subst e2
    exact⟨show 2≤sizeLine by decide,[u1,u2],.cons g1 (.cons g2 .nil),⟨_,q,rfl,_,rfl⟩⟩
   ·exact(I.hok b u e0).stay (fun c v _ q=>Z.keep c v q) (fun c q=>hs c _ q) fun c xs q=>hs c _ q
end
section
variable {X:Cx}{p p' pos pos':Pos}{e:Expr}{es:List Expr}{t:TA}
theorem b0v (hc:X.calm=true) (hgl:Gl X "list") (hml:X.mg "list" = none) (hgz:Gl X "zip") (hmz:X.mg "zip" = none) (ha:PA X (e::es) t)
  (he:starEach (e::es) X.env=(false,eval e X.env)::starEach es X.env:=by rfl) (hpl:(backTo pos' (starEach es X.env)).any (·.1)=false:=by rfl)
  (he2:starEach [.Call (.Name "zip" p') (e::es) [] pos'] X.env=[(false,eval (.Call (.Name "zip" p') (e::es) [] pos') X.env)]:=by rfl) :
  PE X (.Call (.Name "list" p) [.Call (.Name "zip" p') (e::es) [] pos'] [] pos) (tCB (rLZ X.K) t):=by
 intro pins s σ H Q I h
 refine wpAny_Call_Name_kw (X9 I hgl hml (show bootBuiltins ("list" : Str)=some (.type "list") by decide +kernel) ?_ (by decide) (by decide))
 refine PyProof.Rows.callWith_type1 ?_ he2 rfl
 rw[he2]
 show wpAny _ _ (spliced [(false,eval (.Call (.Name "zip" p') (e::es) [] pos') X.env)]) _ _ s
 refine Calls.spliced_cons ?_
 refine wpAny_Call_Name_kw (X9 I hgz hmz (show bootBuiltins ("zip" : Str)=some (.type "zip") by decide +kernel) ?_ (by decide) (by decide))
 refine PyProof.Rows.callWith_type1 (thn (ha pos' pins s σ H _ I h) fun us s1 ⟨vs,H1,I1,r1,q1⟩=>?_) he hpl
 obtain⟨a,b,xs,ys,rfl,qa,qb,k⟩:=q1
 obtain⟨u1,u2,rfl,e1,e2⟩:∃ u1 u2,us=[u1,u2]∧u1=Value.ref a∧u2=Value.ref b:=by
  cases r1 with
  |cons h1 r1=>
   cases r1 with
   |cons h2 r1=>cases r1;exact⟨_,_,rfl,h1,h2⟩
 subst e1;subst e2
 obtain⟨ta,it,rx,wa,za⟩:=a6G I1 qa
 obtain⟨tb,jt,ry,wb,zb⟩:=a6G I1 qb
 refine a50 wa wb fun h1 Z1 k1 _=>?_
 refine Calls.spliced_nil ?_
 refine a9P (h₀:=s1.heap) (I.ok.hd hc) Z1 k1 rfl (by simpa [←rx.length] using za) fun S h2 as c Z=>?_
 obtain⟨nd,nn,hl,I2⟩:=Inv.lz I1 rx ry za Z
 exact⟨.ref S,_,I2,rfl,k S as nd nn hl⟩
end
def M4:D→Option (List D)
 |.tup ds=>some ds
 |.lst ds=>some ds
 |_=>none
def F4 (x y:D):D:=.tup [x,y]
def Y1:List D→Option (List D)
 |[a,b]=>(M4 a).bind fun xs=>(M4 b).map fun ys=>List.zipWith F4 xs ys
 |_=>none
theorem a5J {g:Gh}{K:PySem.W.Frag}{σ:L2.St}{H:Hp}{fa:Option Addr}{O:List Addr}{s:DS}(I:GI K g σ H fa O s):∀ (ps:List (Addr × List V)),(ps.map (·.1)).Nodup→(∀ q∈ps,H q.1=none)→GI K g σ (J9 H ps) fa O s∧StE fa O H fa O (J9 H ps)
 |[],_,_=>⟨I,StE.refl⟩
 |(a,p)::r,nd,h=>by
  have nd':=List.nodup_cons.mp nd
  obtain⟨I1,s1⟩:=a5J I r nd'.2 fun q hq=>h q (.tail _ hq)
  have hn:J9 H r a=none:=by
   rw[a0Y fun q hq z=>nd'.1 (List.mem_map.mpr ⟨q,hq,z⟩)]
   exact h _ (.head _)
  exact⟨I1.new hn,s1.trans (E4 hn)⟩
theorem a7U {K:PySem.W.Frag}{N:Addr→Prop}{fa:Option Addr}{H:Hp}:∀ {ds es:List D}{xs ys:List V}{as:List Addr},Reps K N fa H ds xs→Reps K N fa H es ys→as.length=(prs xs ys).length→(∀ q∈as.zip (prs xs ys),H q.1=some (.tup q.2)) →
  Reps K N fa H (List.zipWith F4 ds es) (as.map V.ref)
 |[],es,xs,ys,as,h,q,l,k=>by
  simp only[Reps] at h;subst h
  simp only[prs,List.zipWith_nil_left,List.length_nil] at l
  rw[List.eq_nil_of_length_eq_zero l]
  simp only[List.zipWith_nil_left,List.map_nil,Reps]
 |d::r,[],xs,ys,as,h,q,l,k=>by
  simp only[Reps] at q;subst q
  simp only[prs,List.zipWith_nil_right,List.length_nil] at l
  rw[List.eq_nil_of_length_eq_zero l]
  simp only[List.zipWith_nil_right,List.map_nil,Reps]
 |d::r,e::f,xs,ys,as,h,q,l,k=>by
  simp only[Reps] at h q
  obtain⟨x,xs',rfl,h1,h2⟩:=h
  obtain⟨y,ys',rfl,q1,q2⟩:=q
  cases as with
  |nil=>simp[prs] at l
  |cons a as=>
   have hz:(a::as).zip (prs (x::xs') (y::ys'))=(a,[x,y])::as.zip (prs xs' ys'):=rfl
   rw[hz] at k
   simp only[List.zipWith_cons_cons,List.map_cons,Reps]
   refine⟨_,_,rfl,?_,a7U h2 q2 (by simpa [prs] using l) fun q hq=>k q (.tail _ hq)⟩
   simp only[F4,Rep,Reps]
   exact⟨a,[x,y],rfl,SqT.of (k _ (.head _)),x,[y],rfl,h1,y,[],rfl,q1,rfl⟩
theorem a7A {K:PySem.W.Frag}{N:Addr→Prop}{fa:Option Addr}{H:Hp}{d:D}{v:V}{ds:List D}(r:RepB K N fa H d v) (e:M4 d=some ds):∃ a xs,v = .ref a∧Sq K H a xs∧Reps K N fa H ds xs:=by
 cases d with
 |tup es=>
  cases e
  simp only[RepB,Rep] at r
  obtain⟨a,ys,rfl,q,w⟩:=r
  exact⟨a,ys,rfl,.inr q,w⟩
 |lst es=>
  cases e
  obtain⟨a,ys,rfl,_,q,w⟩:=r
  exact⟨a,ys,rfl,.inl (SqL.of q),w⟩
 |_=>cases e
theorem b5a {K:PySem.W.Frag}:RCF K (rLZ K) Y1:=by
 intro g σ H fa O s xs ds es Q I rs e k
 match ds,e with
 |[d1,d2],e=>
  refine M0 (show (M4 d1).bind (fun xs=>(M4 d2).map fun ys=>List.zipWith F4 xs ys)=some es from e) fun xs1 e1 e=>?_
  refine R9 e fun ys1 e2 e=>?_
  subst e
  simp only[S6] at rs
  obtain⟨x,zs,rfl,r1,y,zs',rfl,r2,rfl⟩:=rs
  obtain⟨a,vs,rfl,q1,w1⟩:=a7A r1 e1
  obtain⟨b,us,rfl,q2,w2⟩:=a7A r2 e2
  refine⟨a,b,vs,us,rfl,q1,q2,fun S as nd nn hl=>?_⟩
  have nd':=List.nodup_cons.mp nd
  have ky:=a73 hl
  have kin:∀ q∈as.zip (prs vs us),q.1∈as:=fun q hq=>(List.of_mem_zip hq).1
  have ndz:((as.zip (prs vs us)).map (·.1)).Nodup:=by rw[ky];exact nd'.2
  obtain⟨I1,s1⟩:=a5J I (as.zip (prs vs us)) ndz fun q hq=>nn _ (.tail _ (kin q hq))
  have hS:J9 H (as.zip (prs vs us)) S=none:=by
   rw[a0Y fun q hq (z:q.1=S)=>nd'.1 (by rw[←z];exact kin q hq)]
   exact nn S (.head _)
  have rp:=a7U (Reps.stp I s1.stp w1) (Reps.stp I s1.stp w2) hl fun q hq=>a8A (b:=q.1) (p:=q.2) ndz hq
  exact k S (as.map V.ref) _ (s1.trans (E4 hS)) (X8 I1 hS rp) (nn S (.head _))
section
variable {X:Cx}{g:Gh}{p p' pos pos':Pos}{e:Expr}{es:List Expr}{t:DA}
theorem a6B (hc:X.calm=true) (hgl:Gl X "list") (hml:X.mg "list" = none) (hgz:Gl X "zip") (hmz:X.mg "zip" = none) (ha:BAO X g (e::es) t)
  (he:starEach (e::es) X.env=(false,eval e X.env)::starEach es X.env:=by rfl) (hpl:(backTo pos' (starEach es X.env)).any (·.1)=false:=by rfl)
  (he2:starEach [.Call (.Name "zip" p') (e::es) [] pos'] X.env=[(false,eval (.Call (.Name "zip" p') (e::es) [] pos') X.env)]:=by rfl) :
  FO X g (.Call (.Name "list" p) [.Call (.Name "zip" p') (e::es) [] pos'] [] pos) (dCF Y1 t):=
 FO.w (b0v hc hgl hml hgz hmz ha.pe he hpl he2) (a8Z b5a)
end
section
variable {X:Cx}{g:Gh}{scope:Scope}{cl:List (Str × Addr)}{idx:List Nat}{iter elt:Expr}{ifs:List Expr}{pos:Pos}{fi:DA}{fc:DT}{fe:DE}{x y:Str}{px py pp:Pos}{kt:Nat}{caps:List Str}
theorem a0p (hc:X.calm=true) (k:CompOk X scope cl (x::y::caps) 2 idx) (hi:IO X g (.Tuple [.Name x px,.Name y py] kt pp) iter fi) (nd:(x::y::caps).Nodup)
  (hx:∀ C s0 H0 ex,(blk X (x::y::caps) scope cl C s0 H0 ex).env.scope.names.lookup x=some .local) (hy:∀ C s0 H0 ex,(blk X (x::y::caps) scope cl C s0 H0 ex).env.scope.names.lookup y=some .local)
  (ht:∀ C s0 H0 ex g',V5 (blk X (x::y::caps) scope cl C s0 H0 ex) g' ifs fc) (he:∀ C s0 H0 ex g',EO (blk X (x::y::caps) scope cl C s0 H0 ex) g' elt fe) (hs:∀ x,foldedSetIterable iter X.env x=pure x:=by intro _;rfl) :
  FO X g (.ListComp elt [⟨.Tuple [.Name x px,.Name y py] kt pp,iter,ifs,0⟩] scope pos) (L6 idx fi fc fe):=
 b0B (G:=a3m X.K 2 (a0U (M3 0) (a0U (M3 1) a3Z))) hc k hi (fun C s0 H0 ex=>a5e (X:=blk X (x::y::caps) scope cl C s0 H0 ex) (n:=2) hc (a0S (X:=blk X (x::y::caps) scope cl C s0 H0 ex) (n0 (X:=blk X (x::y::caps) scope cl C s0 H0 ex) (i:=0) nd rfl (Or.inl (hx C s0 H0 ex)) (Or.inr (hx C s0 H0 ex))) (a0S (X:=blk X (x::y::caps) scope cl C s0 H0 ex) (n0 (X:=blk X (x::y::caps) scope cl C s0 H0 ex) (i:=1) nd rfl (Or.inl (hy C s0 H0 ex)) (Or.inr (hy C s0 H0 ex))) a42)))
  (fun a x y σ H Q h q=>⟨a,[x,y],rfl,h,rfl,x,[y],rfl,y,[],rfl,rfl,q⟩) ht he hs
end
def PC (X:Cx) (e:Expr) (te:TE):Prop:=∀ (i:Nat) (y:Str) (py spos:Pos),X.N.Nodup→X.N[i]? = some y→Loc X.env.scope y→swapsWith e (some (.Name y py)) spos.line X.env=pure true→(X.fn y=true∨X.env.scope.names.lookup y=some .local)→PS X (.Assign [.Name y py] e spos) (a0s te (M3 i))
structure CO (X:Cx) (g:Gh) (e:Expr) (f:DA):Prop where
 pe:PC X e (liftF X.K g f)
theorem CO.w {X:Cx}{g:Gh}{e:Expr}{f:DA}{t:TE}(h:PC X e t) (w:∀ σ H Q,liftF X.K g f σ H Q→t σ H Q):CO X g e f:=
 ⟨fun i y py spos h1 h2 h3 h4 h5 pins s σ H D I q=>h i y py spos h1 h2 h3 h4 h5 pins s σ H D I (w σ H _ q)⟩
section
variable {X:Cx}{g:Gh}{scope:Scope}{cl:List (Str × Addr)}{N':List Str}{idx:List Nat}{iter elt tg:Expr}{ifs:List Expr}{pos:Pos}{fi:DA}{fc:DT}{fe:DE}
theorem a3n (hc:X.calm=true) (k:CompOk X scope cl N' 1 idx) (hi:IO X g tg iter fi) (hg:∀ C s0 H0 ex,PG (blk X N' scope cl C s0 H0 ex) tg (M3 0))
  (ht:∀ C s0 H0 ex g',V5 (blk X N' scope cl C s0 H0 ex) g' ifs fc) (he:∀ C s0 H0 ex g',EO (blk X N' scope cl C s0 H0 ex) g' elt fe) (hs:∀ x,foldedSetIterable iter X.env x=pure x:=by intro _;rfl) :
  CO X g (.ListComp elt [⟨tg,iter,ifs,0⟩] scope pos) (F7 idx fi fc fe):=
 CO.w (fun i y py spos h1 h2 h3 h4 h5=>a7E (tc:=fun σ H Q=>∃ g',liftT X.K g' fc σ H Q) (te:=fun σ H Q=>∃ g',liftE X.K g' fe σ H Q) h1 h2 h3 hc k hi.pe hg (fun C s0 H0 ex pins s σ H Q I ⟨g',h⟩=>ht C s0 H0 ex g' pins s σ H Q I h) (fun C s0 H0 ex pins s σ H Q I ⟨g',h⟩=>(he C s0 H0 ex g').pe pins s σ H Q I h) hs h4 h5) (a6x k)
theorem b22 {G:TG}(hc:X.calm=true) (k:CompOk X scope cl N' 2 idx) (hi:IO X g tg iter fi) (hg:∀ C s0 H0 ex,PG (blk X N' scope cl C s0 H0 ex) tg G)
  (hG:∀ (a:Addr) (x y:V) (σ:L2.St) (H:Hp) (Q:L2.St→Hp→Prop),SqT X.K H a [x,y]→Q ((σ.set 0 (some x)).set 1 (some y)) H→G (.ref a) σ H Q)
  (ht:∀ C s0 H0 ex g',V5 (blk X N' scope cl C s0 H0 ex) g' ifs fc) (he:∀ C s0 H0 ex g',EO (blk X N' scope cl C s0 H0 ex) g' elt fe) (hs:∀ x,foldedSetIterable iter X.env x=pure x:=by intro _;rfl) :
  CO X g (.ListComp elt [⟨tg,iter,ifs,0⟩] scope pos) (L6 idx fi fc fe):=
 CO.w (fun i y py spos h1 h2 h3 h4 h5=>a7E (tc:=fun σ H Q=>∃ g',liftT X.K g' fc σ H Q) (te:=fun σ H Q=>∃ g',liftE X.K g' fe σ H Q) h1 h2 h3 hc k hi.pe hg (fun C s0 H0 ex pins s σ H Q I ⟨g',h⟩=>ht C s0 H0 ex g' pins s σ H Q I h) (fun C s0 H0 ex pins s σ H Q I ⟨g',h⟩=>(he C s0 H0 ex g').pe pins s σ H Q I h) hs h4 h5) (a6M k hG)
theorem a19 {e:Expr}{i:Nat}{x:Str}{f:DA}{pos':Pos}(hN:X.N.Nodup) (hi:X.N[i]? = some x) (hx:Loc X.env.scope x) (he:CO X g e f) (hs:swapsWith e (some (.Name x pos')) pos.line X.env=pure true:=by rfl) (hf:X.fn x=true∨X.env.scope.names.lookup x=some .local:=by first | exact .inl rfl | exact .inr rfl | assumption) :
  SO X g (.Assign [.Name x pos'] e pos) (D6 i f):=SO.w (he.pe i x pos' pos hN hi hx hs hf) fun E σ H hQ=>by
 refine hQ.elim fun fa O s fl s' I q k=>?_
 refine v3 q fun ds s1 h1 h2=>?_
 by_cases hl:i<s1.sl.length
 ·simp only[] at h2
  rw[if_pos hl] at h2
  cases h2
  refine⟨fa,O,s,ds,s1,I,h1,fun p xs H1 f1 O1 a1 L hp=>?_⟩
  have np:p ∉ O1:=fun z=>by
   obtain⟨ys,e⟩:=I.owned (a1.sub p z)
   rw[hp] at e;cases e
  obtain⟨P,sub,I'⟩:=L.put i hl (I.st.mon p hp) np
  refine k _ H1 f1 P ⟨fun b hb=>?_,a1.fe,fun b u e _ n=>a1.same b u e n,a1.mon⟩ I'
  rcases sub b hb with y | y
  ·exact .inr (by rw[y];exact hp)
  ·exact .inl (a1.sub b y)
 ·simp only[] at h2
  rw[if_neg hl] at h2;cases h2
end
section
variable {X:Cx}{g:Gh}{scope:Scope}{cl:List (Str × Addr)}{idx:List Nat}{iter elt:Expr}{ifs:List Expr}{pos:Pos}{fi:DA}{fc:DT}{fe:DE}{x y:Str}{px py pp:Pos}{kt:Nat}{caps:List Str}
theorem b1i (hc:X.calm=true) (k:CompOk X scope cl (x::y::caps) 2 idx) (hi:IO X g (.Tuple [.Name x px,.Name y py] kt pp) iter fi) (nd:(x::y::caps).Nodup)
  (hx:∀ C s0 H0 ex,(blk X (x::y::caps) scope cl C s0 H0 ex).env.scope.names.lookup x=some .local) (hy:∀ C s0 H0 ex,(blk X (x::y::caps) scope cl C s0 H0 ex).env.scope.names.lookup y=some .local)
  (ht:∀ C s0 H0 ex g',V5 (blk X (x::y::caps) scope cl C s0 H0 ex) g' ifs fc) (he:∀ C s0 H0 ex g',EO (blk X (x::y::caps) scope cl C s0 H0 ex) g' elt fe) (hs:∀ x,foldedSetIterable iter X.env x=pure x:=by intro _;rfl) :
  CO X g (.ListComp elt [⟨.Tuple [.Name x px,.Name y py] kt pp,iter,ifs,0⟩] scope pos) (L6 idx fi fc fe):=
 b22 (G:=a3m X.K 2 (a0U (M3 0) (a0U (M3 1) a3Z))) hc k hi (fun C s0 H0 ex=>a5e (X:=blk X (x::y::caps) scope cl C s0 H0 ex) (n:=2) hc (a0S (X:=blk X (x::y::caps) scope cl C s0 H0 ex) (n0 (X:=blk X (x::y::caps) scope cl C s0 H0 ex) (i:=0) nd rfl (Or.inl (hx C s0 H0 ex)) (Or.inr (hx C s0 H0 ex))) (a0S (X:=blk X (x::y::caps) scope cl C s0 H0 ex) (n0 (X:=blk X (x::y::caps) scope cl C s0 H0 ex) (i:=1) nd rfl (Or.inl (hy C s0 H0 ex)) (Or.inr (hy C s0 H0 ex))) a42)))
  (fun a x y σ H Q h q=>⟨a,[x,y],rfl,h,rfl,x,[y],rfl,y,[],rfl,rfl,q⟩) ht he hs
end
theorem a6l:∀ ns:List Int,D.plains (ns.map .int)=true
 |[]=>rfl
 |n::r=>by simp only[List.map_cons,D.plains,D.plain,a6l r,Bool.and_self]
theorem a6Y:∀ ns:List Int,PyData.canLayAll0 (D.pys (ns.map .int))=true
 |[]=>rfl
 |n::r=>by simp only[List.map_cons,D.pys,D.py,PyData.canLayAll0,PyData.canLay0,a6Y r,Bool.and_self]
theorem a6C:∀ ns:List Int,PyData.depthAll (D.pys (ns.map .int))=0
 |[]=>rfl
 |n::r=>by simp only[List.map_cons,D.pys,D.py,PyData.depthAll,PyData.depth,a6C r,Nat.max_self]
theorem b5P (ns:List Int):B8 (.lst (ns.map .int))=true:=by
 simp[B8,D.plain,a6l,D.py,SeqAt.shaped,PyData.canLay0,a6Y,PyData.depth,a6C]
theorem b5z (ns:List Int):PyData.eqv (D.py (.lst (ns.map .int))) (D.py (.lst []))=decide (ns=[]):=by
 cases ns with
 |nil=>rfl
 |cons n r=>simp[D.py,D.pys,PyData.eqv,PyData.eqvAll]
end DL
namespace L2
open PySem PySem.Spec PyProof.Rows
section
variable {X:Cx}{pins:List (Addr × Obj)}{σ:List (Option V)}{H:Hp}{s:Shared}{h':Heap}
theorem Inv.turned2 {t':Nat}{a b:Addr}(I:Inv X pins σ H s) (k:∀ c o,c≠a→c≠b→s.heap.get? c=some o→h'.get? c=some o) (fa:G5 X pins H a) (fb:G5 X pins H b):Inv X pins σ H { s with heap:=h',toks:=t' }:=by
 have na:∀ c u,H c=some u→c≠a:=fun c u e z=>by rw[z,fa.1] at e;cases e
 have nb:∀ c u,H c=some u→c≠b:=fun c u e z=>by rw[z,fb.1] at e;cases e
 refine I.step (g':=s.gens) (d':=s.drawn) (ch:=[a,b]) (fun c hc=>?_) (fun c o _ _ hc e _=>k c o (fun z=>hc (by simp[z])) (fun z=>hc (by simp[z])) e) (fun c o _ _ hc e _=>⟨o.slots,k c o (fun z=>hc (by simp[z])) (fun z=>hc (by simp[z])) e⟩) (fun _ _ _ _ n=>n)
  (fun c o hc e=>⟨o,k c o (fun z=>hc (by simp[z])) (fun z=>hc (by simp[z])) e⟩) (fun _ _ e=>e) (fun _ _ _ e=>e) (fun c ps e=>⟨#[],by rw[e];simp⟩) (fun m hm=>?_) (fun c u e=>?_) I.bare
 ·simp only[List.mem_cons,List.not_mem_nil,or_false] at hc
  rcases hc with rfl | rfl
  ·exact⟨fa.2.2.2.1,fa.2.1,fa.2.2.2.2.1,fa.2.2.2.2.2⟩
  ·exact⟨fb.2.2.2.1,fb.2.1,fb.2.2.2.2.1,fb.2.2.2.2.2⟩
 ·obtain⟨o,es,ep,ho,r⟩:=hm
  exact⟨o,es,ep,k _ o (Ne.symm fa.2.1) (Ne.symm fb.2.1) ho,r⟩
 ·refine(I.hok c u e).stay (fun d v hd q=>k d v ?_ ?_ q) (fun _ q=>q) fun _ _ q=>q
  ·rcases hd with z | z
   ·rw[z];exact na c u e
   ·exact na d _ z
  ·rcases hd with z | z
   ·rw[z];exact nb c u e
   ·exact nb d _ z
end
def Ite (K:PySem.W.Frag) (a:Addr):It:=
 ⟨fun i H=>∃ xs x,SqL K H a xs∧xs[i]? = some x,fun i H v H'=>∃ p x,H p=none∧v = .ref p∧H'=upd H p (.tup [.int (i:Int),x])∧∀ xs,SqL K H a xs→xs[i]? = some x,fun i H=>∃ xs,SqL K H a xs∧xs.length≤i⟩
theorem a93 {P:Program}{w:World}{K:PySem.W.Frag}{elts:List Expr}{x1} {pos:Pos}(a e it:Addr) (hne:e≠it):Turn P w K (.Tuple elts x1 pos) (Ite K a) [e,it] e (fun i h=>(∃ old,IsEnum h e it ((i:Nat):Int) old)∧h.IsListIter it a i) where
 mem:=by simp
 obj:=fun i h st b hb=>by
  obtain⟨⟨old,he⟩,hi⟩:=st
  simp only[List.mem_cons,List.not_mem_nil,or_false] at hb
  rcases hb with rfl | rfl
  ·exact⟨_,he,fun v z=>by
    have z':Data.fields _=Data.cell v:=z
    cases z'⟩
  ·obtain⟨o,q,c,d⟩:=hi
   exact⟨o,q,fun v z=>by rw[d] at z;cases z⟩
 keep:=fun i h h' st k=>⟨let ⟨old,he⟩:=st.1;⟨old,k e (by simp) _ he⟩,st.2.at fun o q=>k it (by simp) o q⟩
 item:=by
  intro X hP hw hK hc i pins s σ H E I hf st hg
  subst hP hw hK
  obtain⟨xs,x,hq,hx⟩:=hg
  obtain⟨⟨old,he⟩,hit⟩:=st
  obtain⟨its,rv,p,hz⟩:=I.list hq
  obtain⟨u,hu,ru⟩:=rv.get hx
  have fe:=hf e (by simp)
  have fi:=hf it (by simp)
  have hx':its.toArray[i]? = some u:=by simpa using hu
  have hes:e<s.heap.objs.size:=Heap.lt_size he
  have his:it<s.heap.objs.size:=by obtain⟨o,q,_⟩:=id hit;exact Heap.lt_size q
  refine wpAny_pyNext_enum_item he hit p.isList hx' hne fun h₁ heo hit₁ ht₁ hz₁ hk₁=>?_
  refine⟨_,rfl,wpAny_letOwnedTupleGo_enum heo fun h₂ he₂ hs₂=>?_⟩
  replace hs₂:Heap.SameBut e h₁ h₂:=hs₂
  have hn:H s.heap.objs.size=none:=I.hok.fresh (Nat.le_refl _)
  have I1:Inv X pins σ (upd H s.heap.objs.size (.tup [.int (i:Int),x])) { s with heap:=s.heap.push { cls:=.type "tuple",data:=.seq #[.int i s.toks,u] },toks:=s.toks }:=
   I.laid (t':=s.toks) (fun b o q=>Heap.get?_push_of_some _ q) (Nat.le_refl _) ⟨by show 2≤sizeLine;decide,[.int i s.toks,u],.cons ⟨_,rfl⟩ (.cons ru .nil),⟨_,Heap.get?_push_size _ rfl,rfl,_,rfl⟩⟩
  have up:∀ b,b<s.heap.objs.size→G5 X pins H b→G5 X pins (upd H s.heap.objs.size (.tup [.int (i:Int),x])) b:=fun b hb f=>⟨by rw[u3 (Nat.ne_of_lt hb)];exact f.1,f.2⟩
  have I2:=I1.turned2 (h':=h₂) (t':=s.toks+1) (a:=e) (b:=it) (fun c o ce ci q=>by
   rcases Heap.get?_push_cases q with ⟨rfl,rfl⟩ | q1
   ·exact(hs₂.2 _ ce).trans ht₁
   ·exact(hs₂.2 _ ce).trans (hk₁ c o ce ci q1)) (up e hes fe) (up it his fi)
  refine⟨.ref s.heap.objs.size,_,I2,rfl,⟨_,x,hn,rfl,rfl,fun ys hy=>by rw[I.list_inj hy hq];exact hx⟩,⟨⟨u,?_⟩,hit₁.extBut hs₂.extBut (Ne.symm hne)⟩,fun b hb=>?_⟩
  ·have:((i+1:Nat):Int)=(i:Int)+1:=by push_cast;rfl
   rw[this];exact he₂
  ·simp only[List.mem_cons,List.not_mem_nil,or_false] at hb
   rcases hb with rfl | rfl
   ·exact(up _ hes fe).1
   ·exact(up _ his fi).1
 done:=by
  intro X hP hw hK hc i pins s σ H E I hf st hg
  subst hP hw hK
  obtain⟨xs,hq,hx⟩:=hg
  obtain⟨⟨old,he⟩,hit⟩:=st
  obtain⟨its,rv,p,hz⟩:=I.list hq
  obtain⟨f0,f1,f2,f3,f4,f5⟩:=hf it (by simp)
  have hl:=rv.length
  exact wpAny_pyNext_enum_end (I.ok.hd hc) he hit p.isList (by simp;omega) fun h' eb=>⟨rfl,I.turned (t':=s.toks) (fun b o hb q=>eb b o hb q) f0 f1 f3 f4 f5⟩
 self:=fun _ _ _ _ _ st h=>by obtain⟨⟨old,he⟩,_⟩:=st;exact wpAny_pyIter_enum he h
section
variable {X:Cx}
def b2P (K:PySem.W.Frag) (ta:TA):TI:=fun σ H R=>ta σ H fun vs H1=>∃ a,vs=[.ref a]∧(∃ xs,SqL K H1 a xs)∧R (Ite K a) H1
theorem b1H:bootBuiltins ("enumerate" : Str)=some (.type "enumerate"):=by decide +kernel
theorem b4Y {a:Expr}{ta:TA}{p pos pt:Pos}{elts:List Expr}{x1} (hg:Gl X "enumerate") (hm:X.mg "enumerate" = none) (ha:PA X [a] ta) (hs:starEach [a] X.env=[(false,eval a X.env)]:=by rfl):PI X (.Tuple elts x1 pt) (.Call (.Name "enumerate" p) [a] [] pos) (b2P X.K ta):=by
 intro pins s σ H R I h
 refine Call_ (X9 I hg hm b1H (PyProof.Rows.callWith_type1 (thn (ha pos pins s σ H _ I h) fun us s1 ⟨vs,H1,I1,r1,q1⟩=>?_) hs rfl))
 obtain⟨l,e,⟨xs,hq⟩,q⟩:=q1
 subst e
 cases r1 with
 |cons r rr=>
  cases rr
  cases r
  obtain⟨its,rv,pp,hz⟩:=I1.list hq
  refine call_enumerate_list pp.isList fun h' he hit hsz hk=>wpAny_pyIter_enum he ?_
  refine⟨s1.heap.objs.size+1,[s1.heap.objs.size+1,s1.heap.objs.size],_,_,H1,rfl,I1.kept (t':=s1.toks) hk,a93 l (s1.heap.objs.size+1) s1.heap.objs.size (Nat.succ_ne_self _),⟨⟨_,he⟩,hit⟩,fun b hb=>?_,q⟩
  simp only[List.mem_cons,List.not_mem_nil,or_false] at hb
  rcases hb with rfl | rfl
  ·exact I1.fpOk (Nat.le_succ _) (I1.hok.fresh (Nat.le_succ _))
  ·exact I1.fpOk (Nat.le_refl _) (I1.hok.fresh (Nat.le_refl _))
theorem b16 {K:PySem.W.Frag}{a:Addr}{xs:List V}{g:TG}{tb:TS}{D:Ends}{σ:St}{H:Hp}(Pv:Nat→St→Hp→Prop) (h0:Pv 0 σ H) (hl:∀ i σ H,i≤xs.length→Pv i σ H→SqL K H a xs)
  (hs:∀ i x p σ H,xs[i]? = some x→H p=none→Pv i σ H→g (.ref p) σ (upd H p (.tup [.int (i:Int),x])) fun σ2 H2=>tb { D with nx:=Pv (i+1),ct:=Pv (i+1),bk:=D.nx } σ2 H2) (hd:∀ σ H,Pv xs.length σ H→D.nx σ H) :
  ∃ W:Nat→Nat→St→Hp→Prop,(∃ m,W 0 m σ H)∧∀ i m σ H,W i m σ H →
   ((Ite K a).stop i H∧D.nx σ H)∨((Ite K a).go i H∧∃ N:St→Hp→Prop,(∀ σ' H',N σ' H'→∃ m',m'<m∧W (i+1) m' σ' H')∧∀ x H',(Ite K a).yld i H x H'→g x σ H' fun σ2 H2=>tb { D with nx:=N,ct:=N,bk:=D.nx } σ2 H2):=by
 refine⟨fun i m σ H=>m=xs.length - i∧i≤xs.length∧Pv i σ H,⟨xs.length,by simp,Nat.zero_le _,h0⟩,?_⟩
 rintro i m σ H ⟨rfl,hi,p⟩
 have q:=hl i σ H hi p
 by_cases hlt:i<xs.length
 ·refine .inr ⟨⟨xs,xs[i],q,by simp[hlt]⟩,Pv (i+1),fun σ' H' p'=>⟨xs.length - (i+1),by omega,rfl,hlt,p'⟩,fun v H' y=>?_⟩
  obtain⟨pp,x,hp,rfl,rfl,y⟩:=y
  exact hs i x pp σ _ (y xs q) hp p
 ·have e:i=xs.length:=by omega
  subst e
  exact .inl ⟨⟨xs,q,Nat.le_refl _⟩,hd σ H p⟩
end
end L2
namespace DL
open PySem PySem.Spec L2 PyProof.Rows
def M6 (ds:List D):List D:=ds.zipIdx.map fun p=>.tup [.int (p.2:Int),p.1]
theorem a6Q {ds:List D}{i:Nat}{d:D}(h:ds[i]? = some d):(M6 ds)[i]? = some (.tup [.int (i:Int),d]):=by
 unfold M6
 rw[List.getElem?_map,List.getElem?_zipIdx,h]
 simp
def a0N (f:DA) (t:D→DS→Option DS) (b:DM):DM:=fun s=>(f s).bind fun x=>match x.1 with
 |[.lst ds]=>u7 t b (M6 ds) x.2
 |_=>none
def a0O (s:DS) (i:Nat):Option (List D):=match s.sl[i]? with
 |some (.own ds)=>some ds
 |_=>none
theorem a65 {s:DS}{i:Nat}{ds:List D}(h:a0O s i=some ds):s.sl[i]? = some (.own ds):=by
 unfold a0O at h
 cases q:s.sl[i]? with
 |none=>rw[q] at h;cases h
 |some z=>
  rw[q] at h
  cases z with
  |own ds=>cases h;rfl
  |no=>cases h
  |val _=>cases h
theorem b1o {f:DA}{t:D→DS→Option DS}{b:DM}{s:DS}{r:Fl × DS}(q:a0N f t b s=some r):∃ ds s1,f s=some ([.lst ds],s1)∧u7 t b (M6 ds) s1=some r:=by
 refine v3 q fun xs s1 h1 h2=>?_
 cases xs with
 |nil=>cases h2
 |cons d xs=>
  cases xs with
  |cons _ _=>cases d <;> cases h2
  |nil=>
   cases d with
   |lst ds=>exact⟨ds,s1,h1,h2⟩
   |_=>cases h2
section
variable {X:Cx}{g:Gh}{e:Expr}{body:List Stmt}{f:DA}{t:D→DS→Option DS}{b:DM}{pos p1 p2 pt:Pos}{elts:List Expr}{x1:Nat}
theorem b5p (hp:PassesOwn (model X.prog X.w) X.A X.env X.xe) (hc:X.calm=true) (hgl:Gl X "enumerate") (hm:X.mg "enumerate" = none) (he:AO X g [e] f) (hg:GO X g (.Tuple elts x1 pt) t) (hb:SSO X g body b)
  (hst:starEach [e] X.env=[(false,eval e X.env)]:=by rfl) (hs:∀ x,foldedSetIterable (.Call (.Name "enumerate" p1) [e] [] p2) X.env x=pure x:=by intro _;rfl) :
  SO X g (.For (.Tuple elts x1 pt) (.Call (.Name "enumerate" p1) [e] [] p2) body [] pos) (a0N f t b):=SO.w (a1d hp hc (b4Y hgl hm he.pe hst) hg.pe hb.pe hs) fun E σ H hQ=>by
 refine hQ.elim fun fa O s fl sf I q k=>?_
 obtain⟨ds,s1,h1,h2⟩:=b1o q
 refine⟨fa,O,s,_,s1,I,h1,fun vs H1 f1 O1 a1 I1 r=>?_⟩
 have k1:=k.shift a1.stp
 ·simp only[Reps,Rep] at r
  obtain⟨v,ys,rfl,⟨a,xs,rfl,na,q,w⟩,rfl⟩:=r
  refine⟨a,rfl,⟨xs,SqL.of q⟩,b16 (xs:=xs) (PvD X.K g f1 O1 H1 t b (M6 ds) fl sf) ⟨f1,O1,s1,Stp.refl,I1,h2⟩ ?_ ?_ ?_⟩
  ·rintro i σ' H' _ ⟨fa',O',s',st,I',e⟩
   exact SqL.of ((I1.car st).ls a xs na q).1
  ·intro i x p σ' H' hx hpn h
   obtain⟨d,hd,rd⟩:=Reps.get' w hx
   have h':PvD X.K g f1 O1 H1 t b (M6 ds) fl sf i σ' (upd H' p (.tup [.int (i:Int),x])):=by
    obtain⟨fa',O',s',st,I',e⟩:=h
    exact⟨fa',O',s',st.trans (E4 hpn).stp,I'.new hpn,e⟩
   refine a0z k1 (a6Q hd) (fun fa' O' st=>?_) h'
   simp only[Rep,Reps]
   exact⟨p,[.int (i:Int),x],rfl,SqT.of B9,_,_,rfl,rfl,_,_,rfl,Rep.stp I1 st rd,rfl⟩
  ·intro σ' H' h
   refine a0E k1 ?_ h
   unfold M6
   rw[List.length_map,List.length_zipIdx,w.length]
   exact Nat.le_refl _
end
end DL
namespace L2
open PySem PySem.Spec PyProof.Rows
section
variable {X:Cx}{pins:List (Addr × Obj)}{σ:List (Option V)}{H:Hp}{s:Shared}{h':Heap}
theorem Inv.turnedL {t':Nat}{ch:List Addr}(I:Inv X pins σ H s) (k:∀ c o,c ∉ ch→s.heap.get? c=some o→h'.get? c=some o) (f:∀ b∈ch,G5 X pins H b):Inv X pins σ H { s with heap:=h',toks:=t' }:=by
 have nn:∀ c u,H c=some u→c ∉ ch:=fun c u e hc=>by rw[(f c hc).1] at e;cases e
 refine I.step (g':=s.gens) (d':=s.drawn) (ch:=ch) (fun c hc=>⟨(f c hc).2.2.2.1,(f c hc).2.1,(f c hc).2.2.2.2.1,(f c hc).2.2.2.2.2⟩) (fun c o _ _ hc e _=>k c o hc e) (fun c o _ _ hc e _=>⟨o.slots,k c o hc e⟩) (fun _ _ _ _ n=>n)
  (fun c o hc e=>⟨o,k c o hc e⟩) (fun _ _ e=>e) (fun _ _ _ e=>e) (fun c ps e=>⟨#[],by rw[e];simp⟩) (fun m hm=>?_) (fun c u e=>?_) I.bare
 ·obtain⟨o,es,ep,ho,r⟩:=hm
  exact⟨o,es,ep,k _ o (fun z=>(f _ z).2.1 rfl) ho,r⟩
 ·refine(I.hok c u e).stay (fun d v hd q=>k d v ?_ q) (fun _ q=>q) fun _ _ q=>q
  rcases hd with z | z
  ·rw[z];exact nn c u e
  ·exact nn d _ z
end
end L2
namespace DL
open PySem PySem.Spec L2 PyProof.Rows
def SqB (K:PySem.W.Frag) (t:Bool) (H:Hp) (a:Addr) (xs:List V):Prop:=if t then SqT K H a xs else SqL K H a xs
def RwI (t:Bool) (h:Heap) (i l:Addr) (k:Nat):Prop:=if t then h.IsTupleIter i l k else h.IsListIter i l k
theorem RwI.it {t:Bool}{h:Heap}{i l:Addr}{xs:Array Value}{k:Nat}(x:RwI t h i l k) (y:RwB t h l xs):RwIt h i l xs k:=by
 cases t with
 |true=>exact .inr ⟨x,y⟩
 |false=>exact .inl ⟨x,y⟩
theorem RwI.at {t:Bool}{h h':Heap}{i l:Addr}{k:Nat}(x:RwI t h i l k) (e:∀ o,h.get? i=some o→h'.get? i=some o):RwI t h' i l k:=by
 cases t with
 |true=>obtain⟨o,q,r⟩:=x;exact⟨o,e o q,r⟩
 |false=>obtain⟨o,q,r⟩:=x;exact⟨o,e o q,r⟩
theorem RwI.ob {t:Bool}{h:Heap}{i l:Addr}{k:Nat}(x:RwI t h i l k):∃ o,h.get? i=some o∧∀ v,o.data ≠ .cell v:=by
 cases t with
 |true=>obtain⟨o,q,c,d⟩:=x;exact⟨o,q,fun v z=>by rw[d] at z;cases z⟩
 |false=>obtain⟨o,q,c,d⟩:=x;exact⟨o,q,fun v z=>by rw[d] at z;cases z⟩
theorem RwIt.kind {t:Bool}{h:Heap}{i l:Addr}{xs ys:Array Value}{k:Nat}(x:RwIt h i l xs k) (y:RwB t h l ys):RwI t h i l k:=by
 cases t with
 |true=>
  rcases x with ⟨_,o,q,c,_⟩ | ⟨x,_⟩
  ·obtain⟨o',q',c',_⟩:=y
   rw[q] at q';cases q'
   rw[c] at c'
   exact absurd c' (by decide)
  ·exact x
 |false=>
  rcases x with ⟨x,_⟩ | ⟨_,o,q,c,_⟩
  ·exact x
  ·obtain⟨o',q',c',_⟩:=y
   rw[q] at q';cases q'
   rw[c] at c'
   exact absurd c' (by decide)
theorem Z6 {X:Cx}{pins:List (Addr × Obj)}{σ:List (Option V)}{H:Hp}{s:Shared}{t:Bool}(I:Inv X pins σ H s) {p:Addr}{xs:List V}(h:SqB X.K t H p xs):∃ its:List Value,Vals xs its∧RwB t s.heap p its.toArray∧xs.length≤sizeLine:=by
 cases t with
 |false=>
  obtain⟨its,r,⟨o,n,e,c,_,d⟩,z⟩:=I.list h
  exact⟨its,r,⟨o,e,c,n,d⟩,z⟩
 |true=>
  obtain⟨its,r,⟨o,e,c,n,d⟩,z⟩:=I.tuple h
  exact⟨its,r,⟨o,e,c,n,d⟩,z⟩
theorem a64 {X:Cx}{pins:List (Addr × Obj)}{σ:List (Option V)}{H:Hp}{s:Shared}{t:Bool}(I:Inv X pins σ H s) {p:Addr}{xs ys:List V}(h:SqB X.K t H p xs) (h':SqB X.K t H p ys):xs=ys:=by
 cases t with
 |false=>exact I.list_inj h h'
 |true=>exact I.tuple_inj h h'
section
variable {prog:Program}{w:World}{A:Around}{E:Value→Shared→Prop}{s:Shared}{z TI TO i1 i2 l1 l2:Addr}{xs ys:Array Value}{k:Nat}
theorem b5u {x y a b:Value}{Q:Option Value→Shared→Prop}(D:ZipApart z TI TO i1 i2 l1 l2) (hz:C8 s.heap z TI TO .none (.bool false)) (hTI:IsPair s.heap TI (.ref i1) (.ref i2)) (hTO:IsPair s.heap TO a b) (h1:RwIt s.heap i1 l1 xs k) (h2:RwIt s.heap i2 l2 ys k) (hx:xs[k]? = some x) (hy:ys[k]? = some y)
  (hQ:∀ h',C8 h' z TI TO (rawInt s.heap.objs.size) (.bool false)→RwIt h' i1 l1 xs (k+1)→RwIt h' i2 l2 ys (k+1)→IsPair h' s.heap.objs.size x y →
   (∀ c o,c≠z→c≠TO→c≠i1→c≠i2→s.heap.get? c=some o→h'.get? c=some o)→IsPair h' TO x y→Q (some (.ref s.heap.objs.size)) { s with heap:=h' }):wpAny (model prog w) A (pyNext (.ref z)) Q E s:=by
 unfold pyNext
 have tz:s.TypeIs (.ref z) "zip" := ⟨_,hz,rfl⟩
 exact wpAny_bind (wpAny_attempt (wpAny_callSpecial?_slot (name:=Str.ofString "__next__") tz PySem.F.slot_zip_next (wpAny_call_entry PySem.F.slot_zip_next tz PySem.F.entry_zip_next
  (a8z D hz hTI hTO h1 h2 hx hy fun h' a1 a2 a3 a4 a5 a6=>wpAny_pure (hQ h' a1 a2 a3 a4 a5 a6)) (PySem.F.args_zip_next_1 _))))
theorem b1B {a b:Value}{Q:Option Value→Shared→Prop}(hh:A.handled=none) (D:ZipApart z TI TO i1 i2 l1 l2) (hz:C8 s.heap z TI TO .none (.bool false)) (hTI:IsPair s.heap TI (.ref i1) (.ref i2)) (hTO:IsPair s.heap TO a b) (h1:RwIt s.heap i1 l1 xs k) (h2:RwIt s.heap i2 l2 ys k) (hend:xs[k]? = none∨ys[k]? = none)
  (hQ:∀ h',(∀ c o,c≠z→c≠TO→c≠i1→c≠i2→s.heap.get? c=some o→h'.get? c=some o)→Q none { s with heap:=h' }):wpAny (model prog w) A (pyNext (.ref z)) Q E s:=by
 unfold pyNext
 have tz:s.TypeIs (.ref z) "zip" := ⟨_,hz,rfl⟩
 refine wpAny_bind (wpAny_attempt (wpAny_callSpecial?_slot (name:=Str.ofString "__next__") tz PySem.F.slot_zip_next (wpAny_call_entry PySem.F.slot_zip_next tz PySem.F.entry_zip_next (a6R hh D hz hTI hTO h1 h2 hend fun h' e hk he=>?_) (PySem.F.args_zip_next_1 _))))
 obtain⟨o,ho,hc⟩:=he
 refine wpAny_bind (wpAny_isInstance (T := "StopIteration") (b:=true) ⟨o,ho,hc⟩ isSubtype_stop ?_)
 exact wpAny_pure (hQ _ hk)
theorem b27 {elts:List Expr}{x1} {pos:Pos}{a:Addr}{Q:Unit→Shared→Prop}(hz:C8 s.heap z TI TO (rawInt a) (.bool false))
  (hQ:∀ h',C8 h' z TI TO .none (.bool false)→Heap.SameBut z s.heap h'→Q () { s with heap:=h' }):wpAny (model prog w) A (letOwnedTupleGo (.Tuple elts x1 pos) (.ref z) (.ref a)) Q E s:=by
 unfold letOwnedTupleGo
 refine wpAny_bind (wpAny_load hz ?_)
 show wpAny _ A (if (["enumerate", "zip", "dict_itemiterator", "dict_reverseitemiterator", "odict_iterator", "itertools.zip_longest", "itertools.pairwise"].contains "zip" &&
   (#[rawInt a,.bool false,.bool false,.ref TI,.ref TO]:Array Value)[0]? == some (rawInt a))=true then _ else _) Q E s
 rw[if_pos (by simp)]
 refine wpAny_bind (wpAny_rule ?_)
 show wpAny _ A (setField (.ref z) 0 .none) Q E s
 exact wpAny_setField_rec hz (by simp) fun h' he' hs'=>hQ h' he' hs'
end
def Itz (K:PySem.W.Frag) (t u:Bool) (a b:Addr):It:=
 ⟨fun i H=>∃ xs ys x y,SqB K t H a xs∧SqB K u H b ys∧xs[i]? = some x∧ys[i]? = some y,fun i H v H'=>∃ p x y,H p=none∧v = .ref p∧H'=upd H p (.tup [x,y])∧(∀ xs,SqB K t H a xs→xs[i]? = some x)∧∀ ys,SqB K u H b ys→ys[i]? = some y,fun i H=>∃ xs ys,SqB K t H a xs∧SqB K u H b ys∧(xs.length≤i∨ys.length≤i)⟩
def Ztn (t u:Bool) (z TI TO i1 i2 a b:Addr) (i:Nat) (h:Heap):Prop:=C8 h z TI TO .none (.bool false)∧IsPair h TI (.ref i1) (.ref i2)∧(∃ x y,IsPair h TO x y)∧RwI t h i1 a i∧RwI u h i2 b i
theorem a9y {P:Program}{w:World}{K:PySem.W.Frag}{elts:List Expr}{x1} {pos:Pos}{t u:Bool}{z TI TO i1 i2 a b:Addr}(D:ZipApart z TI TO i1 i2 a b):Turn P w K (.Tuple elts x1 pos) (Itz K t u a b) [z,TI,TO,i1,i2] z (Ztn t u z TI TO i1 i2 a b) where
 mem:=by simp
 obj:=fun i h st c hc=>by
  obtain⟨hz,ti,⟨x,y,ho⟩,r1,r2⟩:=st
  simp only[List.mem_cons,List.not_mem_nil,or_false] at hc
  rcases hc with rfl | rfl | rfl | rfl | rfl
  ·exact⟨_,hz,fun v q=>by
    have q':Data.fields _=Data.cell v:=q
    cases q'⟩
  ·exact⟨_,ti,fun v q=>by
    have q':Data.seq _ _=Data.cell v:=q
    cases q'⟩
  ·exact⟨_,ho,fun v q=>by
    have q':Data.seq _ _=Data.cell v:=q
    cases q'⟩
  ·exact r1.ob
  ·exact r2.ob
 keep:=fun i h h' st k=>by
  obtain⟨hz,ti,⟨x,y,ho⟩,r1,r2⟩:=st
  exact⟨k z (by simp) _ hz,k TI (by simp) _ ti,⟨x,y,k TO (by simp) _ ho⟩,r1.at fun o q=>k i1 (by simp) o q,r2.at fun o q=>k i2 (by simp) o q⟩
 item:=by
  intro X hP hw hK hc i pins s σ H E I hf st hg
  subst hP hw hK
  obtain⟨xs,ys,x,y,q1,q2,hx,hy⟩:=hg
  obtain⟨hz,ti,⟨o1,o2,ho⟩,r1,r2⟩:=st
  obtain⟨its,rv,w1,_⟩:=Z6 I q1
  obtain⟨jts,rw_,w2,_⟩:=Z6 I q2
  obtain⟨p,hp,rp⟩:=rv.get hx
  obtain⟨q,hq,rq⟩:=rw_.get hy
  have hx':its.toArray[i]? = some p:=by simpa using hp
  have hy':jts.toArray[i]? = some q:=by simpa using hq
  have lz:∀ c∈[z,TI,TO,i1,i2],c<s.heap.objs.size:=fun c hc=>by
   simp only[List.mem_cons,List.not_mem_nil,or_false] at hc
   rcases hc with rfl | rfl | rfl | rfl | rfl
   ·exact Heap.lt_size hz
   ·exact Heap.lt_size ti
   ·exact Heap.lt_size ho
   ·obtain⟨o,e,_⟩:=r1.ob;exact Heap.lt_size e
   ·obtain⟨o,e,_⟩:=r2.ob;exact Heap.lt_size e
  refine b5u D hz ti ho (r1.it w1) (r2.it w2) hx' hy' fun h1 a1 a2 a3 a4 a5 a6=>?_
  refine⟨_,rfl,b27 a1 fun h2 hz2 hs2=>?_⟩
  replace hs2:Heap.SameBut z h1 h2:=hs2
  have hn:H s.heap.objs.size=none:=I.hok.fresh (Nat.le_refl _)
  have I1:Inv X pins σ (upd H s.heap.objs.size (.tup [x,y])) { s with heap:=s.heap.push { cls:=.type "tuple",data:=.seq #[p,q] },toks:=s.toks }:=
   I.laid (t':=s.toks) (fun b o q=>Heap.get?_push_of_some _ q) (Nat.le_refl _) ⟨by show 2≤sizeLine;decide,[p,q],.cons rp (.cons rq .nil),⟨_,Heap.get?_push_size _ rfl,rfl,_,rfl⟩⟩
  have up:∀ c,c<s.heap.objs.size→G5 X pins H c→G5 X pins (upd H s.heap.objs.size (.tup [x,y])) c:=fun c hc f=>⟨by rw[u3 (Nat.ne_of_lt hc)];exact f.1,f.2⟩
  have k2:∀ c o,c≠z→c≠TO→c≠i1→c≠i2→s.heap.get? c=some o→h2.get? c=some o:=fun c o c1 c2 c3 c4 e=>(hs2.2 _ c1).trans (a5 c o c1 c2 c3 c4 e)
  have I2:=I1.turnedL (h':=h2) (t':=s.toks) (ch:=[z,TO,i1,i2]) (fun c o hc e=>by
   simp only[List.mem_cons,List.not_mem_nil,or_false,not_or] at hc
   rcases Heap.get?_push_cases e with ⟨rfl,rfl⟩ | e1
   ·exact(hs2.2 _ hc.1).trans a4
   ·exact k2 c o hc.1 hc.2.1 hc.2.2.1 hc.2.2.2 e1) (fun c hc=>by
   have hc':c∈[z,TI,TO,i1,i2]:=by
    simp only[List.mem_cons,List.not_mem_nil,or_false] at hc ⊢
    rcases hc with h | h | h | h <;> simp[h]
   exact up c (lz c hc') (hf c hc'))
  have wa:RwB t h1 a its.toArray:=w1.at fun o e=>a5 a o D.l1z D.l1TO D.l1i1 D.l1i2 e
  have wb:RwB u h1 b jts.toArray:=w2.at fun o e=>a5 b o D.l2z D.l2TO D.l2i1 D.l2i2 e
  refine⟨.ref s.heap.objs.size,_,I2,rfl,⟨_,x,y,hn,rfl,rfl,fun xs' h=>by rw[a64 I h q1];exact hx,fun ys' h=>by rw[a64 I h q2];exact hy⟩,⟨hz2,k2 _ _ D.TIz D.TITO D.TIi1 D.TIi2 ti,⟨p,q,(hs2.2 _ D.TOz).trans a6⟩,(a2.kind wa).at fun o e=>(hs2.2 _ D.i1z).trans e,(a3.kind wb).at fun o e=>(hs2.2 _ D.i2z).trans e⟩,fun c hc=>(up c (lz c hc) (hf c hc)).1⟩
 done:=by
  intro X hP hw hK hc i pins s σ H E I hf st hg
  subst hP hw hK
  obtain⟨xs,ys,q1,q2,hl⟩:=hg
  obtain⟨hz,ti,⟨o1,o2,ho⟩,r1,r2⟩:=st
  obtain⟨its,rv,w1,_⟩:=Z6 I q1
  obtain⟨jts,rw_,w2,_⟩:=Z6 I q2
  have e1:=rv.length
  have e2:=rw_.length
  refine b1B (I.ok.hd hc) D hz ti ho (r1.it w1) (r2.it w2) (by
   rcases hl with h | h
   ·exact .inl (by simp;omega)
   ·exact .inr (by simp;omega)) fun h' k=>⟨rfl,I.turnedL (t':=s.toks) (ch:=[z,TO,i1,i2]) (fun c o hc e=>by
    simp only[List.mem_cons,List.not_mem_nil,or_false,not_or] at hc
    exact k c o hc.1 hc.2.1 hc.2.2.1 hc.2.2.2 e) fun c hc=>hf c (by
    simp only[List.mem_cons,List.not_mem_nil,or_false] at hc ⊢
    rcases hc with h | h | h | h <;> simp[h])⟩
 self:=fun A i s Q E st hQ=>by
  have tz:s.TypeIs (.ref z) "zip" := ⟨_,st.1,rfl⟩
  refine wpAny_pyIter_slot tz PySem.F.slot_zip_iter (wpAny_call_entry PySem.F.slot_zip_iter tz PySem.F.entry_zip_iter ?_ (PySem.F.args_zip_iter_1 _))
  show wpAny _ _ (ret (.ref z)) _ _ s
  exact wpAny_pure ⟨_,rfl, "zip",_,tz,PySem.F.slot_zip_next.lookup,hQ⟩
section
variable {X:Cx}
def a9r (K:PySem.W.Frag) (ta:TA):TI:=fun σ H R=>ta σ H fun vs H1=>∃ a b t u,vs=[.ref a,.ref b]∧(∃ xs,SqB K t H1 a xs)∧(∃ ys,SqB K u H1 b ys)∧R (Itz K t u a b) H1
theorem b2v {e:Expr}{es:List Expr}{ta:TA}{p pos pt:Pos}{elts:List Expr}{x1} (hg:Gl X "zip") (hm:X.mg "zip" = none) (ha:PA X (e::es) ta) (he:starEach (e::es) X.env=(false,eval e X.env)::starEach es X.env:=by rfl) (hpl:(backTo pos (starEach es X.env)).any (·.1)=false:=by rfl) :
  PI X (.Tuple elts x1 pt) (.Call (.Name "zip" p) (e::es) [] pos) (a9r X.K ta):=by
 intro pins s σ H R I h
 refine wpAny_Call_Name_kw (X9 I hg hm (show bootBuiltins ("zip" : Str)=some (.type "zip") by decide +kernel) ?_ (by decide) (by decide))
 refine PyProof.Rows.callWith_type1 (thn (ha pos pins s σ H _ I h) fun us s1 ⟨vs,H1,I1,r1,q1⟩=>?_) he hpl
 obtain⟨a,b,t,u,rfl,⟨xs,qa⟩,⟨ys,qb⟩,k⟩:=q1
 obtain⟨u1,u2,rfl,e1,e2⟩:∃ u1 u2,us=[u1,u2]∧u1=Value.ref a∧u2=Value.ref b:=by
  cases r1 with
  |cons h1 r1=>
   cases r1 with
   |cons h2 r1=>cases r1;exact⟨_,_,rfl,h1,h2⟩
 subst e1;subst e2
 obtain⟨it,rx,wa,za⟩:=Z6 I1 qa
 obtain⟨jt,ry,wb,zb⟩:=Z6 I1 qb
 refine a50 wa wb fun h1 _ k1 Z=>?_
 obtain⟨D,g1,g2,g3,g5,x1,x2,g4⟩:=Z
 have tz:({ s1 with heap:=h1 }:Shared).TypeIs (.ref (s1.heap.objs.size+4)) "zip" := ⟨_,g5,rfl⟩
 refine wpAny_pyIter_slot tz PySem.F.slot_zip_iter (wpAny_call_entry PySem.F.slot_zip_iter tz PySem.F.entry_zip_iter ?_ (PySem.F.args_zip_iter_1 _))
 show wpAny _ _ (ret (.ref (s1.heap.objs.size+4))) _ _ _
 refine wpAny_pure ⟨_,rfl, "zip",_,tz,PySem.F.slot_zip_next.lookup,?_⟩
 refine⟨s1.heap.objs.size+4,[s1.heap.objs.size+4,s1.heap.objs.size+2,s1.heap.objs.size+3,s1.heap.objs.size,s1.heap.objs.size+1],_,_,H1,rfl,I1.kept (t':=s1.toks) k1,a9y (t:=t) (u:=u) D,⟨g5,g3,⟨x1,x2,g4⟩,?_,?_⟩,fun c hc=>?_,k⟩
 ·cases t with
  |true=>exact⟨_,g1,rfl,rfl⟩
  |false=>exact⟨_,g1,rfl,rfl⟩
 ·cases u with
  |true=>exact⟨_,g2,rfl,rfl⟩
  |false=>exact⟨_,g2,rfl,rfl⟩
 ·have hc:s1.heap.objs.size≤c:=by
   simp only[List.mem_cons,List.not_mem_nil,or_false] at hc
   rcases hc with h | h | h | h | h <;> rw[h] <;> omega
  exact I1.fpOk hc (I1.hok.fresh hc)
theorem b2R {K:PySem.W.Frag}{t u:Bool}{a b:Addr}{xs ys:List V}{g:TG}{tb:TS}{D:Ends}{σ:L2.St}{H:Hp}(Pv:Nat→L2.St→Hp→Prop) (h0:Pv 0 σ H) (hl:∀ i σ H,Pv i σ H→SqB K t H a xs∧SqB K u H b ys)
  (hs:∀ i x y p σ H,xs[i]? = some x→ys[i]? = some y→H p=none→Pv i σ H→g (.ref p) σ (upd H p (.tup [x,y])) fun σ2 H2=>tb { D with nx:=Pv (i+1),ct:=Pv (i+1),bk:=D.nx } σ2 H2) (hd:∀ σ H,Pv (min xs.length ys.length) σ H→D.nx σ H) :
  ∃ W:Nat→Nat→L2.St→Hp→Prop,(∃ m,W 0 m σ H)∧∀ i m σ H,W i m σ H →
   ((Itz K t u a b).stop i H∧D.nx σ H)∨((Itz K t u a b).go i H∧∃ N:L2.St→Hp→Prop,(∀ σ' H',N σ' H'→∃ m',m'<m∧W (i+1) m' σ' H')∧∀ x H',(Itz K t u a b).yld i H x H'→g x σ H' fun σ2 H2=>tb { D with nx:=N,ct:=N,bk:=D.nx } σ2 H2):=by
 refine⟨fun i m σ H=>m=min xs.length ys.length - i∧i≤min xs.length ys.length∧Pv i σ H,⟨min xs.length ys.length,by simp,Nat.zero_le _,h0⟩,?_⟩
 rintro i m σ H ⟨rfl,hi,p⟩
 obtain⟨q1,q2⟩:=hl i σ H p
 by_cases hlt:i<min xs.length ys.length
 ·have l1:i<xs.length:=by omega
  have l2:i<ys.length:=by omega
  refine .inr ⟨⟨xs,ys,xs[i],ys[i],q1,q2,by simp[l1],by simp[l2]⟩,Pv (i+1),fun σ' H' p'=>⟨min xs.length ys.length - (i+1),by omega,rfl,hlt,p'⟩,fun v H' y=>?_⟩
  obtain⟨pp,x,y,hp,rfl,rfl,y1,y2⟩:=y
  exact hs i x y pp σ _ (y1 xs q1) (y2 ys q2) hp p
 ·have e:i=min xs.length ys.length:=by omega
  refine .inl ⟨⟨xs,ys,q1,q2,by omega⟩,hd σ H ?_⟩
  rw[←e]
  exact p
end
def X0 (f:DA) (t:D→DS→Option DS) (b:DM):DM:=fun s=>(f s).bind fun x=>match x.1 with
 |[d1,d2]=>(M4 d1).bind fun xs=>(M4 d2).bind fun ys=>u7 t b (List.zipWith F4 xs ys) x.2
 |_=>none
theorem a5G {K:PySem.W.Frag}{N:Addr→Prop}{fa:Option Addr}{H:Hp}{d:D}{v:V}{ds:List D}(r:Rep K N fa H d v) (e:M4 d=some ds):∃ t a xs,v = .ref a∧SqB K t H a xs∧(t=false→¬ N a∧H a=some (.lst xs))∧Reps K N fa H ds xs:=by
 cases d with
 |tup es=>
  cases e
  simp only[Rep] at r
  obtain⟨a,ys,rfl,q,w⟩:=r
  exact⟨true,a,ys,rfl,q,fun z=>(by cases z),w⟩
 |lst es=>
  cases e
  simp only[Rep] at r
  obtain⟨a,ys,rfl,na,q,w⟩:=r
  exact⟨false,a,ys,rfl,SqL.of q,fun _=>⟨na,q⟩,w⟩
 |_=>cases e
theorem b5T {f:DA}{t:D→DS→Option DS}{b:DM}{s:DS}{r:Fl × DS}(q:X0 f t b s=some r):∃ d1 d2 xs ys s1,f s=some ([d1,d2],s1)∧M4 d1=some xs∧M4 d2=some ys∧u7 t b (List.zipWith F4 xs ys) s1=some r:=by
 refine v3 q fun as s1 h1 h2=>?_
 cases as with
 |nil=>cases h2
 |cons d1 as=>
  cases as with
  |nil=>cases h2
  |cons d2 as=>
   cases as with
   |cons _ _=>cases h2
   |nil=>
    refine M0 h2 fun xs e1 h2=>?_
    refine M0 h2 fun ys e2 h2=>?_
    exact⟨d1,d2,xs,ys,s1,h1,e1,e2,h2⟩
section
variable {X:Cx}{g:Gh}{e:Expr}{es:List Expr}{body:List Stmt}{f:DA}{t:D→DS→Option DS}{b:DM}{pos p1 p2 pt:Pos}{elts:List Expr}{x1:Nat}
theorem a6I (hp:PassesOwn (model X.prog X.w) X.A X.env X.xe) (hc:X.calm=true) (hgl:Gl X "zip") (hm:X.mg "zip" = none) (he:AO X g (e::es) f) (hg:GO X g (.Tuple elts x1 pt) t) (hb:SSO X g body b)
  (hst:starEach (e::es) X.env=(false,eval e X.env)::starEach es X.env:=by rfl) (hpl:(backTo p2 (starEach es X.env)).any (·.1)=false:=by rfl) (hs:∀ x,foldedSetIterable (.Call (.Name "zip" p1) (e::es) [] p2) X.env x=pure x:=by intro _;rfl) :
  SO X g (.For (.Tuple elts x1 pt) (.Call (.Name "zip" p1) (e::es) [] p2) body [] pos) (X0 f t b):=SO.w (a1d hp hc (b2v hgl hm he.pe hst hpl) hg.pe hb.pe hs) fun E σ H hQ=>by
 refine hQ.elim fun fa O s fl sf I q k=>?_
 obtain⟨d1,d2,xs1,ys1,s1,h1,e1,e2,h2⟩:=b5T q
 refine⟨fa,O,s,_,s1,I,h1,fun vs H1 f1 O1 a1 I1 r=>?_⟩
 have k1:=k.shift a1.stp
 ·simp only[Reps] at r
  obtain⟨v1,zs,rfl,r1,v2,zs',rfl,r2,rfl⟩:=r
  obtain⟨ta,a,vs,rfl,q1,c1,w1⟩:=a5G r1 e1
  obtain⟨tb,c,us,rfl,q2,c2,w2⟩:=a5G r2 e2
  have stay:∀ {t:Bool}{p:Addr}{xs:List V}{fa' O' H'},Stp f1 O1 H1 fa' O' H'→SqB X.K t H1 p xs→(t=false→¬ NN g.F f1 O1 p∧H1 p=some (.lst xs))→SqB X.K t H' p xs:=fun {t p xs fa' O' H'} st q z=>by
   cases t with
   |true=>exact(I1.car st).tp p xs q
   |false=>exact SqL.of ((I1.car st).ls p xs (z rfl).1 (z rfl).2).1
  refine⟨a,c,ta,tb,rfl,⟨vs,q1⟩,⟨us,q2⟩,b2R (xs:=vs) (ys:=us) (PvD X.K g f1 O1 H1 t b (List.zipWith F4 xs1 ys1) fl sf) ⟨f1,O1,s1,Stp.refl,I1,h2⟩ ?_ ?_ ?_⟩
  ·rintro i σ' H' ⟨fa',O',s',st,I',e⟩
   exact⟨stay st q1 c1,stay st q2 c2⟩
  ·intro i x y p σ' H' hx hy hpn h
   obtain⟨dx,hdx,rx⟩:=Reps.get' w1 hx
   obtain⟨dy,hdy,ry⟩:=Reps.get' w2 hy
   have h':PvD X.K g f1 O1 H1 t b (List.zipWith F4 xs1 ys1) fl sf i σ' (upd H' p (.tup [x,y])):=by
    obtain⟨fa',O',s',st,I',e⟩:=h
    exact⟨fa',O',s',st.trans (E4 hpn).stp,I'.new hpn,e⟩
   have hd:(List.zipWith F4 xs1 ys1)[i]? = some (F4 dx dy):=by rw[List.getElem?_zipWith,hdx,hdy]
   refine a0z k1 hd (fun fa' O' st=>?_) h'
   simp only[F4,Rep,Reps]
   exact⟨p,[x,y],rfl,SqT.of B9,_,_,rfl,Rep.stp I1 st rx,_,_,rfl,Rep.stp I1 st ry,rfl⟩
  ·intro σ' H' h
   refine a0E k1 ?_ h
   rw[List.length_zipWith,w1.length,w2.length]
   exact Nat.le_refl _
end
end DL
namespace DL
open PySem PySem.Spec L2
def a7y:DM:=fun _=>none
theorem b4N {X:Cx}{g:Gh}{st:Stmt}:SO X g st a7y:=⟨fun _ _ _ _ _ _ ⟨_,_,_,_,_,_,q,_⟩=>by cases q⟩
theorem on1 {α:Type _}{P:List α→Prop}(h:∀ a1:α,P [a1]):∀ us:List α,us.length=1→P us:=by
 intro us e
 match us,e with | [a1],_=>exact h a1
theorem on2 {α:Type _}{P:List α→Prop}(h:∀ a1 a2:α,P [a1,a2]):∀ us:List α,us.length=2→P us:=by
 intro us e
 match us,e with | [a1,a2],_=>exact h a1 a2
theorem on3 {α:Type _}{P:List α→Prop}(h:∀ a1 a2 a3:α,P [a1,a2,a3]):∀ us:List α,us.length=3→P us:=by
 intro us e
 match us,e with | [a1,a2,a3],_=>exact h a1 a2 a3
theorem on4 {α:Type _}{P:List α→Prop}(h:∀ a1 a2 a3 a4:α,P [a1,a2,a3,a4]):∀ us:List α,us.length=4→P us:=by
 intro us e
 match us,e with | [a1,a2,a3,a4],_=>exact h a1 a2 a3 a4
structure GF (K:PySem.W.Frag) (mg:Str→Option Value) (n:Str) (st:Stmt) (f:Addr) (fd:FuncData):Prop where
 F:Fun K n n st f fd
 m:mg n=some (.ref f)
section
variable {K:PySem.W.Frag}{h:Heap}{mg:Str→Option Value}{n:Str}{st:Stmt}{f:Addr}{fd:FuncData}
theorem gf_mk (X:K.In h) (G:h.Ns mainGlobals mg) {oc:Value}{od an:Option Addr}{osl:Array (Option Value)}{kV doc pm cdv ct:Value}(a:PySem.W.nsIn K mainGlobals n=some (some (.ref f))) (l:K.lookup f=some ⟨oc,od,.func (PySem.W.fnOf n n (V4 st) (M5 st) (m5 st) .none kV doc pm an cdv ct),osl⟩)
  (c:PySem.W.codeIn K cdv n=true) (k:PySem.W.keepIn K (.ref f)=true):GF K mg n st f (PySem.W.fnOf n n (V4 st) (M5 st) (m5 st) .none kV doc pm an cdv ct):=⟨b4u l c k,PySem.W.mg_of X G a⟩
theorem b0b {x:Str}(F:Fun K n n st f fd) (q:∀ (kV doc pm:Value) (an:Option Addr) (cdv ct:Value) (s:Shared) (v:Value),BindsTo s (PySem.W.fnOf n n (V4 st) (M5 st) (m5 st) .none kV doc pm an cdv ct) ⟨[v],[]⟩ [(x,v)]):∀ (s:Shared) (v:Value),BindsTo s fd ⟨[v],[]⟩ [(x,v)]:=by
 obtain⟨oc,od,kV,doc,pm,an,cdv,ct,osl,rfl,lk,hcd⟩:=F.ex
 exact fun s v=>q kV doc pm an cdv ct s v
theorem blt_mk (X:K.In h) (G:h.Ns mainGlobals mg) (z0:PySem.W.nsIn K mainGlobals "len" = some none) (z1:PySem.W.nsIn K mainGlobals "range" = some none) (z2:PySem.W.nsIn K mainGlobals "abs" = some none) (z3:PySem.W.nsIn K mainGlobals "tuple" = some none) (z4:PySem.W.nsIn K mainGlobals "list" = some none) (z5:PySem.W.nsIn K mainGlobals "int" = some none) (z6:PySem.W.nsIn K mainGlobals "bool" = some none) (z7:PySem.W.nsIn K mainGlobals "str" = some none) (z8:PySem.W.nsIn K mainGlobals "repr" = some none) (z9:PySem.W.nsIn K mainGlobals "all" = some none) (z10:PySem.W.nsIn K mainGlobals "isinstance" = some none) (z11:PySem.W.nsIn K mainGlobals "zip" = some none) (z12:PySem.W.nsIn K mainGlobals "enumerate" = some none) (z13:PySem.W.nsIn K mainGlobals "min" = some none) (z14:PySem.W.nsIn K mainGlobals "max" = some none) (z15:PySem.W.nsIn K mainGlobals "reversed" = some none) (z16:PySem.W.nsIn K mainGlobals "any" = some none) (z17:PySem.W.nsIn K mainGlobals "sum" = some none) (z18:PySem.W.nsIn K mainGlobals "sorted" = some none):Blt mg:=⟨PySem.W.mg_none_of X G z0,PySem.W.mg_none_of X G z1,PySem.W.mg_none_of X G z2,PySem.W.mg_none_of X G z3,PySem.W.mg_none_of X G z4,PySem.W.mg_none_of X G z5,PySem.W.mg_none_of X G z6,PySem.W.mg_none_of X G z7,PySem.W.mg_none_of X G z8,PySem.W.mg_none_of X G z9,PySem.W.mg_none_of X G z10,PySem.W.mg_none_of X G z11,PySem.W.mg_none_of X G z12,PySem.W.mg_none_of X G z13,PySem.W.mg_none_of X G z14,PySem.W.mg_none_of X G z15,PySem.W.mg_none_of X G z16,PySem.W.mg_none_of X G z17,PySem.W.mg_none_of X G z18⟩
theorem o9 {P:Program}{w:World}{base:Heap}{N ps:List Str}{k:Nat}{b:DM}(F:GF K mg n st f fd) (q:∀ (kV doc pm:Value) (an:Option Addr) (cdv ct:Value) (us:List Value),us.length=ps.length→bindArgs (PySem.W.fnOf n n (V4 st) (M5 st) (m5 st) .none kV doc pm an cdv ct) ⟨us,[]⟩=pure (ps.zip us)) (S:FnScope N ps (m5 st))
  (hbody:∀ (cdv:Value) (A:Around) (outer:List Env) (s:Shared) (H:Hp) (E:XK) (g:Gh),Room k (A.deeper (PyProof.Rows.envOfC n (m5 st) s.heap.objs.size f cdv))→SSO (Q6 CX0 P w K mg base N n (m5 st) f cdv A outer s H E).nox g (M5 st) b) :
  Cal P w K mg base (k+1) n ps (mFn N.length b):=b38 F.F F.m (F.F.binds q) S hbody
end
end DL
namespace DL
open PySem PySem.Spec L2 PyProof.Rows
def a3a:List D→Option (List D)
 |[.lst es]=>some es
 |_=>none
theorem b54 {xs es:List D}(h:a3a xs=some es):xs=[.lst es]:=by
 cases xs with
 |nil=>cases h
 |cons d xs=>
  cases xs with
  |cons _ _=>cases d <;> cases h
  |nil=>
   cases d with
   |lst ds=>cases h;rfl
   |_=>cases h
def a0P (i:Nat) (f:DA):DM:=fun s=>(a0O s i).bind fun _=>(f s).bind fun x=>(a3a x.1).bind fun es=>(a0O x.2 i).bind fun ds=>
 if ds.length+es.length≤sizeLine then some (.next,{ x.2 with sl:=x.2.sl.set i (.own (ds++es)) }) else none
theorem b5G {i:Nat}{f:DA}{s:DS}{r:Fl × DS}(q:a0P i f s=some r):∃ ds0 es ds s1,s.sl[i]? = some (.own ds0)∧f s=some ([.lst es],s1)∧s1.sl[i]? = some (.own ds)∧ds.length+es.length≤sizeLine∧(Fl.next,{ s1 with sl:=s1.sl.set i (.own (ds++es)) })=r:=by
 refine M0 q fun ds0 q0 q=>?_
 refine v3 q fun as s1 h1 q=>?_
 refine M0 q fun es h2 q=>?_
 refine M0 q fun ds q2 q=>?_
 have h2:as=[.lst es]:=b54 h2
 subst h2
 by_cases hl:ds.length+es.length≤sizeLine
 ·exact⟨ds0,es,ds,s1,a65 q0,h1,a65 q2,hl,Option.some.inj ((if_pos hl).symm.trans q)⟩
 ·cases (if_neg hl).symm.trans q
section
variable {X:Cx}{g:Gh}{f:DA}
theorem b4V {i:Nat}{x:Str}{e1:Expr}{p1 p2 p3 p4:Pos}(hv:PE X (.Name x p1) (R8 i)) (he:AO X g [e1] f) (hbase:attributeBase (.Name x p1) ("extend" : Str) X.env (eval (.Name x p1) X.env)=eval (.Name x p1) X.env:=by rfl)
  (hfew:((backTo p3 (starEach [e1] X.env)).all (fun x=>!x.1)&&(backToKw p3 (keywordEach [] X.env)).all (fun x=>x.1.isSome)
   && decide ([e1].length+([]:List Keyword).length+(if ([]:List Keyword).isEmpty then 0 else 1)<30))=true:=by rfl)
  (hline:(p2.endLine == p3.line)=true:=by rfl) (hs:starEach [e1] X.env=(false,eval e1 X.env)::starEach [] X.env:=by rfl) (hplain:(backTo p3 (starEach [] X.env)).any (·.1)=false:=by rfl)
  (hsw:swapsWith (.Call (.Attribute (.Name x p1) ("extend" : Str) p2) [e1] [] p3) none p4.line X.env=pure false:=by rfl) :
  SO X g (.Expr (.Call (.Attribute (.Name x p1) ("extend" : Str) p2) [e1] [] p3) p4) (a0P i f):=
 SO.w (a68 (a8D PySem.F.plainAttrs_list PySem.F.slot_list_extend PySem.F.type_list_extend b0A hv he.pe hbase hfew hline hs hplain) hsw) fun E σ H hQ=>by
  refine hQ.elim fun fa O s fl s' I q k=>?_
  obtain⟨ds0,es,ds,s1,q0,h1,q2,hl,e⟩:=b5G q
  cases e
  obtain⟨a,xs0,e1,m,e2,_⟩:=SlR.own I.sl q0
  refine⟨_,e1,.inl ⟨rfl,xs0,SqL.of e2⟩,fa,O,s,_,s1,I,h1,fun vs H1 f1 O1 a1 I1 r=>?_⟩
  simp only[Reps,Rep] at r
  obtain⟨u,ys,rfl,⟨b',zs,rfl,nb,lb,r⟩,rfl⟩:=r
  obtain⟨b,xs,e3,m1,e4,r1⟩:=SlR.own I1.sl q2
  rw[e1] at e3;cases e3
  have rl:=r1.length
  have rz:=r.length
  obtain⟨I2,a2⟩:=I1.rew q2 e1 m1 e4 (Reps.append r1 r)
  exact⟨a,b',xs,zs,rfl,rfl,e4,lb,by rw[rl,rz];exact hl,k σ _ f1 O1 (a1.stp.trans a2) I2⟩
end
end DL
namespace DL
def evn {α:Type}:List α→List α
 |[]=>[]
 |[x]=>[x]
 |x::_::r=>x::evn r
theorem evn_len {α:Type}:∀ l:List α,(evn l).length=(l.length+1) / 2
 |[]=>by simp[evn]
 |[x]=>by simp[evn]
 |_::_::r=>by
  rw[evn,List.length_cons,evn_len r,List.length_cons,List.length_cons]
  omega
theorem evn_pick {α:Type}:∀ l:List α,((List.range ((l.length+1) / 2)).filterMap fun k=>l[2*k]?)=evn l
 |[]=>by simp[evn]
 |[x]=>by
  have e:([x].length+1) / 2=1:=by simp
  rw[e]
  rfl
 |x::y::r=>by
  have e:((x::y::r).length+1) / 2=(r.length+1) / 2+1:=by
   rw[List.length_cons,List.length_cons];omega
  rw[e,List.range_succ_eq_map,List.filterMap_cons,List.filterMap_map,evn,←evn_pick r]
  rfl
theorem a3E {α β:Type}(f:α→β):∀ l:List α,evn (l.map f)=(evn l).map f
 |[]=>rfl
 |[_]=>rfl
 |x::y::r=>by
  rw[List.map_cons,List.map_cons,evn,evn,a3E f r]
  rfl
end DL
namespace HT3
open PySem PyProof.Rows HT
section
variable {prog:Program}{w:World}{A:Around}{E:Value→Shared→Prop}{s:Shared}
theorem b1N {sl:Addr}{t:Tok}{n:Nat}{Q:Int × Int × Nat→Shared→Prop}(hs:s.heap.IsSliceOf sl .none .none (.int 2 t))
  (h:Q (0,2,(n+1) / 2) s):wpAny (model prog w) A (Builtin.Slice.sliceApplied (.ref sl) (pure (n:Int))) Q E s:=by
 obtain⟨os,hos,hcs,hds⟩:=id hs
 unfold Builtin.Slice.sliceApplied Builtin.Slice.sliceFields
 refine wpAny_bind (wpAny_bind (wpAny_field hos hds (x:=.none) rfl (wpAny_bind (wpAny_field hos hds (x:=.none) rfl (wpAny_bind (wpAny_field hos hds (x:=.int 2 t) rfl (wpAny_pure ?_)))))))
 refine wpAny_bind (slicePart_int ?_)
 show wpAny _ _ (if ((2:Int) == 0)=true then _ else _) _ _ s
 rw[if_neg (by decide)]
 refine wpAny_bind (slicePart_none (wpAny_bind (slicePart_none (wpAny_bind (wpAny_pure ?_)))))
 show wpAny _ _ (match Builtin.Slice.sliceAdjust none none 2 (n:Int) with | (lo,hi)=>pure (lo,(2:Int),Builtin.Slice.slicePlaces lo hi 2)) _ _ s
 have e:Builtin.Slice.sliceAdjust none none 2 (n:Int)=(0,(n:Int)):=by
  unfold Builtin.Slice.sliceAdjust
  have h1:¬ ((2:Int)<0):=by omega
  simp only[h1,if_false]
 rw[e]
 show wpAny _ _ (pure ((0:Int),(2:Int),Builtin.Slice.slicePlaces 0 (n:Int) 2)) _ _ s
 have e2:Builtin.Slice.slicePlaces 0 (n:Int) 2=(n+1) / 2:=by
  unfold Builtin.Slice.slicePlaces
  have h1:((2:Int)>0):=by omega
  simp only[h1,if_true]
  split <;> omega
 rw[e2]
 exact wpAny_pure h
theorem b4A (xs:Array Value):((List.range ((xs.size+1) / 2)).filterMap fun (m:Nat)=>xs[((0:Int)+(m:Int)*2).toNat]?).toArray=(DL.evn xs.toList).toArray:=by
 congr 1
 rw[←DL.evn_pick,Array.length_toList]
 congr 1
 funext m
 rw[Array.getElem?_toList]
 congr 1
 omega
theorem getItem_tuple_two {t sl:Addr}{items:Array Value}{tk:Tok}{Q:Value→Shared→Prop}(ht:IsTup s.heap t items) (hs:s.heap.IsSliceOf sl .none .none (.int 2 tk))
  (h:Q (.ref s.heap.objs.size) { s with heap:=s.heap.push { cls:=.type "tuple",data:=.seq (DL.evn items.toList).toArray } })
  (hsz:items.size≤sizeLine):wpAny (model prog w) A (getItem (.ref t) (.ref sl)) Q E s:=by
 have htake:sizeOk (.seq (DL.evn items.toList).toArray):=by
  show (DL.evn items.toList).toArray.size≤sizeLine
  rw[List.size_toArray,DL.evn_len,Array.length_toList]
  omega
 obtain⟨os,hos,hcs,hds⟩:=id hs
 have hTs:s.TypeIs (.ref sl) "slice" := ⟨os,hos,hcs⟩
 unfold getItem
 try with_reducible refine wpAny_holding ?_
 first | refine wpAny_bind (wpAny_pure ?_) | skip
 refine wpAny_bind (wpAny_sequenceKey ht.typeIs (by decide) ?_)
 refine wpAny_bind (wpAny_callSpecial?_slot (name:=Str.ofString "__getitem__") ht.typeIs PyProof.Rows.slot_tuple_getitem
  (wpAny_call_entry PyProof.Rows.slot_tuple_getitem ht.typeIs entry_tuple_getitem ?_ (args_tuple_getitem _ _)))
 show wpAny _ _ (Builtin.Tuple.tupleItemsOf (.ref t) >>= _) _ _ s
 refine wpAny_bind (tupleItemsOf_ ht ?_)
 refine wpAny_bind (wpAny_typeOf hTs ?_)
 rw[if_pos (by decide)]
 refine wpAny_bind (b1N hs ?_)
 have hno:¬ (((0:Int) == 0&&(2:Int) == 1&&(items.size+1) / 2 == items.size)=true):=by
  intro q
  rw[Bool.and_eq_true,Bool.and_eq_true] at q
  exact absurd q.1.2 (by decide)
 show wpAny _ _ (if ((0:Int) == 0&&(2:Int) == 1&&(items.size+1) / 2 == items.size)=true then _ else _) _ _ s
 rw[if_neg hno,b4A]
 first
  | exact wpAny_bind (m:=Builtin.Tuple.tupleExact _) (wpAny_newObj_type (wpAny_pure ⟨_,rfl,wpAny_pure h⟩) htake)
  | exact wpAny_bind (m:=Builtin.Tuple.tupleExact _) (wpAny_newObj_type (wpAny_bind (wpAny_pure (wpAny_pure ⟨_,rfl,wpAny_pure h⟩))) htake)
  | exact wpAny_bind (wpAny_bind (m:=Builtin.Tuple.tupleExact _) (wpAny_newObj_type (wpAny_pure (wpAny_pure ⟨_,rfl,wpAny_pure h⟩)) htake))
  | exact wpAny_bind (wpAny_bind (m:=Builtin.Tuple.tupleExact _) (wpAny_newObj_type (wpAny_pure ⟨_,rfl,wpAny_pure h⟩) htake))
end
end HT3
namespace DL
open PySem PySem.Spec L2 PyProof.Rows
section
variable {X:Cx}{g:Gh}{a st:Expr}{fa fs:DE}{pos p2:Pos}
theorem b3u {xs:List V}{us:List Value}:∀ n:Nat,xs.length≤n→Vals xs us→Vals (evn xs) (evn us):=by
 intro n
 induction n generalizing xs us with
 |zero=>
  intro hn h
  cases h with
  |nil=>exact .nil
  |cons r t=>simp at hn
 |succ n ih=>
  intro hn h
  cases h with
  |nil=>exact .nil
  |cons r t=>
   cases t with
   |nil=>exact .cons r .nil
   |cons r2 t2=>
    rw[List.length_cons,List.length_cons] at hn
    exact .cons r (ih (by omega) t2)
theorem b4l {K:PySem.W.Frag}{N:Addr→Prop}{fb:Option Addr}{H:Hp}:∀ (n:Nat) {ds:List D}{xs:List V},ds.length≤n→Reps K N fb H ds xs→Reps K N fb H (evn ds) (evn xs):=by
 intro n
 induction n with
 |zero=>
  intro ds xs hn h
  cases ds with
  |nil=>simp only[Reps] at h;subst h;simp only[evn,Reps]
  |cons _ _=>simp at hn
 |succ n ih=>
  intro ds xs hn h
  cases ds with
  |nil=>simp only[Reps] at h;subst h;simp only[evn,Reps]
  |cons d r=>
   simp only[Reps] at h
   obtain⟨x,zs,e1,h1,h2⟩:=h
   subst e1
   cases r with
   |nil=>
    simp only[Reps] at h2
    subst h2
    exact Reps.one h1
   |cons d2 r2=>
    simp only[Reps] at h2
    obtain⟨x2,zs2,e2,h3,h4⟩:=h2
    subst e2
    rw[List.length_cons,List.length_cons] at hn
    have:=ih (by omega) h4
    simp only[evn,Reps]
    exact⟨x,evn zs2,rfl,h1,this⟩
def b3F (K:PySem.W.Frag) (te ts:TE):TE:=fun σ H Q=>te σ H fun x H1=>ts σ H1 fun y H2=>y = .int 2∧∃ p xs,x = .ref p∧SqT K H2 p xs∧∀ l,H2 l=none→Q (.ref l) (upd H2 l (.tup (evn xs)))
theorem a9b {te ts:TE}(he:PE X a te) (hs:PE X st ts):PE X (.Subscript a (.Slice none none (some st) p2) pos) (b3F X.K te ts):=by
 intro pins s σ H Q I h
 refine Subscript_ (thn (he pins s σ H _ I h) fun v s1 ⟨x,H1,I1,r1,q1⟩=>?_)
 refine wpAny_Slice ?_
 rw[evalPart_none]
 refine wpAny_pure (wpAny_pure ?_)
 rw[evalPart_some]
 refine thn (hs pins s1 σ H1 _ I1 q1) fun u s3 ⟨y,H3,I3,r3,q3⟩=>?_
 obtain⟨rfl,p,xs,rfl,hx,q⟩:=q3
 obtain⟨tk,rfl⟩:=r3
 cases r1
 have I4:Inv X pins σ H3 { s3 with heap:=s3.heap.push { cls:=.type "slice",data:=.fields #[.none,.none,.int 2 tk] } }:=I3.kept (t':=s3.toks) fun b ob q=>Heap.get?_push_of_some _ q
 obtain⟨its,r,ht,hz⟩:=I4.tuple hx
 have hlen:its.toArray.size=xs.length:=by rw[List.size_toArray];exact r.length.symm
 show wpAny (model X.prog X.w) X.A (subscriptTail a (.Slice none none (some st) p2) (.ref p) (.ref s3.heap.objs.size)) (EP X pins σ Q) X.xe { s3 with heap:=s3.heap.push { cls:=.type "slice",data:=.fields #[.none,.none,.int 2 tk] } }
 refine tail_any (ops:=[.ref p,.ref s3.heap.objs.size]) ht.typeIs PyProof.Rows.slot_tuple_getitem.lookup ?_ (by with_unfolding_all rfl)
 refine HT3.getItem_tuple_two ht (Heap.IsSliceOf.new ..) ?_ (by rw[hlen];exact hz)
 refine⟨.ref (s3.heap.push { cls:=.type "slice",data:=.fields #[.none,.none,.int 2 tk] }).objs.size,_,I4.laid (t':=s3.toks) (o:=.tup (evn xs)) (fun b ob q=>Heap.get?_push_of_some _ q) (Nat.le_refl _) ?_,rfl,q _ (I4.hok.fresh (Nat.le_refl _))⟩
 exact⟨by rw[evn_len];omega,_,b3u _ (Nat.le_refl _) r,IsTup.new _ _⟩
def a5A (f h:DE):DE:=fun s=>(f s).bind fun x=>(h x.2).bind fun y=>match x.1,y.1 with
 |.tup ds,.int i=>if i=2 then some (.tup (evn ds),y.2) else none
 |_,_=>none
theorem a98 {x y r:D}{t:DS}{z:DS}(e:(match x,y with
 |.tup ds,.int i=>if i=2 then some (D.tup (evn ds),t) else none
 |_,_=>none)=some (r,z)):∃ ds,x = .tup ds∧y = .int 2∧t=z∧r = .tup (evn ds):=by
 cases x with
 |tup ds=>
  cases y with
  |int i=>
   have e:(if i=2 then some (D.tup (evn ds),t) else none)=some (r,z):=e
   by_cases hi:i=2
   ·rw[if_pos hi] at e
    cases e
    subst hi
    exact⟨ds,rfl,rfl,rfl,rfl⟩
   ·rw[if_neg hi] at e
    cases e
  |_=>cases e
 |_=>cases e
theorem b4H (ha:BO X g a fa) (hs:BO X g st fs):EO X g (.Subscript a (.Slice none none (some st) p2) pos) (a5A fa fs):=EO.w (a9b ha.pe hs.pe) fun σ H Q hQ=>by
 refine hQ.elim fun f0 O s d s' I e k=>?_
 refine v3 e fun x s1 h1 e=>?_
 refine v3 e fun y s2 h2 e=>?_
 obtain⟨ds,rfl,rfl,rfl,rfl⟩:=a98 e
 refine⟨f0,O,s,_,s1,I,h1,fun v H1 f1 O1 a1 I1 r1=>⟨f1,O1,s1,_,s2,I1,h2,fun u H2 f2 O2 a2 I2 r2=>?_⟩⟩
 have r3:=RepB.stp I1 a2 r1
 simp only[RepB,Rep] at r2 r3
 subst r2
 obtain⟨c',xs,rfl,q,w⟩:=r3
 refine⟨rfl,c',xs,rfl,q,fun l hl=>?_⟩
 have a4:StE f2 O2 H2 f2 O2 (upd H2 l (.tup (evn xs))):=E4 hl
 refine k _ _ f2 O2 (a1.trans (a2.trans a4)) (I2.new hl) ?_
 simp only[Rep]
 exact⟨l,_,rfl,SqT.of B9,Reps.stp I2 a4.stp (b4l _ (Nat.le_refl _) w)⟩
end
end DL
namespace T
open PySem PySem.Spec L2 DL
abbrev b0n:DM:=(e8 (j7 (dOp y8 (dL 2) (dL 3)) (c9 4)) (e8 (j7 (dV 3) (c9 2)) (j7 (dV 4) (c9 3))))
def a34:DM:=(e8 (j7 (dCB (one U5) (a7 (dL 0) a8)) (c9 2)) (e8 (j7 (dCB (one U5) (a7 (dL 1) a8)) (c9 3)) (e8 (C5 (dB (dOp pNe (dL 3) (dC (.int 0)))) (b0n)) (l6 (dV 2)))))
def A3:DFn:=mFn 5 (a34)
abbrev a06 (mG:DFn):DM:=(j7 (e7 mG (a7 (dV 1) (a7 (dV 2) a8))) (c9 1))
def a2I (mG:DFn):DM:=(e8 (j7 (dC (.int 0)) (c9 1)) (e8 (F6 (dV 0) (c9 2) (a06 mG)) (l6 (dV 1))))
def G7 (mG:DFn):DFn:=mFn 3 (a2I mG)
def a4t (m0a:DFn):DM:=(e8 (j7 (e7 m0a (a7 (dV 0) a8)) (c9 1)) (e8 (p9 (dB (dOp (n9 (fun i j=>decide (i<j))) (dOp pIx (dL 0) (dUn v7 (dC (.int 1)))) (dC (.int 0)))) (j7 (dUn v7 (dL 1)) (c9 1)) u6) (l6 (dCB (one G8) (a7 (u8 (F7 [1] (G6 (dV 0)) B7 (dOp A4 (dL 0) (dL 1)))) a8)))))
def P0 (m0a:DFn):DFn:=mFn 2 (a4t m0a)
def a5t (mL:DFn):DM:=(l6 (e7 mL (a7 (j6 (a7 (dV 0) (a7 (dV 1) a8))) a8)))
def Q4 (mL:DFn):DFn:=mFn 2 (a5t mL)
def a2m (mG:DFn):DM:=(e8 (j7 (e7 mG (a7 (dOp pIx (dL 0) (dC (.int 1))) (a7 (dOp pIx (dL 1) (dC (.int 1))) a8))) (c9 2)) (e8 (j7 (dOp p7 (dOp l8 (dOp pIx (dL 0) (dC (.int 0))) (dOp A4 (dOp pIx (dL 1) (dC (.int 1))) (dL 2))) (dOp l8 (dOp pIx (dL 1) (dC (.int 0))) (dOp A4 (dOp pIx (dL 0) (dC (.int 1))) (dL 2)))) (c9 3)) (e8 (j7 (e7 mG (a7 (dV 3) (a7 (dV 2) a8))) (c9 4)) (l6 (j6 (a7 (dOp A4 (dL 3) (dL 4)) (a7 (dOp l8 (dOp A4 (dOp pIx (dL 0) (dC (.int 1))) (dL 2)) (dOp A4 (dOp pIx (dL 1) (dC (.int 1))) (dL 4))) a8)))))))
def L4 (mG:DFn):DFn:=mFn 5 (a2m mG)
def a5h (mz:DFn):DM:=(l6 (e7 mz (a7 (dOp l8 (dOp pIx (dL 0) (dC (.int 0))) (dOp pIx (dL 1) (dC (.int 0)))) (a7 (dOp l8 (dOp pIx (dL 0) (dC (.int 1))) (dOp pIx (dL 1) (dC (.int 1)))) a8))))
def a11 (mz:DFn):DFn:=mFn 2 (a5h mz)
def a29 (mr:DFn):DM:=(l6 (e7 mr (a7 (dV 0) (a7 (j6 (a7 (dUn v7 (dOp pIx (dL 1) (dC (.int 0)))) (a7 (dOp pIx (dL 1) (dC (.int 1))) a8))) a8))))
def a0X (mr:DFn):DFn:=mFn 2 (a29 mr)
def a4u:DM:=(l6 (dOp (n9 (fun i j=>decide (i<j))) (dOp l8 (dOp pIx (dL 0) (dC (.int 0))) (dOp pIx (dL 1) (dC (.int 1)))) (dOp l8 (dOp pIx (dL 1) (dC (.int 0))) (dOp pIx (dL 0) (dC (.int 1))))))
def B4:DFn:=mFn 2 (a4u)
def a3U (mz:DFn):DM:=(e8 (j7 (dOp B2 (dOp l8 (dOp pIx (dL 0) (dC (.int 0))) (dOp pIx (dL 1) (dC (.int 2)))) (dOp l8 (dOp pIx (dL 1) (dC (.int 0))) (dOp pIx (dL 0) (dC (.int 2))))) (c9 2)) (e8 (j7 (dOp B2 (dOp l8 (dOp pIx (dL 0) (dC (.int 1))) (dOp pIx (dL 1) (dC (.int 2)))) (dOp l8 (dOp pIx (dL 1) (dC (.int 1))) (dOp pIx (dL 0) (dC (.int 2))))) (c9 3)) (e8 (j7 (dOp l8 (dOp pIx (dL 0) (dC (.int 2))) (dOp pIx (dL 1) (dC (.int 2)))) (c9 4)) (l6 (e7 mz (a7 (dOp p7 (dOp l8 (dL 2) (dL 2)) (dOp l8 (dL 3) (dL 3))) (a7 (dOp l8 (dL 4) (dL 4)) a8)))))))
def S3 (mz:DFn):DFn:=mFn 5 (a3U mz)
def a1u:DM:=(e8 (p9 (dTr (dL 1)) (l6 (u8 (dCF Y1 (a7 (dL 0) (a7 (dOp p7 (dSl (dL 0) (dAt (dC (.int 1))) dNo) (dSl (dL 0) dNo (dAt (dC (.int 1))))) a8))))) u6) (l6 (u8 (dCF Y1 (a7 (dL 0) (a7 (dSl (dL 0) (dAt (dC (.int 1))) dNo) a8))))))
def R0:DFn:=mFn 2 (a1u)
def a3e (m0b:DFn):DM:=(l6 (dCB (one G8) (a7 (e7 m0b (a7 (dOp pIx (dL 0) (dC (.int 1))) (a7 (dOp pIx (dL 0) (dC (.int 0))) a8))) a8)))
def X7 (m0b:DFn):DFn:=mFn 1 (a3e m0b)
abbrev b2t:DM:=(e8 (j7 (dOp l8 (dL 1) (dC (.int 2))) (c9 1)) (j7 (dOp A4 (dL 2) (dC (.int 4))) (c9 2)))
def a5k:DM:=(e8 (j7 (dC (.int 1)) (c9 1)) (e8 (j7 (dV 0) (c9 2)) (e8 (C5 (dB (dOp (n9 (fun i j=>decide (j<i))) (dL 2) (dC (.int 0)))) (b2t)) (l6 (dV 1)))))
def L9:DFn:=mFn 3 (a5k)
abbrev b3I (mT:DFn):DM:=(e8 (j7 (dV 2) (c9 1)) (j7 (dOp A4 (dOp p7 (dL 1) (dOp A4 (dL 0) (dL 1))) (dC (.int 2))) (c9 2)))
def a02 (mT:DFn):DM:=(e8 (p9 (dB (dOp pEq (dL 0) (dC (.int 0)))) (l6 (dC (.int 0))) u6) (e8 (j7 (e7 mT (a7 (dV 0) a8)) (c9 1)) (e8 (j7 (dOp A4 (dOp p7 (dL 1) (dOp A4 (dL 0) (dL 1))) (dC (.int 2))) (c9 2)) (e8 (C5 (dB (dOp (n9 (fun i j=>decide (i<j))) (dL 2) (dL 1))) (b3I mT)) (l6 (dV 1))))))
def Q0 (mT:DFn):DFn:=mFn 3 (a02 mT)
def a4K (m08:DFn):DM:=(e8 (p9 (dB (dOp (n9 (fun i j=>decide (i<j))) (dOp pIx (dL 0) (dC (.int 0))) (dC (.int 0)))) (l6 (dC .non)) u6) (e8 (j7 (e7 m08 (a7 (dOp pIx (dL 0) (dC (.int 0))) a8)) (c9 1)) (e8 (j7 (e7 m08 (a7 (dOp pIx (dL 0) (dC (.int 1))) a8)) (c9 2)) (e8 (p9 (dOr (dB (dOp pNe (dOp l8 (dL 1) (dL 1)) (dOp pIx (dL 0) (dC (.int 0))))) (dB (dOp pNe (dOp l8 (dL 2) (dL 2)) (dOp pIx (dL 0) (dC (.int 1)))))) (l6 (dC .non)) u6) (l6 (j6 (a7 (dV 1) (a7 (dV 2) a8))))))))
def W4 (m08:DFn):DFn:=mFn 3 (a4K m08)
def a6S (mI:DFn) (m0c:DFn) (m0d:DFn):DM:=(l6 (dCB (one G8) (a7 (u8 (L6 [] (G6 (e7 mI (a7 (dV 0) a8))) B7 (e7 m0c (a7 (e7 m0d (a7 (dV 0) (a7 (dV 1) a8))) a8)))) a8)))
def a0c (mI:DFn) (m0c:DFn) (m0d:DFn):DFn:=mFn 1 (a6S mI m0c m0d)
def a2O:DM:=(l6 (dTN 0))
def W9:DFn:=mFn 1 (a2O)
def W5:DM:=(e8 (p9 (dB (dOp (n9 (fun i j=>decide (j<i))) (dTG 0 2) (dC (.int 0)))) (e8 (j7 (dOp y8 (dTG 0 2) (dL 1)) (c9 2)) (e8 (dTP 0 2 (dOp A4 (dTG 0 2) (dL 1))) (l6 (dV 2)))) u6) (e8 (j7 (dTG 0 1) (c9 3)) (e8 (dTP 0 1 (dOp p7 (dL 3) (dC (.int 1)))) (e8 (j7 (dC (.int 0)) (c9 4)) (e8 (p9 (dB (dOp (n9 (fun i j=>decide (j<i))) (dCB (one t6) (a7 (dTG 0 0) a8)) (dC (.int 0)))) (j7 (dOp pIx (dTG 0 0) (dOp y8 (dL 3) (dCB (one t6) (a7 (dTG 0 0) a8)))) (c9 4)) u6) (e8 (p9 (A8 (dB (dOp (n9 (fun i j=>decide (j≤i))) (dL 4) (dOp W8 (dC (.int 10)) (dC (.int 18))))) (dB (dOp (n9 (fun i j=>decide (i<j))) (dL 3) (dCB (one t6) (a7 (dTG 0 0) a8))))) (e8 (dTP 0 2 (dOp A4 (dL 4) (dL 1))) (l6 (dOp y8 (dL 4) (dL 1)))) u6) (e8 (j7 (dOp y8 (dOp l8 (dOp p7 (dOp p7 (dOp y8 (dL 4) (dC (.int 1000033))) (dOp l8 (dOp l8 (dC (.int 37)) (dL 3)) (dL 3))) (dC (.int 11))) (dC (.int 69621))) (dC (.int 999983))) (c9 5)) (l6 (dOp y8 (dOp A4 (dOp y8 (dOp l8 (dOp y8 (dOp p7 (dOp l8 (dL 5) (dC (.int 48271))) (dOp l8 (dL 3) (dC (.int 6007)))) (dC (.int 999979))) (dC (.int 40692))) (dC (.int 1048573))) (dC (.int 64))) (dL 1))))))))))
def N5:DFn:=mFn 6 (W5)
abbrev a9K:DM:=(D9 0 1 (a7 (dV 1) (a7 (dOp y8 (dL 0) (dL 1)) a8)))
def a4d:DM:=(e8 (D9 0 1 (a7 (dCB (one U5) (a7 (dL 0) a8)) (a7 (dCB (one U5) (a7 (dL 1) a8)) a8))) (e8 (C5 (dB (dOp (n9 (fun i j=>decide (j<i))) (dL 1) (dC (.int 0)))) (a9K)) (l6 (dV 0))))
def v4:DFn:=mFn 2 (a4d)
def a4f (mK:DFn):DM:=(e8 (j7 (e7 mK (a7 (dV 0) (a7 (dV 1) a8))) (c9 2)) (e8 (p9 (dB (dOp (n9 (fun i j=>decide (i<j))) (dL 1) (dC (.int 0)))) (j7 (dUn v7 (dL 2)) (c9 2)) u6) (l6 (j6 (a7 (dOp A4 (dL 0) (dL 2)) (a7 (dOp A4 (dL 1) (dL 2)) a8))))))
def v8 (mK:DFn):DFn:=mFn 3 (a4f mK)
def a2k (mh:DFn):DM:=(e8 (D6 1 (u9 (a7 (j6 (a7 (dC (.int 0)) (a7 (dC (.int 1)) a8))) (a7 (j6 (a7 (dC (.int 1)) (a7 (dC (.int 1)) a8))) (a7 (j6 (a7 (dUn v7 (dC (.int 1))) (a7 (dC (.int 2)) a8))) (a7 (j6 (a7 (dC (.int 5)) (a7 (dC (.int 3)) a8))) (a7 (j6 (a7 (dUn v7 (dC (.int 7))) (a7 (dC (.int 1)) a8))) (a7 (j6 (a7 (dC (.int 3)) (a7 (dC (.int 2)) a8))) a8)))))))) (e8 (j7 (dOp pIx (dL 1) (e7 mh (a7 (dV 0) (a7 (dC (.int 6)) a8)))) (c9 2)) (l6 (j6 (a7 (dV 2) (a7 (dOp pIx (dL 1) (e7 mh (a7 (dV 0) (a7 (dC (.int 6)) a8)))) a8))))))
def a1o (mh:DFn):DFn:=mFn 3 (a2k mh)
def b2m (mq:DFn):DM:=(l6 (e7 mq (a7 (dOp l8 (dOp pIx (dL 0) (dC (.int 0))) (dOp pIx (dL 1) (dC (.int 0)))) (a7 (dOp l8 (dOp pIx (dL 0) (dC (.int 1))) (dOp pIx (dL 1) (dC (.int 1)))) a8))))
def M2 (mq:DFn):DFn:=mFn 2 (b2m mq)
def a4a (mK:DFn):DM:=(e8 (j7 (j6 (a7 (dOp l8 (dOp pIx (dL 0) (dC (.int 0))) (dOp pIx (dL 1) (dC (.int 1)))) (a7 (dOp l8 (dOp pIx (dL 1) (dC (.int 0))) (dOp pIx (dL 0) (dC (.int 1)))) (a7 (dOp l8 (dOp pIx (dL 0) (dC (.int 1))) (dOp pIx (dL 1) (dC (.int 1)))) a8)))) (c9 2)) (e8 (j7 (e7 mK (a7 (e7 mK (a7 (dOp pIx (dL 2) (dC (.int 0))) (a7 (dOp pIx (dL 2) (dC (.int 1))) a8))) (a7 (dOp pIx (dL 2) (dC (.int 2))) a8))) (c9 3)) (l6 (dCB (one G8) (a7 (u8 (F7 [3] (G6 (dV 2)) B7 (dOp A4 (dL 0) (dL 1)))) a8)))))
def a0n (mK:DFn):DFn:=mFn 4 (a4a mK)
def a9i (mq:DFn):DM:=(l6 (e7 mq (a7 (dOp p7 (dOp l8 (dOp pIx (dL 0) (dC (.int 0))) (dOp pIx (dL 1) (dC (.int 1)))) (dOp l8 (dOp pIx (dL 1) (dC (.int 0))) (dOp pIx (dL 0) (dC (.int 1))))) (a7 (dOp l8 (dOp pIx (dL 0) (dC (.int 1))) (dOp pIx (dL 1) (dC (.int 1)))) a8))))
def G2 (mq:DFn):DFn:=mFn 2 (a9i mq)
abbrev a1b (mv:DFn) (ma:DFn) (me:DFn) (mC:DFn) (mh:DFn):DM:=(e8 (j7 (e7 me (a7 (dV 7) (a7 (j6 (a7 (dOp B2 (dOp l8 (dL 11) (dL 4)) (dOp l8 (dL 12) (dL 5))) (a7 (dV 6) a8))) a8))) (c9 13)) (e8 (j7 (e7 me (a7 (dV 7) (a7 (j6 (a7 (dOp p7 (dOp l8 (dL 11) (dL 5)) (dOp l8 (dL 12) (dL 4))) (a7 (dV 6) a8))) a8))) (c9 14)) (G1 10 (e7 mv (a7 (e7 ma (a7 (dV 8) (a7 (dV 13) a8))) (a7 (e7 ma (a7 (dV 9) (a7 (dV 14) a8))) a8))))))
def a3X (mv:DFn) (ma:DFn) (me:DFn) (mC:DFn) (mh:DFn):DM:=(e8 (D6 1 (u9 (a7 (j6 (a7 (j6 (a7 (dC (.int 0)) (a7 (dC (.int 0)) a8))) (a7 (j6 (a7 (dC (.int 4)) (a7 (dC (.int 0)) a8))) (a7 (j6 (a7 (dC (.int 0)) (a7 (dC (.int 3)) a8))) a8)))) (a7 (j6 (a7 (j6 (a7 (dC (.int 0)) (a7 (dC (.int 0)) a8))) (a7 (j6 (a7 (dC (.int 14)) (a7 (dC (.int 0)) a8))) (a7 (j6 (a7 (dC (.int 5)) (a7 (dC (.int 12)) a8))) a8)))) (a7 (j6 (a7 (j6 (a7 (dC (.int 0)) (a7 (dC (.int 0)) a8))) (a7 (j6 (a7 (dC (.int 2)) (a7 (dC (.int 0)) a8))) (a7 (j6 (a7 (dC (.int 2)) (a7 (dC (.int 2)) a8))) (a7 (j6 (a7 (dC (.int 0)) (a7 (dC (.int 2)) a8))) a8))))) a8))))) (e8 (D6 1 (O8 U7 (dL 1) (u8 (u9 (a7 (j6 (a7 (j6 (a7 (dC (.int 0)) (a7 (dC (.int 0)) a8))) (a7 (j6 (a7 (dC (.int 3)) (a7 (dC (.int 4)) a8))) (a7 (j6 (a7 (dC (.int 3)) (a7 (dC (.int 0)) a8))) (a7 (j6 (a7 (dC (.int 0)) (a7 (dC (.int 4)) a8))) a8))))) (a7 (j6 (a7 (j6 (a7 (dC (.int 0)) (a7 (dC (.int 0)) a8))) (a7 (j6 (a7 (dC (.int 5)) (a7 (dC (.int 0)) a8))) (a7 (j6 (a7 (dC (.int 0)) (a7 (dC (.int 0)) a8))) (a7 (j6 (a7 (dC (.int 3)) (a7 (dC (.int 4)) a8))) a8))))) a8)))))) (e8 (D6 1 (O8 U7 (dL 1) (u8 (u9 (a7 (j6 (a7 (j6 (a7 (dC (.int 0)) (a7 (dC (.int 0)) a8))) (a7 (j6 (a7 (dC (.int 3)) (a7 (dC (.int 0)) a8))) (a7 (j6 (a7 (dC (.int 3)) (a7 (dC (.int 4)) a8))) (a7 (j6 (a7 (dC (.int 6)) (a7 (dC (.int 8)) a8))) (a7 (j6 (a7 (dC (.int 0)) (a7 (dC (.int 8)) a8))) (a7 (j6 (a7 (dC (.int 3)) (a7 (dC (.int 4)) a8))) a8))))))) a8))))) (e8 (D6 1 (O8 U7 (dL 1) (u8 (u9 (a7 (j6 (a7 (j6 (a7 (dC (.int 0)) (a7 (dC (.int 0)) a8))) (a7 (j6 (a7 (dC (.int 6)) (a7 (dC (.int 0)) a8))) (a7 (j6 (a7 (dC (.int 6)) (a7 (dC (.int 2)) a8))) (a7 (j6 (a7 (dC (.int 2)) (a7 (dC (.int 2)) a8))) (a7 (j6 (a7 (dC (.int 2)) (a7 (dC (.int 4)) a8))) (a7 (j6 (a7 (dC (.int 6)) (a7 (dC (.int 4)) a8))) (a7 (j6 (a7 (dC (.int 6)) (a7 (dC (.int 6)) a8))) (a7 (j6 (a7 (dC (.int 0)) (a7 (dC (.int 6)) a8))) a8))))))))) a8))))) (e8 (j7 (dOp pIx (dL 1) (e7 mh (a7 (dV 0) (a7 (dC (.int 7)) a8)))) (c9 2)) (e8 (j7 (e7 mh (a7 (dV 0) (a7 (dCB (one t6) (a7 (dL 2) a8)) a8))) (c9 3)) (e8 (j7 (a1i (dOp p7 (dSl (dL 2) (dAt (dL 3)) dNo) (dSl (dL 2) dNo (dAt (dL 3)))) (dOp B2 (dC (.int 1)) (dOp l8 (dC (.int 2)) (e7 mh (a7 (dV 0) (a7 (dC (.int 2)) a8)))))) (c9 2)) (e8 (j7 (dOp pIx (u8 (u9 (a7 (j6 (a7 (dC (.int 1)) (a7 (dC (.int 0)) (a7 (dC (.int 1)) a8)))) (a7 (j6 (a7 (dC (.int 0)) (a7 (dC (.int 1)) (a7 (dC (.int 1)) a8)))) (a7 (j6 (a7 (dC (.int 3)) (a7 (dC (.int 4)) (a7 (dC (.int 5)) a8)))) (a7 (j6 (a7 (dUn v7 (dC (.int 4))) (a7 (dC (.int 3)) (a7 (dC (.int 5)) a8)))) (a7 (j6 (a7 (dC (.int 5)) (a7 (dC (.int 12)) (a7 (dC (.int 13)) a8)))) a8))))))) (e7 mh (a7 (dV 0) (a7 (dC (.int 5)) a8)))) (t9 3 (l7 (c9 4) (l7 (c9 5) (l7 (c9 6) u4))))) (e8 (j7 (dOp pIx (u8 (u9 (a7 (j6 (a7 (dC (.int 1)) (a7 (dC (.int 1)) a8))) (a7 (j6 (a7 (dC (.int 1)) (a7 (dC (.int 2)) a8))) (a7 (j6 (a7 (dC (.int 3)) (a7 (dC (.int 1)) a8))) a8))))) (e7 mh (a7 (dV 0) (a7 (dC (.int 3)) a8)))) (c9 7)) (e8 (j7 (e7 mC (a7 (dV 0) a8)) (t9 2 (l7 (c9 8) (l7 (c9 9) u4)))) (e8 (D6 10 (u9 a8)) (e8 (F6 (dV 2) (t9 2 (l7 (c9 11) (l7 (c9 12) u4))) (a1b mv ma me mC mh)) (l6 (j6 (a7 (dC (.bl true)) (a7 (dCB (one G8) (a7 (dL 10) a8)) a8))))))))))))))))
def a4y (mv:DFn) (ma:DFn) (me:DFn) (mC:DFn) (mh:DFn):DFn:=mFn 15 (a3X mv ma me mC mh)
abbrev a5f (mh:DFn):DM:=(D6 7 (O8 U7 (dL 7) (u8 (u9 (a7 (j6 (a7 (dV 8) (a7 (dV 9) (a7 (dV 6) a8)))) (a7 (j6 (a7 (dUn v7 (dL 9)) (a7 (dV 8) (a7 (dV 6) a8)))) (a7 (j6 (a7 (dUn v7 (dL 8)) (a7 (dUn v7 (dL 9)) (a7 (dV 6) a8)))) (a7 (j6 (a7 (dV 9) (a7 (dUn v7 (dL 8)) (a7 (dV 6) a8)))) a8))))))))
def a05 (mh:DFn):DM:=(e8 (j7 (dOp pIx (u8 (u9 (a7 (dC (.int 1)) (a7 (dC (.int 1)) (a7 (dC (.int 1)) (a7 (dC (.int 1)) (a7 (dC (.int 1)) (a7 (dC (.int 1)) (a7 (dC (.int 1)) (a7 (dOp W8 (dC (.int 10)) (dC (.int 12))) a8)))))))))) (e7 mh (a7 (dV 0) (a7 (dC (.int 8)) a8)))) (c9 1)) (e8 (j7 (e7 mh (a7 (dV 0) (a7 (dC (.int 5)) a8))) (c9 2)) (e8 (p9 (dB (dOp pEq (dL 2) (dC (.int 0)))) (e8 (D6 3 (u9 (a7 (j6 (a7 (dC (.int 1)) (a7 (dC (.int 1)) a8))) (a7 (j6 (a7 (dC (.int 2)) (a7 (dC (.int 1)) a8))) (a7 (j6 (a7 (dC (.int 1)) (a7 (dC (.int 2)) a8))) (a7 (j6 (a7 (dC (.int 40)) (a7 (dC (.int 1)) a8))) (a7 (j6 (a7 (dC (.int 7)) (a7 (dC (.int 3)) a8))) a8))))))) (l6 (j6 (a7 (u8 (u9 (a7 (j6 (a7 (dC (.int 1)) (a7 (dC (.int 0)) (a7 (dC (.int 1)) a8)))) (a7 (j6 (a7 (dC (.int 0)) (a7 (dC (.int 1)) (a7 (dC (.int 1)) a8)))) (a7 (j6 (a7 (dUn v7 (dC (.int 1))) (a7 (dC (.int 0)) (a7 (dC (.int 1)) a8)))) (a7 (j6 (a7 (dC (.int 0)) (a7 (dUn v7 (dC (.int 1))) (a7 (dC (.int 1)) a8)))) a8)))))) (a7 (u8 (L6 [1] (G6 (dV 3)) B7 (j6 (a7 (dOp l8 (dL 2) (dL 0)) (a7 (dV 1) a8))))) a8))))) u6) (e8 (j7 (dOp pIx (u8 (u9 (a7 (j6 (a7 (dC (.int 3)) (a7 (dC (.int 4)) (a7 (dC (.int 5)) a8)))) (a7 (j6 (a7 (dC (.int 3)) (a7 (dC (.int 4)) (a7 (dC (.int 5)) a8)))) (a7 (j6 (a7 (dC (.int 5)) (a7 (dC (.int 12)) (a7 (dC (.int 13)) a8)))) (a7 (j6 (a7 (dC (.int 8)) (a7 (dC (.int 15)) (a7 (dC (.int 17)) a8)))) a8)))))) (dOp B2 (dL 2) (dC (.int 1)))) (t9 3 (l7 (c9 4) (l7 (c9 5) (l7 (c9 6) u4))))) (e8 (D6 7 (u9 (a7 (j6 (a7 (dV 6) (a7 (dC (.int 0)) (a7 (dV 6) a8)))) (a7 (j6 (a7 (dC (.int 0)) (a7 (dV 6) (a7 (dV 6) a8)))) (a7 (j6 (a7 (dUn v7 (dL 6)) (a7 (dC (.int 0)) (a7 (dV 6) a8)))) (a7 (j6 (a7 (dC (.int 0)) (a7 (dUn v7 (dL 6)) (a7 (dV 6) a8)))) a8)))))) (e8 (F6 (u8 (u9 (a7 (j6 (a7 (dV 4) (a7 (dV 5) a8))) (a7 (j6 (a7 (dV 5) (a7 (dV 4) a8))) a8)))) (t9 2 (l7 (c9 8) (l7 (c9 9) u4))) (a5f mh)) (l6 (j6 (a7 (dV 7) (a7 (u8 (L6 [1] (G6 (u8 (u9 (a7 (j6 (a7 (dV 6) (a7 (dC (.int 1)) a8))) (a7 (j6 (a7 (dC (.int 1)) (a7 (dC (.int 1)) a8))) (a7 (j6 (a7 (dV 6) (a7 (dC (.int 2)) a8))) (a7 (j6 (a7 (dC (.int 2)) (a7 (dC (.int 1)) a8))) a8))))))) B7 (j6 (a7 (dOp l8 (dL 2) (dL 0)) (a7 (dV 1) a8))))) a8))))))))))
def a3t (mh:DFn):DFn:=mFn 10 (a05 mh)
abbrev a1h (mv:DFn) (ma:DFn) (me:DFn) (mh:DFn) (mC:DFn) (mU:DFn):DM:=(e8 (D6 9 (F7 [7] (G6 (dV 2)) (dB (dOp pNe (dL 0) (dL 1))) (dV 0))) (e8 (j7 (dOp pIx (dL 9) (e7 mh (a7 (dV 0) (a7 (dCB (one t6) (a7 (dL 9) a8)) a8)))) (c9 7)) (e8 (j7 (dOp pIx (dL 3) (e7 mh (a7 (dV 0) (a7 (dCB (one t6) (a7 (dL 3) a8)) a8)))) (c9 10)) (e8 (j7 (e7 ma (a7 (dV 4) (a7 (e7 me (a7 (dV 10) (a7 (j6 (a7 (dOp pIx (dL 7) (dC (.int 0))) (a7 (dOp pIx (dL 7) (dC (.int 2))) a8))) a8))) a8))) (c9 4)) (e8 (j7 (e7 ma (a7 (dV 5) (a7 (e7 me (a7 (dV 10) (a7 (j6 (a7 (dOp pIx (dL 7) (dC (.int 1))) (a7 (dOp pIx (dL 7) (dC (.int 2))) a8))) a8))) a8))) (c9 5)) (G1 6 (e7 mv (a7 (dV 4) (a7 (dV 5) a8)))))))))
def a25 (mv:DFn) (ma:DFn) (me:DFn) (mh:DFn) (mC:DFn) (mU:DFn):DM:=(e8 (j7 (e7 mU (a7 (dV 0) a8)) (t9 2 (l7 (c9 2) (l7 (c9 3) u4)))) (e8 (j7 (e7 mC (a7 (dV 0) a8)) (t9 2 (l7 (c9 4) (l7 (c9 5) u4)))) (e8 (D6 6 (u9 (a7 (e7 mv (a7 (dV 4) (a7 (dV 5) a8))) a8))) (e8 (j7 (dC .non) (c9 7)) (e8 (O9 (a7 (dOp p7 (dC (.int 1)) (e7 mh (a7 (dV 0) (a7 (dOp B2 (dL 1) (dC (.int 1))) a8)))) a8) (c9 8) (a1h mv ma me mh mC mU)) (l6 (j6 (a7 (dC (.bl false)) (a7 (dCB (one G8) (a7 (dL 6) a8)) a8)))))))))
def a2P (mv:DFn) (ma:DFn) (me:DFn) (mh:DFn) (mC:DFn) (mU:DFn):DFn:=mFn 11 (a25 mv ma me mh mC mU)
def b04 (mh:DFn) (m0e:DFn) (m0f:DFn):DM:=(l6 (dIf (dB (dOp pEq (e7 mh (a7 (dV 0) (a7 (dC (.int 3)) a8))) (dC (.int 0)))) (e7 m0e (a7 (dV 0) a8)) (e7 m0f (a7 (dV 0) (a7 (dV 1) a8)))))
def a4N (mh:DFn) (m0e:DFn) (m0f:DFn):DFn:=mFn 2 (b04 mh m0e m0f)
abbrev a5y (mr:DFn) (mV:DFn):DM:=(G1 1 (e7 mr (a7 (dOp pIx (dL 1) (dUn v7 (dC (.int 1)))) (a7 (dV 2) a8))))
def a4n (mr:DFn) (mV:DFn):DM:=(e8 (D6 1 (u9 (a7 (j6 (a7 (dC (.int 0)) (a7 (dC (.int 1)) a8))) a8))) (e8 (F6 (e7 mV (a7 (dV 0) a8)) (c9 2) (a5y mr mV)) (l6 (dV 1))))
def Y2 (mr:DFn) (mV:DFn):DFn:=mFn 3 (a4n mr mV)
def b35 (mw:DFn):DM:=(l6 (dOp pIx (e7 mw (a7 (dV 0) a8)) (dUn v7 (dC (.int 1)))))
def a1Y (mw:DFn):DFn:=mFn 1 (b35 mw)
def a2x:DM:=(e8 (j7 (dV 0) (t9 2 (l7 (c9 1) (l7 (c9 2) u4)))) (e8 (D6 3 (F7 [2] (N9 (a7 (dOp B2 (dCB (one t6) (a7 (dL 2) a8)) (dC (.int 1))) a8)) B7 (j6 (a7 (dOp pIx (dL 1) (dL 0)) (a7 (dOp pIx (dL 1) (dOp p7 (dL 0) (dC (.int 1)))) a8))))) (l6 (u8 (O8 U7 (dL 3) (u8 (O8 a2h (u8 (u9 (a7 (j6 (a7 (dOp pIx (dL 2) (dUn v7 (dC (.int 1)))) (a7 (dOp pIx (dL 2) (dC (.int 0))) a8))) a8))) (dCB (one a3W) (a7 (dL 1) a8)))))))))
def J0:DFn:=mFn 4 (a2x)
def b32 (mq:DFn):DM:=(l6 (j6 (a7 (e7 mq (a7 (dOp pIx (dL 0) (dC (.int 0))) (a7 (dOp pIx (dL 0) (dC (.int 2))) a8))) (a7 (e7 mq (a7 (dOp pIx (dL 0) (dC (.int 1))) (a7 (dOp pIx (dL 0) (dC (.int 2))) a8))) a8))))
def a0y (mq:DFn):DFn:=mFn 1 (b32 mq)
def b1A (mq:DFn):DM:=(l6 (e7 mq (a7 (dOp B2 (dOp l8 (dOp pIx (dL 0) (dC (.int 0))) (dOp pIx (dL 1) (dC (.int 1)))) (dOp l8 (dOp pIx (dL 1) (dC (.int 0))) (dOp pIx (dL 0) (dC (.int 1))))) (a7 (dOp l8 (dOp pIx (dL 0) (dC (.int 1))) (dOp pIx (dL 1) (dC (.int 1)))) a8))))
def N0 (mq:DFn):DFn:=mFn 2 (b1A mq)
def a0D (ma:DFn) (me:DFn) (mj:DFn) (mJ:DFn):DM:=(e8 (j7 (j6 (a7 (e7 mJ (a7 (dV 0) a8)) (a7 (e7 mJ (a7 (dV 1) a8)) a8))) (t9 2 (l7 (t9 2 (l7 (c9 2) (l7 (c9 3) u4))) (l7 (t9 2 (l7 (c9 4) (l7 (c9 5) u4))) u4)))) (e8 (D9 6 7 (a7 (e7 mj (a7 (dV 4) (a7 (dV 2) a8))) (a7 (e7 mj (a7 (dV 5) (a7 (dV 3) a8))) a8))) (l6 (e7 ma (a7 (e7 me (a7 (dV 6) (a7 (dV 6) a8))) (a7 (e7 me (a7 (dV 7) (a7 (dV 7) a8))) a8))))))
def a1Z (ma:DFn) (me:DFn) (mj:DFn) (mJ:DFn):DFn:=mFn 8 (a0D ma me mj mJ)
abbrev a7l:DM:=(j7 (dOp l8 (dL 2) (dC (.int 2))) (c9 2))
abbrev a1F:DM:=(e8 (p9 (dB (dOp (n9 (fun i j=>decide (i≤j))) (dOp l8 (dOp p7 (dL 1) (dL 2)) (dOp p7 (dL 1) (dL 2))) (dL 0))) (j7 (dOp p7 (dL 1) (dL 2)) (c9 1)) u6) (j7 (dOp A4 (dL 2) (dC (.int 2))) (c9 2)))
def a2F:DM:=(e8 (j7 (dC (.int 0)) (c9 1)) (e8 (j7 (dC (.int 1)) (c9 2)) (e8 (C5 (dB (dOp (n9 (fun i j=>decide (i≤j))) (dOp l8 (dL 2) (dL 2)) (dL 0))) (a7l)) (e8 (C5 (dB (dOp (n9 (fun i j=>decide (j<i))) (dL 2) (dC (.int 0)))) (a1F)) (l6 (dV 1))))))
def W0:DFn:=mFn 3 (a2F)
def a0u (m09:DFn) (m0g:DFn):DM:=(e8 (j7 (e7 m0g (a7 (dV 0) (a7 (dV 1) a8))) (t9 2 (l7 (c9 2) (l7 (c9 3) u4)))) (l6 (j6 (a7 (e7 m09 (a7 (dV 2) a8)) (a7 (e7 m09 (a7 (dV 3) a8)) a8)))))
def a1B (m09:DFn) (m0g:DFn):DFn:=mFn 4 (a0u m09 m0g)
abbrev a4i (ma:DFn) (mW:DFn) (mD:DFn):DM:=(G1 1 (e7 ma (a7 (dOp pIx (dL 1) (dUn v7 (dC (.int 1)))) (a7 (e7 mW (a7 (dV 2) (a7 (dV 3) a8))) a8))))
def a0T (ma:DFn) (mW:DFn) (mD:DFn):DM:=(e8 (D6 1 (u9 (a7 (j6 (a7 (dC (.int 0)) (a7 (dC (.int 1)) a8))) a8))) (e8 (F6 (e7 mD (a7 (dV 0) a8)) (t9 2 (l7 (c9 2) (l7 (c9 3) u4))) (a4i ma mW mD)) (l6 (dV 1))))
def a1N (ma:DFn) (mW:DFn) (mD:DFn):DFn:=mFn 4 (a0T ma mW mD)
def b03:DM:=(l6 (dOp (n9 (fun i j=>decide (i<j))) (dOp l8 (dOp pIx (dL 0) (dC (.int 0))) (dOp pIx (dL 1) (dC (.int 1)))) (dOp l8 (dOp pIx (dL 1) (dC (.int 0))) (dOp pIx (dL 0) (dC (.int 1))))))
def t7:DFn:=mFn 2 (b03)
def a4k (mL:DFn):DM:=(e8 (j7 (dOp l8 (dOp pIx (dL 1) (dC (.int 2))) (dOp B2 (dOp pIx (dL 2) (dC (.int 1))) (dOp pIx (dL 2) (dC (.int 0))))) (c9 3)) (e8 (j7 (dOp l8 (dOp pIx (dL 0) (dC (.int 2))) (dOp pIx (dL 2) (dC (.int 0)))) (c9 4)) (l6 (e7 mL (a7 (j6 (a7 (dOp p7 (dOp l8 (dOp pIx (dL 0) (dC (.int 0))) (dL 3)) (dOp l8 (dOp pIx (dL 1) (dC (.int 0))) (dL 4))) (a7 (dOp p7 (dOp l8 (dOp pIx (dL 0) (dC (.int 1))) (dL 3)) (dOp l8 (dOp pIx (dL 1) (dC (.int 1))) (dL 4))) (a7 (dOp l8 (dOp l8 (dOp pIx (dL 0) (dC (.int 2))) (dOp pIx (dL 1) (dC (.int 2)))) (dOp pIx (dL 2) (dC (.int 1)))) a8)))) a8)))))
def a4z (mL:DFn):DFn:=mFn 5 (a4k mL)
abbrev a7D (mX:DFn) (mz:DFn) (mH:DFn) (mI:DFn) (mn:DFn) (mw:DFn):DM:=(j7 (dOp p7 (dL 3) (dC (.int 1))) (c9 3))
def a3K (mX:DFn) (mz:DFn) (mH:DFn) (mI:DFn) (mn:DFn) (mw:DFn):DM:=(e8 (j7 (e7 mw (a7 (dV 0) a8)) (c9 2)) (e8 (j7 (dC (.int 0)) (c9 3)) (e8 (C5 (dTr (e7 mn (a7 (dOp pIx (dL 2) (dOp p7 (dL 3) (dC (.int 1)))) (a7 (dV 1) a8)))) (a7D mX mz mH mI mn mw)) (e8 (j7 (dOp pIx (e7 mI (a7 (dV 0) a8)) (dL 3)) (c9 4)) (e8 (j7 (e7 mH (a7 (dV 1) (a7 (dOp pIx (dL 2) (dL 3)) a8))) (c9 5)) (e8 (j7 (e7 mH (a7 (dOp pIx (dL 2) (dOp p7 (dL 3) (dC (.int 1)))) (a7 (dOp pIx (dL 2) (dL 3)) a8))) (c9 6)) (l6 (e7 mX (a7 (dOp pIx (dL 4) (dC (.int 0))) (a7 (dOp pIx (dL 4) (dC (.int 1))) (a7 (e7 mz (a7 (dOp l8 (dOp pIx (dL 5) (dC (.int 0))) (dOp pIx (dL 6) (dC (.int 1)))) (a7 (dOp l8 (dOp pIx (dL 5) (dC (.int 1))) (dOp pIx (dL 6) (dC (.int 0)))) a8))) a8)))))))))))
def a5j (mX:DFn) (mz:DFn) (mH:DFn) (mI:DFn) (mn:DFn) (mw:DFn):DFn:=mFn 7 (a3K mX mz mH mI mn mw)
def a5l (mv:DFn) (ma:DFn) (me:DFn) (mj:DFn) (mJ:DFn):DM:=(e8 (j7 (j6 (a7 (e7 mJ (a7 (dV 0) a8)) (a7 (e7 mJ (a7 (dV 1) a8)) a8))) (t9 2 (l7 (t9 2 (l7 (c9 3) (l7 (c9 4) u4))) (l7 (t9 2 (l7 (c9 5) (l7 (c9 6) u4))) u4)))) (e8 (j7 (e7 ma (a7 (dV 3) (a7 (e7 me (a7 (dV 2) (a7 (e7 mj (a7 (dV 5) (a7 (dV 3) a8))) a8))) a8))) (c9 3)) (l6 (e7 mv (a7 (dV 3) (a7 (e7 ma (a7 (dV 4) (a7 (e7 me (a7 (dV 2) (a7 (e7 mj (a7 (dV 6) (a7 (dV 4) a8))) a8))) a8))) a8))))))
def a3L (mv:DFn) (ma:DFn) (me:DFn) (mj:DFn) (mJ:DFn):DFn:=mFn 7 (a5l mv ma me mj mJ)
def b4Z (mq:DFn):DM:=(l6 (e7 mq (a7 (dOp l8 (dOp pIx (dL 0) (dC (.int 0))) (dOp pIx (dL 1) (dC (.int 1)))) (a7 (dOp l8 (dOp pIx (dL 0) (dC (.int 1))) (dOp pIx (dL 1) (dC (.int 0)))) a8))))
def a2H (mq:DFn):DFn:=mFn 2 (b4Z mq)
abbrev a1J (mm:DFn) (mY:DFn) (mZ:DFn) (mj:DFn) (mD:DFn):DM:=(p9 (dTr (e7 mm (a7 (dOp pIx (dL 1) (dL 4)) (a7 (dV 2) a8)))) (e8 (j7 (e7 mj (a7 (dOp pIx (dL 1) (dOp p7 (dL 4) (dC (.int 1)))) (a7 (dOp pIx (dL 1) (dL 4)) a8))) (c9 7)) (j7 (e7 mY (a7 (dV 5) (a7 (dV 6) (a7 (e7 mZ (a7 (e7 mj (a7 (dV 2) (a7 (dOp pIx (dL 1) (dL 4)) a8))) (a7 (dV 7) a8))) a8)))) (c9 3))) u6)
def a4h (mm:DFn) (mY:DFn) (mZ:DFn) (mj:DFn) (mD:DFn):DM:=(e8 (j7 (dOp pIx (dOp pIx (dL 0) (dC (.int 1))) (dC (.int 0))) (c9 3)) (e8 (a0N (a7 (e7 mD (a7 (dV 0) a8)) a8) (t9 2 (l7 (c9 4) (l7 (t9 2 (l7 (c9 5) (l7 (c9 6) u4))) u4))) (a1J mm mY mZ mj mD)) (l6 (dV 3))))
def a5q (mm:DFn) (mY:DFn) (mZ:DFn) (mj:DFn) (mD:DFn):DFn:=mFn 8 (a4h mm mY mZ mj mD)
abbrev a1A (mS:DFn) (mn:DFn) (mw:DFn):DM:=(p9 (A8 (dTr (e7 mn (a7 (dV 1) (a7 (dV 5) a8)))) (dTr (e7 mn (a7 (dV 5) (a7 (dV 2) a8))))) (G1 3 (dV 4)) u6)
def a3r (mS:DFn) (mn:DFn) (mw:DFn):DM:=(e8 (D6 3 (u9 (a7 (e7 mS (a7 (dV 0) (a7 (dV 1) a8))) a8))) (e8 (X0 (a7 (dOp pIx (dL 0) (dC (.int 1))) (a7 (e7 mw (a7 (dV 0) a8)) a8)) (t9 2 (l7 (c9 4) (l7 (c9 5) u4))) (a1A mS mn mw)) (e8 (G1 3 (e7 mS (a7 (dV 0) (a7 (dV 2) a8)))) (l6 (j6 (a7 (dC (.bl false)) (a7 (dCB (one G8) (a7 (dL 3) a8)) a8)))))))
def a2G (mS:DFn) (mn:DFn) (mw:DFn):DFn:=mFn 6 (a3r mS mn mw)
def a4F (me:DFn) (mh:DFn):DM:=(e8 (j7 (dOp pIx (u8 (u9 (a7 (dC (.int 2)) (a7 (dC (.int 4)) (a7 (dC (.int 2)) (a7 (dC (.int 6)) a8)))))) (e7 mh (a7 (dV 0) (a7 (dC (.int 4)) a8)))) (c9 2)) (e8 (j7 (dCB (one G8) (a7 (u8 (F7 [1,0] (N9 (a7 (dV 2) a8)) B7 (e7 me (a7 (dV 1) (a7 (j6 (a7 (dOp p7 (dC (.int 1)) (e7 mh (a7 (dV 2) (a7 (dC (.int 5)) a8)))) (a7 (dC (.int 24)) a8))) a8))))) a8)) (c9 3)) (e8 (j7 (dOp pIx (u8 (u9 (a7 (j6 (a7 (dC (.int 0)) (a7 (dC (.int 1)) a8))) (a7 (j6 (a7 (dC (.int 1)) (a7 (dC (.int 2)) a8))) (a7 (j6 (a7 (dC (.int 1)) (a7 (dC (.int 24)) a8))) (a7 (j6 (a7 (dC (.int 5)) (a7 (dC (.int 6)) a8))) (a7 (j6 (a7 (dC (.int 1)) (a7 (dC (.int 3)) a8))) a8))))))) (e7 mh (a7 (dV 0) (a7 (dC (.int 5)) a8)))) (c9 4)) (l6 (j6 (a7 (dV 3) (a7 (e7 me (a7 (dV 1) (a7 (dV 4) a8))) a8)))))))
def a4g (me:DFn) (mh:DFn):DFn:=mFn 5 (a4F me mh)
abbrev a8K (mr:DFn):DM:=(j7 (e7 mr (a7 (dV 1) (a7 (dV 2) a8))) (c9 1))
def a5s (mr:DFn):DM:=(e8 (j7 (j6 (a7 (dC (.int 0)) (a7 (dC (.int 1)) a8))) (c9 1)) (e8 (F6 (dV 0) (c9 2) (a8K mr)) (l6 (dV 1))))
def a10 (mr:DFn):DFn:=mFn 3 (a5s mr)
def a5a (mH:DFn) (m0h:DFn) (m0i:DFn):DM:=(e8 (j7 (e7 m0i (a7 (dV 0) a8)) (c9 2)) (e8 (j7 (dOp A4 (dOp l8 (dOp pIx (dL 1) (dC (.int 0))) (dOp pIx (dL 2) (dC (.int 1)))) (dOp l8 (dOp pIx (dL 1) (dC (.int 1))) (dOp pIx (dL 2) (dC (.int 0))))) (c9 3)) (l6 (e7 mH (a7 (e7 m0h (a7 (dV 2) (a7 (j6 (a7 (dV 3) (a7 (dC (.int 1)) a8))) a8))) (a7 (dV 1) a8))))))
def a1G (mH:DFn) (m0h:DFn) (m0i:DFn):DFn:=mFn 4 (a5a mH m0h m0i)
def b5Z (mn:DFn):DM:=(l6 (dIf (dTr (e7 mn (a7 (dV 0) (a7 (dV 1) a8)))) (dV 1) (dV 0)))
def a1T (mn:DFn):DFn:=mFn 2 (b5Z mn)
def b5J (mn:DFn):DM:=(l6 (dIf (dTr (e7 mn (a7 (dV 0) (a7 (dV 1) a8)))) (dV 0) (dV 1)))
def a1R (mn:DFn):DFn:=mFn 2 (b5J mn)
abbrev a2i (mn:DFn) (m00:DFn) (m01:DFn) (mr:DFn) (m02:DFn) (m03:DFn):DM:=(e8 (j7 (e7 mr (a7 (dV 5) (a7 (dOp pIx (dL 1) (dL 6)) a8))) (c9 7)) (e8 (p9 (A8 (dB (dOp pEq (dOp y8 (dL 6) (dC (.int 2))) (dC (.int 0)))) (dTr (e7 mn (a7 (j6 (a7 (dC (.int 0)) (a7 (dC (.int 1)) a8))) (a7 (dV 7) a8))))) (G1 4 (j6 (a7 (e7 m01 (a7 (dV 5) (a7 (j6 (a7 (dC (.int 0)) (a7 (dC (.int 1)) a8))) a8))) (a7 (e7 m00 (a7 (dV 7) (a7 (dV 3) a8))) a8)))) u6) (e8 (p9 (dB (dOp (n9 (fun i j=>decide (j<i))) (dCB (one t6) (a7 (dL 4) a8)) (dC (.int 200)))) a7y u6) (e8 (j7 (dV 7) (c9 5)) (j7 (dOp y8 (dOp p7 (dL 6) (dC (.int 1))) (dCB (one t6) (a7 (dL 1) a8))) (c9 6))))))
def a3c (mn:DFn) (m00:DFn) (m01:DFn) (mr:DFn) (m02:DFn) (m03:DFn):DM:=(e8 (j7 (e7 m03 (a7 (dV 0) a8)) (c9 3)) (e8 (D6 4 (u9 a8)) (e8 (j7 (e7 m02 (a7 (dV 1) (a7 (dV 2) a8))) (c9 5)) (e8 (j7 (dC (.int 0)) (c9 6)) (e8 (C5 (dTr (e7 mn (a7 (dV 5) (a7 (dV 3) a8)))) (a2i mn m00 m01 mr m02 m03)) (l6 (dV 4)))))))
def a1O (mn:DFn) (m00:DFn) (m01:DFn) (mr:DFn) (m02:DFn) (m03:DFn):DFn:=mFn 8 (a3c mn m00 m01 mr m02 m03)
def b5L (mE:DFn) (m0j:DFn):DM:=(l6 (u8 (L6 [0] (G6 (e7 mE (a7 (dV 0) (a7 (dV 1) (a7 (dV 2) a8))))) B7 (e7 m0j (a7 (dV 2) (a7 (dV 0) (a7 (dV 1) a8)))))))
def a2q (mE:DFn) (m0j:DFn):DFn:=mFn 3 (b5L mE m0j)
abbrev a1C (mm:DFn) (me:DFn) (ma:DFn) (mh:DFn):DM:=(a0P 3 (a7 (u8 (u9 (a7 (dV 4) (a7 (dV 5) (a7 (e7 me (a7 (e7 ma (a7 (dV 4) (a7 (dV 5) a8))) (a7 (j6 (a7 (dC (.int 1)) (a7 (dC (.int 2)) a8))) a8))) a8))))) a8))
abbrev a0F (mm:DFn) (me:DFn) (ma:DFn) (mh:DFn):DM:=(G1 3 (e7 me (a7 (e7 ma (a7 (dOp pIx (dOp pIx (dL 2) (dL 6)) (dC (.int 1))) (a7 (dOp pIx (dOp pIx (dL 2) (dOp p7 (dL 6) (dC (.int 1)))) (dC (.int 0))) a8))) (a7 (j6 (a7 (dC (.int 1)) (a7 (dC (.int 2)) a8))) a8))))
def a4s (mm:DFn) (me:DFn) (ma:DFn) (mh:DFn):DM:=(e8 (D6 3 (F7 [1,0] (N9 (a7 (dC (.int 6)) a8)) B7 (e7 me (a7 (dV 1) (a7 (j6 (a7 (dOp p7 (dC (.int 1)) (e7 mh (a7 (dV 2) (a7 (dC (.int 95)) a8)))) (a7 (dC (.int 96)) a8))) a8))))) (e8 (F6 (dV 2) (t9 2 (l7 (c9 4) (l7 (c9 5) u4))) (a1C mm me ma mh)) (e8 (O9 (a7 (dOp B2 (dCB (one t6) (a7 (dL 2) a8)) (dC (.int 1))) a8) (c9 6) (a0F mm me ma mh)) (l6 (u8 (F7 [1] (G6 (dV 3)) (A8 (dB (dOp (n9 (fun i j=>decide (j<i))) (dOp pIx (dL 0) (dC (.int 0))) (dC (.int 0)))) (dTr (e7 mm (a7 (dV 0) (a7 (dV 1) a8))))) (dV 0)))))))
def a4O (mm:DFn) (me:DFn) (ma:DFn) (mh:DFn):DFn:=mFn 7 (a4s mm me ma mh)
abbrev a3R (mm:DFn):DM:=(e8 (p9 (dOr (dB (dOp (n9 (fun i j=>decide (i<j))) (dOp pIx (dL 3) (dC (.int 0))) (dC (.int 0)))) (dOr (B1 (dTr (e7 mm (a7 (dV 3) (a7 (dV 4) a8))))) (dTr (e7 mm (a7 (dV 0) (a7 (dV 4) a8)))))) (l6 (dC (.bl false))) u6) (e8 (p9 (A8 (dB (dOp a2W (dL 2) (dC .non))) (B1 (dTr (e7 mm (a7 (dV 2) (a7 (dV 3) a8)))))) (l6 (dC (.bl false))) u6) (j7 (dV 4) (c9 2))))
def a4j (mm:DFn):DM:=(e8 (j7 (dC .non) (c9 2)) (e8 (F6 (dV 1) (t9 2 (l7 (c9 3) (l7 (c9 4) u4))) (a3R mm)) (l6 (dC (.bl true)))))
def a2V (mm:DFn):DFn:=mFn 5 (a4j mm)
abbrev a21 (ma:DFn):DM:=(j7 (e7 ma (a7 (dV 1) (a7 (dV 2) a8))) (c9 1))
def a4x (ma:DFn):DM:=(e8 (j7 (j6 (a7 (dC (.int 0)) (a7 (dC (.int 1)) a8))) (c9 1)) (e8 (F6 (dV 0) (c9 2) (a21 ma)) (l6 (dV 1))))
def a0k (ma:DFn):DFn:=mFn 3 (a4x ma)
def a27 (mj:DFn) (me:DFn) (mt:DFn):DM:=(e8 (j7 (e7 mt (a7 (dV 0) a8)) (c9 2)) (e8 (j7 (dOp A4 (dOp l8 (dOp pIx (dL 1) (dC (.int 0))) (dOp pIx (dL 2) (dC (.int 1)))) (dOp l8 (dOp pIx (dL 1) (dC (.int 1))) (dOp pIx (dL 2) (dC (.int 0))))) (c9 3)) (l6 (j6 (a7 (dV 3) (a7 (e7 mj (a7 (dV 1) (a7 (e7 me (a7 (dV 2) (a7 (j6 (a7 (dV 3) (a7 (dC (.int 1)) a8))) a8))) a8))) a8))))))
def a13 (mj:DFn) (me:DFn) (mt:DFn):DFn:=mFn 4 (a27 mj me mt)
abbrev a1p (mj:DFn) (ma:DFn) (mm:DFn) (me:DFn) (mt:DFn) (mF:DFn):DM:=(e8 (j7 (dIf (dTr (e7 mm (a7 (dV 3) (a7 (dOp pIx (dL 0) (dL 5)) a8)))) (dV 3) (dOp pIx (dL 0) (dL 5))) (c9 6)) (e8 (p9 (dB (dOp pEq (dOp y8 (dL 5) (dC (.int 2))) (dC (.int 0)))) (j7 (e7 ma (a7 (dV 4) (a7 (dV 6) a8))) (c9 4)) u6) (j7 (e7 mj (a7 (dV 3) (a7 (dV 6) a8))) (c9 3))))
def a4r (mj:DFn) (ma:DFn) (mm:DFn) (me:DFn) (mt:DFn) (mF:DFn):DM:=(e8 (j7 (e7 mF (a7 (dV 0) (a7 (dV 1) a8))) (t9 2 (l7 (c9 2) (l7 (c9 3) u4)))) (e8 (j7 (e7 me (a7 (e7 mt (a7 (a5A (dL 0) (dC (.int 2))) a8)) (a7 (j6 (a7 (dV 2) (a7 (dC (.int 1)) a8))) a8))) (c9 4)) (e8 (O9 (a7 (dCB (one t6) (a7 (dL 0) a8)) a8) (c9 5) (a1p mj ma mm me mt mF)) (l6 (dV 4)))))
def a3q (mj:DFn) (ma:DFn) (mm:DFn) (me:DFn) (mt:DFn) (mF:DFn):DFn:=mFn 7 (a4r mj ma mm me mt mF)
abbrev a1L (mj:DFn) (mm:DFn) (mF:DFn):DM:=(e8 (p9 (A8 (B1 (dTr (e7 mm (a7 (dOp pIx (dL 0) (dL 3)) (a7 (dV 2) a8))))) (dB (dOp pEq (dOp y8 (dL 3) (dC (.int 2))) (dC (.int 0))))) (l6 (dC (.bl true))) u6) (e8 (j7 (e7 mj (a7 (dV 2) (a7 (dOp pIx (dL 0) (dL 3)) a8))) (c9 2)) (p9 (dB (dOp (n9 (fun i j=>decide (i<j))) (dOp pIx (dL 2) (dC (.int 0))) (dC (.int 0)))) (l6 (dC (.bl false))) u6)))
def a0J (mj:DFn) (mm:DFn) (mF:DFn):DM:=(e8 (j7 (dOp pIx (e7 mF (a7 (dV 0) (a7 (dV 1) a8))) (dC (.int 1))) (c9 2)) (e8 (O9 (a7 (dCB (one t6) (a7 (dL 0) a8)) a8) (c9 3) (a1L mj mm mF)) (l6 (dOp pEq (dL 2) (j6 (a7 (dC (.int 0)) (a7 (dC (.int 1)) a8)))))))
def a5i (mj:DFn) (mm:DFn) (mF:DFn):DFn:=mFn 4 (a0J mj mm mF)
abbrev a2b (mN:DFn) (mB:DFn) (mj:DFn) (mO:DFn) (mP:DFn) (ma:DFn) (mm:DFn) (mQ:DFn) (mt:DFn) (mM:DFn) (mR:DFn) (mE:DFn):DM:=(e8 (D6 9 (L6 [8] (G6 (dV 6)) (A8 (B1 (dTr (e7 mm (a7 (dV 2) (a7 (dV 0) a8))))) (B1 (dTr (e7 mm (a7 (dV 1) (a7 (dV 2) a8)))))) (dC (.int 1)))) (p9 (dB (dOp pNe (dOp pNe (dL 9) (u8 (u9 a8))) (e7 mP (a7 (dV 2) (a7 (e7 ma (a7 (dV 3) (a7 (dV 8) a8))) a8))))) (l6 (dC (.bl false))) u6))
abbrev a1m (mN:DFn) (mB:DFn) (mj:DFn) (mO:DFn) (mP:DFn) (ma:DFn) (mm:DFn) (mQ:DFn) (mt:DFn) (mM:DFn) (mR:DFn) (mE:DFn):DM:=(p9 (dOr (dB (dOp pNe (dOp pIx (e7 mB (a7 (dV 11) a8)) (dUn v7 (dC (.int 1)))) (e7 mj (a7 (dOp pIx (dL 12) (dC (.int 1))) (a7 (dOp pIx (dL 12) (dC (.int 0))) a8))))) (dB (dOp pNe (dOp pIx (dOp pIx (dL 11) (dC (.int 1))) (dC (.int 0))) (e7 mN (a7 (dV 1) (a7 (dV 4) (a7 (dOp pIx (dL 12) (dC (.int 0))) a8))))))) (l6 (dC (.bl false))) u6)
def a33 (mN:DFn) (mB:DFn) (mj:DFn) (mO:DFn) (mP:DFn) (ma:DFn) (mm:DFn) (mQ:DFn) (mt:DFn) (mM:DFn) (mR:DFn) (mE:DFn):DM:=(e8 (j7 (e7 mB (a7 (dV 1) a8)) (c9 4)) (e8 (j7 (dOp pIx (dL 4) (dUn v7 (dC (.int 1)))) (c9 5)) (e8 (j7 (e7 mE (a7 (dV 1) (a7 (dV 2) (a7 (dV 3) a8)))) (c9 6)) (e8 (p9 (B1 (dTr (e7 mR (a7 (dV 5) (a7 (dV 6) a8))))) (l6 (dC (.bl false))) u6) (e8 (j7 (e7 mj (a7 (e7 mM (a7 (dV 2) (a7 (e7 ma (a7 (dV 3) (a7 (dV 5) a8))) a8))) (a7 (e7 mM (a7 (dV 2) (a7 (dV 3) a8))) a8))) (c9 7)) (e8 (p9 (dB (dOp pNe (e7 mt (a7 (u8 (L6 [] (G6 (dV 6)) B7 (e7 mj (a7 (dV 1) (a7 (dV 0) a8))))) a8)) (dL 7))) (l6 (dC (.bl false))) u6) (e8 (F6 (e7 mQ (a7 (dV 0) (a7 (dV 5) (a7 (dV 6) a8)))) (c9 8) (a2b mN mB mj mO mP ma mm mQ mt mM mR mE)) (e8 (j7 (e7 mO (a7 (dV 1) (a7 (dV 2) (a7 (dV 3) a8)))) (c9 10)) (e8 (X0 (a7 (dV 10) (a7 (dV 6) a8)) (t9 2 (l7 (c9 11) (l7 (c9 12) u4))) (a1m mN mB mj mO mP ma mm mQ mt mM mR mE)) (l6 (dOp pEq (dCB (one t6) (a7 (dL 10) a8)) (dCB (one t6) (a7 (dL 6) a8)))))))))))))
def a4Y (mN:DFn) (mB:DFn) (mj:DFn) (mO:DFn) (mP:DFn) (ma:DFn) (mm:DFn) (mQ:DFn) (mt:DFn) (mM:DFn) (mR:DFn) (mE:DFn):DFn:=mFn 13 (a33 mN mB mj mO mP ma mm mQ mt mM mR mE)
abbrev a1q (m04:DFn) (m05:DFn) (mB:DFn) (m06:DFn) (m07:DFn):DM:=(e8 (j7 (e7 m06 (a7 (dV 1) (a7 (dC (.int 5)) a8))) (c9 3)) (e8 (j7 (e7 m05 (a7 (dV 1) (a7 (dOp pIx (e7 mB (a7 (dV 3) a8)) (dUn v7 (dC (.int 1)))) a8))) (t9 2 (l7 (c9 4) (l7 (c9 5) u4)))) (p9 (B1 (dTr (e7 m04 (a7 (dV 1) (a7 (dV 3) (a7 (dV 4) (a7 (dV 5) a8))))))) (l6 (dC (.bl false))) u6)))
def a4c (m04:DFn) (m05:DFn) (mB:DFn) (m06:DFn) (m07:DFn):DM:=(e8 (j7 (e7 m07 (a7 (dV 0) a8)) (c9 1)) (e8 (O9 (a7 (dC (.int 2)) a8) (c9 2) (a1q m04 m05 mB m06 m07)) (l6 (dC (.bl true)))))
def a3l (m04:DFn) (m05:DFn) (mB:DFn) (m06:DFn) (m07:DFn):DFn:=mFn 6 (a4c m04 m05 mB m06 m07)
end T
namespace DL
open PySem L2
theorem a0w {n k:Nat}(hk:0<k) (h:n<2 ^ k):n.log2<k:=by
 by_cases h0:n=0
 ·subst h0;simpa using hk
 ·exact(Nat.log2_lt h0).mpr h
theorem Z4 {i:Int}(h:i.natAbs<2 ^ 200):v6 i=true:=by
 have:=a0w (by decide) h
 exact decide_eq_true (by omega)
theorem b55 {j:Int}(h0:j≠0) (h:j.natAbs<2 ^ 200):C1 j=true:=by
 have:=a0w (by decide) h
 unfold C1
 rw[decide_eq_true h0,Bool.true_and]
 exact decide_eq_true (by omega)
theorem a5L (i:Int):B8 (.int i)=true:=by simp[B8,D.plain,D.py,SeqAt.shaped,PyData.canLay0,PyData.depth]
theorem a3G (i j:Int):pNe (.int i) (.int j)=some (.bl (!decide (i=j))):=by
 simp only[pNe,a5L,Bool.and_self,if_true,D.py,PyData.eqv,Bool.beq_eq_decide_eq]
theorem P7 (i j:Int):pEq (.int i) (.int j)=some (.bl (decide (i=j))):=by
 simp only[pEq,a5L,Bool.and_self,if_true,D.py,PyData.eqv,Bool.beq_eq_decide_eq]
theorem a9w {i:Int}(h:i.natAbs.log2<1920):(PySem.Str.ofString (toString i)).length≤1921:=PyProof.Rows.int_text_len_1921 h
theorem a4B {α:Type}{xs:List α}{i:Int}(h0:0≤i) (h1:i<xs.length):atI xs i=xs[i.toNat]?:=by
 unfold atI ixN
 rw[if_pos h0,if_pos h1]
 rfl
theorem N3 {a b:Int}(h:0<b):0≤a.fmod b∧a.fmod b<b:=by
 rw[Int.fmod_eq_emod_of_nonneg a (by omega)]
 exact⟨Int.emod_nonneg a (by omega),Int.emod_lt_of_pos a h⟩
theorem i6 {a b:DM}{s s1:DS}(h:a s=some (.next,s1)):e8 a b s=b s1:=by simp[e8,h,F9]
theorem T3 {a b:DM}{s s1:DS}{d:D}(h:a s=some (.ret d,s1)):e8 a b s=some (.ret d,s1):=by simp[e8,h,F9]
theorem a23 {m:DFn}{a:DA}{s s1:DS}{xs:List D}{d:D}{fs:Option FS}(ha:a s=some (xs,s1)) (hm:m xs s1.fs=some (d,fs)):e7 m a s=some (d,{ s1 with fs:=fs }):=by
 unfold e7
 rw[ha,Option.bind_some,hm]
 rfl
theorem c7 {p:D→D→Option D}{a b:DE}{s s1 s2:DS}{x y z:D}(h1:a s=some (x,s1)) (h2:b s1=some (y,s2)) (h3:p x y=some z):dOp p a b s=some (z,s2):=by
 unfold dOp
 rw[h1,Option.bind_some,h2,Option.bind_some,h3]
 rfl
theorem i5 {a:DE}{b:DA}{s s1 s2:DS}{x:D}{xs:List D}(h1:a s=some (x,s1)) (h2:b s1=some (xs,s2)):a7 a b s=some (x::xs,s2):=by
 unfold a7
 rw[h1,Option.bind_some,h2]
 rfl
theorem l5 {f:DE}{t:D→DS→Option DS}{s s1 s2:DS}{d:D}(h1:f s=some (d,s1)) (h2:t d s1=some s2):j7 f t s=some (.next,s2):=by
 unfold j7
 rw[h1,Option.bind_some,h2]
 rfl
theorem L8 {c:DT}{a b:DM}{s s1:DS}(h:c s=some (true,s1)):p9 c a b s=a s1:=by simp[p9,h]
theorem a41 {c:DT}{a b:DM}{s s1:DS}(h:c s=some (false,s1)):p9 c a b s=b s1:=by simp[p9,h]
theorem o8 {f:DE}{s s1:DS}{d:D}(h:f s=some (d,s1)):l6 f s=some (.ret d,s1):=by simp[l6,h]
theorem C0 {f:DE}{s s1:DS}{b:Bool}(h:f s=some (.bl b,s1)):dB f s=some (b,s1):=by simp[dB,h]
theorem m8 {n:Nat}{b:DM}{ds:List D}{fs:Option FS}{d:D}{s:DS}(h:b ⟨ds.map .val++List.replicate (n - ds.length) .no,fs⟩=some (.ret d,s)):mFn n b ds fs=some (d,s.fs):=by simp[mFn,h]
theorem j9 {m:DFn}{a:DA}{sl:List Sl}{fs:Option FS}{xs:List D}{d:D}(ha:a ⟨sl,fs⟩=some (xs,⟨sl,fs⟩)) (hm:m xs fs=some (d,fs)):e7 m a ⟨sl,fs⟩=some (d,⟨sl,fs⟩):=a23 (s1:=⟨sl,fs⟩) ha hm
theorem v5 {m:DFn}{a:DA}{sl:List Sl}{fs fs':Option FS}{xs:List D}{d:D}(ha:a ⟨sl,fs⟩=some (xs,⟨sl,fs⟩)) (hm:m xs fs=some (d,fs')):e7 m a ⟨sl,fs⟩=some (d,⟨sl,fs'⟩):=a23 (s1:=⟨sl,fs⟩) ha hm
theorem a8r {m:DFn}{a:DA}{sl sl':List Sl}{fs fs' fs2:Option FS}{xs:List D}{d:D}(ha:a ⟨sl,fs⟩=some (xs,⟨sl',fs'⟩)) (hm:m xs fs'=some (d,fs2)):e7 m a ⟨sl,fs⟩=some (d,⟨sl',fs2⟩):=a23 (s1:=⟨sl',fs'⟩) ha hm
theorem a7g {a b c:DE}{s s1 s2 s3:DS}{x y z:D}(h1:a s=some (x,s1)) (h2:b s1=some (y,s2)) (h3:c s2=some (z,s3)):j6 (a7 a (a7 b (a7 c a8))) s=some (.tup [x,y,z],s3):=by
 unfold j6
 rw[i5 h1 (i5 h2 (i5 h3 rfl)),Option.bind_some]
 exact if_pos (e:=(none:Option (D × DS))) (show 3≤sizeLine by decide)
theorem K6 {t:D→DS→Option DS}{b:DM}{d:D}{r:List D}{s s1 s2:DS}(h1:t d s=some s1) (h2:b s1=some (.next,s2)):u7 t b (d::r) s=u7 t b r s2:=by
 rw[u7,h1,Option.bind_some,h2]
 rfl
theorem w9 {a b:DE}{s s1 s2:DS}{x y:D}(h1:a s=some (x,s1)) (h2:b s1=some (y,s2)):j6 (a7 a (a7 b a8)) s=some (.tup [x,y],s2):=by
 unfold j6
 rw[i5 h1 (i5 h2 rfl),Option.bind_some]
 exact if_pos (e:=(none:Option (D × DS))) (show 2≤sizeLine by decide)
theorem b5v {i j:Nat}{f:DA}{s s1 s2:DS}{a b:D}(h:f s=some ([a,b],s1)) (e:{ s1 with sl:=(s1.sl.set i (.val a)).set j (.val b) }=s2):D9 i j f s=some (.next,s2):=by
 unfold D9
 rw[h]
 exact congrArg (fun z=>some (Fl.next,z)) e
theorem E7 {f:DE}{s s1:DS}{b:Bool}(h:f s=some (.bl b,s1)):dTr f s=some (b,s1):=by
 unfold dTr
 rw[h]
 rfl
theorem V6 {a:DT}{s s1:DS}{b:Bool}(h:a s=some (b,s1)):B1 a s=some (!b,s1):=by
 unfold B1
 rw[h]
 rfl
theorem P8 {a b:DT}{s s1:DS}{r:Option (Bool × DS)}(h1:a s=some (true,s1)) (h2:b s1=r):A8 a b s=r:=by
 unfold A8
 rw[h1,Option.bind_some,if_pos rfl]
 exact h2
theorem X6 {a b:DT}{s s1:DS}(h1:a s=some (false,s1)):A8 a b s=some (false,s1):=by
 unfold A8
 rw[h1,Option.bind_some,if_neg Bool.false_ne_true]
theorem b3T {a b:DT}{s s1:DS}(h1:a s=some (true,s1)):dOr a b s=some (true,s1):=by
 unfold dOr
 rw[h1,Option.bind_some,if_pos rfl]
theorem a0C {a b:DT}{s s1:DS}{r:Option (Bool × DS)}(h1:a s=some (false,s1)) (h2:b s1=r):dOr a b s=r:=by
 unfold dOr
 rw[h1,Option.bind_some,if_neg Bool.false_ne_true]
 exact h2
theorem E5 {c:DT}{a:DM}{s s1:DS}(h:c s=some (false,s1)):p9 c a u6 s=some (.next,s1):=by
 rw[a41 h]
 rfl
theorem F1 {i:Nat}{f:DA}{s s1:DS}{ds:List D}(h:f s=some (ds,s1)) (hi:i<s1.sl.length):D6 i f s=some (.next,{ s1 with sl:=s1.sl.set i (.own ds) }):=by
 unfold D6
 rw[h,Option.bind_some,if_pos hi]
theorem Y9 {idx:List Nat}{fi:DA}{fc:DT}{fe:DE}{s s1:DS}{ds R:List D}{fs':Option FS}(h:fi s=some (ds,s1)) (hz:ds.length≤sizeLine) (c:A0 (mk2 idx s1.sl) fc fe ds s1.fs=some (R,fs')):L6 idx fi fc fe s=some (R,{ s1 with fs:=fs' }):=by
 unfold L6
 rw[h,Option.bind_some,if_pos hz,c]
 rfl
theorem C9 {f:DA}{s s1:DS}{ds:List D}(h:f s=some (ds,s1)):u8 f s=some (.lst ds,s1):=by
 unfold u8
 rw[h]
 rfl
theorem a0m {p:D→D→Option (List D)}{a b:DE}{s s1 s2:DS}{x y:D}{z:List D}(h1:a s=some (x,s1)) (h2:b s1=some (y,s2)) (h3:p x y=some z):O8 p a b s=some (z,s2):=by
 unfold O8
 rw[h1,Option.bind_some,h2,Option.bind_some,h3]
 rfl
theorem a08 {idx:List Nat}{fi:DA}{fc:DT}{fe:DE}{s s1:DS}{ds R:List D}(h:fi s=some (ds,s1)) (hz:ds.length≤sizeLine) (c:A0 (fun d=>some (.val d::D4 idx s1.sl)) fc fe ds s1.fs=some (R,s1.fs)):F7 idx fi fc fe s=some (R,s1):=by
 unfold F7
 rw[h,Option.bind_some,if_pos hz,c]
 rfl
theorem Q7 {i:Nat}{f:DE}{s s1:DS}{ds ds0:List D}{d:D}(h0:s.sl[i]? = some (.own ds0)) (h:f s=some (d,s1)) (h1:s1.sl[i]? = some (.own ds)) (hl:ds.length<sizeLine):G1 i f s=some (.next,{ s1 with sl:=s1.sl.set i (.own (ds++[d])) }):=by
 unfold G1
 rw[h0]
 show (f s).bind _=_
 rw[h,Option.bind_some]
 show (match s1.sl[i]? with | some (.own ds)=>_ | _=>_)=_
 rw[h1]
 exact if_pos hl
theorem a4A {a:DE}{s s1:DS}{x:D}(h:a s=some (x,s1)):u9 (a7 a a8) s=some ([x],s1):=by
 unfold u9
 rw[i5 h rfl,Option.bind_some]
 exact if_pos (e:=(none:Option (List D × DS))) (show 1≤sizeLine by decide)
theorem F3 {p:D→Option D}{a:DE}{s s1:DS}{x d:D}(h:a s=some (x,s1)) (hp:p x=some d):dCB (one p) (a7 a a8) s=some (d,s1):=by
 unfold dCB
 rw[i5 h rfl,Option.bind_some]
 show (p x).map _=_
 rw[hp]
 rfl
theorem a1l {c:DT}{a b:DE}{s s1:DS}(h:c s=some (true,s1)):dIf c a b s=a s1:=by
 unfold dIf
 rw[h]
 rfl
theorem a2c {c:DT}{a b:DE}{s s1:DS}(h:c s=some (false,s1)):dIf c a b s=b s1:=by
 unfold dIf
 rw[h]
 rfl
def fr (p:Rat):D:=.tup [.int p.num,.int p.den]
def Sz (k:Nat) (p:Rat):Prop:=p.num.natAbs<2 ^ k∧p.den<2 ^ k
theorem Sz.mono {k l:Nat}{p:Rat}(h:Sz k p) (hl:k≤l):Sz l p:=
 ⟨Nat.lt_of_lt_of_le h.1 (Nat.pow_le_pow_right (by decide) hl),Nat.lt_of_lt_of_le h.2 (Nat.pow_le_pow_right (by decide) hl)⟩
theorem a8L {a b:Int}(hb:b≠0):(Rat.divInt a b).num.natAbs≤a.natAbs∧(Rat.divInt a b).den≤b.natAbs:=by
 constructor
 ·rw[Rat.num_divInt,Int.natAbs_ediv_of_dvd (Int.dvd_mul_of_dvd_right (Int.gcd_dvd_right ..))]
  rw[Int.natAbs_mul,Int.natAbs_sign_of_ne_zero hb,Nat.one_mul]
  exact Nat.div_le_self _ _
 ·rw[Rat.den_divInt,if_neg hb]
  exact Nat.div_le_self _ _
theorem Sz.of_divInt {k:Nat}{a b:Int}(hb:b≠0) (h1:a.natAbs<2 ^ k) (h2:b.natAbs<2 ^ k):Sz k (Rat.divInt a b):=
 ⟨Nat.lt_of_le_of_lt (a8L hb).1 h1,Nat.lt_of_le_of_lt (a8L hb).2 h2⟩
theorem a6H {a b k l:Nat}(h1:a<2 ^ k) (h2:b<2 ^ l):a*b<2 ^ (k+l):=by
 rw[Nat.pow_add]
 exact Nat.mul_lt_mul_of_lt_of_lt h1 h2
theorem b4z {a b k:Nat}(h1:a<2 ^ k) (h2:b<2 ^ k):a+b<2 ^ (k+1):=by
 rw[Nat.pow_succ];omega
def Bd (k:Nat) (i:Int):Prop:=i.natAbs<2 ^ k
theorem Bd.mono {k l:Nat}{i:Int}(h:Bd k i) (hl:k≤l):Bd l i:=Nat.lt_of_lt_of_le h (Nat.pow_le_pow_right (by decide) hl)
theorem Bd.mul {k l:Nat}{i j:Int}(h1:Bd k i) (h2:Bd l j):Bd (k+l) (i*j):=by
 unfold Bd;rw[Int.natAbs_mul];exact a6H h1 h2
theorem Bd.add {k l:Nat}{i j:Int}(h1:Bd k i) (h2:Bd l j):Bd (max k l+1) (i+j):=
 Nat.lt_of_le_of_lt (Int.natAbs_add_le i j) (b4z (h1.mono (Nat.le_max_left ..)) (h2.mono (Nat.le_max_right ..)))
theorem Bd.neg {k:Nat}{i:Int}(h1:Bd k i):Bd k (-i):=by unfold Bd;rw[Int.natAbs_neg];exact h1
theorem Bd.sub {k l:Nat}{i j:Int}(h1:Bd k i) (h2:Bd l j):Bd (max k l+1) (i - j):=by rw[Int.sub_eq_add_neg];exact h1.add h2.neg
theorem Bd.gcd {k:Nat}{i:Int}{j:Int}(h:Bd k j) (hj:j≠0):Bd k (Int.gcd i j:Int):=by
 have:Int.gcd i j≤j.natAbs:=Nat.le_of_dvd (by omega) (Nat.gcd_dvd_right i.natAbs j.natAbs)
 exact Nat.lt_of_le_of_lt this h
theorem Bd.bits {k:Nat}{i:Int}(h:Bd k i) (hk:k≤8000):v6 i=true:=by
 have:=a0w (k:=8000) (by decide) (h.mono hk)
 exact decide_eq_true (by omega)
theorem Bd.div {k:Nat}{i:Int}(h:Bd k i) (h0:i≠0) (hk:k≤8000):C1 i=true:=by
 have:=a0w (k:=8000) (by decide) (h.mono hk)
 unfold C1
 rw[decide_eq_true h0,Bool.true_and]
 exact decide_eq_true (by omega)
theorem Sz.num {k:Nat}{p:Rat}(h:Sz k p):Bd k p.num:=h.1
theorem Sz.den {k:Nat}{p:Rat}(h:Sz k p):Bd k (p.den:Int):=h.2
theorem E1 (p:Rat):(p.den:Int)≠0:=by have:=p.den_nz;omega
theorem X2 (p:Rat):(0:Int)<p.den:=by have:=p.den_nz;omega
theorem S8 (p:Rat):p=Rat.divInt p.num p.den:=(Rat.num_divInt_den p).symm
theorem Sz.mul {k l:Nat}{p q:Rat}(h1:Sz k p) (h2:Sz l q):Sz (k+l) (p*q):=by
 rw[S8 p,S8 q,Rat.divInt_mul_divInt]
 exact Sz.of_divInt (Int.mul_ne_zero (E1 p) (E1 q)) (Bd.mul h1.num h2.num) (Bd.mul h1.den h2.den)
theorem Sz.add {k l:Nat}{p q:Rat}(h1:Sz k p) (h2:Sz l q):Sz (k+l+1) (p+q):=by
 rw[S8 p,S8 q,Rat.divInt_add_divInt _ _ (E1 p) (E1 q)]
 refine Sz.of_divInt (Int.mul_ne_zero (E1 p) (E1 q)) ?_ (Bd.mono (Bd.mul h1.den h2.den) (by omega))
 have e1:=Bd.mul h1.num h2.den
 have e2:=Bd.mul h2.num h1.den
 exact Bd.mono (Bd.add e1 e2) (by omega)
theorem Sz.neg {k:Nat}{p:Rat}(h:Sz k p):Sz k (-p):=⟨by rw[Rat.neg_num,Int.natAbs_neg];exact h.1,h.2⟩
theorem Sz.sub {k l:Nat}{p q:Rat}(h1:Sz k p) (h2:Sz l q):Sz (k+l+1) (p - q):=by rw[Rat.sub_eq_add_neg];exact h1.add h2.neg
theorem Sz.lit {k:Nat}{p:Rat}(h:decide (p.num.natAbs<2 ^ k∧p.den<2 ^ k)=true):Sz k p:=by unfold Sz;exact of_decide_eq_true h
theorem b1d {a b:Int}(hb:0<b):(Rat.divInt a b).num=a / (Int.gcd a b:Int):=by
 rw[Rat.num_divInt,Int.gcd_comm,Int.sign_eq_one_of_pos hb,Int.one_mul]
theorem b4O {a b:Int}(hb:0<b):((Rat.divInt a b).den:Int)=b / (Int.gcd a b:Int):=by
 rw[Rat.den_divInt,if_neg (by omega),Int.gcd_comm]
 rw[Int.natCast_ediv,Int.natAbs_of_nonneg (by omega)]
end DL
namespace T
open PySem L2 DL
abbrev gT:DT:=dB (dOp pNe (dL 3) (dC (.int 0)))
abbrev gB:DM:=e8 (j7 (dOp y8 (dL 2) (dL 3)) (c9 4)) (e8 (j7 (dV 3) (c9 2)) (j7 (dV 4) (c9 3)))
theorem a6c (a b:Sl) (g r:Int) (x:Sl) (fs:Option FS):gT ⟨[a,b,.val (.int g),.val (.int r),x],fs⟩=some (!decide (r=0),⟨[a,b,.val (.int g),.val (.int r),x],fs⟩):=by
 simp[dB,dOp,dL,dC,a3G]
theorem b2G (a b:Sl) (g r:Int) (x:Sl) (fs:Option FS) (h:r≠0):gB ⟨[a,b,.val (.int g),.val (.int r),x],fs⟩ =
  some (.next,⟨[a,b,.val (.int r),.val (.int (g.fmod r)),.val (.int (g.fmod r))],fs⟩):=by
 simp[e8,F9,j7,dOp,dL,dV,c9,y8,h]
theorem b3h (a b:Sl) (fs:Option FS) (r:Nat):∀ (g:Nat) (x:Sl),∃ y,C5 gT gB ⟨[a,b,.val (.int g),.val (.int r),x],fs⟩=some (.next,⟨[a,b,.val (.int (Nat.gcd g r)),.val (.int 0),y],fs⟩):=by
 induction r using Nat.strongRecOn with
 |ind r ih=>
  intro g x
  by_cases h:r=0
  ·subst h
   refine⟨x,?_⟩
   rw[Nat.gcd_zero_right]
   exact Q3 (by rw[a6c];rfl)
  ·have e:((g:Int).fmod (r:Int))=((g % r:Nat):Int):=by rw[Int.fmod_eq_emod_of_nonneg _ (by omega)];rfl
   obtain⟨y,hy⟩:=ih (g % r) (Nat.mod_lt _ (by omega)) r (.val (.int ((g:Int).fmod (r:Int))))
   refine⟨y,?_⟩
   have hg:Nat.gcd g r=Nat.gcd r (g % r):=by rw[Nat.gcd_comm g r,Nat.gcd_rec,Nat.gcd_comm]
   rw[hg]
   refine R7 (s1:=⟨[a,b,.val (.int g),.val (.int r),x],fs⟩) (by rw[a6c,decide_eq_false (by omega)];rfl) (b2G _ _ _ _ _ _ (by omega)) ?_
   rw[e] at hy ⊢
   exact hy
theorem a2Y (a:Int):(if a<0 then -a else a)=((a.natAbs:Nat):Int):=by split <;> omega
theorem a3i (a b:Int) (fs:Option FS):A3 [.int a,.int b] fs=some (.int (Int.gcd a b),fs):=by
 obtain⟨y,hy⟩:=b3h (.val (.int a)) (.val (.int b)) fs b.natAbs a.natAbs .no
 refine m8 (s:=⟨[.val (.int a),.val (.int b),.val (.int (Int.gcd a b)),.val (.int 0),y],fs⟩) ?_
 show a34 ⟨[.val (.int a),.val (.int b),.no,.no,.no],fs⟩=_
 unfold a34
 rw[i6 (s1:=⟨[.val (.int a),.val (.int b),.val (.int a.natAbs),.no,.no],fs⟩) (by simp[j7,dCB,a7,a8,dL,one,U5,c9,a2Y])]
 rw[i6 (s1:=⟨[.val (.int a),.val (.int b),.val (.int a.natAbs),.val (.int b.natAbs),.no],fs⟩) (by simp[j7,dCB,a7,a8,dL,one,U5,c9,a2Y])]
 rw[i6 hy]
 exact o8 (by simp[dV,Int.gcd])
theorem a7s (a:Int):Int.gcd 0 a=a.natAbs:=by simp[Int.gcd]
theorem a76 (a b:Int):Int.gcd ((a.natAbs:Nat):Int) b=Int.gcd a b:=by simp[Int.gcd]
theorem a0M (P:D) (acc x:Int) (x2:Sl) (r:List D) (fs:Option FS):u7 (c9 2) (a06 A3) (.int x::r) ⟨[.val P,.val (.int acc),x2],fs⟩=u7 (c9 2) (a06 A3) r ⟨[.val P,.val (.int (Int.gcd acc x)),.val (.int x)],fs⟩:=K6 (s1:=⟨[.val P,.val (.int acc),.val (.int x)],fs⟩) rfl (l5 (j9 rfl (a3i acc x fs)) rfl)
theorem a6d {ds:List D}{g:Int}{x2:Sl}{fs:Option FS}(h:u7 (c9 2) (a06 A3) ds ⟨[.val (.tup ds),.val (.int 0),.no],fs⟩=some (.next,⟨[.val (.tup ds),.val (.int g),x2],fs⟩)):G7 A3 [.tup ds] fs=some (.int g,fs):=by
 refine m8 (s:=⟨[.val (.tup ds),.val (.int g),x2],fs⟩) ?_
 show a2I A3 ⟨[.val (.tup ds),.no,.no],fs⟩=_
 unfold a2I
 have lp:F6 (dV 0) (c9 2) (a06 A3) ⟨[.val (.tup ds),.val (.int 0),.no],fs⟩=some (.next,⟨[.val (.tup ds),.val (.int g),x2],fs⟩):=h
 rw[i6 (s1:=⟨[.val (.tup ds),.val (.int 0),.no],fs⟩) (l5 rfl rfl),i6 lp]
 exact o8 rfl
theorem b2S (a b:Int) (fs:Option FS):G7 A3 [.tup [.int a,.int b]] fs=some (.int (Int.gcd a b),fs):=a6d (x2:=.val (.int b)) (by
 rw[a0M,a0M,a7s,a76]
 rfl)
theorem b3z (a b c:Int) (fs:Option FS):G7 A3 [.tup [.int a,.int b,.int c]] fs=some (.int (Int.gcd (Int.gcd a b:Int) c),fs):=a6d (x2:=.val (.int c)) (by
 rw[a0M,a0M,a0M,a7s,a76]
 rfl)
theorem O5 {a g c:Int}(hg:g≠0) (e:a=g*c):a.fdiv g=c:=by subst e;exact Int.mul_fdiv_cancel_left c hg
theorem a6N (a b:Int) (hb:b≠0):let g:Int:=if b<0 then -(Int.gcd a b:Int) else (Int.gcd a b:Int)
  g≠0∧a.fdiv g=(Rat.divInt a b).num∧b.fdiv g=((Rat.divInt a b).den:Int):=by
 intro g
 have g0:0<Int.gcd a b:=Int.gcd_pos_of_ne_zero_right a hb
 obtain⟨c,hc⟩:=Int.gcd_dvd_left a b
 obtain⟨d,hd⟩:=Int.gcd_dvd_right a b
 have e1:(Rat.divInt a b).num=if b<0 then -c else c:=by
  rw[Rat.num_divInt,Int.gcd_comm]
  split
  ·rename_i h
   rw[Int.sign_eq_neg_one_of_neg h]
   refine Int.ediv_eq_of_eq_mul_right (by omega) ?_
   grind
  ·rename_i h
   rw[Int.sign_eq_one_of_pos (by omega),Int.one_mul]
   exact Int.ediv_eq_of_eq_mul_right (by omega) hc
 have e2:((Rat.divInt a b).den:Int)=if b<0 then -d else d:=by
  rw[Rat.den_divInt,if_neg hb,Int.gcd_comm,Int.natCast_ediv]
  split
  ·refine Int.ediv_eq_of_eq_mul_right (by omega) ?_
   grind
  ·refine Int.ediv_eq_of_eq_mul_right (by omega) ?_
   grind
 rw[e1,e2]
 by_cases h:b<0
 ·have eg:g = -(Int.gcd a b:Int):=if_pos h
  rw[eg,if_pos h,if_pos h]
  exact⟨by omega,O5 (by omega) (by grind),O5 (by omega) (by grind)⟩
 ·have eg:g=(Int.gcd a b:Int):=if_neg h
  rw[eg,if_neg h,if_neg h]
  exact⟨by omega,O5 (by omega) hc,O5 (by omega) hd⟩
theorem a5g {k:Nat}{a b:Int}(hb:b≠0) (h:Bd k b) (hk:k≤8000):C1 (if b<0 then -(Int.gcd a b:Int) else (Int.gcd a b:Int))=true:=by
 have g0:0<Int.gcd a b:=Int.gcd_pos_of_ne_zero_right a hb
 split
 ·exact(Bd.gcd h hb).neg.div (by omega) hk
 ·exact(Bd.gcd h hb).div (by omega) hk
theorem sz2:(2:Nat)≤sizeLine:=by decide
theorem sz3:(3:Nat)≤sizeLine:=by decide
theorem b4p (a b:D):atI [a,b] (-1)=some b:=a07 [a] b
theorem b2e (a b c:D):atI [a,b,c] (-1)=some c:=a07 [a,b] c
theorem a1f (a b:D):atI [a,b] 0=some a:=rfl
theorem a1j (a b:D):atI [a,b] 1=some b:=rfl
abbrev FL:DFn:=P0 (G7 A3)
abbrev FF:DFn:=Q4 FL
theorem a2y {gg:Int}(dg:C1 gg=true) (fs:Option FS):∀ xs:List Int,A0 (fun d=>some [.val d,.val (.int gg)]) B7 (dOp A4 (dL 0) (dL 1)) (xs.map .int) fs=some (xs.map (fun x=>.int (x.fdiv gg)),fs)
 |[]=>rfl
 |x::r=>by
  have e:dOp A4 (dL 0) (dL 1) ⟨[.val (.int x),.val (.int gg)],fs⟩=some (.int (x.fdiv gg),⟨[.val (.int x),.val (.int gg)],fs⟩):=c7 rfl rfl (if_pos dg)
  have ih:=a2y dg fs r
  rw[List.map_cons,A0,Option.bind_some]
  show ((dOp A4 (dL 0) (dL 1) ⟨[.val (.int x),.val (.int gg)],fs⟩).bind _)=_
  rw[e,Option.bind_some]
  show (A0 _ B7 _ (r.map .int) fs).map _=_
  rw[ih]
  rfl
theorem b0X {ds:List D}{d g:Int}(h:atI ds (-1)=some (.int d)) (fs:Option FS):p9 (dB (dOp (n9 (fun i j=>decide (i<j))) (dOp pIx (dL 0) (dUn v7 (dC (.int 1)))) (dC (.int 0)))) (j7 (dUn v7 (dL 1)) (c9 1)) u6 ⟨[.val (.tup ds),.val (.int g)],fs⟩=some (.next,⟨[.val (.tup ds),.val (.int (if d<0 then -g else g))],fs⟩):=by
 have t:dB (dOp (n9 (fun i j=>decide (i<j))) (dOp pIx (dL 0) (dUn v7 (dC (.int 1)))) (dC (.int 0))) ⟨[.val (.tup ds),.val (.int g)],fs⟩=some (decide (d<0),⟨[.val (.tup ds),.val (.int g)],fs⟩):=C0 (c7 (c7 rfl rfl (show pIx (.tup ds) (.int (-1))=some (.int d) from h)) rfl rfl)
 by_cases nb:d<0
 ·rw[decide_eq_true nb] at t
  rw[if_pos nb,L8 t]
  rfl
 ·rw[decide_eq_false nb] at t
  rw[if_neg nb,a41 t]
  rfl
theorem a77 {xs:List Int}{d g:Int}(fs:Option FS) (hl:xs.length≤10) (hd:G7 A3 [.tup (xs.map .int)] fs=some (.int g,fs)) (h:atI (xs.map D.int) (-1)=some (.int d)) (dg:C1 (if d<0 then -g else g)=true):FL [.tup (xs.map .int)] fs=some (.tup (xs.map fun x=>.int (x.fdiv (if d<0 then -g else g))),fs):=by
 have nf:=b0X (g:=g) h fs
 have cd:=a2y dg fs xs
 have ll:(xs.map D.int).length≤sizeLine:=Nat.le_trans (by rw[List.length_map];exact hl) (show 10≤sizeLine by decide)
 generalize xs.map D.int=ds at *
 generalize (if d<0 then -g else g)=gg at *
 refine m8 (s:=⟨[.val (.tup ds),.val (.int gg)],fs⟩) ?_
 show a4t (G7 A3) ⟨[.val (.tup ds),.no],fs⟩=_
 unfold a4t
 rw[i6 (s1:=⟨[.val (.tup ds),.val (.int g)],fs⟩) (l5 (j9 rfl hd) rfl),i6 nf]
 exact o8 (F3 (p:=G8) (C9 (a08 (idx:=[1]) (ds:=ds) (s1:=⟨[.val (.tup ds),.val (.int gg)],fs⟩) rfl ll cd)) rfl)
theorem b1G {k:Nat}(a b:Int) (fs:Option FS) (hb:b≠0) (h:Bd k b) (hk:k≤8000):FL [.tup [.int a,.int b]] fs=some (fr (Rat.divInt a b),fs):=by
 obtain⟨p0,p1,p2⟩:=a6N a b hb
 have e:=a77 (xs:=[a,b]) (d:=b) fs (show 2≤10 by decide) (b2S a b fs) (b4p _ _) (a5g (a:=a) hb h hk)
 unfold fr
 rw[←p1,←p2]
 exact e
theorem a2w {k:Nat}(a b:Int) (fs:Option FS) (hb:b≠0) (h:Bd k b) (hk:k≤8000):FF [.int a,.int b] fs=some (fr (Rat.divInt a b),fs):=by
 refine m8 (s:=⟨[.val (.int a),.val (.int b)],fs⟩) ?_
 show a5t FL ⟨[.val (.int a),.val (.int b)],fs⟩=_
 exact o8 (j9 (i5 (w9 rfl rfl) rfl) (b1G a b fs hb h hk))
theorem a7z (p q:Rat):p+q=Rat.divInt (p.num*q.den+q.num*p.den) (p.den*q.den):=by
 rw[Rat.add_def',←Rat.divInt_ofNat];rfl
theorem a3p (p q:Rat):p*q=Rat.divInt (p.num*q.num) (p.den*q.den):=by
 rw[Rat.mul_def',←Rat.divInt_ofNat];rfl
theorem a1g (p q:Rat):(p.den:Int)*q.den≠0:=Int.mul_ne_zero (E1 p) (E1 q)
abbrev FP:DFn:=L4 A3
abbrev FX:DFn:=a0X FP
abbrev FT:DFn:=a11 FF
theorem b2C {k l:Nat}(p q:Rat) (fs:Option FS) (h1:Sz k p) (h2:Sz l q) (hk:k+l≤8000):FT [fr p,fr q] fs=some (fr (p*q),fs):=by
 have b1:=h1.num.bits (by omega)
 have b2:=h1.den.bits (by omega)
 have b3:=h2.num.bits (by omega)
 have b4:=h2.den.bits (by omega)
 have e:=a2w (p.num*q.num) (p.den*q.den) fs (a1g p q) (Bd.mul h1.den h2.den) hk
 rw[←a3p] at e
 refine m8 (s:=⟨[.val (fr p),.val (fr q)],fs⟩) ?_
 show a5h FF ⟨[.val (fr p),.val (fr q)],fs⟩=_
 simp[a5h,e8,F9,j7,dOp,dUn,dC,dL,dV,c9,p9,dB,l6,e7,a7,a8,j6,u6,dCB,one,u8,u9,dIf,A8,dOr,B1,K7,L0,L3,pIx,p7,B2,v7,n9,t6,t9,l7,u4,D9,dTr,J7,fr,a1f,a1j,l8,b1,b2,b3,b4,e]
theorem a5V (p q:Rat):decide (p.num*q.den<q.num*p.den)=decide (p<q):=by
 congr 1;exact propext (Rat.lt_iff p q).symm
theorem V7 {k l:Nat}(p q:Rat) (fs:Option FS) (h1:Sz k p) (h2:Sz l q) (hk:k+l≤8000):B4 [fr p,fr q] fs=some (.bl (decide (p<q)),fs):=by
 have b1:=h1.num.bits (by omega)
 have b2:=h1.den.bits (by omega)
 have b3:=h2.num.bits (by omega)
 have b4:=h2.den.bits (by omega)
 refine m8 (s:=⟨[.val (fr p),.val (fr q)],fs⟩) ?_
 show a4u ⟨[.val (fr p),.val (fr q)],fs⟩=_
 rw[←a5V]
 simp[a4u,e8,F9,j7,dOp,dUn,dC,dL,dV,c9,p9,dB,l6,e7,a7,a8,j6,u6,dCB,one,u8,u9,dIf,A8,dOr,B1,K7,L0,L3,pIx,p7,B2,v7,n9,t6,t9,l7,u4,D9,dTr,J7,fr,a1f,a1j,l8,b1,b2,b3,b4]
theorem b1l (p q:Rat):let g:=Nat.gcd p.den q.den
  let top:=p.num*((q.den / g:Nat):Int)+q.num*((p.den / g:Nat):Int)
  let tk:=Nat.gcd top.natAbs g
  0<g∧0<tk∧(p+q).num=top / (tk:Int)∧(p+q).den=p.den / g*(q.den / tk)∧tk≤g∧g≤q.den:=by
 intro g top tk
 have g0:0<g:=Nat.gcd_pos_of_pos_left _ (by have:=p.den_nz;omega)
 have t0:0<tk:=Nat.gcd_pos_of_pos_right _ g0
 obtain⟨a,ha⟩:=Nat.gcd_dvd_left p.den q.den
 obtain⟨b,hb⟩:=Nat.gcd_dvd_right p.den q.den
 have ea:p.den / g=a:=Nat.div_eq_of_eq_mul_right g0 ha
 have eb:q.den / g=b:=Nat.div_eq_of_eq_mul_right g0 hb
 have aux:top.natAbs.gcd g=top.natAbs.gcd (p.den / g*q.den):=Rat.add.aux p q rfl rfl rfl
 have a0:0<a:=by
  rcases Nat.eq_zero_or_pos a with z | z
  ·rw[z,Nat.mul_zero] at ha;exact absurd ha p.den_nz
  ·exact z
 have dn:p.den / g*q.den≠0:=by
  rw[ea];exact Nat.mul_ne_zero (by omega) q.den_nz
 have ev:p+q=mkRat top (p.den / g*q.den):=by
  rw[Rat.add_def',Rat.mkRat_eq_iff (Nat.mul_ne_zero p.den_nz q.den_nz) dn]
  show (p.num*q.den+q.num*p.den)*((p.den / g*q.den:Nat):Int)=(p.num*((q.den / g:Nat):Int)+q.num*((p.den / g:Nat):Int))*((p.den*q.den:Nat):Int)
  rw[ea,eb]
  have ha':(p.den:Int)=(g:Int)*a:=by exact_mod_cast ha
  have hb':(q.den:Int)=(g:Int)*b:=by exact_mod_cast hb
  push_cast
  rw[ha',hb']
  grind
 have tkd:tk=Nat.gcd (p.den / g*q.den) top.natAbs:=by rw[Nat.gcd_comm];exact aux
 refine⟨g0,t0,?_,?_,Nat.le_of_dvd g0 (Nat.gcd_dvd_right ..),Nat.le_of_dvd (by have:=q.den_nz;omega) (Nat.gcd_dvd_right ..)⟩
 ·rw[ev,Rat.num_mkRat,if_neg dn,←tkd]
 ·rw[ev,Rat.den_mkRat,if_neg dn,←tkd]
  exact Nat.mul_div_assoc _ (Nat.dvd_trans (Nat.gcd_dvd_right _ _) (Nat.gcd_dvd_right _ _))
theorem a7p (a:Int) (n:Nat):a.fdiv (n:Int)=a / (n:Int):=Int.fdiv_eq_ediv_of_nonneg a (by omega)
theorem b5X (a n:Nat):(a:Int).fdiv (n:Int)=((a / n:Nat):Int):=by rw[a7p];rfl
theorem a1U {k l:Nat}(p q:Rat) (fs:Option FS) (h1:Sz k p) (h2:Sz l q) (hk:k+l≤8000):FP [fr p,fr q] fs=some (fr (p+q),fs):=by
 obtain⟨g0,t0,e1,e2,tg,gq⟩:=b1l p q
 have b1:=h1.num.bits (by omega)
 have b3:=h2.num.bits (by omega)
 have gI:((Int.gcd (p.den:Int) (q.den:Int):Nat))=Nat.gcd p.den q.den:=rfl
 have bdd:∀ n:Nat,n≤q.den→Bd l (n:Int):=fun n hn=>Nat.lt_of_le_of_lt hn h2.2
 have dg:C1 ((Nat.gcd p.den q.den:Nat):Int)=true:=(bdd _ gq).div (by omega) (by omega)
 have dt:=(bdd _ (Nat.le_trans tg gq)).div (by omega) (by omega)
 have c1:v6 ((q.den / Nat.gcd p.den q.den:Nat):Int)=true:=(bdd _ (Nat.div_le_self ..)).bits (by omega)
 have bpd:Bd k ((p.den / Nat.gcd p.den q.den:Nat):Int):=Nat.lt_of_le_of_lt (Nat.div_le_self ..) h1.2
 have c2:=bpd.bits (by omega)
 generalize hg:Nat.gcd p.den q.den=g at *
 generalize ht:p.num*((q.den / g:Nat):Int)+q.num*((p.den / g:Nat):Int)=top at *
 have gI2:Int.gcd top (g:Int)=Nat.gcd top.natAbs g:=rfl
 generalize htk:Nat.gcd top.natAbs g=tk at *
 have c3:v6 ((q.den / tk:Nat):Int)=true:=(bdd _ (Nat.div_le_self ..)).bits (by omega)
 have hmX9:∀ {a b:Int},v6 a=true→v6 b=true→l8 (.int a) (.int b)=some (.int (a*b)):=fun h1 h2=>if_pos (by rw[h1,h2];rfl)
 have dX:∀ (a n:Nat),C1 (n:Int)=true→A4 (.int (a:Int)) (.int (n:Int))=some (.int ((a / n:Nat):Int)):=fun a n h=>(if_pos h).trans (by rw[b5X])
 have d1:A3 [.int (p.den:Int),.int (q.den:Int)] fs=some (.int (g:Int),fs):=(a3i _ _ fs).trans (by rw[gI])
 have d2:A3 [.int top,.int (g:Int)] fs=some (.int (tk:Int),fs):=(a3i _ _ fs).trans (by rw[gI2])
 have ef:fr (p+q) = .tup [.int (top / (tk:Int)),.int (((p.den / g:Nat):Int)*((q.den / tk:Nat):Int))]:=by unfold fr;rw[e1,e2,Int.natCast_mul]
 refine m8 (s:=⟨[.val (fr p),.val (fr q),.val (.int g),.val (.int top),.val (.int tk)],fs⟩) ?_
 show a2m A3 ⟨[.val (fr p),.val (fr q),.no,.no,.no],fs⟩=_
 unfold a2m
 rw[i6 (s1:=⟨[.val (fr p),.val (fr q),.val (.int g),.no,.no],fs⟩) (l5 (j9 (i5 (c7 rfl rfl rfl) (i5 (c7 rfl rfl rfl) rfl)) d1) rfl),
  i6 (s1:=⟨[.val (fr p),.val (fr q),.val (.int g),.val (.int top),.no],fs⟩) (l5 (c7 (c7 (c7 rfl rfl rfl) (c7 (c7 rfl rfl rfl) rfl (dX _ _ dg)) (hmX9 b1 c1)) (c7 (c7 rfl rfl rfl) (c7 (c7 rfl rfl rfl) rfl (dX _ _ dg)) (hmX9 b3 c2)) (show some (D.int _)=some (.int top) by rw[←ht])) rfl),
  i6 (s1:=⟨[.val (fr p),.val (fr q),.val (.int g),.val (.int top),.val (.int tk)],fs⟩) (l5 (j9 (i5 rfl (i5 rfl rfl)) d2) rfl),ef]
 exact o8 (w9 (c7 rfl rfl ((if_pos dt).trans (by rw[a7p]))) (c7 (c7 (c7 rfl rfl rfl) rfl (dX _ _ dg)) (c7 (c7 rfl rfl rfl) rfl (dX _ _ dt)) (hmX9 c2 c3)))
theorem a4m {k l:Nat}(p q:Rat) (fs:Option FS) (h1:Sz k p) (h2:Sz l q) (hk:k+l≤8000):FX [fr p,fr q] fs=some (fr (p - q),fs):=by
 have e:=a1U p (-q) fs h1 h2.neg hk
 rw[←Rat.sub_eq_add_neg] at e
 refine m8 (s:=⟨[.val (fr p),.val (fr q)],fs⟩) ?_
 show a29 FP ⟨[.val (fr p),.val (fr q)],fs⟩=_
 simp only[fr,Rat.neg_num,Rat.neg_den] at e
 simp[a29,e8,F9,j7,dOp,dUn,dC,dL,dV,c9,p9,dB,l6,e7,a7,a8,j6,u6,dCB,one,u8,u9,dIf,A8,dOr,B1,K7,L0,L3,pIx,p7,B2,v7,n9,t6,t9,l7,u4,D9,dTr,J7,fr,a1f,a1j,sz2,e]
theorem a7o (a:Int) {b:Int}(h:b≠0):y8 (.int a) (.int b)=some (.int (a.fmod b)):=by simp[y8,h]
theorem a4G (a:Int) {b:Int}(h:C1 b=true):A4 (.int a) (.int b)=some (.int (a.fdiv b)):=by simp[A4,h]
theorem r8 {a b:Int}(h1:v6 a=true) (h2:v6 b=true):l8 (.int a) (.int b)=some (.int (a*b)):=by simp[l8,h1,h2]
theorem Q8 {α:Type}{xs:List α}{r:Int}(h0:0≤r) (h1:r<xs.length):∃ x,x∈xs∧atI xs r=some x:=by
 refine⟨xs[r.toNat]'(by omega),List.getElem_mem _,?_⟩
 rw[a4B h0 h1,List.getElem?_eq_getElem]
end T
namespace DL
open PySem L2
abbrev Pt:=Rat × Rat
def pL (a:Pt):Int:=((Nat.lcm a.1.den a.2.den:Nat):Int)
def pX (a:Pt):Int:=a.1.num*((Nat.lcm a.1.den a.2.den / a.1.den:Nat):Int)
def pY (a:Pt):Int:=a.2.num*((Nat.lcm a.1.den a.2.den / a.2.den:Nat):Int)
def pt (a:Pt):D:=.tup [.int (pX a),.int (pY a),.int (pL a)]
theorem lcm_pos (p q:Rat):0<Nat.lcm p.den q.den:=Nat.lcm_pos (by have:=p.den_nz;omega) (by have:=q.den_nz;omega)
theorem b2i (a:Pt):0<pL a:=by have:=lcm_pos a.1 a.2;unfold pL;omega
theorem S4 (a:Pt):pL a≠0:=by have:=b2i a;omega
theorem V0 (a:Pt):(pL a:Rat)≠0:=fun h=>S4 a (Rat.intCast_eq_zero_iff.mp h)
theorem S7 (p:Rat):(p.num:Rat)=p*((p.den:Int):Rat):=by
 have e:=Rat.num_divInt_den p
 rw[Rat.divInt_eq_div] at e
 have hd:((p.den:Int):Rat)≠0:=fun h=>E1 p (Rat.intCast_eq_zero_iff.mp h)
 have:(p.num:Rat) / ((p.den:Int):Rat)*((p.den:Int):Rat)=(p.num:Rat):=Rat.div_mul_cancel hd
 rw[e] at this
 exact this.symm
theorem a0L (a:Pt):(pX a:Rat)=a.1*(pL a:Rat):=by
 unfold pX pL
 obtain⟨c,hc⟩:=Nat.dvd_lcm_left a.1.den a.2.den
 have hd:=a.1.den_nz
 have e:Nat.lcm a.1.den a.2.den / a.1.den=c:=Nat.div_eq_of_eq_mul_right (by omega) hc
 rw[e,hc,Int.natCast_mul,Rat.intCast_mul,Rat.intCast_mul,S7]
 grind
theorem a0B (a:Pt):(pY a:Rat)=a.2*(pL a:Rat):=by
 unfold pY pL
 obtain⟨c,hc⟩:=Nat.dvd_lcm_right a.1.den a.2.den
 have hd:=a.2.den_nz
 have e:Nat.lcm a.1.den a.2.den / a.2.den=c:=Nat.div_eq_of_eq_mul_right (by omega) hc
 rw[e,hc,Int.natCast_mul,Rat.intCast_mul,Rat.intCast_mul,S7]
 grind
theorem a8J {x d:Int}{p:Rat}(hd:0<d) (h:(x:Rat)=p*(d:Rat)):∃ c:Int,d=p.den*c∧x=p.num*c:=by
 have h1:x*p.den=p.num*d:=by
  have e:=S7 p
  have:((x*p.den:Int):Rat)=((p.num*d:Int):Rat):=by
   rw[Rat.intCast_mul,Rat.intCast_mul,h,e];grind
  exact Rat.intCast_inj.mp this
 have dv:(p.den:Int)∣p.num*d:=⟨x,by rw[←h1,Int.mul_comm]⟩
 have dv2:p.den∣p.num.natAbs*d.natAbs:=by
  have:=Int.natAbs_dvd_natAbs.mpr dv
  rwa [Int.natAbs_mul,Int.natAbs_natCast] at this
 have dv3:p.den∣d.natAbs:=Nat.Coprime.dvd_of_dvd_mul_left (Nat.Coprime.symm p.reduced) dv2
 obtain⟨c,hc⟩:(p.den:Int)∣d:=Int.dvd_natAbs.mp (Int.ofNat_dvd.mpr dv3)
 refine⟨c,hc,?_⟩
 have hp:=X2 p
 have:(p.den:Int)*x=p.den*(p.num*c):=by rw[Int.mul_comm,h1,hc];grind
 exact Int.eq_of_mul_eq_mul_left (by omega) this
theorem a8a {x y d:Int}{a:Pt}(hd:0<d) (hg:Int.gcd (Int.gcd x y:Int) d=1) (hx:(x:Rat)=a.1*(d:Rat)) (hy:(y:Rat)=a.2*(d:Rat)):x=pX a∧y=pY a∧d=pL a:=by
 obtain⟨c1,e1,f1⟩:=a8J hd hx
 obtain⟨c2,e2,f2⟩:=a8J hd hy
 obtain⟨D,rfl⟩:=Int.eq_ofNat_of_zero_le (show 0≤d by omega)
 have dl:Nat.lcm a.1.den a.2.den∣D:=Nat.lcm_dvd (Int.ofNat_dvd.mp ⟨c1,e1⟩) (Int.ofNat_dvd.mp ⟨c2,e2⟩)
 obtain⟨m,hm⟩:=dl
 have key:∀ z:Int,∀ r:Rat,(z:Rat)=r*((D:Int):Rat)→∀ w:Int,(w:Rat)=r*(pL a:Rat)→z=w*m:=by
  intro z r h1 w h2
  have:(z:Rat)=((w*m:Int):Rat):=by
   rw[h1,Rat.intCast_mul,h2,hm]
   have:(((Nat.lcm a.1.den a.2.den*m:Nat):Int):Rat)=(pL a:Rat)*((m:Int):Rat):=by
    rw[Int.natCast_mul,Rat.intCast_mul];rfl
   rw[this];grind
  exact Rat.intCast_inj.mp this
 have kx:=key x a.1 hx (pX a) (a0L a)
 have ky:=key y a.2 hy (pY a) (a0B a)
 have kd:(D:Int)=pL a*m:=by rw[hm,Int.natCast_mul];rfl
 have m1:(m:Int)∣1:=by
  have h:(m:Int)∣(Int.gcd (Int.gcd x y:Int) (D:Int):Int):=by
   refine Int.dvd_coe_gcd (Int.dvd_coe_gcd ?_ ?_) ?_
   ·exact⟨pX a,by rw[kx,Int.mul_comm]⟩
   ·exact⟨pY a,by rw[ky,Int.mul_comm]⟩
   ·exact⟨pL a,by rw[kd,Int.mul_comm]⟩
  rwa [hg] at h
 have m2:m=1:=Nat.eq_one_of_dvd_one (Int.ofNat_dvd.mp m1)
 subst m2
 exact⟨by rw[kx];simp,by rw[ky];simp,by rw[kd];simp⟩
structure Ps (k:Nat) (a:Pt):Prop where
 x:Bd k (pX a)
 y:Bd k (pY a)
 l:Bd k (pL a)
theorem Ps.of {k l:Nat}{a:Pt}(h1:Sz k a.1) (h2:Sz l a.2):Ps (k+l) a:=by
 have hl:Nat.lcm a.1.den a.2.den≤a.1.den*a.2.den:=Nat.le_of_dvd (Nat.mul_pos (by have:=a.1.den_nz;omega) (by have:=a.2.den_nz;omega)) (Nat.lcm_dvd_mul ..)
 have b:=a6H h1.2 h2.2
 have dl:Nat.lcm a.1.den a.2.den / a.1.den≤a.2.den:=by
  rw[Nat.div_le_iff_le_mul_add_pred (by have:=a.1.den_nz;omega)];omega
 have dr:Nat.lcm a.1.den a.2.den / a.2.den≤a.1.den:=by
  rw[Nat.div_le_iff_le_mul_add_pred (by have:=a.2.den_nz;omega),Nat.mul_comm a.2.den];omega
 refine⟨?_,?_,?_⟩
 ·exact Bd.mul h1.num (show Bd l ((_:Nat):Int) from Nat.lt_of_le_of_lt dl h2.2)
 ·have:=Bd.mul h2.num (show Bd k ((_:Nat):Int) from Nat.lt_of_le_of_lt dr h1.2)
  rw[Nat.add_comm];exact this
 ·exact Nat.lt_of_le_of_lt hl b
end DL
namespace T
open PySem L2 DL
theorem a7K (x y d:Int) (hd:d≠0):let G:Nat:=Int.gcd (Int.gcd x y:Int) d
  let g:Int:=if d<0 then -(G:Int) else (G:Int)
  g≠0∧x.fdiv g=pX (Rat.divInt x d,Rat.divInt y d)∧y.fdiv g=pY (Rat.divInt x d,Rat.divInt y d)∧d.fdiv g=pL (Rat.divInt x d,Rat.divInt y d):=by
 intro G g
 have g0:0<G:=Int.gcd_pos_of_ne_zero_right _ hd
 obtain⟨d',ed⟩:=Int.gcd_dvd_right (Int.gcd x y:Int) d
 have h1:=Int.gcd_dvd_left (Int.gcd x y:Int) d
 obtain⟨x',ex⟩:=Int.dvd_trans h1 (Int.gcd_dvd_left ..)
 obtain⟨y',ey⟩:=Int.dvd_trans h1 (Int.gcd_dvd_right ..)
 replace ed:d=(G:Int)*d':=ed
 replace ex:x=(G:Int)*x':=ex
 replace ey:y=(G:Int)*y':=ey
 have cop:Int.gcd (Int.gcd x' y':Int) d'=1:=by
  have e1:Int.gcd x y=G*Int.gcd x' y':=by
   have:=Int.gcd_mul_left (m:=(G:Int)) (n:=x') (k:=y')
   rw[←ex,←ey] at this;exact this
  have e2:Int.gcd (Int.gcd x y:Int) d=G*Int.gcd (Int.gcd x' y':Int) d':=by
   have:=Int.gcd_mul_left (m:=(G:Int)) (n:=(Int.gcd x' y':Int)) (k:=d')
   rw[←ed,←Int.natCast_mul,←e1] at this;exact this
  have e3:G*Int.gcd (Int.gcd x' y':Int) d'=G*1:=by rw[←e2,Nat.mul_one]
  exact Nat.eq_of_mul_eq_mul_left g0 e3
 have hdr:(d:Rat)≠0:=fun h=>hd (Rat.intCast_eq_zero_iff.mp h)
 have hGr:((G:Int):Rat)≠0:=fun h=>by have:=Rat.intCast_eq_zero_iff.mp h;omega
 have vx:∀ z z':Int,z=(G:Int)*z'→(z':Rat)=Rat.divInt z d*(d':Rat):=fun z z' e=>by
  rw[Rat.divInt_eq_div]
  have ed':(d:Rat)=((G:Int):Rat)*(d':Rat):=by rw[←Rat.intCast_mul];exact congrArg _ ed
  have ez':(z:Rat)=((G:Int):Rat)*(z':Rat):=by rw[←Rat.intCast_mul];exact congrArg _ e
  have hd'r:(d':Rat)≠0:=fun h=>hdr (by rw[ed',h];grind)
  rw[ez',ed']
  grind
 by_cases h:d<0
 ·have eg:g = -(G:Int):=if_pos h
  have dn:0 < -d':=by
   rcases Int.lt_or_le d' 0 with z | z
   ·omega
   ·have:0≤(G:Int)*d':=Int.mul_nonneg (by omega) z
    omega
  obtain⟨q1,q2,q3⟩:=a8a (x:=-x') (y:=-y') (d:=-d') (a:=(Rat.divInt x d,Rat.divInt y d)) dn (by
   have:Int.gcd (-x') (-y')=Int.gcd x' y':=by simp[Int.gcd]
   rw[this]
   have:Int.gcd (Int.gcd x' y':Int) (-d')=Int.gcd (Int.gcd x' y':Int) d':=by simp[Int.gcd]
   rw[this];exact cop) (by rw[Rat.intCast_neg,Rat.intCast_neg,vx x x' ex];grind) (by rw[Rat.intCast_neg,Rat.intCast_neg,vx y y' ey];grind)
  rw[eg,←q1,←q2,←q3]
  exact⟨by omega,O5 (by omega) (by grind),O5 (by omega) (by grind),O5 (by omega) (by grind)⟩
 ·have eg:g=(G:Int):=if_neg h
  have dp:0<d':=by
   rcases Int.lt_or_le 0 d' with z | z
   ·exact z
   ·have:(G:Int)*d'≤G*0:=Int.mul_le_mul_of_nonneg_left z (by omega)
    omega
  obtain⟨q1,q2,q3⟩:=a8a (x:=x') (y:=y') (d:=d') (a:=(Rat.divInt x d,Rat.divInt y d)) dp cop (vx x x' ex) (vx y y' ey)
  rw[eg,←q1,←q2,←q3]
  exact⟨by omega,O5 (by omega) ex,O5 (by omega) ey,O5 (by omega) ed⟩
theorem a5E {k:Nat}{x y d:Int}(hd:d≠0) (h:Bd k d) (hk:k≤8000):C1 (if d<0 then -(Int.gcd (Int.gcd x y:Int) d:Int) else (Int.gcd (Int.gcd x y:Int) d:Int))=true:=a5g (a:=(Int.gcd x y:Int)) hd h hk
theorem b4o {k:Nat}(x y d:Int) (fs:Option FS) (hd:d≠0) (h:Bd k d) (hk:k≤8000):FL [.tup [.int x,.int y,.int d]] fs=some (pt (Rat.divInt x d,Rat.divInt y d),fs):=by
 obtain⟨p0,p1,p2,p3⟩:=a7K x y d hd
 have e:=a77 (xs:=[x,y,d]) (d:=d) fs (show 3≤10 by decide) (b3z x y d fs) (b2e _ _ _) (a5E (x:=x) (y:=y) hd h hk)
 unfold pt
 rw[←p1,←p2,←p3]
 exact e
theorem b2d (p q:Rat):Rat.divInt (p.num*q.den) (p.den*q.den)=p:=by
 rw[Rat.divInt_mul_right (E1 q),Rat.num_divInt_den]
theorem b15 (p q:Rat):Rat.divInt (q.num*p.den) (p.den*q.den)=q:=by
 rw[Int.mul_comm (p.den:Int),Rat.divInt_mul_right (E1 p),Rat.num_divInt_den]
theorem px_div (a:Pt):Rat.divInt (pX a) (pL a)=a.1:=by
 rw[Rat.divInt_eq_div,a0L,Rat.mul_div_cancel (V0 a)]
theorem py_div (a:Pt):Rat.divInt (pY a) (pL a)=a.2:=by
 rw[Rat.divInt_eq_div,a0B,Rat.mul_div_cancel (V0 a)]
end T
namespace DL
def dsq (a b:Pt):Rat:=(a.1 - b.1)*(a.1 - b.1)+(a.2 - b.2)*(a.2 - b.2)
theorem a7X (x:Rat):0≤x*x:=by
 rcases Rat.le_total (a:=0) (b:=x) with h | h
 ·exact Rat.mul_nonneg h h
 ·have:=Rat.mul_nonneg (a:=-x) (b:=-x) (by grind) (by grind)
  grind
end DL
namespace T
open PySem L2 DL
theorem b1a {k:Nat}(a b:Pt) (fs:Option FS) (ha:Ps k a) (hb:Ps k b) (hk:k≤1500):S3 FF [pt a,pt b] fs=some (fr (dsq a b),fs):=by
 have a1:=ha.x.bits (by omega)
 have a2:=ha.y.bits (by omega)
 have a3:=ha.l.bits (by omega)
 have b1:=hb.x.bits (by omega)
 have b2:=hb.y.bits (by omega)
 have b3:=hb.l.bits (by omega)
 have w1:=((ha.x.mul hb.l).sub (hb.x.mul ha.l)).bits (by omega)
 have w2:=((ha.y.mul hb.l).sub (hb.y.mul ha.l)).bits (by omega)
 have w3:=(ha.l.mul hb.l).bits (by omega)
 have ne:pL a*pL b*(pL a*pL b)≠0:=Int.mul_ne_zero (Int.mul_ne_zero (S4 a) (S4 b)) (Int.mul_ne_zero (S4 a) (S4 b))
 have e:=a2w ((pX a*pL b - pX b*pL a)*(pX a*pL b - pX b*pL a)+(pY a*pL b - pY b*pL a)*(pY a*pL b - pY b*pL a)) (pL a*pL b*(pL a*pL b)) fs ne ((ha.l.mul hb.l).mul (ha.l.mul hb.l)) (by omega)
 have v:Rat.divInt ((pX a*pL b - pX b*pL a)*(pX a*pL b - pX b*pL a)+(pY a*pL b - pY b*pL a)*(pY a*pL b - pY b*pL a)) (pL a*pL b*(pL a*pL b))=dsq a b:=by
  rw[Rat.divInt_eq_div]
  simp only[Rat.intCast_add,Rat.intCast_sub,Rat.intCast_mul,a0L,a0B,dsq]
  have:=V0 a
  have:=V0 b
  grind
 rw[v] at e
 refine m8 (s:=⟨[.val (pt a),.val (pt b),.val (.int (pX a*pL b - pX b*pL a)),.val (.int (pY a*pL b - pY b*pL a)),.val (.int (pL a*pL b))],fs⟩) ?_
 show a3U FF ⟨[.val (pt a),.val (pt b),.no,.no,.no],fs⟩=_
 unfold a3U
 have x:∀ p:Pt,pIx (pt p) (.int 0)=some (.int (pX p)):=fun _=>rfl
 have y:∀ p:Pt,pIx (pt p) (.int 1)=some (.int (pY p)):=fun _=>rfl
 have l:∀ p:Pt,pIx (pt p) (.int 2)=some (.int (pL p)):=fun _=>rfl
 rw[i6 (s1:=⟨[.val (pt a),.val (pt b),.val (.int (pX a*pL b - pX b*pL a)),.no,.no],fs⟩) (l5 (c7 (c7 (c7 rfl rfl (x a)) (c7 rfl rfl (l b)) (r8 a1 b3)) (c7 (c7 rfl rfl (x b)) (c7 rfl rfl (l a)) (r8 b1 a3)) rfl) rfl),
  i6 (s1:=⟨[.val (pt a),.val (pt b),.val (.int (pX a*pL b - pX b*pL a)),.val (.int (pY a*pL b - pY b*pL a)),.no],fs⟩) (l5 (c7 (c7 (c7 rfl rfl (y a)) (c7 rfl rfl (l b)) (r8 a2 b3)) (c7 (c7 rfl rfl (y b)) (c7 rfl rfl (l a)) (r8 b2 a3)) rfl) rfl),
  i6 (s1:=⟨[.val (pt a),.val (pt b),.val (.int (pX a*pL b - pX b*pL a)),.val (.int (pY a*pL b - pY b*pL a)),.val (.int (pL a*pL b))],fs⟩) (l5 (c7 (c7 rfl rfl (l a)) (c7 rfl rfl (l b)) (r8 a3 b3)) rfl)]
 exact o8 (j9 (i5 (c7 (c7 rfl rfl (r8 w1 w1)) (c7 rfl rfl (r8 w2 w2)) rfl) (i5 (c7 rfl rfl (r8 w3 w3)) rfl)) e)
end T
namespace DL
open PySem L2
theorem W3 {t:D→DS→Option DS}{b:DM}(P:Nat→DS→Prop):∀ (ds:List D) (n:Nat) (s:DS),P n s→(∀ i d s,ds[i]? = some d→P (n+i) s→∃ s1 s2,t d s=some s1∧(b s1=some (.next,s2)∨b s1=some (.cont,s2))∧P (n+i+1) s2) →
  ∃ s',u7 t b ds s=some (.next,s')∧P (n+ds.length) s'
 |[],n,s,h,_=>⟨s,rfl,h⟩
 |d::r,n,s,h,k=>by
  obtain⟨s1,s2,e1,e2,h2⟩:=k 0 d s rfl h
  obtain⟨s',e3,h3⟩:=W3 P r (n+1) s2 h2 (fun i d' s hd hp=>by
   have:=k (i+1) d' s (by simpa using hd) (by rwa [show n+1+i=n+(i+1) by omega] at hp)
   rwa [show n+(i+1)+1=n+1+i+1 by omega] at this)
  refine⟨s',?_,by rw[List.length_cons,show n+(r.length+1)=n+1+r.length by omega];exact h3⟩
  rw[u7,e1]
  rcases e2 with e2 | e2 <;> simp[e2,e3]
theorem a0j {f:DA}{t:D→DS→Option DS}{b:DM}{s s1:DS}{xs ds:List D}(h1:f s=some (xs,s1)) (h2:U3 xs=some ds):O9 f t b s=u7 t b ds s1:=by
 simp only[O9,h1,Option.bind_some,h2]
theorem X5 {f:DE}{t:D→DS→Option DS}{b:DM}{s s1:DS}{ds:List D}(h1:f s=some (.lst ds,s1)):F6 f t b s=u7 t b ds s1:=by
 simp only[F6,h1,Option.bind_some]
theorem a0b {f:DE}{t:D→DS→Option DS}{b:DM}{s s1:DS}{ds:List D}(h1:f s=some (.tup ds,s1)):F6 f t b s=u7 t b ds s1:=by
 simp only[F6,h1,Option.bind_some]
theorem a3D {lo:Int}{n i:Nat}{d:D}(h:(ups lo n)[i]? = some d):d = .int (lo+i)∧i<n:=by
 have hi:i<n:=by have:=(List.getElem?_eq_some_iff.mp h).1;rwa [M7] at this
 rw[a2M hi] at h
 cases h
 exact⟨rfl,hi⟩
theorem V8 {n:Nat}(h:n<2 ^ 30):U3 [.int (n:Int)]=some (ups 0 n):=by
 have:-(2 ^ 62)≤(n:Int)∧(n:Int)<2 ^ 62:=by omega
 simp only[U3,if_pos this,Int.toNat_natCast]
end DL
namespace T
open PySem L2 DL
structure PtS (k:Nat) (a:Pt):Prop where
 x:Sz k a.1
 y:Sz k a.2
theorem PtS.mono {k l:Nat}{a:Pt}(h:PtS k a) (hl:k≤l):PtS l a:=⟨h.x.mono hl,h.y.mono hl⟩
def Sm (M:Int):Prop:=1≤M∧M≤2 ^ 4000
theorem Sm.bd {M g:Int}(hM:Sm M) (h0:0≤g) (h:g≤2*M):Bd 4002 g:=by
 unfold Bd
 have e:(2:Nat) ^ 4002=4*2 ^ 4000:=by rw[show (4002:Nat)=4000+2 from rfl,Nat.pow_add];omega
 have h2:M≤((2 ^ 4000:Nat):Int):=by have:=hM.2;rw[Int.natCast_pow];exact this
 have p:0<(2:Nat) ^ 4000:=Nat.pow_pos (by decide)
 rw[e]
 omega
theorem Sm.bits {M g:Int}(hM:Sm M) (h0:0≤g) (h:g≤2*M):v6 g=true:=(hM.bd h0 h).bits (by decide)
theorem Sm.div {M g:Int}(hM:Sm M) (h0:1≤g) (h:g≤2*M):C1 g=true:=by
 have b:=hM.bd (by omega) h
 unfold C1
 rw[Bool.and_eq_true,decide_eq_true_iff,decide_eq_true_iff]
 refine⟨by omega,?_⟩
 have:g.natAbs.log2<4002:=(Nat.log2_lt (by omega)).mpr b
 omega
def IsR (r n:Int):Prop:=0≤r∧r*r≤n∧n<(r+1)*(r+1)
theorem a0x {a b:Int}(h0:0≤a) (h:a≤b):a*a≤b*b:=Int.mul_le_mul h h h0 (by omega)
theorem a4L {r s n:Int}(h1:IsR r n) (h2:IsR s n):r=s:=by
 obtain⟨a1,a2,a3⟩:=h1
 obtain⟨b1,b2,b3⟩:=h2
 rcases Int.lt_trichotomy r s with h | h | h
 ·have:=a0x (a:=r+1) (b:=s) (by omega) (by omega);omega
 ·exact h
 ·have:=a0x (a:=s+1) (b:=r) (by omega) (by omega);omega
theorem a58 (n:Nat):∃ r,IsR r n:=by
 induction n with
 |zero=>exact⟨0,by decide,by decide,by decide⟩
 |succ n ih=>
  obtain⟨r,h1,h2,h3⟩:=ih
  by_cases h:(r+1)*(r+1)≤((n+1:Nat):Int)
  ·refine⟨r+1,by omega,h,?_⟩
   have e:(r+1+1)*(r+1+1)=(r+1)*(r+1)+2*(r+1)+1:=by grind
   omega
  ·exact⟨r,h1,by omega,by omega⟩
theorem a8C {a b:Int}(hb:0≤b) (h:a*a<(b+1)*(b+1)):a≤b:=by
 rcases Int.lt_or_le b a with z | z
 ·have:=a0x (a:=b+1) (b:=a) (by omega) (by omega);omega
 ·exact z
theorem a1r {M g n:Int}(hM:Sm M) (h:g*g≤n) (hn:n<M*M) (h0:0≤g):g<M:=by
 rcases Int.lt_or_le g M with z | z
 ·exact z
 ·have:=a0x (a:=M) (b:=g) (by have:=hM.1;omega) z
  omega
abbrev aT:DT:=dB (dOp (n9 (fun i j=>decide (j<i))) (dL 2) (dC (.int 0)))
abbrev aB:DM:=e8 (j7 (dOp l8 (dL 1) (dC (.int 2))) (c9 1)) (j7 (dOp A4 (dL 2) (dC (.int 4))) (c9 2))
theorem b2n {M:Int}(hM:Sm M) (N:Sl) (fs:Option FS) (n:Int) (hn:n<M*M) (rest:Nat):∀ g:Int,1≤g→g≤2*M→g*g*rest≤n→n<g*g*(rest+1) →
  ∃ g',C5 aT aB ⟨[N,.val (.int g),.val (.int rest)],fs⟩=some (.next,⟨[N,.val (.int g'),.val (.int 0)],fs⟩)∧1≤g'∧g'≤2*M∧n<g'*g':=by
 induction rest using Nat.strongRecOn with
 |ind rest ih=>
  intro g h1 h2 h3 h4
  by_cases h:rest=0
  ·subst h
   refine⟨g,Q3 (by simp[dB,dOp,dL,dC,n9]),h1,h2,?_⟩
   have:g*g*((0:Nat)+1:Int)=g*g:=by grind
   omega
  ·have hg:g*g≤n:=by
    have:g*g*1≤g*g*(rest:Int):=Int.mul_le_mul_of_nonneg_left (by omega) (Int.mul_nonneg (by omega) (by omega))
    omega
   have hs:=a1r hM hg hn (by omega)
   have e4:((rest:Int).fdiv 4)=((rest / 4:Nat):Int):=by rw[Int.fdiv_eq_ediv_of_nonneg _ (by decide)];rfl
   have hq:rest≤4*(rest / 4)+3:=by omega
   have hq2:4*(rest / 4)≤rest:=by omega
   obtain⟨g',e,r1,r2,r3⟩:=ih (rest / 4) (by omega) (g*2) (by omega) (by omega) (by
    have e1:g*2*(g*2)*((rest / 4:Nat):Int)=g*g*(4*((rest / 4:Nat):Int)):=by grind
    have:g*g*(4*((rest / 4:Nat):Int))≤g*g*(rest:Int):=Int.mul_le_mul_of_nonneg_left (by omega) (Int.mul_nonneg (by omega) (by omega))
    omega) (by
    have e1:g*2*(g*2)*(((rest / 4:Nat):Int)+1)=g*g*(4*((rest / 4:Nat):Int)+4):=by grind
    have:g*g*((rest:Int)+1)≤g*g*(4*((rest / 4:Nat):Int)+4):=Int.mul_le_mul_of_nonneg_left (by omega) (Int.mul_nonneg (by omega) (by omega))
    omega)
   refine⟨g',R7 (s1:=⟨[N,.val (.int g),.val (.int rest)],fs⟩) (s2:=⟨[N,.val (.int (g*2)),.val (.int ((rest / 4:Nat):Int))],fs⟩) ?_ ?_ e,r1,r2,r3⟩
   ·have:0<rest:=by omega
    simp[dB,dOp,dL,dC,n9,this]
   ·have b1:v6 g=true:=hM.bits (by omega) (by omega)
    have b2:v6 2=true:=by decide
    have d4:C1 4=true:=by decide
    exact(i6 (s1:=⟨[N,.val (.int (g*2)),.val (.int rest)],fs⟩) (l5 (c7 rfl rfl (r8 b1 b2)) rfl)).trans (l5 (c7 rfl rfl ((a4G _ d4).trans (congrArg (fun z=>some (D.int z)) e4))) rfl)
theorem above {M:Int}(hM:Sm M) (n:Int) (hn0:0≤n) (hn:n<M*M) (fs:Option FS):∃ g,L9 [.int n] fs=some (.int g,fs)∧1≤g∧g≤2*M∧n<g*g:=by
 obtain⟨m,rfl⟩:=Int.eq_ofNat_of_zero_le hn0
 obtain⟨g,e,r1,r2,r3⟩:=b2n hM (.val (.int m)) fs m hn m 1 (by decide) (by have:=hM.1;omega) (by omega) (by omega)
 refine⟨g,m8 (s:=⟨[.val (.int m),.val (.int g),.val (.int 0)],fs⟩) ?_,r1,r2,r3⟩
 show a5k ⟨[.val (.int m),.no,.no],fs⟩=_
 unfold a5k
 rw[i6 (s1:=⟨[.val (.int m),.val (.int 1),.no],fs⟩) (by simp[j7,dC,c9])]
 rw[i6 (s1:=⟨[.val (.int m),.val (.int 1),.val (.int m)],fs⟩) (by simp[j7,dV,c9])]
 rw[i6 e]
 exact o8 (by simp[dV])
theorem b5n {g q r n:Int}(hg:0<g) (h1:n<g*q+g) (h2:r*r≤n):2*r≤g+q:=by
 have h:¬ (g+q≤2*r - 1):=by
  intro h
  have h3:g*(q+1)≤g*(2*r - g):=Int.mul_le_mul_of_nonneg_left (by omega) (by omega)
  have h4:g*(2*r - g)=r*r - (r - g)*(r - g):=by grind
  have h5:0≤(r - g)*(r - g):=by
   rcases Int.le_total 0 (r - g) with z | z
   ·exact Int.mul_nonneg z z
   ·exact Int.mul_nonneg_of_nonpos_of_nonpos z z
  have h6:g*(q+1)=g*q+g:=by grind
  omega
 omega
abbrev nT:DT:=dB (dOp (n9 (fun i j=>decide (i<j))) (dL 2) (dL 1))
abbrev nS:DM:=j7 (dOp A4 (dOp p7 (dL 1) (dOp A4 (dL 0) (dL 1))) (dC (.int 2))) (c9 2)
def nx (n g:Int):Int:=(g+n / g) / 2
theorem a54 {M:Int}(hM:Sm M) (n g:Int) (x:Sl) (fs:Option FS) (h1:1≤g) (h2:g≤2*M):nS ⟨[.val (.int n),.val (.int g),x],fs⟩=some (.next,⟨[.val (.int n),.val (.int g),.val (.int (nx n g))],fs⟩):=by
 have dg:C1 g=true:=hM.div h1 h2
 have d2:C1 2=true:=by decide
 have e1:=Int.fdiv_eq_ediv_of_nonneg n (show (0:Int)≤g by omega)
 have e2:=Int.fdiv_eq_ediv_of_nonneg (g+n / g) (show (0:Int)≤2 by decide)
 simp[j7,dOp,dL,dC,c9,A4,p7,dg,d2,e1,e2,nx]
theorem a3P {n g r:Int}(h1:1≤g) (hr:IsR r n):r≤nx n g:=by
 have m1:=Int.mul_ediv_add_emod n g
 have m2:=Int.emod_nonneg n (show g≠0 by omega)
 have m3:=Int.emod_lt_of_pos n (show 0<g by omega)
 have:=b5n (q:=n / g) (show 0<g by omega) (by omega) hr.2.1
 unfold nx;omega
theorem b5U {M:Int}(hM:Sm M) (n r:Int) (hr:IsR r n) (r1:1≤r) (fs:Option FS) (k:Nat):∀ g:Int,g.toNat=k→r≤g→g≤2*M →
  ∃ x,C5 nT (e8 (j7 (dV 2) (c9 1)) nS) ⟨[.val (.int n),.val (.int g),.val (.int (nx n g))],fs⟩=some (.next,⟨[.val (.int n),.val (.int r),x],fs⟩):=by
 induction k using Nat.strongRecOn with
 |ind k ih=>
  intro g hk h1 h2
  by_cases h:nx n g<g
  ·obtain⟨x,e⟩:=ih (nx n g).toNat (by have:=a3P (g:=g) (by omega) hr;omega) (nx n g) rfl (a3P (by omega) hr) (by omega)
   refine⟨x,R7 (s1:=⟨[.val (.int n),.val (.int g),.val (.int (nx n g))],fs⟩) (s2:=⟨[.val (.int n),.val (.int (nx n g)),.val (.int (nx n (nx n g)))],fs⟩) (by simp[dB,dOp,dL,n9,h]) ?_ e⟩
   rw[i6 (s1:=⟨[.val (.int n),.val (.int (nx n g)),.val (.int (nx n g))],fs⟩) (by simp[j7,dV,c9])]
   exact a54 hM n (nx n g) _ fs (by have:=a3P (g:=g) (by omega) hr;omega) (by omega)
  ·have m1:=Int.mul_ediv_add_emod n g
   have m2:=Int.emod_nonneg n (show g≠0 by omega)
   have hq:g≤n / g:=by unfold nx at h;omega
   have hgg:g*g≤g*(n / g):=Int.mul_le_mul_of_nonneg_left hq (by omega)
   have:g≤r:=a8C hr.1 (by have:=hr.2.2;omega)
   have e:g=r:=by omega
   subst e
   exact⟨.val (.int (nx n g)),Q3 (by simp[dB,dOp,dL,n9,h])⟩
theorem a6p {M:Int}(hM:Sm M) (n r:Int) (hr:IsR r n) (hn:n<M*M) (fs:Option FS):Q0 L9 [.int n] fs=some (.int r,fs):=by
 have hn0:0≤n:=by have:=Int.mul_nonneg hr.1 hr.1;have:=hr.2.1;omega
 by_cases h0:n=0
 ·subst h0
  have e:r=0:=a4L hr ⟨by decide,by decide,by decide⟩
  subst e
  refine m8 (s:=⟨[.val (.int 0),.no,.no],fs⟩) ?_
  show a02 L9 ⟨[.val (.int 0),.no,.no],fs⟩=_
  unfold a02
  exact T3 (by simp[p9,dB,dOp,dL,dC,P7,l6])
 ·obtain⟨g,e,g1,g2,g3⟩:=above hM n hn0 hn fs
  have r1:1≤r:=by
   rcases Int.lt_or_le r 1 with z | z
   ·have e:r=0:=by have:=hr.1;omega
    subst e
    have:=hr.2.2;omega
   ·exact z
  have hrg:r≤g:=by
   have h:=hr.2.1
   have e:(g - 1+1)*(g - 1+1)=g*g:=by grind
   have:r≤g - 1:=a8C (by omega) (by omega)
   omega
  obtain⟨x,hw⟩:=b5U hM n r hr r1 fs g.toNat g rfl hrg g2
  refine m8 (s:=⟨[.val (.int n),.val (.int r),x],fs⟩) ?_
  show a02 L9 ⟨[.val (.int n),.no,.no],fs⟩=_
  unfold a02
  rw[i6 (s1:=⟨[.val (.int n),.no,.no],fs⟩) (E5 (C0 (c7 rfl rfl ((P7 _ _).trans (by rw[decide_eq_false h0])))))]
  rw[i6 (s1:=⟨[.val (.int n),.val (.int g),.no],fs⟩) (l5 (j9 rfl e) rfl)]
  rw[i6 (a54 hM n g .no fs g1 g2)]
  rw[i6 hw]
  exact o8 (by simp[dV])
def Y8 (n d rn rd:Int):D:=if rn*rn=n∧rd*rd=d then .tup [.int rn,.int rd] else .non
theorem sm {M n r:Int}(hM:Sm M) (hr:IsR r n) (hn:n<M*M):r<M:=a1r hM hr.2.1 hn hr.1
theorem b08 {M:Int}(hM:Sm M) (n d rn rd:Int) (h1:IsR rn n) (h2:IsR rd d) (hn:n<M*M) (hd:d<M*M) (fs:Option FS):W4 (Q0 L9) [.tup [.int n,.int d]] fs=some (Y8 n d rn rd,fs):=by
 have hn0:¬ n<0:=by have:=Int.mul_nonneg h1.1 h1.1;have:=h1.2.1;omega
 have s1:=sm hM h1 hn
 have s2:=sm hM h2 hd
 have b1:v6 rn=true:=hM.bits h1.1 (by have:=hM.1;omega)
 have b2:v6 rd=true:=hM.bits h2.1 (by have:=hM.1;omega)
 have sz:(2:Nat)≤sizeLine:=by decide
 refine m8 (s:=⟨[.val (.tup [.int n,.int d]),.val (.int rn),.val (.int rd)],fs⟩) ?_
 show a4K (Q0 L9) ⟨[.val (.tup [.int n,.int d]),.no,.no],fs⟩=_
 unfold a4K
 rw[i6 (s1:=⟨[.val (.tup [.int n,.int d]),.no,.no],fs⟩) (E5 (C0 (c7 (c7 rfl rfl rfl) rfl (congrArg (fun z=>some (D.bl z)) (decide_eq_false hn0)))))]
 rw[i6 (s1:=⟨[.val (.tup [.int n,.int d]),.val (.int rn),.no],fs⟩) (l5 (j9 (i5 (c7 rfl rfl rfl) rfl) (a6p hM n rn h1 hn fs)) rfl)]
 rw[i6 (s1:=⟨[.val (.tup [.int n,.int d]),.val (.int rn),.val (.int rd)],fs⟩) (l5 (j9 (i5 (c7 rfl rfl rfl) rfl) (a6p hM d rd h2 hd fs)) rfl)]
 have t1:∀ z,(!decide (rn*rn=n))=z→dB (dOp pNe (dOp l8 (dL 1) (dL 1)) (dOp pIx (dL 0) (dC (.int 0)))) ⟨[.val (.tup [.int n,.int d]),.val (.int rn),.val (.int rd)],fs⟩=some (z,⟨[.val (.tup [.int n,.int d]),.val (.int rn),.val (.int rd)],fs⟩):=fun z hz=>C0 (c7 (c7 rfl rfl (r8 b1 b1)) (c7 rfl rfl rfl) ((a3G _ _).trans (by rw[hz])))
 have t2:∀ z,(!decide (rd*rd=d))=z→dB (dOp pNe (dOp l8 (dL 2) (dL 2)) (dOp pIx (dL 0) (dC (.int 1)))) ⟨[.val (.tup [.int n,.int d]),.val (.int rn),.val (.int rd)],fs⟩=some (z,⟨[.val (.tup [.int n,.int d]),.val (.int rn),.val (.int rd)],fs⟩):=fun z hz=>C0 (c7 (c7 rfl rfl (r8 b2 b2)) (c7 rfl rfl rfl) ((a3G _ _).trans (by rw[hz])))
 by_cases c1:rn*rn=n
 ·by_cases c2:rd*rd=d
  ·rw[i6 (E5 (a0C (t1 false (by rw[decide_eq_true c1];rfl)) (t2 false (by rw[decide_eq_true c2];rfl)))),Y8,if_pos ⟨c1,c2⟩]
   exact o8 (w9 rfl rfl)
  ·rw[Y8,if_neg (fun z=>c2 z.2)]
   refine T3 ?_
   rw[L8 (a0C (t1 false (by rw[decide_eq_true c1];rfl)) (t2 true (by rw[decide_eq_false c2];rfl)))]
   rfl
 ·rw[Y8,if_neg (fun z=>c1 z.1)]
  refine T3 ?_
  rw[L8 (b3T (t1 true (by rw[decide_eq_false c1];rfl)))]
  rfl
end T
namespace DL
open PySem L2
structure Ok (k n:Nat) (d:D):Prop where
 pl:d.plain=true
 sh:d.py.showable=true
 la:d.py.canLay0=true
 dp:d.py.depth≤k
 le:d.py.leavesShort 1921=true
 bu:d.py.bulk≤n
structure OkL (k n:Nat) (ds:List D):Prop where
 pl:D.plains ds=true
 sh:PyData.showableAll (D.pys ds)=true
 la:PyData.canLayAll0 (D.pys ds)=true
 dp:PyData.depthAll (D.pys ds)≤k
 le:PyData.leavesShortAll 1921 (D.pys ds)=true
 bu:PyData.bulkAll (D.pys ds)≤n
theorem Ok.int {i:Int}(h:Bd 1920 i):Ok 0 0 (.int i):=by
 have hl:i.natAbs.log2<1920:=a0w (by decide) h
 refine⟨rfl,?_,rfl,Nat.le_refl _,?_,Nat.le_refl _⟩
 ·simp only[D.py,PyData.showable];exact decide_eq_true hl
 ·simp only[D.py,PyData.leavesShort,PyData.shown]
  exact decide_eq_true (a9w hl)
theorem OkL.nil:OkL 0 0 []:=⟨rfl,rfl,rfl,Nat.le_refl _,rfl,Nat.le_refl _⟩
theorem OkL.cons {k l n m:Nat}{d:D}{ds:List D}(h:Ok k n d) (hs:OkL l m ds):OkL (max k l) (n+1+m) (d::ds):=by
 refine⟨?_,?_,?_,?_,?_,?_⟩
 ·simp only[D.plains,h.pl,hs.pl,Bool.and_self]
 ·simp only[D.pys,PyData.showableAll,h.sh,hs.sh,Bool.and_self]
 ·simp only[D.pys,PyData.canLayAll0,h.la,hs.la,Bool.and_self]
 ·have:=h.dp;have:=hs.dp;simp only[D.pys,PyData.depthAll];omega
 ·simp only[D.pys,PyData.leavesShortAll,h.le,hs.le,Bool.and_self]
 ·have:=h.bu;have:=hs.bu;simp only[D.pys,PyData.bulkAll];omega
theorem Ok.tup {k n:Nat}{ds:List D}(h:OkL k n ds):Ok (k+1) n (.tup ds):=by
 refine⟨?_,?_,?_,?_,?_,?_⟩
 ·simp only[D.plain,h.pl]
 ·simp only[D.py,PyData.showable,h.sh]
 ·simp only[D.py,PyData.canLay0,h.la]
 ·have:=h.dp;simp only[D.py,PyData.depth];omega
 ·simp only[D.py,PyData.leavesShort,h.le]
 ·have:=h.bu;simp only[D.py,PyData.bulk];omega
theorem Ok.eq {k n:Nat}{d:D}(h:Ok k n d) (hk:k≤64:=by decide):B8 d=true:=by
 simp only[B8,h.pl,SeqAt.shaped,h.la,Bool.true_and,decide_eq_true (Nat.le_trans h.dp hk)]
theorem Ok.fr {k:Nat}{p:Rat}(h:Sz k p) (hk:k≤1920:=by decide):Ok 1 2 (fr p):=Ok.tup ((OkL.cons (Ok.int (h.num.mono hk)) (OkL.cons (Ok.int (h.den.mono hk)) OkL.nil)))
theorem ixT (ds:List D) (i:Int):pIx (.tup ds) (.int i)=atI ds i:=rfl
theorem ixL (ds:List D) (i:Int):pIx (.lst ds) (.int i)=atI ds i:=rfl
theorem D3 (p:Rat):pIx (DL.fr p) (.int 0)=some (.int p.num):=rfl
theorem C2 (p:Rat):pIx (DL.fr p) (.int 1)=some (.int p.den):=rfl
theorem Y0 (a:Pt):pIx (DL.pt a) (.int 0)=some (.int (pX a)):=rfl
theorem Y7 (a:Pt):pIx (DL.pt a) (.int 1)=some (.int (pY a)):=rfl
theorem Q1 (a:Pt):pIx (DL.pt a) (.int 2)=some (.int (pL a)):=rfl
theorem a6v {k l:Nat}{p q:Rat}(ha:Sz k p) (hb:Sz l q) (hk:k≤1920:=by decide) (hl:l≤1920:=by decide):pEq (fr p) (fr q)=some (.bl (decide (p=q))):=by
 have o1:=(Ok.fr ha hk).eq
 have o2:=(Ok.fr hb hl).eq
 unfold fr at *
 simp only[pEq,o1,o2,Bool.and_self,if_true,D.py,D.pys,PyData.eqv,PyData.eqvAll,Bool.beq_eq_decide_eq,Bool.and_true]
 congr 2
 rw[Bool.eq_iff_iff]
 simp only[Bool.and_eq_true,decide_eq_true_iff]
 constructor
 ·rintro⟨h1,h2⟩;exact Rat.ext h1 (by omega)
 ·rintro rfl;exact⟨rfl,rfl⟩
theorem a7q (ds:List D) (n:Nat) (h:n≤ds.length):K9 ds none (some (n:Int))=ds.take n:=by
 unfold K9 HT.sIx
 have h1:¬ (n:Int)<0:=by omega
 simp only[h1,if_false,List.drop_zero,Nat.sub_zero,Int.toNat_natCast]
 rw[Nat.min_eq_left h]
theorem a8p (ds:List D) (n:Nat) (h:n≤ds.length):K9 ds (some (n:Int)) none=ds.drop n:=by
 unfold K9 HT.sIx
 have h1:¬ (n:Int)<0:=by omega
 simp only[h1,if_false,Int.toNat_natCast]
 rw[Nat.min_eq_left h]
 exact List.take_of_length_le (by rw[List.length_drop];omega)
theorem a7w {idx:List Nat}{fe:DE}{g:D→D}(caps:List Sl) (fs:Option FS):∀ (ds:List D),(∀ d∈ds,∃ s,fe ⟨.val d::caps,fs⟩=some (g d,s)∧s.fs=fs)→A0 (fun d=>some (.val d::caps)) B7 fe ds fs=some (ds.map g,fs)
 |[],_=>rfl
 |d::r,h=>by
  obtain⟨s,e,q⟩:=h d (List.mem_cons_self ..)
  have ih:=a7w (idx:=idx) caps fs r fun x hx=>h x (List.mem_cons_of_mem _ hx)
  simp[A0,B7,e,q,ih]
def nbs {α:Type}(c:Bool) (l:List α):List (α × α):=l.zip (if c then l.drop 1++l.take 1 else l.drop 1)
def pr2 (p:D × D):D:=.tup [p.1,p.2]
def a0H:D→Pt
 |.tup [.int x,.int y,.int d]=>(Rat.divInt x d,Rat.divInt y d)
 |_=>(0,0)
theorem a2g {α β:Type}(f:α→β) (c:Bool) (l:List α):nbs c (l.map f)=(nbs c l).map fun p=>(f p.1,f p.2):=by
 unfold nbs
 cases c
 ·simp only[Bool.false_eq_true,if_false]
  rw[←List.map_drop,List.zip_map];rfl
 ·simp only[if_true]
  rw[←List.map_drop,←List.map_take,←List.map_append,List.zip_map];rfl
theorem a0t {α:Type}(c:Bool) (l:List α):(nbs c l).length≤l.length:=by
 unfold nbs
 rw[List.length_zip]
 exact Nat.min_le_left ..
theorem a39 {α:Type}{c:Bool}{l:List α}{p:α × α}(h:p∈nbs c l):p.1∈l∧p.2∈l:=by
 unfold nbs at h
 obtain⟨h1,h2⟩:=List.of_mem_zip (a:=p.1) (b:=p.2) h
 refine⟨h1,?_⟩
 cases c
 ·simp only[Bool.false_eq_true,if_false] at h2
  exact List.mem_of_mem_drop h2
 ·simp only[if_true] at h2
  rcases List.mem_append.mp h2 with h | h
  ·exact List.mem_of_mem_drop h
  ·exact List.mem_of_mem_take h
theorem a22:∀ (xs ys:List D),List.zipWith F4 xs ys=(xs.zip ys).map pr2
 |[],_=>by simp
 |_::_,[]=>by simp
 |x::xs,y::ys=>by
  rw[List.zipWith_cons_cons,List.zip_cons_cons,List.map_cons,a22 xs ys]
  rfl
theorem a7J (a:Pt):a0H (pt a)=a:=by
 show (Rat.divInt (pX a) (pL a),Rat.divInt (pY a) (pL a))=a
 rw[T.px_div,T.py_div]
def lo (c:Bool):Nat:=if c then 3 else 2
def hi (c:Bool):Nat:=if c then 8 else 9
theorem a63 (ds:List D):K9 ds (some 1) none=ds.drop 1:=by
 cases ds with
 |nil=>rfl
 |cons d r=>exact a8p (d::r) 1 (by simp)
theorem b1c (ds:List D):K9 ds none (some 1)=ds.take 1:=by
 cases ds with
 |nil=>rfl
 |cons d r=>exact a7q (d::r) 1 (by simp)
theorem a5D {idx:List Nat}{sl:List Sl}{fe:DE}{g:D × D→D}(fs:Option FS):∀ (qs:List (D × D)),(∀ q∈qs,∃ s,fe ⟨.val q.1 :: .val q.2::D4 idx sl,fs⟩=some (g q,s)∧s.fs=fs)→A0 (mk2 idx sl) B7 fe (qs.map pr2) fs=some (qs.map g,fs)
 |[],_=>rfl
 |q::r,h=>by
  obtain⟨s,e,e2⟩:=h q (List.mem_cons_self ..)
  have ih:=a5D (idx:=idx) (sl:=sl) fs r fun x hx=>h x (List.mem_cons_of_mem _ hx)
  simp[A0,B7,mk2,pr2,e,e2,ih]
end DL
namespace T
open PySem L2 DL
theorem b0R (ds:List D) (c:Bool) (fs:Option FS) (hl:ds.length+1≤sizeLine):R0 [.tup ds,.bl c] fs=some (.lst ((nbs c ds).map pr2),fs):=by
 refine m8 (s:=⟨[.val (.tup ds),.val (.bl c)],fs⟩) ?_
 show a1u ⟨[.val (.tup ds),.val (.bl c)],fs⟩=_
 have h1:ds.length - 1+min 1 ds.length≤sizeLine:=by omega
 cases c
 ·simp[a1u,e8,F9,j7,dOp,dUn,dC,dL,dV,c9,p9,dB,l6,e7,a7,a8,j6,u6,dCB,one,u8,u9,dIf,A8,dOr,B1,K7,L0,L3,p7,B2,v7,n9,t6,t9,l7,u4,D9,dTr,J7,ixT,ixL,D3,C2,Y0,Y7,Q1,dSl,dAt,dNo,dCF,Y1,M4,a63,nbs,a22]
 ·simp[a1u,e8,F9,j7,dOp,dUn,dC,dL,dV,c9,p9,dB,l6,e7,a7,a8,j6,u6,dCB,one,u8,u9,dIf,A8,dOr,B1,K7,L0,L3,p7,B2,v7,n9,t6,t9,l7,u4,D9,dTr,J7,ixT,ixL,D3,C2,Y0,Y7,Q1,dSl,dAt,dNo,dCF,Y1,M4,a63,b1c,nbs,a22,h1]
abbrev FPc:DFn:=X7 R0
theorem a5x (ds:List D) (c:Bool) (fs:Option FS) (hl:ds.length+1≤sizeLine):FPc [.tup [.bl c,.tup ds]] fs=some (.tup ((nbs c ds).map pr2),fs):=by
 refine m8 (s:=⟨[.val (.tup [.bl c,.tup ds])],fs⟩) ?_
 show a3e R0 ⟨[.val (.tup [.bl c,.tup ds])],fs⟩=_
 have e:=b0R ds c fs hl
 simp[a3e,e8,F9,j7,dOp,dUn,dC,dL,dV,c9,p9,dB,l6,e7,a7,a8,j6,u6,dCB,one,u8,u9,dIf,A8,dOr,B1,K7,L0,L3,p7,B2,v7,n9,t6,t9,l7,u4,D9,dTr,J7,ixT,ixL,D3,C2,Y0,Y7,Q1,a1f,a1j,e,G8]
def isq (n:Int):Int:=Classical.choose (a58 n.toNat)
theorem a1t {n:Int}(h:0≤n):IsR (isq n) n:=by
 have e:IsR (isq n) ((n.toNat:Nat):Int):=Classical.choose_spec (a58 n.toNat)
 have e2:((n.toNat:Nat):Int)=n:=Int.toNat_of_nonneg h
 rw[e2] at e
 exact e
def rtD (q:Rat):D:=Y8 q.num q.den (isq q.num) (isq q.den)
theorem a3s:Sm (2 ^ 1000):=⟨by decide +kernel,by decide +kernel⟩
theorem a9C:((2:Int) ^ 1000)*2 ^ 1000=((2 ^ 2000:Nat):Int):=by decide +kernel
abbrev FRt:DFn:=W4 (Q0 L9)
theorem a0G {q:Rat}(h:0≤q):0≤q.num:=Rat.num_nonneg.mpr h
theorem a1y {q:Rat}(hs:Sz 2000 q):q.num<(2:Int) ^ 1000*2 ^ 1000∧(q.den:Int)<(2:Int) ^ 1000*2 ^ 1000:=by
 rw[a9C]
 have h1:=hs.1
 have h2:=hs.2
 generalize (2:Nat) ^ 2000=W at *
 omega
theorem a85 {q:Rat}(h0:0≤q) (hs:Sz 2000 q) (fs:Option FS):FRt [fr q] fs=some (rtD q,fs):=
 b08 a3s q.num q.den _ _ (a1t (a0G h0)) (a1t (by omega)) (a1y hs).1 (a1y hs).2 fs
theorem a31 (a b:Pt):0≤dsq a b:=by unfold dsq;exact Rat.add_nonneg (a7X _) (a7X _)
theorem a8k {a b:Pt}(ha:PtS 200 a) (hb:PtS 200 b):Sz 1605 (dsq a b):=by
 have h1:=(ha.1.sub hb.1).mul (ha.1.sub hb.1)
 have h2:=(ha.2.sub hb.2).mul (ha.2.sub hb.2)
 exact h1.add h2
def prP (p:Pt × Pt):D:=.tup [pt p.1,pt p.2]
theorem a14 (c:Bool) (ps:List Pt):(nbs c (ps.map pt)).map pr2=(nbs c ps).map prP:=by
 rw[a2g,List.map_map];rfl
end T
namespace DL
open PySem L2
theorem Y6 {α:Type}(c:Bool) (l:List α):(nbs c l).length=l.length - 1+(if c then min 1 l.length else 0):=by
 unfold nbs
 cases c
 ·show (l.zip (l.drop 1)).length=l.length - 1+0
  rw[List.length_zip,List.length_drop,Nat.min_eq_right (Nat.sub_le ..)]
  rfl
 ·show (l.zip (l.drop 1++l.take 1)).length=l.length - 1+min 1 l.length
  rw[List.length_zip,List.length_append,List.length_drop,List.length_take]
  exact Nat.min_eq_right (by omega)
theorem b0P {α:Type}{c:Bool}{l:List α}{j:Nat}(h:j<(nbs c l).length):∃ a b,l[j]? = some a∧l[(j+1) % l.length]? = some b∧(nbs c l)[j]? = some (a,b):=by
 have hl:=Y6 c l
 have hj:j<l.length:=Nat.lt_of_lt_of_le h (a0t c l)
 cases hq:(nbs c l)[j]? with
 |none=>rw[List.getElem?_eq_none_iff] at hq;omega
 |some p=>
  obtain⟨h1,h2⟩:=List.getElem?_zip_eq_some.mp (show (l.zip (if c then l.drop 1++l.take 1 else l.drop 1))[j]? = some p from hq)
  refine⟨p.1,p.2,h1,?_,rfl⟩
  cases c
  ·simp only[Bool.false_eq_true,if_false] at h2 hl
   rw[List.getElem?_drop] at h2
   rw[Nat.mod_eq_of_lt (by omega),Nat.add_comm]
   exact h2
  ·simp only[if_true] at h2 hl
   by_cases hz:j+1<l.length
   ·rw[List.getElem?_append_left (by rw[List.length_drop];omega),List.getElem?_drop] at h2
    rw[Nat.mod_eq_of_lt hz,Nat.add_comm]
    exact h2
   ·have e:j+1=l.length:=by omega
    rw[List.getElem?_append_right (by rw[List.length_drop];omega),List.length_drop,show j - (l.length - 1)=0 by omega,List.getElem?_take] at h2
    rw[e,Nat.mod_self]
    simpa using h2
theorem atN {α:Type}{xs:List α}{i:Nat}{x:α}(h:xs[i]? = some x):atI xs (i:Int)=some x:=by
 have hi:=(List.getElem?_eq_some_iff.mp h).1
 rw[a4B (by omega) (by omega)]
 simpa using h
theorem a07 {α:Type}{xs:List α}{x:α}(h:xs[xs.length - 1]? = some x):atI xs (-1)=some x:=by
 have hi:=(List.getElem?_eq_some_iff.mp h).1
 unfold atI ixN
 rw[if_neg (by omega),if_pos (by omega)]
 show xs[_]? = _
 rw[show ((-1:Int)+xs.length).toNat=xs.length - 1 by omega]
 exact h
end DL
namespace T
open PySem L2 DL
abbrev FLg:DFn:=a0c FPc FRt (S3 FF)
def a09 (c:Bool) (ps:List Pt):List D:=(nbs c ps).map fun p=>rtD (dsq p.1 p.2)
theorem b2H {c:Bool}{ps:List Pt}(hl:ps.length≤9):((nbs c (ps.map pt)).map pr2).length≤sizeLine∧(ps.map pt).length+1≤sizeLine:=by
 have h1:(ps.map pt).length=ps.length:=List.length_map ..
 constructor
 ·rw[List.length_map]
  have:=a0t c (ps.map pt)
  rw[sizeLine_eq];omega
 ·rw[sizeLine_eq];omega
theorem b5i {f:DE}{s s1:DS}{ds:List D}(h:f s=some (.tup ds,s1)):G6 f s=some (ds,s1):=by
 unfold G6
 rw[h]
 rfl
theorem b0N (ps:List Pt) (c:Bool) (fs:Option FS) (hp:∀ p∈ps,PtS 200 p) (hl:ps.length≤9):FLg [.tup [.bl c,.tup (ps.map pt)]] fs=some (.tup (a09 c ps),fs):=by
 refine m8 (s:=⟨[.val (.tup [.bl c,.tup (ps.map pt)])],fs⟩) ?_
 show a6S FPc FRt (S3 FF) ⟨[.val (.tup [.bl c,.tup (ps.map pt)])],fs⟩=_
 obtain⟨hl2,hl3⟩:=b2H (c:=c) hl
 have e:=a5x (ps.map pt) c fs hl3
 have cm:=a5D (idx:=[]) (sl:=[.val (.tup [.bl c,.tup (ps.map pt)])]) (fe:=e7 FRt (a7 (e7 (S3 FF) (a7 (dV 0) (a7 (dV 1) a8))) a8)) (g:=fun q=>rtD (dsq (a0H q.1) (a0H q.2))) fs (nbs c (ps.map pt)) (by
  intro q hq
  rw[a2g] at hq
  obtain⟨p,hp',rfl⟩:=List.mem_map.mp hq
  obtain⟨m1,m2⟩:=a39 hp'
  have s1:=hp _ m1
  have s2:=hp _ m2
  have sq:=b1a p.1 p.2 fs (Ps.of s1.1 s1.2) (Ps.of s2.1 s2.2) (by decide)
  have rt:=a85 (a31 p.1 p.2) ((a8k s1 s2).mono (by decide)) fs
  refine⟨⟨.val (pt p.1) :: .val (pt p.2)::D4 [] [.val (.tup [.bl c,.tup (ps.map pt)])],fs⟩,?_,rfl⟩
  simp only[a7J]
  exact j9 (i5 (j9 (i5 rfl (i5 rfl rfl)) sq) rfl) rt)
 have al:(nbs c (ps.map pt)).map (fun q=>rtD (dsq (a0H q.1) (a0H q.2)))=a09 c ps:=by
  unfold a09
  rw[a2g,List.map_map]
  exact List.map_congr_left fun p _=>by simp[a7J]
 rw[al] at cm
 exact o8 (F3 (p:=G8) (C9 (Y9 (s1:=⟨[.val (.tup [.bl c,.tup (ps.map pt)])],fs⟩) (b5i (j9 rfl e)) hl2 cm)) rfl)
theorem b2V (c:Bool) (ds:List D) (h:1≤ds.length) (g:D→D) (hg:∀ i:Nat,g (.int (i:Int)) = .tup [((ds++ds.take (if c then 1 else 0))[i]?).getD .non,((ds++ds.take (if c then 1 else 0))[i+1]?).getD .non]) :
  (ups 0 (nbs c ds).length).map g=(nbs c ds).map pr2:=by
 apply List.ext_getElem?
 intro i
 by_cases hi:i<(nbs c ds).length
 ·obtain⟨a,b,q1,q2,q3⟩:=b0P hi
  have u:(ups 0 (nbs c ds).length)[i]? = some (.int (i:Int)):=by
   unfold ups
   rw[List.getElem?_map,List.getElem?_range hi]
   simp
  rw[List.getElem?_map,u,List.getElem?_map,q3]
  simp only[Option.map_some,hg]
  have hlen:=Y6 c ds
  have r1:(ds++ds.take (if c then 1 else 0))[i]? = some a:=by
   have:i<ds.length:=by
    rcases Nat.lt_or_ge i ds.length with z | z
    ·exact z
    ·rw[List.getElem?_eq_none z] at q1;cases q1
   rw[List.getElem?_append_left this];exact q1
  have r2:(ds++ds.take (if c then 1 else 0))[i+1]? = some b:=by
   by_cases z:i+1<ds.length
   ·rw[List.getElem?_append_left z]
    rw[Nat.mod_eq_of_lt z] at q2;exact q2
   ·cases c with
    |false=>simp at hlen;omega
    |true=>
     have e:i+1=ds.length:=by simp at hlen;omega
     rw[e,Nat.mod_self] at q2
     rw[e,List.getElem?_append_right (Nat.le_refl _),Nat.sub_self]
     simp only[if_true]
     rw[List.getElem?_take_of_lt (by decide)]
     exact q2
  rw[r1,r2]
  rfl
 ·have hi':(nbs c ds).length≤i:=by omega
  rw[List.getElem?_eq_none (by rw[List.length_map];unfold ups;rw[List.length_map,List.length_range];exact hi')]
  rw[List.getElem?_eq_none (by rw[List.length_map];exact hi')]
def pcG (S:List D):D→D
 |.int k=>.tup [(S[k.toNat]?).getD .non,(S[k.toNat+1]?).getD .non]
 |_=>.non
theorem b0u (S:List D) (fs:Option FS) (m:Nat) (hS:S.length=m+1):∀ d∈ups 0 m,∃ s,j6 (a7 (dOp pIx (dL 1) (dL 0)) (a7 (dOp pIx (dL 1) (dOp p7 (dL 0) (dC (.int 1)))) a8)) ⟨.val d::[.val (.tup S)],fs⟩=some (pcG S d,s)∧s.fs=fs:=by
 intro d hd
 obtain⟨i,hi⟩:=List.getElem?_of_mem hd
 obtain⟨rfl,hi2⟩:=a3D hi
 rw[Int.zero_add]
 have a1:atI S (i:Int)=some S[i]:=atN (xs:=S) (i:=i) (x:=S[i]) (by rw[List.getElem?_eq_getElem (by omega)])
 have a2:atI S ((i:Int)+1)=some S[i+1]:=by
  have:=atN (xs:=S) (i:=i+1) (x:=S[i+1]) (by rw[List.getElem?_eq_getElem (by omega)])
  rwa [Int.natCast_add] at this
 refine⟨⟨[.val (.int (i:Int)),.val (.tup S)],fs⟩,?_,rfl⟩
 have eg:pcG S (.int (i:Int)) = .tup [S[i],S[i+1]]:=by
  simp only[pcG,Int.toNat_natCast]
  rw[List.getElem?_eq_getElem (by omega),List.getElem?_eq_getElem (by omega)]
  rfl
 rw[eg]
 exact w9 (c7 rfl rfl ((ixT _ _).trans a1)) (c7 rfl (c7 rfl rfl rfl) ((ixT _ _).trans a2))
end T
namespace DL
open PySem L2
theorem tg0 (f:FS) (h:f.kind=1):f.tget 0=some (.lst (f.cells.map .int)):=by unfold FS.tget;rw[if_neg (by omega),if_pos rfl]
end DL
namespace T
open PySem L2 DL
theorem R5 {a b:Int}(h:b≠0):y8 (.int a) (.int b)=some (.int (a.fmod b)):=if_pos h
theorem a2N {a b:Int}(h:C1 b=true):A4 (.int a) (.int b)=some (.int (a.fdiv b)):=if_pos h
theorem a71 {i:Nat}{k n:Int}{f:DE}{s s1:DS}{z:Fl × DS}(h:f s=some (.int n,s1)) (h2:dTP i k (fun _=>some (.int n,s1)) s=some z):dTP i k f s=some z:=by
 rw[←h2]
 unfold dTP
 rw[h]
abbrev LDw:DFn:=N5
set_option maxHeartbeats 4000000 in
theorem b1S (f:FS) (many:Int) (hm:0<many) (hm2:many<2 ^ 100) (ht:0≤f.pos) (ht2:f.pos<2 ^ 40) (hk:f.kind=1) :
  ∃ r f',LDw [.feed,.int many] (some f)=some (.int r,some f')∧0≤r∧r<many∧f.pos≤f'.pos∧f'.pos≤f.pos+1∧f'.kind=1:=by
 have dm:C1 many=true:=b55 (by omega) (by omega)
 have hne:many≠0:=by omega
 obtain⟨cs,ps,lf,tn,kd⟩:=f
 simp only at ht ht2 hk ⊢
 subst hk
 by_cases hl:0<lf
 ·refine⟨lf.fmod many,⟨cs,ps,lf.fdiv many,tn,1⟩,m8 (s:=⟨[.val .feed,.val (.int many),.val (.int (lf.fmod many)),.no,.no,.no],some ⟨cs,ps,lf.fdiv many,tn,1⟩⟩) ?_,(N3 hm).1,(N3 hm).2,Int.le_refl _,Int.le_of_lt (Int.lt_succ _),rfl⟩
  have t0:dB (dOp (n9 (fun i j=>decide (j<i))) (dTG 0 2) (dC (.int 0))) ⟨[.val .feed,.val (.int many),.no,.no,.no,.no],some ⟨cs,ps,lf,tn,1⟩⟩=some (true,⟨[.val .feed,.val (.int many),.no,.no,.no,.no],some ⟨cs,ps,lf,tn,1⟩⟩):=C0 (c7 rfl rfl (show some (D.bl (decide (0<lf)))=_ by rw[decide_eq_true hl]))
  have e1:dOp y8 (dTG 0 2) (dL 1) ⟨[.val .feed,.val (.int many),.no,.no,.no,.no],some ⟨cs,ps,lf,tn,1⟩⟩=some (.int (lf.fmod many),⟨[.val .feed,.val (.int many),.no,.no,.no,.no],some ⟨cs,ps,lf,tn,1⟩⟩):=c7 rfl rfl (R5 hne)
  have e2:dOp A4 (dTG 0 2) (dL 1) ⟨[.val .feed,.val (.int many),.val (.int (lf.fmod many)),.no,.no,.no],some ⟨cs,ps,lf,tn,1⟩⟩=some (.int (lf.fdiv many),⟨[.val .feed,.val (.int many),.val (.int (lf.fmod many)),.no,.no,.no],some ⟨cs,ps,lf,tn,1⟩⟩):=c7 rfl rfl (a2N dm)
  show W5 ⟨[.val .feed,.val (.int many),.no,.no,.no,.no],some ⟨cs,ps,lf,tn,1⟩⟩=_
  unfold W5
  refine T3 ?_
  rw[L8 t0,i6 (s1:=⟨[.val .feed,.val (.int many),.val (.int (lf.fmod many)),.no,.no,.no],some ⟨cs,ps,lf,tn,1⟩⟩) (l5 e1 rfl),i6 (s1:=⟨[.val .feed,.val (.int many),.val (.int (lf.fmod many)),.no,.no,.no],some ⟨cs,ps,lf.fdiv many,tn,1⟩⟩) (a71 e2 rfl)]
  exact o8 rfl
 ·have cell:∃ c:Int,∀ a b:Sl,p9 (dB (dOp (n9 (fun i j=>decide (j<i))) (dCB (one t6) (a7 (dTG 0 0) a8)) (dC (.int 0)))) (j7 (dOp pIx (dTG 0 0) (dOp y8 (dL 3) (dCB (one t6) (a7 (dTG 0 0) a8)))) (c9 4)) u6 ⟨[.val .feed,a,.no,.val (.int ps),.val (.int 0),b],some ⟨cs,ps+1,lf,tn,1⟩⟩ =
    some (.next,⟨[.val .feed,a,.no,.val (.int ps),.val (.int c),b],some ⟨cs,ps+1,lf,tn,1⟩⟩):=by
   by_cases hc:0<cs.length
   ·have hi:=N3 (a:=ps) (b:=(cs.length:Int)) (by omega)
    obtain⟨c,hg⟩:∃ c:Int,atI (cs.map D.int) (ps.fmod (cs.length:Int))=some (.int c):=by
     have:(ps.fmod (cs.length:Int)).toNat<cs.length:=by omega
     refine⟨cs[(ps.fmod (cs.length:Int)).toNat],?_⟩
     rw[a4B hi.1 (by rw[List.length_map];exact hi.2),List.getElem?_map,List.getElem?_eq_getElem this]
     rfl
    refine⟨c,fun a b=>?_⟩
    have hn:cs≠[]:=by intro z;rw[z] at hc;simp at hc
    simp[p9,j7,c9,dB,dOp,dCB,one,t6,a7,a8,dL,dC,n9,dTG,tg0,y8,pIx,hn,hc,hg]
   ·refine⟨0,fun a b=>?_⟩
    have hz:cs=[]:=List.eq_nil_of_length_eq_zero (by omega)
    subst hz
    simp[p9,u6,dB,dOp,dCB,one,t6,a7,a8,dL,dC,n9,dTG,tg0]
  obtain⟨c,hcell⟩:=cell
  have hc1:=N3 (a:=c) (b:=1000033) (by decide)
  have t0:dB (dOp (n9 (fun i j=>decide (j<i))) (dTG 0 2) (dC (.int 0))) ⟨[.val .feed,.val (.int many),.no,.no,.no,.no],some ⟨cs,ps,lf,tn,1⟩⟩=some (false,⟨[.val .feed,.val (.int many),.no,.no,.no,.no],some ⟨cs,ps,lf,tn,1⟩⟩):=C0 (c7 rfl rfl (show some (D.bl (decide (0<lf)))=_ by rw[decide_eq_false hl]))
  have pre:∀ rest:DM,e8 (p9 (dB (dOp (n9 (fun i j=>decide (j<i))) (dTG 0 2) (dC (.int 0)))) (e8 (j7 (dOp y8 (dTG 0 2) (dL 1)) (c9 2)) (e8 (dTP 0 2 (dOp A4 (dTG 0 2) (dL 1))) (l6 (dV 2)))) u6) (e8 (j7 (dTG 0 1) (c9 3)) (e8 (dTP 0 1 (dOp p7 (dL 3) (dC (.int 1)))) (e8 (j7 (dC (.int 0)) (c9 4)) (e8 (p9 (dB (dOp (n9 (fun i j=>decide (j<i))) (dCB (one t6) (a7 (dTG 0 0) a8)) (dC (.int 0)))) (j7 (dOp pIx (dTG 0 0) (dOp y8 (dL 3) (dCB (one t6) (a7 (dTG 0 0) a8)))) (c9 4)) u6) rest))))
    ⟨[.val .feed,.val (.int many),.no,.no,.no,.no],some ⟨cs,ps,lf,tn,1⟩⟩=rest ⟨[.val .feed,.val (.int many),.no,.val (.int ps),.val (.int c),.no],some ⟨cs,ps+1,lf,tn,1⟩⟩:=fun rest=>by
   rw[i6 (s1:=⟨[.val .feed,.val (.int many),.no,.no,.no,.no],some ⟨cs,ps,lf,tn,1⟩⟩) (E5 t0)]
   rw[i6 (s1:=⟨[.val .feed,.val (.int many),.no,.val (.int ps),.no,.no],some ⟨cs,ps,lf,tn,1⟩⟩) rfl]
   rw[i6 (s1:=⟨[.val .feed,.val (.int many),.no,.val (.int ps),.no,.no],some ⟨cs,ps+1,lf,tn,1⟩⟩) rfl]
   rw[i6 (s1:=⟨[.val .feed,.val (.int many),.no,.val (.int ps),.val (.int 0),.no],some ⟨cs,ps+1,lf,tn,1⟩⟩) rfl]
   rw[i6 (hcell _ _)]
  have test:A8 (dB (dOp (n9 (fun i j=>decide (j≤i))) (dL 4) (dOp W8 (dC (.int 10)) (dC (.int 18))))) (dB (dOp (n9 (fun i j=>decide (i<j))) (dL 3) (dCB (one t6) (a7 (dTG 0 0) a8)))) ⟨[.val .feed,.val (.int many),.no,.val (.int ps),.val (.int c),.no],some ⟨cs,ps+1,lf,tn,1⟩⟩ =
    some (decide (1000000000000000000≤c)&&decide (ps<(cs.length:Int)),⟨[.val .feed,.val (.int many),.no,.val (.int ps),.val (.int c),.no],some ⟨cs,ps+1,lf,tn,1⟩⟩):=by
   have p18:W8 (.int 10) (.int 18)=some (.int 1000000000000000000):=by simp[W8]
   have t1:dB (dOp (n9 (fun i j=>decide (j≤i))) (dL 4) (dOp W8 (dC (.int 10)) (dC (.int 18)))) ⟨[.val .feed,.val (.int many),.no,.val (.int ps),.val (.int c),.no],some ⟨cs,ps+1,lf,tn,1⟩⟩=some (decide (1000000000000000000≤c),⟨[.val .feed,.val (.int many),.no,.val (.int ps),.val (.int c),.no],some ⟨cs,ps+1,lf,tn,1⟩⟩):=C0 (c7 rfl (c7 rfl rfl p18) rfl)
   have t2:dB (dOp (n9 (fun i j=>decide (i<j))) (dL 3) (dCB (one t6) (a7 (dTG 0 0) a8))) ⟨[.val .feed,.val (.int many),.no,.val (.int ps),.val (.int c),.no],some ⟨cs,ps+1,lf,tn,1⟩⟩=some (decide (ps<((cs.map D.int).length:Int)),⟨[.val .feed,.val (.int many),.no,.val (.int ps),.val (.int c),.no],some ⟨cs,ps+1,lf,tn,1⟩⟩):=C0 (c7 rfl (F3 (p:=t6) rfl rfl) rfl)
   rw[List.length_map] at t2
   cases h1:decide (1000000000000000000≤c) with
   |true=>
    rw[h1] at t1
    exact P8 t1 t2
   |false=>
    rw[h1] at t1
    exact X6 t1
  by_cases hb:(decide (1000000000000000000≤c)&&decide (ps<(cs.length:Int)))=true
  ·refine⟨c.fmod many,⟨cs,ps+1,c.fdiv many,tn,1⟩,m8 (s:=⟨[.val .feed,.val (.int many),.no,.val (.int ps),.val (.int c),.no],some ⟨cs,ps+1,c.fdiv many,tn,1⟩⟩) ?_,(N3 hm).1,(N3 hm).2,by simp;omega,by simp,rfl⟩
   show W5 ⟨[.val .feed,.val (.int many),.no,.no,.no,.no],some ⟨cs,ps,lf,tn,1⟩⟩=_
   unfold W5
   rw[pre]
   rw[hb] at test
   refine T3 ?_
   rw[L8 test]
   rw[i6 (s1:=⟨[.val .feed,.val (.int many),.no,.val (.int ps),.val (.int c),.no],some ⟨cs,ps+1,c.fdiv many,tn,1⟩⟩) (a71 (c7 (s1:=⟨[.val .feed,.val (.int many),.no,.val (.int ps),.val (.int c),.no],some ⟨cs,ps+1,lf,tn,1⟩⟩) rfl rfl (a2N dm)) rfl)]
   exact o8 (c7 rfl rfl (R5 hne))
  ·have hb':(decide (1000000000000000000≤c)&&decide (ps<(cs.length:Int)))=false:=by simpa using hb
   have q:∃ M:Int,j7 (dOp y8 (dOp l8 (dOp p7 (dOp p7 (dOp y8 (dL 4) (dC (.int 1000033))) (dOp l8 (dOp l8 (dC (.int 37)) (dL 3)) (dL 3))) (dC (.int 11))) (dC (.int 69621))) (dC (.int 999983))) (c9 5)
     ⟨[.val .feed,.val (.int many),.no,.val (.int ps),.val (.int c),.no],some ⟨cs,ps+1,lf,tn,1⟩⟩=some (.next,⟨[.val .feed,.val (.int many),.no,.val (.int ps),.val (.int c),.val (.int M)],some ⟨cs,ps+1,lf,tn,1⟩⟩)∧0≤M∧M<999983:=by
    have b1:v6 37=true:=by decide
    have b2:v6 ps=true:=Z4 (by omega)
    have b3:v6 (37*ps)=true:=Z4 (by omega)
    have p2:0≤37*ps*ps:=Int.mul_nonneg (by omega) (by omega)
    have p3:37*ps*ps≤37*2 ^ 40*2 ^ 40:=Int.mul_le_mul (by omega) (by omega) (by omega) (by decide)
    have b4:v6 (c.fmod 1000033+37*ps*ps+11)=true:=Z4 (by omega)
    have b5:v6 69621=true:=by decide
    refine⟨((c.fmod 1000033+37*ps*ps+11)*69621).fmod 999983,?_,N3 (by decide)⟩
    exact l5 (c7 (c7 (c7 (c7 (c7 rfl rfl (R5 (by decide))) (c7 (c7 rfl rfl (r8 b1 b2)) rfl (r8 b3 b2)) rfl) rfl rfl) rfl (r8 b4 b5)) rfl (R5 (by decide))) rfl
   obtain⟨M,e1,m1,m2⟩:=q
   have b7:v6 M=true:=Z4 (by omega)
   have b8:v6 48271=true:=by decide
   have b9:v6 6007=true:=by decide
   have b10:v6 ps=true:=Z4 (by omega)
   have r1:=N3 (a:=M*48271+ps*6007) (b:=999979) (by decide)
   have b11:v6 ((M*48271+ps*6007).fmod 999979)=true:=Z4 (by omega)
   have b12:v6 40692=true:=by decide
   have d64:C1 64=true:=by decide
   refine⟨((((M*48271+ps*6007).fmod 999979*40692).fmod 1048573).fdiv 64).fmod many,⟨cs,ps+1,lf,tn,1⟩,m8 (s:=⟨[.val .feed,.val (.int many),.no,.val (.int ps),.val (.int c),.val (.int M)],some ⟨cs,ps+1,lf,tn,1⟩⟩) ?_,(N3 hm).1,(N3 hm).2,by simp;omega,by simp,rfl⟩
   show W5 ⟨[.val .feed,.val (.int many),.no,.no,.no,.no],some ⟨cs,ps,lf,tn,1⟩⟩=_
   unfold W5
   rw[pre]
   rw[hb'] at test
   rw[i6 (by rw[a41 test];rfl)]
   rw[i6 e1]
   exact o8 (c7 (c7 (c7 (c7 (c7 (c7 (c7 rfl rfl (r8 b7 b8)) (c7 rfl rfl (r8 b10 b9)) rfl) rfl (R5 (by decide))) rfl (r8 b11 b12)) rfl (R5 (by decide))) rfl (a2N d64)) rfl (R5 hne))
def Fd3 (n:Nat) (f:FS):Prop:=0≤f.pos∧f.pos≤n∧f.kind=1
theorem Fd3.mono {n m:Nat}{f:FS}(h:Fd3 n f) (hm:n≤m):Fd3 m f:=⟨h.1,by have:=h.2.1;omega,h.2.2⟩
theorem F8 {n:Nat}{f:FS}(many:Int) (h:Fd3 n f) (hm:0<many:=by omega) (hn:n<2 ^ 30:=by omega) (hm2:many<2 ^ 100:=by omega) :
  ∃ r f',LDw [.feed,.int many] (some f)=some (.int r,some f')∧0≤r∧r<many∧Fd3 (n+1) f':=by
 obtain⟨r,f',e,h0,h1,h2,h3,h4⟩:=b1S f many hm hm2 h.1 (by have:=h.2.1;omega) h.2.2
 exact⟨r,f',e,h0,h1,by have:=h.1;omega,by have:=h.2.1;omega,h4⟩
theorem b2c (ns:List Int):W9 [.scr ns] none=some (.feed,some ⟨ns,0,0,0,1⟩):=by
 refine m8 (s:=⟨[.val (.scr ns)],some ⟨ns,0,0,0,1⟩⟩) ?_
 show a2O ⟨[.val (.scr ns)],none⟩=_
 simp[a2O,l6,dTN]
theorem Fd3.zero (ns:List Int):Fd3 0 ⟨ns,0,0,0,1⟩:=⟨by simp,by simp,rfl⟩
abbrev wgT:DT:=dB (dOp (n9 (fun i j=>decide (j<i))) (dL 1) (dC (.int 0)))
abbrev wgB:DM:=D9 0 1 (a7 (dV 1) (a7 (dOp y8 (dL 0) (dL 1)) a8))
theorem b2A (fs:Option FS) (r:Nat):∀ (g:Nat),C5 wgT wgB ⟨[.val (.int g),.val (.int r)],fs⟩=some (.next,⟨[.val (.int (Nat.gcd g r)),.val (.int 0)],fs⟩):=by
 induction r using Nat.strongRecOn with
 |ind r ih=>
  intro g
  by_cases h:r=0
  ·subst h
   rw[Nat.gcd_zero_right]
   exact Q3 (by simp[e8,F9,j7,dOp,dUn,dC,dL,dV,c9,p9,dB,l6,e7,a7,a8,j6,u6,dCB,one,u8,u9,dIf,A8,dOr,B1,K7,L0,L3,pIx,p7,B2,v7,n9,t6,t9,l7,u4,D9,dTr,J7])
  ·have e:((g:Int).fmod (r:Int))=((g % r:Nat):Int):=by rw[Int.fmod_eq_emod_of_nonneg _ (by omega)];rfl
   have hy:=ih (g % r) (Nat.mod_lt _ (by omega)) r
   have hg:Nat.gcd g r=Nat.gcd r (g % r):=by rw[Nat.gcd_comm g r,Nat.gcd_rec,Nat.gcd_comm]
   rw[hg]
   refine R7 (s1:=⟨[.val (.int g),.val (.int r)],fs⟩) (s2:=⟨[.val (.int r),.val (.int ((g % r:Nat):Int))],fs⟩) (by simp[e8,F9,j7,dOp,dUn,dC,dL,dV,c9,p9,dB,l6,e7,a7,a8,j6,u6,dCB,one,u8,u9,dIf,A8,dOr,B1,K7,L0,L3,pIx,p7,B2,v7,n9,t6,t9,l7,u4,D9,dTr,J7];omega) ?_ hy
   rw[←e]
   simp[D9,a7,a8,dV,dOp,dL,y8,h]
abbrev LGd:DFn:=v4
theorem a2X (a b:Int) (fs:Option FS):LGd [.int a,.int b] fs=some (.int (Int.gcd a b),fs):=by
 have hy:=b2A fs b.natAbs a.natAbs
 refine m8 (s:=⟨[.val (.int (Nat.gcd a.natAbs b.natAbs)),.val (.int 0)],fs⟩) ?_
 show a4d ⟨[.val (.int a),.val (.int b)],fs⟩=_
 unfold a4d
 rw[i6 (s1:=⟨[.val (.int a.natAbs),.val (.int b.natAbs)],fs⟩) (by simp[e8,F9,j7,dOp,dUn,dC,dL,dV,c9,p9,dB,l6,e7,a7,a8,j6,u6,dCB,one,u8,u9,dIf,A8,dOr,B1,K7,L0,L3,pIx,p7,B2,v7,n9,t6,t9,l7,u4,D9,dTr,J7,U5,a2Y])]
 rw[i6 hy]
 refine o8 ?_
 simp[dV,Int.gcd]
abbrev LLw:DFn:=v8 LGd
theorem Z0 {k:Nat}(a b:Int) (fs:Option FS) (hb:b≠0) (h:Bd k b) (hk:k≤8000):LLw [.int a,.int b] fs=some (fr (Rat.divInt a b),fs):=by
 obtain⟨p0,p1,p2⟩:=a6N a b hb
 have dg:=a5g (a:=a) hb h hk
 have e:=a2X a b fs
 refine m8 (s:=⟨[.val (.int a),.val (.int b),.val (.int (if b<0 then -(Int.gcd a b:Int) else (Int.gcd a b:Int)))],fs⟩) ?_
 show a4f LGd ⟨[.val (.int a),.val (.int b),.no],fs⟩=_
 unfold a4f
 rw[i6 (s1:=⟨[.val (.int a),.val (.int b),.val (.int (Int.gcd a b))],fs⟩) (by simp[e8,F9,j7,dOp,dUn,dC,dL,dV,c9,p9,dB,l6,e7,a7,a8,j6,u6,dCB,one,u8,u9,dIf,A8,dOr,B1,K7,L0,L3,pIx,p7,B2,v7,n9,t6,t9,l7,u4,D9,dTr,J7,e])]
 rw[i6 (s1:=⟨[.val (.int a),.val (.int b),.val (.int (if b<0 then -(Int.gcd a b:Int) else (Int.gcd a b:Int)))],fs⟩) (by
  by_cases nb:b<0
  ·simp[e8,F9,j7,dOp,dUn,dC,dL,dV,c9,p9,dB,l6,e7,a7,a8,j6,u6,dCB,one,u8,u9,dIf,A8,dOr,B1,K7,L0,L3,pIx,p7,B2,v7,n9,t6,t9,l7,u4,D9,dTr,J7,nb]
  ·simp[e8,F9,j7,dOp,dUn,dC,dL,dV,c9,p9,dB,l6,e7,a7,a8,j6,u6,dCB,one,u8,u9,dIf,A8,dOr,B1,K7,L0,L3,pIx,p7,B2,v7,n9,t6,t9,l7,u4,D9,dTr,J7,nb])]
 generalize hg:(if b<0 then -(Int.gcd a b:Int) else (Int.gcd a b:Int))=gg at *
 refine o8 ?_
 unfold fr
 rw[←p1,←p2]
 simp[e8,F9,j7,dOp,dUn,dC,dL,dV,c9,p9,dB,l6,e7,a7,a8,j6,u6,dCB,one,u8,u9,dIf,A8,dOr,B1,K7,L0,L3,pIx,p7,B2,v7,n9,t6,t9,l7,u4,D9,dTr,J7,A4,dg,sz2]
abbrev WPl:DFn:=G2 LLw
abbrev WMi:DFn:=N0 LLw
abbrev WPr:DFn:=M2 LLw
abbrev WXy:DFn:=a0y LLw
abbrev WSp:DFn:=a0n LGd
theorem G3 {k l:Nat}(p q:Rat) (fs:Option FS) (h1:Sz k p) (h2:Sz l q) (hk:k+l≤8000):WPl [fr p,fr q] fs=some (fr (p+q),fs):=by
 have b1:=h1.num.bits (by omega)
 have b2:=h1.den.bits (by omega)
 have b3:=h2.num.bits (by omega)
 have b4:=h2.den.bits (by omega)
 have e:=Z0 (p.num*q.den+q.num*p.den) (p.den*q.den) fs (a1g p q) (Bd.mul h1.den h2.den) hk
 rw[←a7z] at e
 refine m8 (s:=⟨[.val (fr p),.val (fr q)],fs⟩) ?_
 exact o8 (j9 (i5 (c7 (c7 (c7 rfl rfl (D3 p)) (c7 rfl rfl (C2 q)) (r8 b1 b4)) (c7 (c7 rfl rfl (D3 q)) (c7 rfl rfl (C2 p)) (r8 b3 b2)) rfl) (i5 (c7 (c7 rfl rfl (C2 p)) (c7 rfl rfl (C2 q)) (r8 b2 b4)) rfl)) e)
theorem b1X (p q:Rat):p - q=Rat.divInt (p.num*q.den - q.num*p.den) (p.den*q.den):=by
 have e:p - q=p + -q:=Rat.sub_eq_add_neg p q
 rw[e,a7z,Rat.neg_num,Rat.neg_den,Int.neg_mul,Int.sub_eq_add_neg]
theorem J8 {k l:Nat}(p q:Rat) (fs:Option FS) (h1:Sz k p) (h2:Sz l q) (hk:k+l≤8000):WMi [fr p,fr q] fs=some (fr (p - q),fs):=by
 have b1:=h1.num.bits (by omega)
 have b2:=h1.den.bits (by omega)
 have b3:=h2.num.bits (by omega)
 have b4:=h2.den.bits (by omega)
 have e:=Z0 (p.num*q.den - q.num*p.den) (p.den*q.den) fs (a1g p q) (Bd.mul h1.den h2.den) hk
 rw[←b1X] at e
 refine m8 (s:=⟨[.val (fr p),.val (fr q)],fs⟩) ?_
 exact o8 (j9 (i5 (c7 (c7 (c7 rfl rfl (D3 p)) (c7 rfl rfl (C2 q)) (r8 b1 b4)) (c7 (c7 rfl rfl (D3 q)) (c7 rfl rfl (C2 p)) (r8 b3 b2)) rfl) (i5 (c7 (c7 rfl rfl (C2 p)) (c7 rfl rfl (C2 q)) (r8 b2 b4)) rfl)) e)
theorem P2 {k l:Nat}(a b c d:Int) (fs:Option FS) (hb:b≠0) (hd:d≠0) (h1:Bd k a) (h2:Bd k b) (h3:Bd l c) (h4:Bd l d) (hk:k+l≤8000):WPr [.tup [.int a,.int b],.tup [.int c,.int d]] fs=some (fr (Rat.divInt (a*c) (b*d)),fs):=by
 have b1:=h1.bits (by omega)
 have b2:=h2.bits (by omega)
 have b3:=h3.bits (by omega)
 have b4:=h4.bits (by omega)
 have e:=Z0 (a*c) (b*d) fs (Int.mul_ne_zero hb hd) (Bd.mul h2 h4) hk
 refine m8 (s:=⟨[.val (.tup [.int a,.int b]),.val (.tup [.int c,.int d])],fs⟩) ?_
 exact o8 (j9 (i5 (c7 (c7 rfl rfl rfl) (c7 rfl rfl rfl) (r8 b1 b3)) (i5 (c7 (c7 rfl rfl rfl) (c7 rfl rfl rfl) (r8 b2 b4)) rfl)) e)
theorem Z9 {k l:Nat}(p q:Rat) (fs:Option FS) (h1:Sz k p) (h2:Sz l q) (hk:k+l≤8000):WPr [fr p,fr q] fs=some (fr (p*q),fs):=by
 have e:=P2 p.num p.den q.num q.den fs (E1 p) (E1 q) h1.num h1.den h2.num h2.den hk
 rw[←a3p] at e
 exact e
theorem wxy {k:Nat}(a:Pt) (fs:Option FS) (h:Ps k a) (hk:k≤8000):WXy [pt a] fs=some (.tup [fr a.1,fr a.2],fs):=by
 have e1:=Z0 (pX a) (pL a) fs (S4 a) h.l hk
 have e2:=Z0 (pY a) (pL a) fs (S4 a) h.l hk
 rw[px_div] at e1
 rw[py_div] at e2
 refine m8 (s:=⟨[.val (pt a)],fs⟩) ?_
 exact o8 (w9 (j9 (i5 (c7 rfl rfl (Y0 a)) (i5 (c7 rfl rfl (Q1 a)) rfl)) e1) (j9 (i5 (c7 rfl rfl (Y7 a)) (i5 (c7 rfl rfl (Q1 a)) rfl)) e2))
theorem a1E {k l:Nat}(p q:Rat) (fs:Option FS) (h1:Sz k p) (h2:Sz l q) (hk:k+l≤8000):WSp [fr p,fr q] fs=some (pt (p,q),fs):=by
 have b1:=h1.num.bits (by omega)
 have b2:=h1.den.bits (by omega)
 have b3:=h2.num.bits (by omega)
 have b4:=h2.den.bits (by omega)
 have hd:=a1g p q
 have hp:¬ (p.den:Int)*q.den<0:=by have:=Int.mul_pos (X2 p) (X2 q);omega
 obtain⟨g0,p1,p2,p3⟩:=a7K (p.num*q.den) (q.num*p.den) (p.den*q.den) hd
 have dg:=a5E (x:=p.num*q.den) (y:=q.num*p.den) hd (Bd.mul h1.den h2.den) hk
 rw[if_neg hp] at g0 p1 p2 p3 dg
 rw[b2d,b15] at p1 p2 p3
 have w1:=a2X (p.num*q.den) (q.num*p.den) fs
 have w2:=a2X (Int.gcd (p.num*q.den) (q.num*p.den):Int) (p.den*q.den) fs
 generalize (Int.gcd (Int.gcd (p.num*q.den) (q.num*p.den):Int) (p.den*q.den):Int)=gg at *
 refine m8 (s:=⟨[.val (fr p),.val (fr q),.val (.tup [.int (p.num*q.den),.int (q.num*p.den),.int (p.den*q.den)]),.val (.int gg)],fs⟩) ?_
 show a4a LGd ⟨[.val (fr p),.val (fr q),.no,.no],fs⟩=_
 unfold a4a
 rw[i6 (s1:=⟨[.val (fr p),.val (fr q),.val (.tup [.int (p.num*q.den),.int (q.num*p.den),.int (p.den*q.den)]),.no],fs⟩) (l5 (a7g (c7 (c7 rfl rfl (D3 p)) (c7 rfl rfl (C2 q)) (r8 b1 b4)) (c7 (c7 rfl rfl (D3 q)) (c7 rfl rfl (C2 p)) (r8 b3 b2)) (c7 (c7 rfl rfl (C2 p)) (c7 rfl rfl (C2 q)) (r8 b2 b4))) rfl)]
 rw[i6 (s1:=⟨[.val (fr p),.val (fr q),.val (.tup [.int (p.num*q.den),.int (q.num*p.den),.int (p.den*q.den)]),.val (.int gg)],fs⟩) (l5 (j9 (i5 (j9 (i5 (c7 rfl rfl rfl) (i5 (c7 rfl rfl rfl) rfl)) w1) (i5 (c7 rfl rfl rfl) rfl)) w2) rfl)]
 refine o8 ?_
 unfold pt
 rw[←p1,←p2,←p3]
 exact F3 (p:=G8) (C9 (a08 (idx:=[3]) (ds:=[.int (p.num*q.den),.int (q.num*p.den),.int (p.den*q.den)]) (s1:=⟨[.val (fr p),.val (fr q),.val (.tup [.int (p.num*q.den),.int (q.num*p.den),.int (p.den*q.den)]),.val (.int gg)],fs⟩) rfl sz3 (a2y dg fs [p.num*q.den,q.num*p.den,p.den*q.den]))) rfl
abbrev WSq:DFn:=a1Z WPl WPr WMi WXy
theorem a6X (a b:Pt):(b.1 - a.1)*(b.1 - a.1)+(b.2 - a.2)*(b.2 - a.2)=dsq a b:=by unfold dsq;grind
theorem b3g (a b:Pt) (fs:Option FS) (ha:PtS 200 a) (hb:PtS 200 b):WSq [pt a,pt b] fs=some (fr (dsq a b),fs):=by
 have xa:=wxy a fs (Ps.of ha.1 ha.2) (by decide)
 have xb:=wxy b fs (Ps.of hb.1 hb.2) (by decide)
 have m1:=J8 b.1 a.1 fs hb.1 ha.1 (by decide)
 have m2:=J8 b.2 a.2 fs hb.2 ha.2 (by decide)
 have z1:=hb.1.sub ha.1
 have z2:=hb.2.sub ha.2
 have p1:=Z9 _ _ fs z1 z1 (by decide)
 have p2:=Z9 _ _ fs z2 z2 (by decide)
 have s3:=G3 _ _ fs (z1.mul z1) (z2.mul z2) (by decide)
 rw[a6X] at s3
 refine m8 (s:=⟨[.val (pt a),.val (pt b),.val (fr a.1),.val (fr a.2),.val (fr b.1),.val (fr b.2),.val (fr (b.1 - a.1)),.val (fr (b.2 - a.2))],fs⟩) ?_
 show a0D WPl WPr WMi WXy ⟨[.val (pt a),.val (pt b),.no,.no,.no,.no,.no,.no],fs⟩=_
 unfold a0D
 rw[i6 (s1:=⟨[.val (pt a),.val (pt b),.val (fr a.1),.val (fr a.2),.val (fr b.1),.val (fr b.2),.no,.no],fs⟩) (l5 (w9 (j9 (i5 rfl rfl) xa) (j9 (i5 rfl rfl) xb)) rfl)]
 rw[i6 (s1:=⟨[.val (pt a),.val (pt b),.val (fr a.1),.val (fr a.2),.val (fr b.1),.val (fr b.2),.val (fr (b.1 - a.1)),.val (fr (b.2 - a.2))],fs⟩) (by simp[D9,e7,a7,a8,dV,m1,m2])]
 exact o8 (j9 (i5 (j9 (i5 rfl (i5 rfl rfl)) p1) (i5 (j9 (i5 rfl (i5 rfl rfl)) p2) rfl)) s3)
theorem Sm.bits4 {M g:Int}(hM:Sm M) (h0:0≤g) (h:g≤4*M):v6 g=true:=by
 refine Bd.bits (k:=4004) ?_ (by decide)
 unfold Bd
 have e:(2:Nat) ^ 4004=16*2 ^ 4000:=by rw[show (4004:Nat)=4000+4 from rfl,Nat.pow_add];omega
 have h2:M≤((2 ^ 4000:Nat):Int):=by have:=hM.2;rw[Int.natCast_pow];exact this
 have p:0<(2:Nat) ^ 4000:=Nat.pow_pos (by decide)
 rw[e]
 omega
theorem a8t (j:Nat):(2:Int) ^ (j+1)=2 ^ j*2:=Int.pow_succ ..
theorem a1W (j:Nat):(1:Int)≤2 ^ j:=by have:(0:Int)<2 ^ j:=Int.pow_pos (by decide);omega
abbrev rtS (n r s:Int) (fs:Option FS):DS:=⟨[.val (.int n),.val (.int r),.val (.int s)],fs⟩
abbrev b4T:DT:=dB (dOp (n9 (fun i j=>decide (i≤j))) (dOp l8 (dL 2) (dL 2)) (dL 0))
abbrev a15:DT:=dB (dOp (n9 (fun i j=>decide (j<i))) (dL 2) (dC (.int 0)))
theorem b3y {M:Int}(hM:Sm M) (n:Int) (hn:n<M*M) (fs:Option FS) (k:Nat):∀ j:Nat,(2*M - 2 ^ j).toNat=k→(2:Int) ^ j≤2*M →
  ∃ j':Nat,C5 b4T a7l (rtS n 0 (2 ^ j) fs)=some (.next,rtS n 0 (2 ^ j') fs)∧(2:Int) ^ j'≤2*M∧n<2 ^ j'*2 ^ j':=by
 induction k using Nat.strongRecOn with
 |ind k ih=>
  intro j hk h2
  have h1:=a1W j
  have up:=a8t j
  have bh:v6 (2 ^ j)=true:=hM.bits (by omega) h2
  by_cases c:(2:Int) ^ j*2 ^ j≤n
  ·have hs:=a1r hM c hn (by omega)
   obtain⟨j',e,r⟩:=ih (2*M - 2 ^ (j+1)).toNat (by omega) (j+1) rfl (by omega)
   have b2:v6 2=true:=by decide
   rw[up] at e
   generalize (2:Int) ^ j=h at *
   exact⟨j',R7 (s1:=rtS n 0 h fs) (s2:=rtS n 0 (h*2) fs) (by simp[dB,dOp,dL,n9,l8,bh,c]) (by simp[j7,dOp,dL,dC,c9,l8,bh,b2]) e,r⟩
  ·refine⟨j,?_,h2,by omega⟩
   generalize (2:Int) ^ j=h at *
   exact Q3 (by simp[dB,dOp,dL,n9,l8,bh,c])
theorem b4K {M:Int}(hM:Sm M) (n:Int) (hn:n<M*M) (fs:Option FS):∀ (j:Nat) (r:Int),0≤r→(2:Int) ^ j≤2*M→r*r≤n→n<(r+2 ^ j*2)*(r+2 ^ j*2) →
  ∃ r',C5 a15 a1F (rtS n r (2 ^ j) fs)=some (.next,rtS n r' 0 fs)∧IsR r' n:=by
 have one:∀ (r s t:Int),0≤r→1≤s→s≤2*M→r*r≤n→n<(r+s*2)*(r+s*2)→s.fdiv 2=t →
   ∃ r',0≤r'∧r'*r'≤n∧n<(r'+s)*(r'+s)∧∀ e,C5 a15 a1F (rtS n r' t fs)=some e→C5 a15 a1F (rtS n r s fs)=some e:=by
  intro r s t h0 h1 h2 h3 h4 ht
  have hr:=a1r hM h3 hn h0
  have bb:v6 (r+s)=true:=hM.bits4 (by omega) (by omega)
  have d2:C1 2=true:=by decide
  have s0:0<s:=by omega
  have tt:a15 (rtS n r s fs)=some (true,rtS n r s fs):=C0 (c7 rfl rfl (show some (D.bl (decide (0<s)))=_ by rw[decide_eq_true s0]))
  have ts:dB (dOp (n9 (fun i j=>decide (i≤j))) (dOp l8 (dOp p7 (dL 1) (dL 2)) (dOp p7 (dL 1) (dL 2))) (dL 0)) (rtS n r s fs)=some (decide ((r+s)*(r+s)≤n),rtS n r s fs):=C0 (c7 (c7 (c7 rfl rfl rfl) (c7 rfl rfl rfl) (r8 bb bb)) rfl rfl)
  have dv:∀ r,j7 (dOp A4 (dL 2) (dC (.int 2))) (c9 2) (rtS n r s fs)=some (.next,rtS n r t fs):=fun r=>l5 (c7 rfl rfl (show (if C1 2 then some (D.int (s.fdiv 2)) else none)=some (.int t) by rw[if_pos d2,ht])) rfl
  by_cases c:(r+s)*(r+s)≤n
  ·refine⟨r+s,by omega,c,by rw[show r+s+s=r+s*2 by omega];exact h4,fun e he=>R7 tt ?_ he⟩
   rw[decide_eq_true c] at ts
   exact(i6 (s1:=rtS n (r+s) s fs) ((L8 ts).trans (l5 (c7 rfl rfl rfl) rfl))).trans (dv _)
  ·refine⟨r,h0,h3,by omega,fun e he=>R7 tt ?_ he⟩
   rw[decide_eq_false c] at ts
   exact(i6 (s1:=rtS n r s fs) (E5 ts)).trans (dv _)
 intro j
 induction j with
 |zero=>
  intro r h0 h2 h3 h4
  obtain⟨r',a,b,c,d⟩:=one r 1 0 h0 (by decide) h2 h3 h4 (by decide)
  exact⟨r',d _ (Q3 (by simp[dB,dOp,dL,dC,n9])),a,b,c⟩
 |succ j ih=>
  intro r h0 h2 h3 h4
  have h1:=a1W (j+1)
  have up:=a8t j
  have hd:((2:Int) ^ (j+1)).fdiv 2=2 ^ j:=by rw[up];exact Int.mul_fdiv_cancel _ (by decide)
  obtain⟨r',a,b,c,d⟩:=one r (2 ^ (j+1)) (2 ^ j) h0 h1 h2 h3 h4 hd
  obtain⟨r2,e,q⟩:=ih r' a (by have:=a1W j;omega) b (by rw[←up];exact c)
  exact⟨r2,d _ e,q⟩
theorem a1S {n:Int}(h0:0≤n) (hn:n<(2:Int) ^ 1000*2 ^ 1000) (fs:Option FS):W0 [.int n] fs=some (.int (isq n),fs):=by
 obtain⟨j,e1,h2,h3⟩:=b3y a3s n hn fs _ 0 rfl (by decide +kernel)
 have p:=a1W j
 obtain⟨r,e2,hr⟩:=b4K a3s n hn fs j 0 (by decide) h2 (by omega) (by
  have:(2:Int) ^ j*2 ^ j≤(0+2 ^ j*2)*(0+2 ^ j*2):=a0x (by omega) (by omega)
  omega)
 have e3:=a4L hr (a1t h0)
 subst e3
 refine m8 (s:=rtS n (isq n) 0 fs) ?_
 show a2F ⟨[.val (.int n),.no,.no],fs⟩=_
 unfold a2F
 rw[i6 (s1:=⟨[.val (.int n),.val (.int 0),.no],fs⟩) (l5 rfl rfl),i6 (s1:=rtS n 0 (2 ^ 0) fs) (l5 rfl rfl),i6 e1,i6 e2]
 exact o8 rfl
abbrev WSz:DFn:=a1B W0 WSq
theorem a8o (r:Rat):(r*r).num=r.num*r.num∧((r*r).den:Int)=r.den*r.den:=by
 have hd:(0:Int)<r.den*r.den:=Int.mul_pos (X2 r) (X2 r)
 have g:Int.gcd (r.num*r.num) ((r.den:Int)*r.den)=1:=by
  have hc:Nat.Coprime r.num.natAbs r.den:=r.reduced
  show Nat.gcd (r.num*r.num).natAbs ((r.den:Int)*r.den).natAbs=1
  rw[Int.natAbs_mul,Int.natAbs_mul,Int.natAbs_natCast]
  exact Nat.Coprime.mul_left (Nat.Coprime.mul_right hc hc) (Nat.Coprime.mul_right hc hc)
 rw[a3p,b1d hd,b4O hd,g]
 simp
theorem a8I {s:Int}(h:0≤s):isq (s*s)=s:=a4L (a1t (Int.mul_nonneg h h)) ⟨h,Int.le_refl _,by
 have e:(s+1)*(s+1)=s*s+2*s+1:=by grind
 omega⟩
theorem a3I {r:Rat}(h:0≤r):isq (r*r).num=r.num∧isq (r*r).den=r.den:=by
 obtain⟨h1,h2⟩:=a8o r
 rw[h1,h2]
 exact⟨a8I (a0G h),a8I (by omega)⟩
theorem b5H {r:Rat}(h:0≤r):rtD (r*r)=fr r:=by
 obtain⟨h1,h2⟩:=a8o r
 obtain⟨h3,h4⟩:=a3I h
 unfold rtD Y8
 rw[h3,h4,h1,h2,if_pos ⟨rfl,rfl⟩]
 rfl
theorem b18 (a b:Pt) (r:Rat) (fs:Option FS) (ha:PtS 200 a) (hb:PtS 200 b) (h0:0≤r) (h:dsq a b=r*r):WSz [pt a,pt b] fs=some (fr r,fs):=by
 have e:=b3g a b fs ha hb
 have qs:Sz 2000 (dsq a b):=(a8k ha hb).mono (by decide)
 obtain⟨n1,n2⟩:=a1y qs
 have r1:=a1S (a0G (a31 a b)) n1 fs
 have r2:=a1S (show (0:Int)≤(dsq a b).den by omega) n2 fs
 obtain⟨h3,h4⟩:=a3I h0
 rw[h] at r1 r2 e
 rw[h3] at r1
 rw[h4] at r2
 refine m8 (s:=⟨[.val (pt a),.val (pt b),.val (.int (r*r).num),.val (.int (r*r).den)],fs⟩) ?_
 show a0u W0 WSq ⟨[.val (pt a),.val (pt b),.no,.no],fs⟩=_
 unfold a0u
 rw[i6 (s1:=⟨[.val (pt a),.val (pt b),.val (.int (r*r).num),.val (.int (r*r).den)],fs⟩) (l5 (j9 rfl e) rfl)]
 exact o8 (w9 (j9 rfl r1) (j9 rfl r2))
def Gr (B:Nat) (x:Rat):Prop:=∃ n:Int,n.natAbs≤B∧x=Rat.divInt n 6630
theorem Gr.mono {B C:Nat}{x:Rat}(h:Gr B x) (hc:B≤C):Gr C x:=by
 obtain⟨n,a,e⟩:=h
 exact⟨n,Nat.le_trans a hc,e⟩
theorem Gr.add {B C:Nat}{x y:Rat}(h1:Gr B x) (h2:Gr C y):Gr (B+C) (x+y):=by
 obtain⟨n,a,rfl⟩:=h1
 obtain⟨m,b,rfl⟩:=h2
 refine⟨n+m,Nat.le_trans (Int.natAbs_add_le ..) (Nat.add_le_add a b),?_⟩
 rw[Rat.divInt_eq_div,Rat.divInt_eq_div,Rat.divInt_eq_div,Rat.intCast_add]
 grind
theorem Gr.sz {B:Nat}{x:Rat}(h:Gr B x) (hB:B<2 ^ 80):Sz 80 x:=by
 obtain⟨n,a,rfl⟩:=h
 exact Sz.of_divInt (by decide) (Nat.lt_of_le_of_lt a hB) (by decide)
theorem Gr.div {B:Nat}{a b:Int}(hb:0<b) (hd:(6630:Int) % b=0) (hB:a.natAbs*6630≤B):Gr B (Rat.divInt a b):=by
 obtain⟨c,hc⟩:=Int.dvd_of_emod_eq_zero hd
 have c0:0<c:=by
  rcases Int.lt_or_le 0 c with z | z
  ·exact z
  ·have:b*c≤b*0:=Int.mul_le_mul_of_nonneg_left z (by omega)
   omega
 have c1:c≤6630:=by
  have:1*c≤b*c:=Int.mul_le_mul_of_nonneg_right (by omega) (by omega)
  omega
 refine⟨a*c,?_,?_⟩
 ·rw[Int.natAbs_mul]
  exact Nat.le_trans (Nat.mul_le_mul_left _ (by omega)) hB
 ·rw[hc,Rat.divInt_mul_right (by omega)]
def Gf (B:Nat) (x:Rat):Prop:=∃ n:Int,n.natAbs≤B∧x=Rat.divInt n 351138060
theorem Gf.mono {B C:Nat}{x:Rat}(h:Gf B x) (hc:B≤C):Gf C x:=by
 obtain⟨n,a,e⟩:=h
 exact⟨n,Nat.le_trans a hc,e⟩
theorem Gf.add {B C:Nat}{x y:Rat}(h1:Gf B x) (h2:Gf C y):Gf (B+C) (x+y):=by
 obtain⟨n,a,rfl⟩:=h1
 obtain⟨m,b,rfl⟩:=h2
 refine⟨n+m,Nat.le_trans (Int.natAbs_add_le ..) (Nat.add_le_add a b),?_⟩
 rw[Rat.divInt_eq_div,Rat.divInt_eq_div,Rat.divInt_eq_div,Rat.intCast_add]
 grind
theorem Gf.sz {B:Nat}{x:Rat}(h:Gf B x) (hB:B<2 ^ 81):Sz 81 x:=by
 obtain⟨n,a,rfl⟩:=h
 exact Sz.of_divInt (by decide) (Nat.lt_of_le_of_lt a hB) (by decide)
theorem Gr.fine {B:Nat}{x:Rat}(h:Gr B x):Gf (B*52962) x:=by
 obtain⟨n,a,rfl⟩:=h
 refine⟨n*52962,?_,?_⟩
 ·rw[Int.natAbs_mul]
  exact Nat.mul_le_mul_right _ a
 ·rw[show (351138060:Int)=6630*52962 from rfl,Rat.divInt_mul_right (by decide)]
abbrev WSt:DFn:=a1o LDw
def stD:List D:=[.tup [.int 0,.int 1],.tup [.int 1,.int 1],.tup [.int (-1),.int 2],.tup [.int 5,.int 3],.tup [.int (-7),.int 1],.tup [.int 3,.int 2]]
def R6:List (Int × Int):=[(0,1),(1,1),(-1,2),(5,3),(-7,1),(3,2)]
theorem b0J:(R6.all fun z=>decide ((Rat.divInt z.1 z.2).num=z.1∧((Rat.divInt z.1 z.2).den:Int)=z.2∧0<z.2∧(6630:Int) % z.2=0∧z.1.natAbs*6630≤46410))=true:=by decide +kernel
theorem a5P {r:Int}(h0:0≤r) (h1:r<6):∃ p:Rat,atI stD r=some (fr p)∧Gr 46410 p:=by
 obtain⟨x,hx,e⟩:=Q8 (xs:=stD) h0 h1
 obtain⟨z,hz,rfl⟩:=List.mem_map.mp (show x∈R6.map (fun z=>D.tup [.int z.1,.int z.2]) from hx)
 obtain⟨q1,q2,q3,q4,q5⟩:=of_decide_eq_true (List.all_eq_true.mp b0J z hz)
 refine⟨Rat.divInt z.1 z.2,?_,Gr.div q3 q4 q5⟩
 unfold fr
 rw[q1,q2]
 exact e
theorem B6 {ds:List D}{i:Int}{d:D}(h:atI ds i=some d):pIx (.lst ds) (.int i)=some d:=(ixL ds i).trans h
theorem a8n {n:Nat}{f:FS}(h:Fd3 n f) (hn:n<2 ^ 29):∃ p q f',WSt [.feed] (some f)=some (.tup [fr p,fr q],some f')∧Gr 46410 p∧Gr 46410 q∧Fd3 (n+2) f':=by
 obtain⟨r1,f1,e1,a1,a2,h1⟩:=F8 6 h
 obtain⟨r2,f2,e2,b1,b2,h2⟩:=F8 6 h1
 obtain⟨p,q1,g1⟩:=a5P a1 a2
 obtain⟨q,q2,g2⟩:=a5P b1 b2
 refine⟨p,q,f2,m8 (s:=⟨[.val .feed,.own stD,.val (fr p)],some f2⟩) ?_,g1,g2,h2⟩
 show a2k LDw ⟨[.val .feed,.no,.no],some f⟩=_
 unfold a2k
 rw[i6 (s1:=⟨[.val .feed,.own stD,.no],some f⟩) (F1 (s1:=⟨[.val .feed,.no,.no],some f⟩) rfl (by decide:1<3))]
 rw[i6 (s1:=⟨[.val .feed,.own stD,.val (fr p)],some f1⟩) (l5 (c7 rfl (v5 rfl e1) (B6 q1)) rfl)]
 exact o8 (w9 rfl (c7 rfl (v5 rfl e2) (B6 q2)))
abbrev WMn:DFn:=a3t LDw
def wyD (w:Int × Int × Int):D:=.tup [.int w.1,.int w.2.1,.int w.2.2]
def szD (z:Int × Int):D:=.tup [.int z.1,.int z.2]
def ways0:List (Int × Int × Int):=[(1,0,1),(0,1,1),(-1,0,1),(0,-1,1)]
def a0h (a b h:Int):List (Int × Int × Int):=[(h,0,h),(0,h,h),(-h,0,h),(0,-h,h),(a,b,h),(-b,a,h),(-a,-b,h),(b,-a,h),(b,a,h),(-a,b,h),(-b,-a,h),(a,-b,h)]
def b1h (g:Int):List (Int × Int):=[(g*1,1),(g*2,1),(g*1,2),(g*40,1),(g*7,3)]
def b1M (g h:Int):List (Int × Int):=[(g*h,1),(g*1,1),(g*h,2),(g*2,1)]
def okZ (w:Int × Int × Int) (z:Int × Int):Bool:=decide (0<z.1∧0<z.2∧z.1≤40000000000000∧z.2≤3∧6630 % (z.2*w.2.2)=0)
def okY (Z:List (Int × Int)) (w:Int × Int × Int):Bool:=decide (w.1*w.1+w.2.1*w.2.1=w.2.2*w.2.2∧0<w.2.2∧w.2.2≤17∧w.1.natAbs≤17∧w.2.1.natAbs≤17)&&Z.all (okZ w)
def okT (W:List (Int × Int × Int)):Bool:=W.all fun a=>W.all fun b=>decide (a=b∨a.1*b.2.2≠b.1*a.2.2∨a.2.1*b.2.2≠b.2.1*a.2.2)
def a8P (W:List (Int × Int × Int)) (Z:List (Int × Int)):Bool:=W.all (okY Z)&&decide (W.length≤12∧1≤Z.length∧Z.length≤5)&&W.any fun a=>W.any fun b=>!decide (a=b)
def okW (W:List (Int × Int × Int)) (Z:List (Int × Int)):Bool:=a8P W Z&&okT W
theorem b24 {r:Int}(h0:0≤r) (h1:r<8):∃ g:Int,(g=1∨g=1000000000000)∧atI [D.int 1,.int 1,.int 1,.int 1,.int 1,.int 1,.int 1,.int 1000000000000] r=some (.int g):=by
 obtain⟨x,hx,e⟩:=Q8 (xs:=[D.int 1,.int 1,.int 1,.int 1,.int 1,.int 1,.int 1,.int 1000000000000]) h0 h1
 rcases List.mem_append.mp (show x∈List.replicate 7 (D.int 1)++[.int 1000000000000] from hx) with z | z
 ·rw[List.eq_of_mem_replicate z] at e
  exact⟨1,.inl rfl,e⟩
 ·rw[List.mem_singleton.mp z] at e
  exact⟨_,.inr rfl,e⟩
theorem b5c {g t:Int}(hg:g=1∨g=1000000000000) (ht:t.natAbs≤40):l8 (.int g) (.int t)=some (.int (g*t)):=by
 refine r8 ?_ (Bd.bits (k:=10) (show t.natAbs<2 ^ 10 by omega) (by decide))
 rcases hg with rfl | rfl <;> decide +kernel
abbrev szE:DE:=j6 (a7 (dOp l8 (dL 2) (dL 0)) (a7 (dV 1) a8))
theorem a3F {g:Int}(hg:g=1∨g=1000000000000) (sl:List Sl) (hs:D4 [1] sl=[.val (.int g)]) (fs:Option FS):∀ zs:List (Int × Int),(∀ z∈zs,z.1.natAbs≤40)→A0 (mk2 [1] sl) B7 szE (zs.map szD) fs=some ((zs.map fun z=>(g*z.1,z.2)).map szD,fs)
 |[],_=>rfl
 |z::r,h=>by
  have ih:=a3F hg sl hs fs r fun y hy=>h y (List.mem_cons_of_mem _ hy)
  have m:=b5c hg (h z (List.mem_cons_self ..))
  rw[List.map_cons,A0]
  have e:mk2 [1] sl (szD z)=some [.val (.int z.1),.val (.int z.2),.val (.int g)]:=by
   show some (.val (.int z.1) :: .val (.int z.2)::D4 [1] sl)=_
   rw[hs]
  rw[e,Option.bind_some]
  have y:B7 ⟨[.val (.int z.1),.val (.int z.2),.val (.int g)],fs⟩=some (true,⟨[.val (.int z.1),.val (.int z.2),.val (.int g)],fs⟩):=rfl
  have el:szE ⟨[.val (.int z.1),.val (.int z.2),.val (.int g)],fs⟩=some (szD (g*z.1,z.2),⟨[.val (.int z.1),.val (.int z.2),.val (.int g)],fs⟩):=w9 (c7 rfl rfl m) rfl
  rw[y,Option.bind_some,if_pos rfl,el,Option.bind_some,ih]
  rfl
theorem O0 {n:Nat}(h:n≤100):n≤sizeLine:=Nat.le_trans h (by decide)
def a7Q:List D:=[.tup [.int 3,.int 4,.int 5],.tup [.int 3,.int 4,.int 5],.tup [.int 5,.int 12,.int 13],.tup [.int 8,.int 15,.int 17]]
theorem a0Q {xs ys:List D}(h:xs.length+ys.length≤100):U7 (.lst xs) (.lst ys)=some (xs++ys):=if_pos (O0 h)
abbrev mnS (g c a b h:Int) (x7 x8 x9:Sl) (f:FS):DS:=⟨[.val .feed,.val (.int g),.val (.int c),.no,.val (.int a),.val (.int b),.val (.int h),x7,x8,x9],some f⟩
theorem a7x (g c a b h x y:Int) (xs:List D) (x8 x9:Sl) (f:FS) (hl:xs.length≤50) (r:List D):u7 (t9 2 (l7 (c9 8) (l7 (c9 9) u4))) (a5f LDw) (.tup [.int x,.int y]::r) (mnS g c a b h (.own xs) x8 x9 f) =
  u7 (t9 2 (l7 (c9 8) (l7 (c9 9) u4))) (a5f LDw) r (mnS g c a b h (.own (xs++[wyD (x,y,h),wyD (-y,x,h),wyD (-x,-y,h),wyD (y,-x,h)])) (.val (.int x)) (.val (.int y)) f):=
 K6 (s1:=mnS g c a b h (.own xs) (.val (.int x)) (.val (.int y)) f) (s2:=mnS g c a b h (.own (xs++[wyD (x,y,h),wyD (-y,x,h),wyD (-x,-y,h),wyD (y,-x,h)])) (.val (.int x)) (.val (.int y)) f) rfl
  (F1 (s1:=mnS g c a b h (.own xs) (.val (.int x)) (.val (.int y)) f) (a0m rfl (C9 (ds:=[wyD (x,y,h),wyD (-y,x,h),wyD (-x,-y,h),wyD (y,-x,h)]) (s1:=mnS g c a b h (.own xs) (.val (.int x)) (.val (.int y)) f) rfl) (a0Q (by show xs.length+4≤100;omega))) (by decide:7<10))
theorem a1v {g c a b h r1:Int}{f0 f1 f:FS}(e1:LDw [.feed,.int 8] (some f0)=some (.int r1,some f1)) (q1:atI [D.int 1,.int 1,.int 1,.int 1,.int 1,.int 1,.int 1,.int 1000000000000] r1=some (.int g)) (e2:LDw [.feed,.int 5] (some f1)=some (.int c,some f))
  (hg:g=1∨g=1000000000000) (hc:c≠0) (q:atI a7Q (c - 1)=some (.tup [.int a,.int b,.int h])) (hh:h.natAbs≤40):WMn [.feed] (some f0)=some (.tup [.lst ((a0h a b h).map wyD),.lst ((b1M g h).map szD)],some f):=by
 refine m8 (s:=mnS g c a b h (.val (.lst ((a0h a b h).map wyD))) (.val (.int b)) (.val (.int a)) f) ?_
 show a05 LDw ⟨[.val .feed,.no,.no,.no,.no,.no,.no,.no,.no,.no],some f0⟩=_
 unfold a05
 rw[i6 (s1:=⟨[.val .feed,.val (.int g),.no,.no,.no,.no,.no,.no,.no,.no],some f1⟩) (l5 (c7 (s1:=⟨[.val .feed,.no,.no,.no,.no,.no,.no,.no,.no,.no],some f0⟩) rfl (v5 rfl e1) (B6 q1)) rfl),
  i6 (s1:=⟨[.val .feed,.val (.int g),.val (.int c),.no,.no,.no,.no,.no,.no,.no],some f⟩) (l5 (v5 rfl e2) rfl),
  i6 (s1:=⟨[.val .feed,.val (.int g),.val (.int c),.no,.no,.no,.no,.no,.no,.no],some f⟩) (by simp[p9,dB,dOp,dL,dC,P7,hc,u6]),
  i6 (s1:=mnS g c a b h .no .no .no f) (l5 (c7 (x:=.lst a7Q) (s1:=⟨[.val .feed,.val (.int g),.val (.int c),.no,.no,.no,.no,.no,.no,.no],some f⟩) (C9 rfl) (c7 rfl rfl rfl) (B6 q)) rfl),
  i6 (s1:=mnS g c a b h (.own [wyD (h,0,h),wyD (0,h,h),wyD (-h,0,h),wyD (0,-h,h)]) .no .no f) (F1 (s1:=mnS g c a b h .no .no .no f) rfl (by decide:7<10)),
  i6 (s1:=mnS g c a b h (.own ((a0h a b h).map wyD)) (.val (.int b)) (.val (.int a)) f) (by
   rw[X5 (ds:=[.tup [.int a,.int b],.tup [.int b,.int a]]) (s1:=mnS g c a b h (.own [wyD (h,0,h),wyD (0,h,h),wyD (-h,0,h),wyD (0,-h,h)]) .no .no f) (C9 rfl)]
   rw[a7x g c a b h a b [wyD (h,0,h),wyD (0,h,h),wyD (-h,0,h),wyD (0,-h,h)] .no .no f (show 4≤50 by decide),
    a7x g c a b h b a ([wyD (h,0,h),wyD (0,h,h),wyD (-h,0,h),wyD (0,-h,h)]++[wyD (a,b,h),wyD (-b,a,h),wyD (-a,-b,h),wyD (b,-a,h)]) (.val (.int a)) (.val (.int b)) f (show 8≤50 by decide)]
   rfl)]
 refine o8 (w9 (s1:=mnS g c a b h (.val (.lst ((a0h a b h).map wyD))) (.val (.int b)) (.val (.int a)) f) rfl (C9 ?_))
 have c:=a3F hg (mnS g c a b h (.val (.lst ((a0h a b h).map wyD))) (.val (.int b)) (.val (.int a)) f).sl rfl (some f) [(h,1),(1,1),(h,2),(2,1)] (by
  intro z hz
  simp only[List.mem_cons,List.not_mem_nil,or_false] at hz
  rcases hz with rfl | rfl | rfl | rfl
  ·exact hh
  ·decide
  ·exact hh
  ·decide)
 exact Y9 (ds:=[(h,1),(1,1),(h,2),(2,1)].map szD) (s1:=mnS g _ a b h (.val (.lst ((a0h a b h).map wyD))) (.val (.int b)) (.val (.int a)) f) rfl (O0 (show 4≤100 by decide)) c
theorem b1I {g r1:Int}{f0 f1 f:FS}(e1:LDw [.feed,.int 8] (some f0)=some (.int r1,some f1)) (q1:atI [D.int 1,.int 1,.int 1,.int 1,.int 1,.int 1,.int 1,.int 1000000000000] r1=some (.int g)) (e2:LDw [.feed,.int 5] (some f1)=some (.int 0,some f))
  (hg:g=1∨g=1000000000000):WMn [.feed] (some f0)=some (.tup [.lst (ways0.map wyD),.lst ((b1h g).map szD)],some f):=by
 refine m8 (s:=⟨[.val .feed,.val (.int g),.val (.int 0),.val (.lst ([(1,1),(2,1),(1,2),(40,1),(7,3)].map szD)),.no,.no,.no,.no,.no,.no],some f⟩) ?_
 show a05 LDw ⟨[.val .feed,.no,.no,.no,.no,.no,.no,.no,.no,.no],some f0⟩=_
 unfold a05
 rw[i6 (s1:=⟨[.val .feed,.val (.int g),.no,.no,.no,.no,.no,.no,.no,.no],some f1⟩) (l5 (c7 (s1:=⟨[.val .feed,.no,.no,.no,.no,.no,.no,.no,.no,.no],some f0⟩) rfl (v5 rfl e1) (B6 q1)) rfl),
  i6 (s1:=⟨[.val .feed,.val (.int g),.val (.int 0),.no,.no,.no,.no,.no,.no,.no],some f⟩) (l5 (v5 rfl e2) rfl)]
 refine T3 ?_
 rw[L8 (s1:=⟨[.val .feed,.val (.int g),.val (.int 0),.no,.no,.no,.no,.no,.no,.no],some f⟩) (by simp[dB,dOp,dL,dC,P7])]
 rw[i6 (s1:=⟨[.val .feed,.val (.int g),.val (.int 0),.own ([(1,1),(2,1),(1,2),(40,1),(7,3)].map szD),.no,.no,.no,.no,.no,.no],some f⟩) (F1 (s1:=⟨[.val .feed,.val (.int g),.val (.int 0),.no,.no,.no,.no,.no,.no,.no],some f⟩) rfl (by decide:3<10))]
 refine o8 (w9 (s1:=⟨[.val .feed,.val (.int g),.val (.int 0),.own ([(1,1),(2,1),(1,2),(40,1),(7,3)].map szD),.no,.no,.no,.no,.no,.no],some f⟩) (C9 rfl) (C9 ?_))
 have c:=a3F hg [.val .feed,.val (.int g),.val (.int 0),.val (.lst ([(1,1),(2,1),(1,2),(40,1),(7,3)].map szD)),.no,.no,.no,.no,.no,.no] rfl (some f) [(1,1),(2,1),(1,2),(40,1),(7,3)] (by decide)
 exact Y9 (ds:=[(1,1),(2,1),(1,2),(40,1),(7,3)].map szD) (s1:=⟨[.val .feed,.val (.int g),.val (.int 0),.val (.lst ([(1,1),(2,1),(1,2),(40,1),(7,3)].map szD)),.no,.no,.no,.no,.no,.no],some f⟩) rfl (O0 (show 5≤100 by decide)) c
theorem b3l {n:Nat}{f:FS}(h:Fd3 n f) (hn:n<2 ^ 29):∃ W Z f',WMn [.feed] (some f)=some (.tup [.lst (W.map wyD),.lst (Z.map szD)],some f')∧okW W Z=true∧Fd3 (n+2) f':=by
 obtain⟨r1,f1,e1,a1,a2,h1⟩:=F8 8 h
 obtain⟨r2,f2,e2,b1,b2,h2⟩:=F8 5 h1
 obtain⟨g,hg,q1⟩:=b24 a1 a2
 have hr:r2=0∨r2=1∨r2=2∨r2=3∨r2=4:=by omega
 rcases hr with rfl | rfl | rfl | rfl | rfl
 ·exact⟨_,_,f2,b1I e1 q1 e2 hg,by rcases hg with rfl | rfl <;> decide +kernel,h2⟩
 ·exact⟨_,_,f2,a1v (a:=3) (b:=4) (h:=5) e1 q1 e2 hg (by decide) rfl (by decide),by rcases hg with rfl | rfl <;> decide +kernel,h2⟩
 ·exact⟨_,_,f2,a1v (a:=3) (b:=4) (h:=5) e1 q1 e2 hg (by decide) rfl (by decide),by rcases hg with rfl | rfl <;> decide +kernel,h2⟩
 ·exact⟨_,_,f2,a1v (a:=5) (b:=12) (h:=13) e1 q1 e2 hg (by decide) rfl (by decide),by rcases hg with rfl | rfl <;> decide +kernel,h2⟩
 ·exact⟨_,_,f2,a1v (a:=8) (b:=15) (h:=17) e1 q1 e2 hg (by decide) rfl (by decide),by rcases hg with rfl | rfl <;> decide +kernel,h2⟩
theorem b3S {idx:List Nat}{fi:DA}{fc:DT}{fe:DE}{s s1:DS}{ds R:List D}{fs':Option FS}(h:fi s=some (ds,s1)) (hz:ds.length≤sizeLine) (c:A0 (fun d=>some (.val d::D4 idx s1.sl)) fc fe ds s1.fs=some (R,fs')):F7 idx fi fc fe s=some (R,{ s1 with fs:=fs' }):=by
 unfold F7
 rw[h,Option.bind_some,if_pos hz,c]
 rfl
end T
namespace DL
open PySem L2
theorem a6n {α:Type}{l:List α}{j:Nat}{p:α × α}(h:(nbs false l)[j]? = some p):l[j]? = some p.1∧l[j+1]? = some p.2:=by
 obtain⟨h1,h2⟩:=List.getElem?_zip_eq_some.mp (show (l.zip (l.drop 1))[j]? = some p from h)
 rw[List.getElem?_drop,Nat.add_comm] at h2
 exact⟨h1,h2⟩
end DL
namespace T
open PySem L2 DL
theorem a5C (a b c:Int):B8 (.tup [.int a,.int b,.int c])=true:=by simp[B8,D.plain,D.plains,D.py,D.pys,SeqAt.shaped,PyData.canLay0,PyData.canLayAll0,PyData.depth,PyData.depthAll]
theorem a0o (w u:Int × Int × Int):pNe (wyD w) (wyD u)=some (.bl (!decide (w=u))):=by
 obtain⟨a,b,c⟩:=w
 obtain⟨d,e,f⟩:=u
 have:decide ((a,b,c)=(d,e,f))=(decide (a=d)&&(decide (b=e)&&decide (c=f))):=by
  rw[Bool.eq_iff_iff];simp
 rw[this]
 simp only[wyD,pNe,a5C,Bool.and_self,if_true,D.py,D.pys,PyData.eqv,PyData.eqvAll,Bool.beq_eq_decide_eq,Bool.and_true]
theorem a8s (w:Int × Int × Int):pNe (wyD w) .non=some (.bl true):=by
 have h:B8 .non=true:=rfl
 simp only[wyD,pNe,a5C,h,Bool.and_self,if_true,D.py,D.pys,PyData.eqv]
 rfl
theorem a7b {fc:DT}(g:D→Bool) (caps:List Sl) (fs:Option FS):∀ ds:List D,(∀ d∈ds,fc ⟨.val d::caps,fs⟩=some (g d,⟨.val d::caps,fs⟩))→A0 (fun d=>some (.val d::caps)) fc (dV 0) ds fs=some (ds.filter g,fs)
 |[],_=>rfl
 |d::r,h=>by
  have ih:=a7b g caps fs r fun x hx=>h x (List.mem_cons_of_mem _ hx)
  rw[A0,Option.bind_some,h d (List.mem_cons_self ..),Option.bind_some]
  cases hg:g d with
  |true=>
   rw[if_pos rfl,List.filter_cons_of_pos hg]
   show (A0 _ fc (dV 0) r fs).map _=_
   rw[ih]
   rfl
  |false=>
   rw[if_neg Bool.false_ne_true,List.filter_cons_of_neg (by rw[hg];decide)]
   exact ih
theorem b09 {W:List (Int × Int × Int)}{fm:D}(hf:fm = .non∨∃ u∈W,fm=wyD u) (hW:(W.any fun a=>W.any fun b=>!decide (a=b))=true):∃ g:D→Bool,(∀ w,pNe (wyD w) fm=some (.bl (g (wyD w))))∧1≤((W.map wyD).filter g).length:=by
 obtain⟨a,ha,hb⟩:=List.any_eq_true.mp hW
 obtain⟨b,hb,hab⟩:=List.any_eq_true.mp hb
 have hab:a≠b:=by simpa using hab
 refine⟨fun d=>match pNe d fm with | some (.bl x)=>x | _=>false,?_,?_⟩
 ·intro w
  rcases hf with rfl | ⟨u,_,rfl⟩
  ·simp only[a8s]
  ·simp only[a0o]
 ·apply List.length_pos_iff.mpr
  intro z
  have no:∀ w∈W,¬ (pNe (wyD w) fm=some (.bl true)):=fun w hw e=>by
   have:wyD w∈(W.map wyD).filter (fun d=>match pNe d fm with | some (.bl x)=>x | _=>false):=List.mem_filter.mpr ⟨List.mem_map_of_mem hw,by simp only[e]⟩
   rw[z] at this
   cases this
  rcases hf with rfl | ⟨u,hu,rfl⟩
  ·exact no a ha (a8s a)
  ·by_cases e:a=u
   ·refine no b hb ?_
    rw[a0o,decide_eq_false (fun z=>hab (e.trans z.symm))]
    rfl
   ·refine no a ha ?_
    rw[a0o,decide_eq_false e]
    rfl
abbrev WOp:DFn:=a2P WSp WPl WPr LDw WSt WMn
abbrev lWO:DM:=a1h WSp WPl WPr LDw WSt WMn
def F5:Nat:=4508400000000000000
def S9:Nat:=F5*52962
def a01:Nat:=265200000000000000
def exL (a b:Pt):Prop:=∃ r:Rat,0≤r∧Sz 90 r∧dsq a b=r*r∧0<r∧Gf S9 r
def exT (a b:Pt):Prop:=∃ r:Rat,0<r∧dsq a b=r*r∧Gr a01 r
theorem exT.exL {a b:Pt}(h:exT a b):exL a b:=by
 obtain⟨r,r0,e,g⟩:=h
 exact⟨r,Rat.le_of_lt r0,(g.sz (by unfold a01;decide)).mono (by decide),e,r0,g.fine.mono (by unfold a01 S9 F5;decide)⟩
def Tg (c:Bool) (ps:List Pt):Prop:=(∀ q∈nbs c ps,exT q.1 q.2)∧∀ p∈ps,PtS 80 p
theorem a3y {t s:Int}(ht:0<t) (hs:0<s):0<Rat.divInt t s:=by
 rw[Rat.divInt_eq_div,Rat.div_def]
 exact Rat.mul_pos (Rat.intCast_pos.mpr ht) (Rat.inv_pos.mpr (Rat.intCast_pos.mpr hs))
theorem a4b {s h:Int}(hd:(6630:Int) % (s*h)=0):(6630:Int) % s=0:=Int.emod_eq_zero_of_dvd (Int.dvd_trans (Int.dvd_mul_right s h) (Int.dvd_of_emod_eq_zero hd))
def goP (a d:Pt) (r:Rat):Pt:=(a.1+r*d.1,a.2+r*d.2)
def T2 (w:Int × Int × Int):Pt:=(Rat.divInt w.1 w.2.2,Rat.divInt w.2.1 w.2.2)
def wyE (a b d:Pt):Prop:=(∃ r,0<r∧Gr F5 r∧b=goP a d r)∧d.1*d.1+d.2*d.2=1∧Sz 5 d.1∧Sz 5 d.2
structure Wy (ps ds:List Pt):Prop where
 len:ps.length=ds.length+1
 go:∀ j a b d,ps[j]? = some a→ps[j+1]? = some b→ds[j]? = some d→wyE a b d
 tn:∀ j d e,ds[j]? = some d→ds[j+1]? = some e→d≠e
theorem a45 {α:Type}{l:List α}{x y:α}{j:Nat}(h:(l++[x])[j]? = some y):l[j]? = some y∨(j=l.length∧y=x):=by
 by_cases hj:j<l.length
 ·rw[List.getElem?_append_left hj] at h
  exact .inl h
 ·have jl:=(List.getElem?_eq_some_iff.mp h).1
  rw[List.length_append,List.length_singleton] at jl
  have ej:j=l.length:=by omega
  subst ej
  rw[List.getElem?_append_right (Nat.le_refl _),Nat.sub_self] at h
  exact .inr ⟨rfl,(Option.some.inj h).symm⟩
theorem a20 {α:Type}{l:List α}{y:α}{j:Nat}(h:l[j]? = some y):j<l.length:=(List.getElem?_eq_some_iff.mp h).1
theorem Wy.snoc {ps ds:List Pt}(h:Wy ps ds) {p q d:Pt}(hp:ps[ds.length]? = some p) (hw:wyE p q d) (hd:∀ e,ds[ds.length - 1]? = some e→e≠d):Wy (ps++[q]) (ds++[d]):=by
 have hl:=h.len
 refine⟨by rw[List.length_append,List.length_append,List.length_singleton,List.length_singleton];omega,?_,?_⟩
 ·intro j a b c ha hb hc
  rcases a45 hc with hc | ⟨rfl,rfl⟩
  ·have jl:=a20 hc
   rw[List.getElem?_append_left (by omega)] at ha hb
   exact h.go j a b c ha hb hc
  ·rw[List.getElem?_append_left (by omega),hp] at ha
   rcases a45 hb with hb | ⟨_,rfl⟩
   ·have:=a20 hb
    omega
   ·cases ha
    exact hw
 ·intro j x y hx hy
  rcases a45 hy with hy | ⟨ej,rfl⟩
  ·have jl:=a20 hy
   rw[List.getElem?_append_left (by omega)] at hx
   exact h.tn j x y hx hy
  ·rw[List.getElem?_append_left (by omega),show j=ds.length - 1 by omega] at hx
   exact hd x hx
theorem b4L {W:List (Int × Int × Int)}(h:okT W=true) {u w:Int × Int × Int}(hu:u∈W) (hw:w∈W) (ne:u≠w) (u0:u.2.2≠0) (w0:w.2.2≠0):T2 u≠T2 w:=fun e=>by
 have:=of_decide_eq_true (List.all_eq_true.mp (List.all_eq_true.mp h u hu) w hw)
 unfold T2 at e
 have e1:=(Rat.divInt_eq_divInt_iff u0 w0).mp (congrArg Prod.fst e)
 have e2:=(Rat.divInt_eq_divInt_iff u0 w0).mp (congrArg Prod.snd e)
 rcases this with z | z | z
 ·exact ne z
 ·exact z e1
 ·exact z e2
theorem a9a {w:Int × Int × Int}{z:Int × Int}(hw:w.1*w.1+w.2.1*w.2.1=w.2.2*w.2.2) (h0:0<w.2.2) (h1:w.2.2≤17) (h2:w.1.natAbs≤17) (h3:w.2.1.natAbs≤17) (z1:0<z.1) (z2:0<z.2) (z3:z.1≤40000000000000) (z5:(6630:Int) % (z.2*w.2.2)=0) (p:Pt):wyE p (p.1+Rat.divInt (z.1*w.1) (z.2*w.2.2),p.2+Rat.divInt (z.1*w.2.1) (z.2*w.2.2)) (T2 w):=by
 refine⟨⟨Rat.divInt z.1 z.2,a3y z1 z2,Gr.div z2 (a4b z5) (by unfold F5;omega),?_⟩,?_,Sz.of_divInt (by omega) (show _<_ by omega) (show _<_ by omega),Sz.of_divInt (by omega) (show _<_ by omega) (show _<_ by omega)⟩
 ·unfold goP T2
  rw[Rat.divInt_mul_divInt,Rat.divInt_mul_divInt]
 ·have e1:(w.2.2:Rat)≠0:=fun z=>by have:=Rat.intCast_eq_zero_iff.mp z;omega
  have e3:(w.1:Rat)*w.1+(w.2.1:Rat)*w.2.1=(w.2.2:Rat)*w.2.2:=by rw[←Rat.intCast_mul,←Rat.intCast_mul,←Rat.intCast_mul,←Rat.intCast_add,hw]
  unfold T2
  rw[Rat.divInt_eq_div,Rat.divInt_eq_div]
  grind
structure OpJ (W:List (Int × Int × Int)) (n i:Nat) (p:Pt) (ps ds:List Pt) (fm:D) (f:FS):Prop where
 len:ps.length=i+1
 last:ps[i]? = some p
 gr:∀ q∈ps,Gr (46410+i*F5) q.1∧Gr (46410+i*F5) q.2
 ex:∀ (j:Nat) a b,ps[j]? = some a→ps[j+1]? = some b→exT a b
 fm:(fm = .non∧ds=[])∨∃ w∈W,fm=wyD w∧ds[ds.length - 1]? = some (T2 w)
 wy:Wy ps ds
 fd:Fd3 (n+2*i) f
def ojS (most:Int) (W:List (Int × Int × Int)) (Z:List (Int × Int)) (p:Pt) (ps:List Pt) (fm:D) (x8 x9 x10:Sl) (f:FS):DS:=
 ⟨[.val .feed,.val (.int most),.val (.lst (W.map wyD)),.val (.lst (Z.map szD)),.val (fr p.1),.val (fr p.2),.own (ps.map pt),.val fm,x8,x9,x10],some f⟩
theorem b5F {W:List (Int × Int × Int)}{Z:List (Int × Int)}(h:okW W Z=true):(∀ w∈W,(w.1*w.1+w.2.1*w.2.1=w.2.2*w.2.2∧0<w.2.2∧w.2.2≤17∧w.1.natAbs≤17∧w.2.1.natAbs≤17)∧∀ z∈Z,0<z.1∧0<z.2∧z.1≤40000000000000∧z.2≤3∧6630 % (z.2*w.2.2)=0) ∧
  (W.length≤12∧1≤Z.length∧Z.length≤5)∧(W.any fun a=>W.any fun b=>!decide (a=b))=true:=by
 unfold okW at h
 have h:=(Bool.and_eq_true_iff.mp h).1
 unfold a8P at h
 rw[Bool.and_eq_true,Bool.and_eq_true] at h
 refine⟨fun w hw=>?_,of_decide_eq_true h.1.2,h.2⟩
 have:=List.all_eq_true.mp h.1.1 w hw
 unfold okY at this
 rw[Bool.and_eq_true] at this
 exact⟨of_decide_eq_true this.1,fun z hz=>of_decide_eq_true (List.all_eq_true.mp this.2 z hz)⟩
theorem b0w {a b h t s:Int}(hw:a*a+b*b=h*h) (h0:0<h) (hs:0<s) (p:Pt):dsq p (p.1+Rat.divInt (t*a) (s*h),p.2+Rat.divInt (t*b) (s*h))=Rat.divInt t s*Rat.divInt t s:=by
 have e1:(h:Rat)≠0:=fun z=>by have:=Rat.intCast_eq_zero_iff.mp z;omega
 have e2:(s:Rat)≠0:=fun z=>by have:=Rat.intCast_eq_zero_iff.mp z;omega
 have e3:(a:Rat)*a+(b:Rat)*b=(h:Rat)*h:=by rw[←Rat.intCast_mul,←Rat.intCast_mul,←Rat.intCast_mul,←Rat.intCast_add,hw]
 unfold dsq
 rw[Rat.divInt_eq_div,Rat.divInt_eq_div,Rat.divInt_eq_div,Rat.intCast_mul,Rat.intCast_mul,Rat.intCast_mul]
 grind
theorem b1Q {w:Int × Int × Int}{z:Int × Int}(hw:w.1*w.1+w.2.1*w.2.1=w.2.2*w.2.2) (h0:0<w.2.2) (z1:0<z.1) (z2:0<z.2) (z3:z.1≤40000000000000) (z4:z.2≤3) (z5:(6630:Int) % (z.2*w.2.2)=0) (p:Pt):exT p (p.1+Rat.divInt (z.1*w.1) (z.2*w.2.2),p.2+Rat.divInt (z.1*w.2.1) (z.2*w.2.2)):=
 ⟨Rat.divInt z.1 z.2,a3y z1 z2,b0w hw h0 z2 p,Gr.div z2 (a4b z5) (by unfold a01;omega)⟩
theorem a51 {t s a h:Int}(ht:t≤40000000000000) (t0:0<t) (hs:0<s) (h0:0<h) (ha:a.natAbs≤17) (hd:(6630:Int) % (s*h)=0):Gr F5 (Rat.divInt (t*a) (s*h)):=by
 refine Gr.div (Int.mul_pos hs h0) hd ?_
 rw[Int.natAbs_mul]
 have:t.natAbs*a.natAbs≤40000000000000*17:=Nat.mul_le_mul (by omega) ha
 unfold F5
 omega
theorem a3w {i:Nat}(hi:i≤9):46410+i*F5<2 ^ 80:=by unfold F5;omega
theorem b5C (ps:List Pt) (q:Pt):(ps++[q]).map pt=ps.map pt++[pt q]:=by simp
theorem b1t {most:Int}{n i:Nat}{W:List (Int × Int × Int)}{Z:List (Int × Int)}{p:Pt}{ps ds:List Pt}{fm:D}{f:FS}(x8 x9 x10:Sl) (ok:okW W Z=true) (I:OpJ W n i p ps ds fm f) (hi:i<9) (hn:n<2 ^ 27) :
  ∃ p' ps' ds' fm' x9' x10' f',lWO (ojS most W Z p ps fm x8 x9 x10 f)=some (.next,ojS most W Z p' ps' fm' x8 x9' x10' f')∧OpJ W n (i+1) p' ps' ds' fm' f':=by
 obtain⟨okw,⟨wl,zl1,zl2⟩,wn⟩:=b5F ok
 have okt:=(Bool.and_eq_true_iff.mp ok).2
 obtain⟨g,hg,hF⟩:=b09 (I.fm.imp (·.1) fun ⟨w,a,b,_⟩=>⟨w,a,b⟩) wn
 have hFl:((W.map wyD).filter g).length≤12:=Nat.le_trans (List.length_filter_le ..) (by rw[List.length_map];exact wl)
 have c:=a7b (fc:=dB (dOp pNe (dL 0) (dL 1))) g [.val fm] (some f) (W.map wyD) (fun d hd=>by
  obtain⟨w,_,rfl⟩:=List.mem_map.mp hd
  exact C0 (c7 rfl rfl (hg w)))
 obtain⟨r1,f1,e1,a1,a2,h1⟩:=F8 (((W.map wyD).filter g).length:Int) I.fd
 obtain⟨d1,m1,q1⟩:=Q8 a1 a2
 have gw:=(List.mem_filter.mp m1).2
 obtain⟨w,hw,rfl⟩:=List.mem_map.mp (List.mem_filter.mp m1).1
 have nw:=hg w
 rw[gw] at nw
 obtain⟨r2,f2,e2,b1,b2,h2⟩:=F8 ((Z.map szD).length:Int) h1 (by rw[List.length_map];omega) (by omega) (by rw[List.length_map];omega)
 obtain⟨d2,m2,q2⟩:=Q8 b1 b2
 obtain⟨z,hz,rfl⟩:=List.mem_map.mp m2
 obtain⟨⟨w1,w2,w3,w4,w5⟩,hzz⟩:=okw w hw
 obtain⟨z1,z2,z3,z4,z5⟩:=hzz z hz
 have gl:=I.gr p (List.mem_of_getElem? I.last)
 have gx:=a51 z3 z1 z2 w2 w4 z5
 have gy:=a51 z3 z1 z2 w2 w5 z5
 have bb:=a3w (i:=i) (by omega)
 have gb:=a3w (i:=i+1) (by omega)
 have e46:46410+i*F5+F5=46410+(i+1)*F5:=by unfold F5;omega
 have nx:=(gl.1.add gx)
 have ny:=(gl.2.add gy)
 rw[e46] at nx ny
 have sgx:=gx.sz (by unfold F5;decide)
 have sgy:=gy.sz (by unfold F5;decide)
 have p1:=P2 z.1 z.2 w.1 w.2.2 (some f2) (by omega) (by omega) (k:=50) (l:=10) (show _<_ by omega) (show _<_ by omega) (show _<_ by omega) (show _<_ by omega) (by decide)
 have p2:=P2 z.1 z.2 w.2.1 w.2.2 (some f2) (by omega) (by omega) (k:=50) (l:=10) (show _<_ by omega) (show _<_ by omega) (show _<_ by omega) (show _<_ by omega) (by decide)
 have s1:=G3 p.1 _ (some f2) (gl.1.sz bb) sgx (by decide)
 have s2:=G3 p.2 _ (some f2) (gl.2.sz bb) sgy (by decide)
 have sp:=a1E _ _ (some f2) (nx.sz gb) (ny.sz gb) (by decide)
 have ex:=b1Q w1 w2 z1 z2 z3 z4 z5 p
 have wyl:=I.wy.len
 have ws:=I.wy.snoc (p:=p) (by rw[show ds.length=i by have:=I.len;omega];exact I.last) (a9a w1 w2 w3 w4 w5 z1 z2 z3 z5 p) (fun e he=>by
  rcases I.fm with ⟨_,hd⟩ | ⟨u,hu,hfm,hd⟩
  ·rw[hd] at he
   simp at he
  ·rw[hd] at he
   cases he
   rw[hfm,a0o] at nw
   exact b4L okt hu hw (fun z=>by rw[z,decide_eq_true rfl] at nw;simp at nw) (by have:=(okw u hu).1.2.1;omega) (by omega))
 have il:=I.len
 have ll:(ps.map pt).length<sizeLine:=Nat.lt_of_lt_of_le (by rw[List.length_map,il];omega:(ps.map pt).length<100) (by decide)
 generalize hF':(W.map wyD).filter g=F at *
 refine⟨(p.1+Rat.divInt (z.1*w.1) (z.2*w.2.2),p.2+Rat.divInt (z.1*w.2.1) (z.2*w.2.2)),ps++[(p.1+Rat.divInt (z.1*w.1) (z.2*w.2.2),p.2+Rat.divInt (z.1*w.2.1) (z.2*w.2.2))],ds++[T2 w],wyD w,.own F,.val (szD z),f2,?_,?_⟩
 ·unfold ojS
  rw[b5C]
  show a1h WSp WPl WPr LDw WSt WMn _=_
  unfold a1h
  rw[i6 (s1:=⟨[.val .feed,.val (.int most),.val (.lst (W.map wyD)),.val (.lst (Z.map szD)),.val (fr p.1),.val (fr p.2),.own (ps.map pt),.val fm,x8,.own F,x10],some f⟩) (F1 (s1:=⟨[.val .feed,.val (.int most),.val (.lst (W.map wyD)),.val (.lst (Z.map szD)),.val (fr p.1),.val (fr p.2),.own (ps.map pt),.val fm,x8,x9,x10],some f⟩) (a08 (idx:=[7]) (ds:=W.map wyD) (R:=F) (s1:=⟨[.val .feed,.val (.int most),.val (.lst (W.map wyD)),.val (.lst (Z.map szD)),.val (fr p.1),.val (fr p.2),.own (ps.map pt),.val fm,x8,x9,x10],some f⟩) rfl (O0 (by rw[List.length_map];omega)) c) (show 9<11 by decide)),
   i6 (s1:=⟨[.val .feed,.val (.int most),.val (.lst (W.map wyD)),.val (.lst (Z.map szD)),.val (fr p.1),.val (fr p.2),.own (ps.map pt),.val (wyD w),x8,.own F,x10],some f1⟩) (l5 (c7 rfl (v5 rfl e1) (B6 q1)) rfl),
   i6 (s1:=⟨[.val .feed,.val (.int most),.val (.lst (W.map wyD)),.val (.lst (Z.map szD)),.val (fr p.1),.val (fr p.2),.own (ps.map pt),.val (wyD w),x8,.own F,.val (szD z)],some f2⟩) (l5 (c7 rfl (v5 rfl e2) (B6 q2)) rfl),
   i6 (s1:=⟨[.val .feed,.val (.int most),.val (.lst (W.map wyD)),.val (.lst (Z.map szD)),.val (fr (p.1+(Rat.divInt (z.1*w.1) (z.2*w.2.2)))),.val (fr p.2),.own (ps.map pt),.val (wyD w),x8,.own F,.val (szD z)],some f2⟩) (l5 (v5 (i5 rfl (i5 (v5 (i5 rfl (i5 (w9 (c7 rfl rfl rfl) (c7 rfl rfl rfl)) rfl)) p1) rfl)) s1) rfl),
   i6 (s1:=⟨[.val .feed,.val (.int most),.val (.lst (W.map wyD)),.val (.lst (Z.map szD)),.val (fr (p.1+(Rat.divInt (z.1*w.1) (z.2*w.2.2)))),.val (fr (p.2+(Rat.divInt (z.1*w.2.1) (z.2*w.2.2)))),.own (ps.map pt),.val (wyD w),x8,.own F,.val (szD z)],some f2⟩) (l5 (v5 (i5 rfl (i5 (v5 (i5 rfl (i5 (w9 (c7 rfl rfl rfl) (c7 rfl rfl rfl)) rfl)) p2) rfl)) s2) rfl)]
  exact Q7 rfl (v5 (i5 rfl (i5 rfl rfl)) sp) rfl ll
 ·refine⟨by simp[il],?_,?_,?_,.inr ⟨w,hw,rfl,by rw[List.length_append,List.length_singleton,Nat.add_sub_cancel,List.getElem?_append_right (Nat.le_refl _),Nat.sub_self];rfl⟩,ws,h2.mono (by omega)⟩
  ·rw[List.getElem?_append_right (by omega),il,Nat.sub_self]
   rfl
  ·intro q hq
   rcases List.mem_append.mp hq with hq | hq
   ·have:=I.gr q hq
    exact⟨this.1.mono (by omega),this.2.mono (by omega)⟩
   ·rw[List.mem_singleton.mp hq]
    exact⟨nx,ny⟩
  ·intro j a b ha hb
   by_cases hj:j+1<ps.length
   ·rw[List.getElem?_append_left (by omega)] at ha hb
    exact I.ex j a b ha hb
   ·have hjl:=(List.getElem?_eq_some_iff.mp hb).1
    simp only[List.length_append,List.length_singleton] at hjl
    have ej:j=i:=by omega
    subst ej
    rw[List.getElem?_append_left (by omega),I.last] at ha
    rw[List.getElem?_append_right (by omega),il,Nat.sub_self] at hb
    cases ha
    rw[List.getElem?_singleton,if_pos rfl] at hb
    cases hb
    exact ex
structure ExS (c:Bool) (ps:List Pt):Prop where
 lo:1≤ps.length
 hi:ps.length≤9
 sz:∀ p∈ps,PtS 200 p
 ex:∀ q∈nbs c ps,exL q.1 q.2
 ne:1≤(nbs c ps).length
theorem b4f {n:Nat}{f:FS}(most:Int) (hm:2≤most∧most≤9) (h:Fd3 n f) (hn:n<2 ^ 26):∃ ps ds f',WOp [.feed,.int most] (some f)=some (.tup [.bl false,.tup (ps.map pt)],some f')∧ExS false ps∧Wy ps ds∧Tg false ps∧Fd3 (n+30) f':=by
 obtain⟨W,Z,f1,e1,ok,h1⟩:=b3l h (by omega)
 obtain⟨p,q,f2,e2,g1,g2,h2⟩:=a8n h1 (by omega)
 have sp:=a1E p q (some f2) (g1.sz (by decide)) (g2.sz (by decide)) (by decide)
 obtain⟨r,f3,e3,r1,r2,h3⟩:=F8 (most - 1) h2
 obtain⟨m,hmm⟩:∃ m:Nat,(1:Int)+r=(m:Int):=⟨(1+r).toNat,by omega⟩
 have rm:U3 [.int ((1:Int)+r)]=some (ups 0 m):=by rw[hmm];exact V8 (by omega)
 obtain⟨s',lp,p',ps,ds,fm,x8,x9,x10,f',rfl,I⟩:=W3 (t:=c9 8) (b:=lWO) (fun i s=>∃ p ps ds fm x8 x9 x10 f',s=ojS most W Z p ps fm x8 x9 x10 f'∧OpJ W (n+5) i p ps ds fm f') (ups 0 m) 0 (ojS most W Z (p,q) [(p,q)] .non .no .no .no f3)
  ⟨(p,q),[(p,q)],[],.non,.no,.no,.no,f3,rfl,rfl,rfl,(fun z hz=>by rw[List.mem_singleton.mp hz];exact⟨g1.mono (by omega),g2.mono (by omega)⟩),(fun j a b _ hb=>by simp at hb),.inl ⟨rfl,rfl⟩,⟨rfl,(fun j a b d _ _ hd=>by simp at hd),(fun j d e hd _=>by simp at hd)⟩,h3⟩ (by
   rintro i d s hd ⟨p,ps,ds,fm,x8,x9,x10,f',rfl,I⟩
   obtain⟨rfl,hi⟩:=a3D hd
   rw[Nat.zero_add] at *
   obtain⟨p',ps',ds',fm',x9',x10',f'',e,I'⟩:=b1t (.val (.int ((0:Int)+i))) x9 x10 ok I (by omega) (by omega)
   exact⟨ojS most W Z p ps fm (.val (.int ((0:Int)+i))) x9 x10 f',_,rfl,.inl e,p',ps',ds',fm',_,x9',x10',f'',rfl,I'⟩)
 rw[Nat.zero_add,M7] at I
 have l1:=I.len
 have bb:=a3w (i:=m) (by omega)
 refine⟨ps,ds,f',m8 (s:=ojS most W Z p' ps fm x8 x9 x10 f') ?_,⟨by omega,by omega,fun z hz=>?_,fun z hz=>?_,by have nf:=Y6 false ps;simp at nf;omega⟩,I.wy,⟨fun z hz=>?_,fun z hz=>by have:=I.gr z hz;exact⟨this.1.sz bb,this.2.sz bb⟩⟩,I.fd.mono (by omega)⟩
 rotate_left
 ·have:=I.gr z hz
  exact⟨(this.1.sz bb).mono (by decide),(this.2.sz bb).mono (by decide)⟩
 ·obtain⟨j,hj⟩:=List.getElem?_of_mem hz
  obtain⟨q1,q2⟩:=a6n hj
  exact(I.ex j _ _ q1 q2).exL
 ·obtain⟨j,hj⟩:=List.getElem?_of_mem hz
  obtain⟨q1,q2⟩:=a6n hj
  exact I.ex j _ _ q1 q2
 show a25 WSp WPl WPr LDw WSt WMn ⟨[.val .feed,.val (.int most),.no,.no,.no,.no,.no,.no,.no,.no,.no],some f⟩=_
 unfold a25
 have rg:(a7 (dOp p7 (dC (.int 1)) (e7 LDw (a7 (dV 0) (a7 (dOp B2 (dL 1) (dC (.int 1))) a8)))) a8) (ojS most W Z (p,q) [(p,q)] .non .no .no .no f2)=some ([.int ((1:Int)+r)],ojS most W Z (p,q) [(p,q)] .non .no .no .no f3):=
  i5 (c7 rfl (v5 (i5 rfl (i5 (c7 rfl rfl rfl) rfl)) e3) rfl) rfl
 rw[i6 (s1:=⟨[.val .feed,.val (.int most),.val (.lst (W.map wyD)),.val (.lst (Z.map szD)),.no,.no,.no,.no,.no,.no,.no],some f1⟩) (l5 (v5 rfl e1) rfl),
  i6 (s1:=⟨[.val .feed,.val (.int most),.val (.lst (W.map wyD)),.val (.lst (Z.map szD)),.val (fr p),.val (fr q),.no,.no,.no,.no,.no],some f2⟩) (l5 (v5 rfl e2) rfl),
  i6 (s1:=⟨[.val .feed,.val (.int most),.val (.lst (W.map wyD)),.val (.lst (Z.map szD)),.val (fr p),.val (fr q),.own [pt (p,q)],.no,.no,.no,.no],some f2⟩) (F1 (s1:=⟨[.val .feed,.val (.int most),.val (.lst (W.map wyD)),.val (.lst (Z.map szD)),.val (fr p),.val (fr q),.no,.no,.no,.no,.no],some f2⟩) (a4A (v5 rfl sp)) (show 6<11 by decide)),
  i6 (s1:=ojS most W Z (p,q) [(p,q)] .non .no .no .no f2) (l5 rfl rfl),
  i6 ((a0j rg rm).trans lp)]
 exact o8 (w9 rfl (F3 rfl rfl))
theorem b2X {n:Nat}{f:FS}(most:Int) (hm:2≤most∧most≤9) (h:Fd3 n f) (hn:n<2 ^ 26):∃ ps f',WOp [.feed,.int most] (some f)=some (.tup [.bl false,.tup (ps.map pt)],some f')∧ExS false ps∧Tg false ps∧Fd3 (n+30) f':=by
 obtain⟨ps,_,f',e,hx,_,ht,hf⟩:=b4f most hm h hn
 exact⟨ps,f',e,hx,ht,hf⟩
def prI (z:Int × Int):D:=.tup [.int z.1,.int z.2]
abbrev A6 (l:List (Int × Int)):D:=.tup (l.map prI)
def T7:List (List (Int × Int)):=[[(0,0),(4,0),(0,3)],[(0,0),(14,0),(5,12)],[(0,0),(2,0),(2,2),(0,2)],[(0,0),(3,4),(3,0),(0,4)],[(0,0),(5,0),(0,0),(3,4)],
 [(0,0),(3,0),(3,4),(6,8),(0,8),(3,4)],[(0,0),(6,0),(6,2),(2,2),(2,4),(6,4),(6,6),(0,6)]]
def T6 (l:List (Int × Int)):Bool:=decide (1≤l.length∧l.length≤8)&&(l.all fun z=>decide (z.1.natAbs≤14∧z.2.natAbs≤14))&&(nbs true l).all fun q=>(List.range 16).any fun L=>decide (1≤L∧(q.1.1 - q.2.1)*(q.1.1 - q.2.1)+(q.1.2 - q.2.2)*(q.1.2 - q.2.2)=(L:Int)*L)
theorem b4C:(T7.all fun l=>decide (l.length≤8)&&(List.range l.length).all fun k=>T6 (l.drop k++l.take k)&&T6 (l.drop k++l.take k).reverse)=true:=by decide +kernel
theorem a8X {l:List (Int × Int)}(hl:l∈T7) {k:Nat}(hk:k<l.length):l.length≤8∧T6 (l.drop k++l.take k)=true∧T6 (l.drop k++l.take k).reverse=true:=by
 have h:=List.all_eq_true.mp b4C l hl
 rw[Bool.and_eq_true] at h
 have h2:=List.all_eq_true.mp h.2 k (List.mem_range.mpr hk)
 rw[Bool.and_eq_true] at h2
 exact⟨of_decide_eq_true h.1,h2.1,h2.2⟩
theorem a6k {l:List (Int × Int)}(h:T6 l=true):(1≤l.length∧l.length≤8)∧(∀ z∈l,z.1.natAbs≤14∧z.2.natAbs≤14)∧∀ q∈nbs true l,∃ L:Nat,L<16∧1≤L∧(q.1.1 - q.2.1)*(q.1.1 - q.2.1)+(q.1.2 - q.2.2)*(q.1.2 - q.2.2)=(L:Int)*L:=by
 unfold T6 at h
 rw[Bool.and_eq_true,Bool.and_eq_true] at h
 refine⟨of_decide_eq_true h.1.1,fun z hz=>of_decide_eq_true (List.all_eq_true.mp h.1.2 z hz),fun q hq=>?_⟩
 obtain⟨L,h1,h2⟩:=List.any_eq_true.mp (List.all_eq_true.mp h.2 q hq)
 exact⟨L,List.mem_range.mp h1,of_decide_eq_true h2⟩
theorem a8S {o1 e1 o2 e2 a b h L k:Rat}(hp:a*a+b*b=h*h) (hl:(o1 - o2)*(o1 - o2)+(e1 - e2)*(e1 - e2)=L*L) (x y:Rat) :
  dsq (x+k*(o1*a - e1*b),y+k*(o1*b+e1*a)) (x+k*(o2*a - e2*b),y+k*(o2*b+e2*a))=k*h*L*(k*h*L):=by
 have e:dsq (x+k*(o1*a - e1*b),y+k*(o1*b+e1*a)) (x+k*(o2*a - e2*b),y+k*(o2*b+e2*a))=k*k*(((o1 - o2)*(o1 - o2)+(e1 - e2)*(e1 - e2))*(a*a+b*b)):=by
  unfold dsq;grind
 rw[e,hp,hl]
 grind
structure AbH (a b h t u:Int):Prop where
 py:a*a+b*b=h*h
 h0:0<h
 h1:h≤13
 a1:a.natAbs≤12
 b1:b.natAbs≤12
 t0:0<t
 t1:t≤3
 u0:0<u
 u1:u≤2
 dv:(6630:Int) % (u*h)=0
def clF (a b h t u:Int) (x y:Rat) (z:Int × Int):Pt:=(x+Rat.divInt (t*(z.1*a - z.2*b)) (u*h),y+Rat.divInt (t*(z.1*b+z.2*a)) (u*h))
theorem a0Z (t c d:Int):Rat.divInt (t*c) d=Rat.divInt t d*(c:Rat):=by
 rw[Rat.divInt_eq_div,Rat.divInt_eq_div,Rat.intCast_mul,Rat.div_def,Rat.div_def]
 grind
theorem b1C {a b h t u:Int}(A:AbH a b h t u) (x y:Rat) {z w:Int × Int}{L:Nat}(hL:L<16) (hL1:1≤L) (e:(z.1 - w.1)*(z.1 - w.1)+(z.2 - w.2)*(z.2 - w.2)=(L:Int)*L):exT (clF a b h t u x y z) (clF a b h t u x y w):=by
 obtain⟨py,h0,_,_,_,t0,t1,u0,u1,dv⟩:=A
 have bL:(t*L).natAbs≤45:=by
  rw[Int.natAbs_mul]
  have:t.natAbs*(L:Int).natAbs≤3*15:=Nat.mul_le_mul (by omega) (by omega)
  omega
 refine⟨Rat.divInt (t*L) u,a3y (Int.mul_pos t0 (by omega)) u0,?_,Gr.div u0 (a4b dv) (by unfold a01;omega)⟩
 ·have e1:(h:Rat)≠0:=fun z=>by have:=Rat.intCast_eq_zero_iff.mp z;omega
  have e2:(u:Rat)≠0:=fun z=>by have:=Rat.intCast_eq_zero_iff.mp z;omega
  have hp:(a:Rat)*a+(b:Rat)*b=(h:Rat)*h:=by rw[←Rat.intCast_mul,←Rat.intCast_mul,←Rat.intCast_mul,←Rat.intCast_add,py]
  have hl:((z.1:Rat) - w.1)*((z.1:Rat) - w.1)+((z.2:Rat) - w.2)*((z.2:Rat) - w.2)=((L:Int):Rat)*((L:Int):Rat):=by
   rw[←Rat.intCast_sub,←Rat.intCast_sub,←Rat.intCast_mul,←Rat.intCast_mul,←Rat.intCast_mul,←Rat.intCast_add,e]
  have k:=a8S (k:=Rat.divInt t (u*h)) hp hl x y
  unfold clF
  rw[a0Z,a0Z,a0Z,a0Z,Rat.intCast_sub,Rat.intCast_add,Rat.intCast_sub,Rat.intCast_add,Rat.intCast_mul,Rat.intCast_mul,Rat.intCast_mul,Rat.intCast_mul,Rat.intCast_mul,Rat.intCast_mul,Rat.intCast_mul,Rat.intCast_mul,k]
  have q:Rat.divInt t (u*h)*(h:Rat)*((L:Int):Rat)=Rat.divInt (t*L) u:=by
   rw[a0Z,Rat.divInt_eq_div,Rat.divInt_eq_div,Rat.intCast_mul]
   grind
  rw[q]
theorem a1V {a b h t u c:Int}(A:AbH a b h t u) (hc:c.natAbs≤336) {x:Rat}(hx:Gr 46410 x):Gr 10000000 (x+Rat.divInt (t*c) (u*h)):=by
 have:Gr 9000000 (Rat.divInt (t*c) (u*h)):=by
  refine Gr.div (Int.mul_pos A.u0 A.h0) A.dv ?_
  rw[Int.natAbs_mul]
  have:=A.t0
  have:=A.t1
  have:t.natAbs*c.natAbs≤3*336:=Nat.mul_le_mul (by omega) hc
  omega
 exact(hx.add this).mono (by decide)
theorem a1x {a z:Int}(ha:a.natAbs≤12) (hz:z.natAbs≤14):(z*a).natAbs≤168:=by
 rw[Int.natAbs_mul]
 exact Nat.le_trans (Nat.mul_le_mul hz ha) (by decide)
theorem a6h {a b:Int}{z:Int × Int}(ha:a.natAbs≤12) (hb:b.natAbs≤12) (h1:z.1.natAbs≤14) (h2:z.2.natAbs≤14):(z.1*a - z.2*b).natAbs≤336∧(z.1*b+z.2*a).natAbs≤336:=
 ⟨Nat.le_trans (Int.natAbs_sub_le ..) (Nat.add_le_add (a1x ha h1) (a1x hb h2)),Nat.le_trans (Int.natAbs_add_le ..) (Nat.add_le_add (a1x hb h1) (a1x ha h2))⟩
abbrev WCl:DFn:=a4y WSp WPl WPr WSt LDw
abbrev lWC:DM:=a1b WSp WPl WPr WSt LDw
abbrev clS (L:List D) (l:D) (k a b h t u:Int) (x y:Rat) (x10 x11 x12 x13 x14:Sl) (f:FS):DS:=
 ⟨[.val .feed,.own L,.val l,.val (.int k),.val (.int a),.val (.int b),.val (.int h),.val (.tup [.int t,.int u]),.val (fr x),.val (fr y),x10,x11,x12,x13,x14],some f⟩
theorem T1 {i:Int}(h:i.natAbs≤400):v6 i=true:=Bd.bits (k:=10) (show i.natAbs<2 ^ 10 by omega) (by decide)
theorem a9D {a b h t u:Int}(A:AbH a b h t u) {x y:Rat}(hx:Gr 46410 x) (hy:Gr 46410 y) (L:List D) (l:D) (k:Int) {z:Int × Int}(h1:z.1.natAbs≤14) (h2:z.2.natAbs≤14) (acc:List D) (hl:acc.length≤20) (x13 x14:Sl) (f:FS) :
  ∃ y13 y14,lWC (clS L l k a b h t u x y (.own acc) (.val (.int z.1)) (.val (.int z.2)) x13 x14 f)=some (.next,clS L l k a b h t u x y (.own (acc++[pt (clF a b h t u x y z)])) (.val (.int z.1)) (.val (.int z.2)) y13 y14 f):=by
 obtain⟨c1,c2⟩:=a6h (z:=z) A.a1 A.b1 h1 h2
 have m1:=r8 (T1 (Nat.le_trans h1 (by decide))) (T1 (Nat.le_trans A.a1 (by decide)))
 have m2:=r8 (T1 (Nat.le_trans h2 (by decide))) (T1 (Nat.le_trans A.b1 (by decide)))
 have m3:=r8 (T1 (Nat.le_trans h1 (by decide))) (T1 (Nat.le_trans A.b1 (by decide)))
 have m4:=r8 (T1 (Nat.le_trans h2 (by decide))) (T1 (Nat.le_trans A.a1 (by decide)))
 have t0:=A.t0
 have t1:=A.t1
 have u0:=A.u0
 have u1:=A.u1
 have hh0:=A.h0
 have hh1:=A.h1
 have p1:=P2 t u (z.1*a - z.2*b) h (some f) (by omega) (by omega) (k:=10) (l:=10) (show _<_ by omega) (show _<_ by omega) (show _<_ by omega) (show _<_ by omega) (by decide)
 have p2:=P2 t u (z.1*b+z.2*a) h (some f) (by omega) (by omega) (k:=10) (l:=10) (show _<_ by omega) (show _<_ by omega) (show _<_ by omega) (show _<_ by omega) (by decide)
 have sd:∀ c:Int,c.natAbs≤336→Sz 80 (Rat.divInt (t*c) (u*h)):=fun c hc=>by
  have:(t*c).natAbs≤3*336:=by rw[Int.natAbs_mul];exact Nat.mul_le_mul (by omega) hc
  have:(u*h).natAbs≤2*13:=by rw[Int.natAbs_mul];exact Nat.mul_le_mul (by omega) (by omega)
  exact Sz.of_divInt (Int.mul_ne_zero (by omega) (by omega)) (by omega) (by omega)
 have s1:=G3 x _ (some f) (hx.sz (by decide)) (sd _ c1) (by decide)
 have s2:=G3 y _ (some f) (hy.sz (by decide)) (sd _ c2) (by decide)
 have sp:=a1E _ _ (some f) ((a1V A c1 hx).sz (by decide)) ((a1V A c2 hy).sz (by decide)) (by decide)
 refine⟨.val (fr (Rat.divInt (t*(z.1*a - z.2*b)) (u*h))),.val (fr (Rat.divInt (t*(z.1*b+z.2*a)) (u*h))),?_⟩
 unfold clF
 show a1b WSp WPl WPr WSt LDw _=_
 unfold a1b
 rw[i6 (s1:=clS L l k a b h t u x y (.own acc) (.val (.int z.1)) (.val (.int z.2)) (.val (fr (Rat.divInt (t*(z.1*a - z.2*b)) (u*h)))) x14 f) (l5 (v5 (i5 rfl (i5 (w9 (c7 (c7 rfl rfl m1) (c7 rfl rfl m2) rfl) rfl) rfl)) p1) rfl),
  i6 (s1:=clS L l k a b h t u x y (.own acc) (.val (.int z.1)) (.val (.int z.2)) (.val (fr (Rat.divInt (t*(z.1*a - z.2*b)) (u*h)))) (.val (fr (Rat.divInt (t*(z.1*b+z.2*a)) (u*h)))) f) (l5 (v5 (i5 rfl (i5 (w9 (c7 (c7 rfl rfl m3) (c7 rfl rfl m4) rfl) rfl) rfl)) p2) rfl)]
 exact Q7 rfl (v5 (i5 (v5 (i5 rfl (i5 rfl rfl)) s1) (i5 (v5 (i5 rfl (i5 rfl rfl)) s2) rfl)) sp) rfl (Nat.lt_of_le_of_lt hl (by decide))
theorem a7a {a b h t u:Int}(A:AbH a b h t u) {x y:Rat}(hx:Gr 46410 x) (hy:Gr 46410 y) (L:List D) (l:D) (k:Int) (f:FS):∀ (zs:List (Int × Int)) (acc:List D) (x11 x12 x13 x14:Sl),(∀ z∈zs,z.1.natAbs≤14∧z.2.natAbs≤14)→acc.length+zs.length≤20 →
  ∃ y11 y12 y13 y14,u7 (t9 2 (l7 (c9 11) (l7 (c9 12) u4))) lWC (zs.map prI) (clS L l k a b h t u x y (.own acc) x11 x12 x13 x14 f)=some (.next,clS L l k a b h t u x y (.own (acc++zs.map fun z=>pt (clF a b h t u x y z))) y11 y12 y13 y14 f)
 |[],acc,x11,x12,x13,x14,_,_=>⟨x11,x12,x13,x14,by rw[List.map_nil,List.map_nil,List.append_nil];rfl⟩
 |z::r,acc,x11,x12,x13,x14,hz,hl=>by
  rw[List.length_cons] at hl
  obtain⟨b1,b2⟩:=hz z (List.mem_cons_self ..)
  obtain⟨y13,y14,e⟩:=a9D A hx hy L l k b1 b2 acc (by omega) x13 x14 f
  obtain⟨z11,z12,z13,z14,e2⟩:=a7a A hx hy L l k f r (acc++[pt (clF a b h t u x y z)]) (.val (.int z.1)) (.val (.int z.2)) y13 y14 (fun w hw=>hz w (List.mem_cons_of_mem _ hw)) (by rw[List.length_append,List.length_singleton];omega)
  refine⟨z11,z12,z13,z14,?_⟩
  rw[List.map_cons,K6 (s1:=clS L l k a b h t u x y (.own acc) (.val (.int z.1)) (.val (.int z.2)) x13 x14 f) rfl e,e2,List.append_assoc]
  rfl
def a3B:List D:=[.tup [.int 1,.int 0,.int 1],.tup [.int 0,.int 1,.int 1],.tup [.int 3,.int 4,.int 5],.tup [.int (-4),.int 3,.int 5],.tup [.int 5,.int 12,.int 13]]
def a4I:List D:=[.tup [.int 1,.int 1],.tup [.int 1,.int 2],.tup [.int 3,.int 1]]
def okA (a b h t u:Int):Bool:=decide (a*a+b*b=h*h∧0<h∧h≤13∧a.natAbs≤12∧b.natAbs≤12∧0<t∧t≤3∧0<u∧u≤2∧(6630:Int) % (u*h)=0)
theorem b06 {a b h t u:Int}(e:okA a b h t u=true):AbH a b h t u:=by
 obtain⟨h1,h2,h3,h4,h5,h6,h7,h8,h9,h10⟩:=of_decide_eq_true e
 exact⟨h1,h2,h3,h4,h5,h6,h7,h8,h9,h10⟩
def A5:List (Int × Int × Int):=[(1,0,1),(0,1,1),(3,4,5),(-4,3,5),(5,12,13)]
def B3:List (Int × Int):=[(1,1),(1,2),(3,1)]
theorem b2Q:(A5.all fun x=>B3.all fun y=>okA x.1 x.2.1 x.2.2 y.1 y.2)=true:=by decide
theorem b2w {r s:Int}(h0:0≤r) (h1:r<5) (g0:0≤s) (g1:s<3):∃ a b h t u,atI a3B r=some (.tup [.int a,.int b,.int h])∧atI a4I s=some (.tup [.int t,.int u])∧AbH a b h t u:=by
 obtain⟨x,hx,e⟩:=Q8 (xs:=a3B) h0 h1
 obtain⟨y,hy,f⟩:=Q8 (xs:=a4I) g0 g1
 obtain⟨z,hz,rfl⟩:=List.mem_map.mp (show x∈A5.map (fun z=>D.tup [.int z.1,.int z.2.1,.int z.2.2]) from hx)
 obtain⟨w,hw,rfl⟩:=List.mem_map.mp (show y∈B3.map (fun z=>D.tup [.int z.1,.int z.2]) from hy)
 exact⟨_,_,_,_,_,e,f,b06 (List.all_eq_true.mp (List.all_eq_true.mp b2Q z hz) w hw)⟩
theorem b1F {as bs:List D}(h:as.length+bs.length≤100):p7 (.tup as) (.tup bs)=some (.tup (as++bs)):=if_pos (O0 h)
abbrev a8c (m:DFn):DE:=a1i (dOp p7 (dSl (dL 2) (dAt (dL 3)) dNo) (dSl (dL 2) dNo (dAt (dL 3)))) (dOp B2 (dC (.int 1)) (dOp l8 (dC (.int 2)) (e7 m (a7 (dV 0) (a7 (dC (.int 2)) a8)))))
theorem b0H {k:Nat}{x1:Sl}{ds:List D}{X:List Sl}{f f':FS}{r:Int}(hk:k≤ds.length) (hl:ds.length≤20) (e:LDw [.feed,.int 2] (some f)=some (.int r,some f')) (r0:0≤r) (r1:r<2) :
  a8c LDw ⟨.val .feed::x1 :: .val (.tup ds) :: .val (.int k)::X,some f⟩=some (.tup (if r=1 then (ds.drop k++ds.take k).reverse else ds.drop k++ds.take k),⟨.val .feed::x1 :: .val (.tup ds) :: .val (.int k)::X,some f'⟩):=by
 have c1:=a8p ds k hk
 have c2:=a7q ds k hk
 have hz:(ds.drop k).length+(ds.take k).length≤100:=by rw[List.length_drop,List.length_take];omega
 have s1:dSl (dL 2) (dAt (dL 3)) dNo ⟨.val .feed::x1 :: .val (.tup ds) :: .val (.int k)::X,some f⟩=some (.tup (ds.drop k),⟨.val .feed::x1 :: .val (.tup ds) :: .val (.int k)::X,some f⟩):=by rw[←c1];rfl
 have s2:dSl (dL 2) dNo (dAt (dL 3)) ⟨.val .feed::x1 :: .val (.tup ds) :: .val (.int k)::X,some f⟩=some (.tup (ds.take k),⟨.val .feed::x1 :: .val (.tup ds) :: .val (.int k)::X,some f⟩):=by rw[←c2];rfl
 have a:=c7 s1 s2 (b1F hz)
 have h:r=0∨r=1:=by omega
 have m2:l8 (.int 2) (.int r)=some (.int (2*r)):=r8 (by decide) (T1 (by omega))
 have st:dOp B2 (dC (.int 1)) (dOp l8 (dC (.int 2)) (e7 LDw (a7 (dV 0) (a7 (dC (.int 2)) a8)))) ⟨.val .feed::x1 :: .val (.tup ds) :: .val (.int k)::X,some f⟩=some (.int (1 - 2*r),⟨.val .feed::x1 :: .val (.tup ds) :: .val (.int k)::X,some f'⟩):=c7 rfl (c7 rfl (v5 (i5 rfl (i5 rfl rfl)) e) m2) rfl
 unfold a8c a1i
 rw[a,Option.bind_some,st,Option.bind_some]
 rcases h with rfl | rfl
 ·rfl
 ·rfl
theorem b0S {a b h t u:Int}(x y:Rat) (zs:List (Int × Int)):(zs.map fun z=>pt (clF a b h t u x y z))=(zs.map (clF a b h t u x y)).map pt:=by rw[List.map_map];rfl
theorem b4U (l:List (Int × Int)) (k:Nat):(l.map prI).drop k++(l.map prI).take k=(l.drop k++l.take k).map prI:=by rw[List.map_append,List.map_drop,List.map_take]
theorem a9M (l:List (Int × Int)) (k:Nat) (r:Int):(if r=1 then ((l.map prI).drop k++(l.map prI).take k).reverse else (l.map prI).drop k++(l.map prI).take k)=(if r=1 then (l.drop k++l.take k).reverse else l.drop k++l.take k).map prI:=by
 rw[b4U]
 split
 ·rw[List.map_reverse]
 ·rfl
theorem a7Y {a b h t u:Int}(A:AbH a b h t u) {x y:Rat}(hx:Gr 46410 x) (hy:Gr 46410 y) {zs:List (Int × Int)}(hz:T6 zs=true):ExS true (zs.map (clF a b h t u x y))∧Tg true (zs.map (clF a b h t u x y)):=by
 obtain⟨⟨l1,l2⟩,bd,ex⟩:=a6k hz
 have sz:∀ p∈zs.map (clF a b h t u x y),PtS 80 p:=fun p hp=>by
  obtain⟨z,hz,rfl⟩:=List.mem_map.mp hp
  obtain⟨b1,b2⟩:=bd z hz
  obtain⟨c1,c2⟩:=a6h (z:=z) A.a1 A.b1 b1 b2
  exact⟨(a1V A c1 hx).sz (by decide),(a1V A c2 hy).sz (by decide)⟩
 have xt:∀ q∈nbs true (zs.map (clF a b h t u x y)),exT q.1 q.2:=fun q hq=>by
  rw[a2g] at hq
  obtain⟨z,hz,rfl⟩:=List.mem_map.mp hq
  obtain⟨L,h1,h3,h2⟩:=ex z hz
  exact b1C A x y h1 h3 h2
 exact⟨⟨by rw[List.length_map];exact l1,by rw[List.length_map];omega,fun p hp=>⟨(sz p hp).1.mono (by decide),(sz p hp).2.mono (by decide)⟩,fun q hq=>(xt q hq).exL,by have nf:=Y6 true (zs.map (clF a b h t u x y));rw[List.length_map] at nf;simp at nf;omega⟩,xt,sz⟩
theorem a9k {n:Nat}{f:FS}(h:Fd3 n f) (hn:n<2 ^ 26):∃ ps f',WCl [.feed] (some f)=some (.tup [.bl true,.tup (ps.map pt)],some f')∧ExS true ps∧Tg true ps∧Fd3 (n+30) f':=by
 obtain⟨r1,f1,e1,a1,a2,h1⟩:=F8 7 h
 obtain⟨d1,m1,q1⟩:=Q8 (xs:=T7.map A6) a1 a2
 obtain⟨l,hl,rfl⟩:=List.mem_map.mp m1
 have hl0:1≤l.length∧l.length≤8:=by
  have:(T7.all fun l=>decide (1≤l.length∧l.length≤8))=true:=by decide
  exact of_decide_eq_true (List.all_eq_true.mp this l hl)
 obtain⟨r2,f2,e2,b1,b2,h2⟩:=F8 ((l.map prI).length:Int) h1 (by rw[List.length_map];omega) (by omega) (by rw[List.length_map];omega)
 obtain⟨k,rfl⟩:=Int.eq_ofNat_of_zero_le b1
 have hk:k<l.length:=by rw[List.length_map] at b2;omega
 obtain⟨r3,f3,e3,c1,c2,h3⟩:=F8 2 h2
 obtain⟨r4,f4,e4,i1,i2,h4⟩:=F8 5 h3
 obtain⟨r5,f5,e5,j1,j2,h5⟩:=F8 3 h4
 obtain⟨a,b,hh,t,u,t1,t2,A⟩:=b2w i1 i2 j1 j2
 obtain⟨x,y,f6,e6,gx,gy,h6⟩:=a8n h5 (by omega)
 obtain⟨_,k1,k2⟩:=a8X hl hk
 have rt:=b0H (x1:=.own (T7.map A6)) (X:=[.no,.no,.no,.no,.no,.no,.no,.no,.no,.no,.no]) (ds:=l.map prI) (k:=k) (by rw[List.length_map];omega) (by rw[List.length_map];omega) e3 c1 c2
 rw[a9M] at rt
 have hz:T6 (if r3=1 then (l.drop k++l.take k).reverse else l.drop k++l.take k)=true:=by
  split
  ·exact k2
  ·exact k1
 obtain⟨⟨zl1,zl2⟩,bd,_⟩:=a6k hz
 obtain⟨y11,y12,y13,y14,lp⟩:=a7a A gx gy (T7.map A6) (.tup (((if r3=1 then (l.drop k++l.take k).reverse else l.drop k++l.take k)).map prI)) k f6 ((if r3=1 then (l.drop k++l.take k).reverse else l.drop k++l.take k)) [] .no .no .no .no bd (by rw[List.length_nil];omega)
 rw[List.nil_append,b0S] at lp
 refine⟨((if r3=1 then (l.drop k++l.take k).reverse else l.drop k++l.take k)).map (clF a b hh t u x y),f6,m8 (s:=clS (T7.map A6) (.tup (((if r3=1 then (l.drop k++l.take k).reverse else l.drop k++l.take k)).map prI)) k a b hh t u x y (.own ((((if r3=1 then (l.drop k++l.take k).reverse else l.drop k++l.take k)).map (clF a b hh t u x y)).map pt)) y11 y12 y13 y14 f6) ?_,(a7Y A gx gy hz).1,(a7Y A gx gy hz).2,h6.mono (by omega)⟩
 show a3X WSp WPl WPr WSt LDw ⟨[.val .feed,.no,.no,.no,.no,.no,.no,.no,.no,.no,.no,.no,.no,.no,.no],some f⟩=_
 unfold a3X
 rw[i6 (s1:=⟨[.val .feed,.own ((T7.take 3).map A6),.no,.no,.no,.no,.no,.no,.no,.no,.no,.no,.no,.no,.no],some f⟩) (F1 (s1:=⟨[.val .feed,.no,.no,.no,.no,.no,.no,.no,.no,.no,.no,.no,.no,.no,.no],some f⟩) rfl (show 1<15 by decide)),
  i6 (s1:=⟨[.val .feed,.own ((T7.take 5).map A6),.no,.no,.no,.no,.no,.no,.no,.no,.no,.no,.no,.no,.no],some f⟩) (F1 (s1:=⟨[.val .feed,.own ((T7.take 3).map A6),.no,.no,.no,.no,.no,.no,.no,.no,.no,.no,.no,.no,.no],some f⟩) (a0m (x:=.lst ((T7.take 3).map A6)) (y:=.lst (((T7.drop 3).take 2).map A6)) (s1:=⟨[.val .feed,.own ((T7.take 3).map A6),.no,.no,.no,.no,.no,.no,.no,.no,.no,.no,.no,.no,.no],some f⟩) rfl (C9 rfl) (a0Q (by decide))) (show 1<15 by decide)),
  i6 (s1:=⟨[.val .feed,.own ((T7.take 6).map A6),.no,.no,.no,.no,.no,.no,.no,.no,.no,.no,.no,.no,.no],some f⟩) (F1 (s1:=⟨[.val .feed,.own ((T7.take 5).map A6),.no,.no,.no,.no,.no,.no,.no,.no,.no,.no,.no,.no,.no],some f⟩) (a0m (x:=.lst ((T7.take 5).map A6)) (y:=.lst (((T7.drop 5).take 1).map A6)) (s1:=⟨[.val .feed,.own ((T7.take 5).map A6),.no,.no,.no,.no,.no,.no,.no,.no,.no,.no,.no,.no,.no],some f⟩) rfl (C9 rfl) (a0Q (by decide))) (show 1<15 by decide)),
  i6 (s1:=⟨[.val .feed,.own (T7.map A6),.no,.no,.no,.no,.no,.no,.no,.no,.no,.no,.no,.no,.no],some f⟩) (F1 (s1:=⟨[.val .feed,.own ((T7.take 6).map A6),.no,.no,.no,.no,.no,.no,.no,.no,.no,.no,.no,.no,.no],some f⟩) (a0m (x:=.lst ((T7.take 6).map A6)) (y:=.lst ((T7.drop 6).map A6)) (s1:=⟨[.val .feed,.own ((T7.take 6).map A6),.no,.no,.no,.no,.no,.no,.no,.no,.no,.no,.no,.no,.no],some f⟩) rfl (C9 rfl) (a0Q (by decide))) (show 1<15 by decide))]
 rw[i6 (s1:=⟨[.val .feed,.own (T7.map A6),.val (A6 l),.no,.no,.no,.no,.no,.no,.no,.no,.no,.no,.no,.no],some f1⟩) (l5 (c7 rfl (v5 rfl e1) (B6 q1)) rfl),
  i6 (s1:=⟨[.val .feed,.own (T7.map A6),.val (A6 l),.val (.int k),.no,.no,.no,.no,.no,.no,.no,.no,.no,.no,.no],some f2⟩) (l5 (v5 (i5 rfl (i5 (F3 (p:=t6) rfl rfl) rfl)) e2) rfl),
  i6 (s1:=⟨[.val .feed,.own (T7.map A6),.val (.tup (((if r3=1 then (l.drop k++l.take k).reverse else l.drop k++l.take k)).map prI)),.val (.int k),.no,.no,.no,.no,.no,.no,.no,.no,.no,.no,.no],some f3⟩) (l5 rt rfl),
  i6 (s1:=⟨[.val .feed,.own (T7.map A6),.val (.tup (((if r3=1 then (l.drop k++l.take k).reverse else l.drop k++l.take k)).map prI)),.val (.int k),.val (.int a),.val (.int b),.val (.int hh),.no,.no,.no,.no,.no,.no,.no,.no],some f4⟩) (l5 (c7 (x:=.lst a3B) (s1:=⟨[.val .feed,.own (T7.map A6),.val (.tup (((if r3=1 then (l.drop k++l.take k).reverse else l.drop k++l.take k)).map prI)),.val (.int k),.no,.no,.no,.no,.no,.no,.no,.no,.no,.no,.no],some f3⟩) (C9 rfl) (v5 rfl e4) (B6 t1)) rfl),
  i6 (s1:=⟨[.val .feed,.own (T7.map A6),.val (.tup (((if r3=1 then (l.drop k++l.take k).reverse else l.drop k++l.take k)).map prI)),.val (.int k),.val (.int a),.val (.int b),.val (.int hh),.val (.tup [.int t,.int u]),.no,.no,.no,.no,.no,.no,.no],some f5⟩) (l5 (c7 (x:=.lst a4I) (s1:=⟨[.val .feed,.own (T7.map A6),.val (.tup (((if r3=1 then (l.drop k++l.take k).reverse else l.drop k++l.take k)).map prI)),.val (.int k),.val (.int a),.val (.int b),.val (.int hh),.no,.no,.no,.no,.no,.no,.no,.no],some f4⟩) (C9 rfl) (v5 rfl e5) (B6 t2)) rfl),
  i6 (s1:=⟨[.val .feed,.own (T7.map A6),.val (.tup (((if r3=1 then (l.drop k++l.take k).reverse else l.drop k++l.take k)).map prI)),.val (.int k),.val (.int a),.val (.int b),.val (.int hh),.val (.tup [.int t,.int u]),.val (fr x),.val (fr y),.no,.no,.no,.no,.no],some f6⟩) (l5 (v5 rfl e6) rfl),
  i6 (s1:=clS (T7.map A6) (.tup (((if r3=1 then (l.drop k++l.take k).reverse else l.drop k++l.take k)).map prI)) k a b hh t u x y (.own []) .no .no .no .no f6) (F1 (s1:=⟨[.val .feed,.own (T7.map A6),.val (.tup (((if r3=1 then (l.drop k++l.take k).reverse else l.drop k++l.take k)).map prI)),.val (.int k),.val (.int a),.val (.int b),.val (.int hh),.val (.tup [.int t,.int u]),.val (fr x),.val (fr y),.no,.no,.no,.no,.no],some f6⟩) rfl (show 10<15 by decide)),
  i6 ((a0b (ds:=((if r3=1 then (l.drop k++l.take k).reverse else l.drop k++l.take k)).map prI) (s1:=clS (T7.map A6) (.tup (((if r3=1 then (l.drop k++l.take k).reverse else l.drop k++l.take k)).map prI)) k a b hh t u x y (.own []) .no .no .no .no f6) rfl).trans lp)]
 exact o8 (w9 rfl (F3 rfl rfl))
abbrev WEx:DFn:=a4N LDw WCl WOp
theorem b45 {n:Nat}{f:FS}(most:Int) (hm:2≤most∧most≤9) (h:Fd3 n f) (hn:n<2 ^ 25):∃ c ps f',WEx [.feed,.int most] (some f)=some (.tup [.bl c,.tup (ps.map pt)],some f')∧ExS c ps∧Tg c ps∧Fd3 (n+31) f':=by
 obtain⟨r,f1,e1,a1,a2,h1⟩:=F8 3 h
 by_cases hr:r=0
 ·subst hr
  obtain⟨ps,f2,e2,x,tx,h2⟩:=a9k h1 (by omega)
  refine⟨true,ps,f2,m8 (s:=⟨[.val .feed,.val (.int most)],some f2⟩) (o8 ?_),x,tx,h2.mono (by omega)⟩
  exact(a1l (C0 (c7 (v5 rfl e1) rfl (P7 0 0)))).trans (v5 rfl e2)
 ·obtain⟨ps,f2,e2,x,tx,h2⟩:=b2X most hm h1 (by omega)
  refine⟨false,ps,f2,m8 (s:=⟨[.val .feed,.val (.int most)],some f2⟩) (o8 ?_),x,tx,h2.mono (by omega)⟩
  exact(a2c (C0 (c7 (v5 rfl e1) rfl ((P7 r 0).trans (by rw[decide_eq_false hr]))))).trans (v5 rfl e2)
end T
namespace T
open PySem L2 DL
open Classical in
def lnR (q:Pt × Pt):Rat:=if h:exL q.1 q.2 then h.choose else 0
theorem a0W {q:Pt × Pt}(h:exL q.1 q.2):0≤lnR q∧Sz 90 (lnR q)∧dsq q.1 q.2=lnR q*lnR q:=by
 unfold lnR
 rw[dif_pos h]
 obtain⟨h1,h2,h3,_⟩:=h.choose_spec
 exact⟨h1,h2,h3⟩
theorem a6E {q:Pt × Pt}(h:exL q.1 q.2):0<lnR q∧Gf S9 (lnR q):=by
 unfold lnR
 rw[dif_pos h]
 exact h.choose_spec.2.2.2
theorem b1p {c:Bool}{ps:List Pt}(h:∀ q∈nbs c ps,exL q.1 q.2):a09 c ps=((nbs c ps).map lnR).map fr:=by
 unfold a09
 rw[List.map_map]
 refine List.map_congr_left fun q hq=>?_
 obtain⟨h1,_,h3⟩:=a0W (h q hq)
 rw[h3,b5H h1]
 rfl
theorem a8N {T:List Rat}{S:Rat}(h:T[T.length - 1]? = some S):atI (T.map fr) (-1)=some (fr S):=a07 (by rw[List.length_map,List.getElem?_map,h];rfl)
theorem b3Y (T:List Rat) (S:Rat):(T++[S])[(T++[S]).length - 1]? = some S:=by
 rw[List.length_append,List.length_singleton,Nat.add_sub_cancel,List.getElem?_append_right (Nat.le_refl _),Nat.sub_self]
 rfl
theorem a2t {T:List Rat}(h:T.length≤50):(T.map fr).length<sizeLine:=Nat.lt_of_le_of_lt (by rw[List.length_map];exact h) (show 50<sizeLine by decide)
abbrev FSt:DFn:=Y2 FP FLg
abbrev FLl:DFn:=a1Y FSt
theorem a60 {α:Type}(l:List α) (a z:α) (h1:l[0]? = some a) (h2:l[l.length - 1]? = some z):nbs true l=nbs false l++[(z,a)]:=by
 unfold nbs
 have hz:l=l.dropLast++[z]:=by
  have hn:l≠[]:=fun e=>by subst e;simp at h1
  have:l.getLast hn=z:=by
   rw[List.getLast_eq_getElem]
   rw[List.getElem?_eq_getElem (by have:=List.length_pos_iff.mpr hn;omega)] at h2
   exact Option.some.inj h2
  rw[←this]
  exact(List.dropLast_concat_getLast hn).symm
 have ha:l.take 1=[a]:=by
  cases l with
  |nil=>simp at h1
  |cons x r=>simp at h1;subst h1;rfl
 simp only[if_true,ha,if_neg Bool.false_ne_true]
 have hl:l.dropLast.length=(l.drop 1).length:=by rw[List.length_dropLast,List.length_drop]
 have e1:l.zip (l.drop 1++[a])=l.dropLast.zip (l.drop 1)++[(z,a)]:=by
  conv=>lhs;arg 1;rw[hz]
  rw[List.zip_append hl]
  rfl
 have e2:l.zip (l.drop 1)=l.dropLast.zip (l.drop 1):=by
  conv=>lhs;arg 1;rw[hz]
  conv=>lhs;arg 2;rw[←List.append_nil (l.drop 1)]
  rw[List.zip_append hl]
  simp
 rw[e1,e2]
theorem a8f (ds:List D) (c:Bool) (fs:Option FS) (h1:1≤ds.length) (hl:ds.length≤20):J0 [.tup [.bl c,.tup ds]] fs=some (.lst ((nbs c ds).map pr2),fs):=by
 obtain⟨m,hm⟩:∃ m:Nat,ds.length=m+1:=⟨ds.length - 1,by omega⟩
 obtain⟨a,ha⟩:∃ a,ds[0]? = some a:=⟨_,List.getElem?_eq_getElem h1⟩
 obtain⟨z,hz⟩:∃ z,ds[ds.length - 1]? = some z:=⟨_,List.getElem?_eq_getElem (by omega)⟩
 have nf:=Y6 false ds
 have nl:(nbs false ds).length=m:=by simp at nf;omega
 have pl:=b2V false ds h1 (pcG ds) (fun i=>by simp only[pcG,Int.toNat_natCast,Bool.false_eq_true,if_false,List.take_zero,List.append_nil])
 rw[nl] at pl
 have cm:=a7w (idx:=[2]) (g:=pcG ds) [.val (.tup ds)] fs (ups 0 m) (b0u ds fs m hm)
 rw[pl] at cm
 have la:atI ds (-1)=some z:=a07 hz
 have l0:atI ds 0=some a:=atN (i:=0) ha
 have last:j6 (a7 (dOp pIx (dL 2) (dUn v7 (dC (.int 1)))) (a7 (dOp pIx (dL 2) (dC (.int 0))) a8)) ⟨[.val (.tup [.bl c,.tup ds]),.val (.bl c),.val (.tup ds),.own ((nbs false ds).map pr2)],fs⟩=some (.tup [z,a],⟨[.val (.tup [.bl c,.tup ds]),.val (.bl c),.val (.tup ds),.own ((nbs false ds).map pr2)],fs⟩):=
  w9 (c7 rfl rfl ((ixT ds (-1)).trans la)) (c7 rfl rfl ((ixT ds 0).trans l0))
 have rg:N9 (a7 (dOp B2 (dCB (one t6) (a7 (dL 2) a8)) (dC (.int 1))) a8) ⟨[.val (.tup [.bl c,.tup ds]),.val (.bl c),.val (.tup ds),.no],fs⟩=some (ups 0 m,⟨[.val (.tup [.bl c,.tup ds]),.val (.bl c),.val (.tup ds),.no],fs⟩):=by
  have ln:(ds.length:Int) - 1=(m:Int):=by omega
  have e:a7 (dOp B2 (dCB (one t6) (a7 (dL 2) a8)) (dC (.int 1))) a8 ⟨[.val (.tup [.bl c,.tup ds]),.val (.bl c),.val (.tup ds),.no],fs⟩=some ([.int (m:Int)],⟨[.val (.tup [.bl c,.tup ds]),.val (.bl c),.val (.tup ds),.no],fs⟩):=by
   rw[←ln]
   exact i5 (c7 (F3 (p:=t6) rfl rfl) rfl rfl) rfl
  unfold N9
  rw[e,Option.bind_some]
  show (U3 [.int (m:Int)]).map _=_
  rw[V8 (by omega)]
  rfl
 have R:∃ Q:List D,a2h (.lst [.tup [z,a]]) (.int (if c then 1 else 0))=some Q∧(nbs false ds).map pr2++Q=(nbs c ds).map pr2∧Q.length≤1:=by
  cases c with
  |true=>exact⟨[.tup [z,a]],rfl,by rw[a60 ds a z ha hz,List.map_append];rfl,Nat.le_refl 1⟩
  |false=>exact⟨[],rfl,by rw[List.append_nil],by decide⟩
 obtain⟨Q,q1,q2,q3⟩:=R
 have lh:((nbs false ds).map pr2).length≤20:=by rw[List.length_map];omega
 refine m8 (s:=⟨[.val (.tup [.bl c,.tup ds]),.val (.bl c),.val (.tup ds),.own ((nbs false ds).map pr2)],fs⟩) ?_
 show a2x ⟨[.val (.tup [.bl c,.tup ds]),.no,.no,.no],fs⟩=_
 unfold a2x
 rw[i6 (s1:=⟨[.val (.tup [.bl c,.tup ds]),.val (.bl c),.val (.tup ds),.no],fs⟩) (l5 rfl rfl),
  i6 (s1:=⟨[.val (.tup [.bl c,.tup ds]),.val (.bl c),.val (.tup ds),.own ((nbs false ds).map pr2)],fs⟩) (F1 (s1:=⟨[.val (.tup [.bl c,.tup ds]),.val (.bl c),.val (.tup ds),.no],fs⟩) (a08 (idx:=[2]) (ds:=ups 0 m) (R:=((nbs false ds).map pr2)) (s1:=⟨[.val (.tup [.bl c,.tup ds]),.val (.bl c),.val (.tup ds),.no],fs⟩) rg (O0 (by rw[M7];omega)) cm) (show 3<4 by decide))]
 rw[←q2]
 exact o8 (C9 (a0m rfl (C9 (a0m (C9 (a4A last)) (F3 (p:=a3W) rfl rfl) q1)) (a0Q (by omega))))
theorem a8v (ds:List D) (c:Bool) (fs:Option FS) (h1:1≤ds.length) (hl:ds.length≤9):J0 [.tup [.bl c,.tup ds]] fs=some (.lst ((nbs c ds).map pr2),fs):=a8f ds c fs h1 (Nat.le_trans hl (by decide))
abbrev WSu:DFn:=a1N WPl WSz J0
end T
namespace T
open PySem L2 DL
def L7 (a b:Pt) (s:Rat):Pt:=(a.1+s*(b.1 - a.1),a.2+s*(b.2 - a.2))
theorem b3U {k l:Nat}{a b:Pt}{s:Rat}(ha:PtS k a) (hb:PtS k b) (hs:Sz l s):PtS (k+(l+(k+k+1))+1) (L7 a b s):=
 ⟨ha.1.add (hs.mul (hb.1.sub ha.1)),ha.2.add (hs.mul (hb.2.sub ha.2))⟩
theorem a03 {x y z:Rat}(hy:y≠0) (h:x=z*y):x / y=z:=by rw[h,Rat.mul_div_cancel hy]
theorem a1c {p q:Rat}(hq:q≠0):(p.den:Int)*q.num≠0:=Int.mul_ne_zero (E1 p) (fun z=>hq (Rat.num_eq_zero.mp z))
theorem a2v {p q:Rat}(hq:q≠0):Rat.divInt (p.num*q.den) (p.den*q.num)=p / q:=by
 have hz:(((p.den:Int)*q.num:Int):Rat)≠0:=fun z=>a1c hq (Rat.intCast_eq_zero_iff.mp z)
 rw[Rat.divInt_eq_div]
 refine a03 hz ?_
 rw[Rat.intCast_mul,Rat.intCast_mul,S7 p,S7 q]
 grind
theorem b5w {k l:Nat}{p q:Rat}(hq:q≠0) (h1:Sz k p) (h2:Sz l q):Sz (k+l) (p / q):=by
 rw[←a2v hq]
 exact Sz.of_divInt (a1c hq) (Bd.mul h1.num h2.den) (Bd.mul h1.den h2.num)
abbrev WOv:DFn:=a2H LLw
theorem b3V {k l:Nat}(p q:Rat) (fs:Option FS) (h1:Sz k p) (h2:Sz l q) (hq:q≠0) (hk:k+l≤8000):WOv [fr p,fr q] fs=some (fr (p / q),fs):=by
 have b1:=h1.num.bits (by omega)
 have b2:=h1.den.bits (by omega)
 have b3:=h2.num.bits (by omega)
 have b4:=h2.den.bits (by omega)
 have e:=Z0 (p.num*q.den) (p.den*q.num) fs (a1c hq) (Bd.mul h1.den h2.num) hk
 rw[a2v hq] at e
 refine m8 (s:=⟨[.val (fr p),.val (fr q)],fs⟩) ?_
 exact o8 (j9 (i5 (c7 (c7 rfl rfl (D3 p)) (c7 rfl rfl (C2 q)) (r8 b1 b4)) (i5 (c7 (c7 rfl rfl (C2 p)) (c7 rfl rfl (D3 q)) (r8 b2 b3)) rfl)) e)
theorem Q9 {k l:Nat}(p q:Rat) (fs:Option FS) (h1:Sz k p) (h2:Sz l q) (hk:k+l≤8000):t7 [fr p,fr q] fs=some (.bl (decide (p<q)),fs):=by
 have b1:=h1.num.bits (by omega)
 have b2:=h1.den.bits (by omega)
 have b3:=h2.num.bits (by omega)
 have b4:=h2.den.bits (by omega)
 rw[←a5V]
 refine m8 (s:=⟨[.val (fr p),.val (fr q)],fs⟩) ?_
 exact o8 (c7 (c7 (c7 rfl rfl (D3 p)) (c7 rfl rfl (C2 q)) (r8 b1 b4)) (c7 (c7 rfl rfl (D3 q)) (c7 rfl rfl (C2 p)) (r8 b3 b2)) rfl)
abbrev WBt:DFn:=a3L WSp WPl WPr WMi WXy
theorem a91 {l:Nat}(a b:Pt) (s:Rat) (fs:Option FS) (ha:PtS 200 a) (hb:PtS 200 b) (hs:Sz l s) (hl:l≤500):WBt [pt a,pt b,fr s] fs=some (pt (L7 a b s),fs):=by
 have xa:=wxy a fs (Ps.of ha.1 ha.2) (by decide)
 have xb:=wxy b fs (Ps.of hb.1 hb.2) (by decide)
 have m1:=J8 b.1 a.1 fs hb.1 ha.1 (by decide)
 have m2:=J8 b.2 a.2 fs hb.2 ha.2 (by decide)
 have z1:=hb.1.sub ha.1
 have z2:=hb.2.sub ha.2
 have p1:=Z9 s _ fs hs z1 (by omega)
 have p2:=Z9 s _ fs hs z2 (by omega)
 have s1:=G3 a.1 _ fs ha.1 (hs.mul z1) (by omega)
 have s2:=G3 a.2 _ fs ha.2 (hs.mul z2) (by omega)
 have sp:=a1E _ _ fs (ha.1.add (hs.mul z1)) (ha.2.add (hs.mul z2)) (by omega)
 unfold L7
 refine m8 (s:=⟨[.val (pt a),.val (pt b),.val (fr s),.val (fr (a.1+s*(b.1 - a.1))),.val (fr a.2),.val (fr b.1),.val (fr b.2)],fs⟩) ?_
 show a5l WSp WPl WPr WMi WXy ⟨[.val (pt a),.val (pt b),.val (fr s),.no,.no,.no,.no],fs⟩=_
 unfold a5l
 rw[i6 (s1:=⟨[.val (pt a),.val (pt b),.val (fr s),.val (fr a.1),.val (fr a.2),.val (fr b.1),.val (fr b.2)],fs⟩) (l5 (w9 (j9 (i5 rfl rfl) xa) (j9 (i5 rfl rfl) xb)) rfl),
  i6 (s1:=⟨[.val (pt a),.val (pt b),.val (fr s),.val (fr (a.1+s*(b.1 - a.1))),.val (fr a.2),.val (fr b.1),.val (fr b.2)],fs⟩) (l5 (j9 (i5 rfl (i5 (j9 (i5 rfl (i5 (j9 (i5 rfl (i5 rfl rfl)) m1) rfl)) p1) rfl)) s1) rfl)]
 exact o8 (j9 (i5 rfl (i5 (j9 (i5 rfl (i5 (j9 (i5 rfl (i5 (j9 (i5 rfl (i5 rfl rfl)) m2) rfl)) p2) rfl)) s2) rfl)) sp)
abbrev FBt:DFn:=a4z FL
theorem a6U {a1 b1 s A B d:Rat}(hA:A≠0) (hB:B≠0) (hd:d≠0):(a1*A*(B*(d - s*d))+b1*B*(A*(s*d))) / (A*B*d)=a1+s*(b1 - a1):=by
 refine a03 ?_ ?_
 ·exact fun z=>by
   rcases Rat.mul_eq_zero.mp z with z | z
   ·rcases Rat.mul_eq_zero.mp z with z | z
    ·exact hA z
    ·exact hB z
   ·exact hd z
 ·grind
theorem a8F (p:Rat):((p.den:Int):Rat)≠0:=fun h=>E1 p (Rat.intCast_eq_zero_iff.mp h)
theorem b13 {l:Nat}(a b:Pt) (s:Rat) (fs:Option FS) (ha:PtS 200 a) (hb:PtS 200 b) (hs:Sz l s) (hl:l≤500):FBt [pt a,pt b,fr s] fs=some (pt (L7 a b s),fs):=by
 have pa:=Ps.of ha.1 ha.2
 have pb:=Ps.of hb.1 hb.2
 have b1:=pb.l.bits (by decide)
 have b2:=(hs.den.sub hs.num).bits (by omega)
 have b3:=pa.l.bits (by decide)
 have b4:=hs.num.bits (by omega)
 have ax:=pa.x.bits (by decide)
 have ay:=pa.y.bits (by decide)
 have bx:=pb.x.bits (by decide)
 have by_:=pb.y.bits (by decide)
 have u:=(pb.l.mul (hs.den.sub hs.num)).bits (by omega)
 have v:=(pa.l.mul hs.num).bits (by omega)
 have w:=(pa.l.mul pb.l).bits (by decide)
 have dn:=hs.den.bits (by omega)
 have e:=b4o (pX a*(pL b*(s.den - s.num))+pX b*(pL a*s.num)) (pY a*(pL b*(s.den - s.num))+pY b*(pL a*s.num)) (pL a*pL b*s.den) fs (Int.mul_ne_zero (Int.mul_ne_zero (S4 a) (S4 b)) (E1 s)) ((pa.l.mul pb.l).mul hs.den) (by omega)
 have q1:Rat.divInt (pX a*(pL b*(s.den - s.num))+pX b*(pL a*s.num)) (pL a*pL b*s.den)=a.1+s*(b.1 - a.1):=by
  rw[Rat.divInt_eq_div]
  simp only[Rat.intCast_add,Rat.intCast_mul,Rat.intCast_sub]
  rw[a0L,a0L,S7 s]
  exact a6U (V0 a) (V0 b) (a8F s)
 have q2:Rat.divInt (pY a*(pL b*(s.den - s.num))+pY b*(pL a*s.num)) (pL a*pL b*s.den)=a.2+s*(b.2 - a.2):=by
  rw[Rat.divInt_eq_div]
  simp only[Rat.intCast_add,Rat.intCast_mul,Rat.intCast_sub]
  rw[a0B,a0B,S7 s]
  exact a6U (V0 a) (V0 b) (a8F s)
 rw[q1,q2] at e
 unfold L7
 refine m8 (s:=⟨[.val (pt a),.val (pt b),.val (fr s),.val (.int (pL b*(s.den - s.num))),.val (.int (pL a*s.num))],fs⟩) ?_
 show a4k FL ⟨[.val (pt a),.val (pt b),.val (fr s),.no,.no],fs⟩=_
 unfold a4k
 rw[i6 (s1:=⟨[.val (pt a),.val (pt b),.val (fr s),.val (.int (pL b*(s.den - s.num))),.no],fs⟩) (l5 (c7 (c7 rfl rfl (Q1 b)) (c7 (c7 rfl rfl (C2 s)) (c7 rfl rfl (D3 s)) rfl) (r8 b1 b2)) rfl),
  i6 (s1:=⟨[.val (pt a),.val (pt b),.val (fr s),.val (.int (pL b*(s.den - s.num))),.val (.int (pL a*s.num))],fs⟩) (l5 (c7 (c7 rfl rfl (Q1 a)) (c7 rfl rfl (D3 s)) (r8 b3 b4)) rfl)]
 exact o8 (j9 (i5 (a7g (c7 (c7 (c7 rfl rfl (Y0 a)) rfl (r8 ax u)) (c7 (c7 rfl rfl (Y0 b)) rfl (r8 bx v)) rfl) (c7 (c7 (c7 rfl rfl (Y7 a)) rfl (r8 ay u)) (c7 (c7 rfl rfl (Y7 b)) rfl (r8 by_ v)) rfl) (c7 (c7 (c7 rfl rfl (Q1 a)) (c7 rfl rfl (Q1 b)) (r8 b3 b1)) (c7 rfl rfl (C2 s)) (r8 w dn))) rfl) e)
def scn:Rat→List Rat→List Rat
 |S,[]=>[S]
 |S,r::l=>S::scn (S+r) l
theorem a7v:∀ (l:List Rat) (S:Rat),(scn S l).length=l.length+1
 |[],_=>rfl
 |r::l,S=>by rw[scn,List.length_cons,a7v l,List.length_cons]
theorem a3C:∀ (l:List Rat) (S:Rat) (i:Nat),i≤l.length→(scn S l)[i]? = some ((l.take i).foldl (· + ·) S)
 |[],S,i,h=>by
  rw[List.length_nil] at h
  have:i=0:=by omega
  subst this
  rfl
 |r::l,S,0,_=>rfl
 |r::l,S,i+1,h=>by
  rw[List.length_cons] at h
  rw[scn,List.getElem?_cons_succ,a3C l (S+r) i (by omega)]
  rfl
theorem a2T (T0:List Rat) (S r:Rat):(T0++[S]).map fr++[fr (S+r)]=((T0++[S])++[S+r]).map fr:=by simp
theorem a2d (T0:List Rat) (S:Rat):atI ((T0++[S]).map fr) (-1)=some (fr S):=a8N (b3Y T0 S)
theorem a67 (l0:Sl) (fs:Option FS):∀ (ls T0:List Rat) (S:Rat) (k:Nat) (x2:Sl),Sz k S→(∀ r∈ls,Sz 90 r)→k+91*ls.length≤1000→T0.length+1+ls.length≤50 →
  ∃ y2:Sl,u7 (c9 2) (a5y FP FLg) (ls.map fr) ⟨[l0,.own ((T0++[S]).map fr),x2],fs⟩=some (.next,⟨[l0,.own ((T0++scn S ls).map fr),y2],fs⟩)
 |[],T0,S,k,x2,_,_,_,_=>⟨x2,rfl⟩
 |r::l,T0,S,k,x2,hs,hl,hk,ht=>by
  rw[List.length_cons] at hk ht
  have hr:=hl r (List.mem_cons_self ..)
  obtain⟨y2,e⟩:=a67 l0 fs l (T0++[S]) (S+r) (k+90+1) (.val (fr r)) (hs.add hr) (fun x hx=>hl x (List.mem_cons_of_mem _ hx)) (by omega) (by rw[List.length_append,List.length_singleton];omega)
  refine⟨y2,?_⟩
  have p:=a1U S r fs hs hr (by omega)
  have la:=a2d T0 S
  have ll:((T0++[S]).map fr).length<sizeLine:=a2t (by rw[List.length_append,List.length_singleton];omega)
  rw[←a2T,List.append_assoc] at e
  rw[List.map_cons,K6 (s1:=⟨[l0,.own ((T0++[S]).map fr),.val (fr r)],fs⟩) rfl (Q7 rfl (j9 (i5 (c7 rfl rfl (B6 la)) (i5 rfl rfl)) p) rfl ll)]
  exact e
theorem a7e {c:Bool}{ps:List Pt}(h:ExS c ps) (fs:Option FS):FSt [.tup [.bl c,.tup (ps.map pt)]] fs=some (.lst ((scn 0 ((nbs c ps).map lnR)).map fr),fs):=by
 have e:=b0N ps c fs h.sz h.hi
 rw[b1p h.ex] at e
 have nl:=a0t c ps
 have hi:=h.hi
 obtain⟨y2,lp⟩:=a67 (.val (.tup [.bl c,.tup (ps.map pt)])) fs ((nbs c ps).map lnR) [] 0 1 .no (Sz.lit (by decide)) (fun r hr=>by
  obtain⟨z,hz,rfl⟩:=List.mem_map.mp hr
  exact(a0W (h.ex z hz)).2.1) (by rw[List.length_map];omega) (by rw[List.length_map,List.length_nil];omega)
 rw[List.nil_append,List.nil_append] at lp
 refine m8 (s:=⟨[.val (.tup [.bl c,.tup (ps.map pt)]),.val (.lst ((scn 0 ((nbs c ps).map lnR)).map fr)),y2],fs⟩) ?_
 show a4n FP FLg ⟨[.val (.tup [.bl c,.tup (ps.map pt)]),.no,.no],fs⟩=_
 unfold a4n
 rw[i6 (s1:=⟨[.val (.tup [.bl c,.tup (ps.map pt)]),.own ([(0:Rat)].map fr),.no],fs⟩) (F1 (s1:=⟨[.val (.tup [.bl c,.tup (ps.map pt)]),.no,.no],fs⟩) rfl (show 1<3 by decide)),
  i6 ((a0b (ds:=(((nbs c ps).map lnR).map fr)) (s1:=⟨[.val (.tup [.bl c,.tup (ps.map pt)]),.own ([(0:Rat)].map fr),.no],fs⟩) (j9 rfl e)).trans lp)]
 exact o8 rfl
theorem a7t (l0:Sl) (fs:Option FS):∀ (qs:List (Pt × Pt)) (T0:List Rat) (S:Rat) (k:Nat) (x2 x3:Sl),Sz k S→(∀ q∈qs,exL q.1 q.2∧PtS 200 q.1∧PtS 200 q.2)→k+91*qs.length≤1000→T0.length+1+qs.length≤50 →
  ∃ (y2 y3:Sl),u7 (t9 2 (l7 (c9 2) (l7 (c9 3) u4))) (a4i WPl WSz J0) (qs.map prP) ⟨[l0,.own ((T0++[S]).map fr),x2,x3],fs⟩=some (.next,⟨[l0,.own ((T0++scn S (qs.map lnR)).map fr),y2,y3],fs⟩)
 |[],T0,S,k,x2,x3,_,_,_,_=>⟨x2,x3,rfl⟩
 |q::l,T0,S,k,x2,x3,hs,hl,hk,ht=>by
  rw[List.length_cons] at hk ht
  obtain⟨hx,s1,s2⟩:=hl q (List.mem_cons_self ..)
  obtain⟨r1,r2,r3⟩:=a0W hx
  obtain⟨y2,y3,e⟩:=a7t l0 fs l (T0++[S]) (S+lnR q) (k+90+1) (.val (pt q.1)) (.val (pt q.2)) (hs.add r2) (fun x hx=>hl x (List.mem_cons_of_mem _ hx)) (by omega) (by rw[List.length_append,List.length_singleton];omega)
  refine⟨y2,y3,?_⟩
  have z:=b18 q.1 q.2 (lnR q) fs s1 s2 r1 r3
  have p:=G3 S (lnR q) fs hs r2 (by omega)
  have la:=a2d T0 S
  have ll:((T0++[S]).map fr).length<sizeLine:=a2t (by rw[List.length_append,List.length_singleton];omega)
  rw[←a2T,List.append_assoc] at e
  rw[List.map_cons,K6 (s1:=⟨[l0,.own ((T0++[S]).map fr),.val (pt q.1),.val (pt q.2)],fs⟩) rfl (Q7 rfl (j9 (i5 (c7 rfl rfl (B6 la)) (i5 (j9 rfl z) rfl)) p) rfl ll)]
  exact e
theorem a8q {c:Bool}{ps:List Pt}(h:ExS c ps) (fs:Option FS):WSu [.tup [.bl c,.tup (ps.map pt)]] fs=some (.lst ((scn 0 ((nbs c ps).map lnR)).map fr),fs):=by
 have hi:=h.hi
 have lo:=h.lo
 have e:=a8v (ps.map pt) c fs (by rw[List.length_map];exact lo) (by rw[List.length_map];exact hi)
 rw[a14] at e
 have nl:=a0t c ps
 obtain⟨y2,y3,lp⟩:=a7t (.val (.tup [.bl c,.tup (ps.map pt)])) fs (nbs c ps) [] 0 1 .no .no (Sz.lit (by decide)) (fun r hr=>by
  obtain⟨m1,m2⟩:=a39 hr
  exact⟨h.ex r hr,h.sz _ m1,h.sz _ m2⟩) (by omega) (by rw[List.length_nil];omega)
 rw[List.nil_append,List.nil_append] at lp
 refine m8 (s:=⟨[.val (.tup [.bl c,.tup (ps.map pt)]),.val (.lst ((scn 0 ((nbs c ps).map lnR)).map fr)),y2,y3],fs⟩) ?_
 show a0T WPl WSz J0 ⟨[.val (.tup [.bl c,.tup (ps.map pt)]),.no,.no,.no],fs⟩=_
 unfold a0T
 rw[i6 (s1:=⟨[.val (.tup [.bl c,.tup (ps.map pt)]),.own ([(0:Rat)].map fr),.no,.no],fs⟩) (F1 (s1:=⟨[.val (.tup [.bl c,.tup (ps.map pt)]),.no,.no,.no],fs⟩) rfl (show 1<4 by decide)),
  i6 ((X5 (ds:=((nbs c ps).map prP)) (s1:=⟨[.val (.tup [.bl c,.tup (ps.map pt)]),.own ([(0:Rat)].map fr),.no,.no],fs⟩) (j9 rfl e)).trans lp)]
 exact o8 rfl
structure Lay (c:Bool) (ps:List Pt) (m:Nat) (S:Nat→Rat) (Q:Nat→Pt × Pt) (T:List Rat):Prop where
 m1:1≤m
 m9:m≤9
 nl:(nbs c ps).length=m
 len:T.length=m+1
 at_:∀ i,i≤m→T[i]? = some (S i)
 q:∀ i,i<m→(nbs c ps)[i]? = some (Q i)
 z:S 0=0
 up:∀ i,i<m→S i<S (i+1)
 sz:∀ i,i≤m→Sz 81 (S i)
 df:∀ i,i<m→Sz 90 (S (i+1) - S i)
 pz:∀ i,i<m→PtS 200 (Q i).1∧PtS 200 (Q i).2
 fst:ps[0]? = some (Q 0).1
 lst:c=true→ps[0]? = some (Q (m - 1)).2
theorem a9S:∀ (i:Nat) (ls:List Rat),(∀ r∈ls,Gf S9 r)→ls.length≤i→Gf (i*S9) (ls.foldl (· + ·) 0):=by
 have gen:∀ (ls:List Rat) (S:Rat) (k:Nat),Gf k S→(∀ r∈ls,Gf S9 r)→Gf (k+ls.length*S9) (ls.foldl (· + ·) S):=by
  intro ls
  induction ls with
  |nil=>intro S k h _;exact h.mono (by omega)
  |cons r l ih=>
   intro S k h hl
   have:=ih (S+r) (k+S9) (h.add (hl r (List.mem_cons_self ..))) fun x hx=>hl x (List.mem_cons_of_mem _ hx)
   rw[List.foldl_cons,List.length_cons]
   exact this.mono (by rw[Nat.add_mul];omega)
 intro i ls h hi
 refine(gen ls 0 0 ⟨0,by decide,by decide +kernel⟩ h).mono ?_
 rw[Nat.zero_add]
 exact Nat.mul_le_mul_right _ hi
theorem b1Z {α:Type}{c:Bool}{l:List α}{p:α × α}(h:(nbs c l)[0]? = some p):l[0]? = some p.1:=by
 unfold nbs at h
 cases c
 ·exact(List.getElem?_zip_eq_some.mp h).1
 ·exact(List.getElem?_zip_eq_some.mp h).1
theorem b4g {c:Bool}{ps:List Pt}(h:ExS c ps):∃ m S Q,Lay c ps m S Q (scn 0 ((nbs c ps).map lnR)):=by
 have hi:=h.hi
 have lo:=h.lo
 have nl:=a0t c ps
 have ne:=h.ne
 have hq:∀ i,i<(nbs c ps).length→(nbs c ps)[i]? = some ((nbs c ps).getD i ((0,0),(0,0))):=fun i hi=>by
  rw[List.getD_eq_getElem?_getD,List.getElem?_eq_getElem hi]
  rfl
 have hl:∀ i,i<(nbs c ps).length→exL ((nbs c ps).getD i ((0,0),(0,0))).1 ((nbs c ps).getD i ((0,0),(0,0))).2:=fun i hi=>h.ex _ (List.mem_of_getElem? (hq i hi))
 have hs:∀ i,i<(nbs c ps).length→((((nbs c ps).map lnR).take (i+1)).foldl (· + ·) 0:Rat)=(((nbs c ps).map lnR).take i).foldl (· + ·) 0+lnR ((nbs c ps).getD i ((0,0),(0,0))):=fun i hi=>by
  rw[List.take_add_one,List.foldl_append,List.getElem?_map,hq i hi]
  rfl
 refine⟨(nbs c ps).length,fun i=>(((nbs c ps).map lnR).take i).foldl (· + ·) 0,fun i=>(nbs c ps).getD i ((0,0),(0,0)),ne,by omega,rfl,?_,?_,hq,rfl,?_,?_,?_,?_,?_,?_⟩
 ·rw[a7v,List.length_map]
 ·intro i hi
  exact a3C _ 0 i (by rw[List.length_map];exact hi)
 ·intro i hi
  rw[hs i hi]
  have:=(a6E (hl i hi)).1
  grind
 ·intro i hi
  refine(a9S 9 (((nbs c ps).map lnR).take i) (fun r hr=>?_) (by rw[List.length_take];omega)).sz (by unfold S9 F5;decide)
  obtain⟨z,hz,rfl⟩:=List.mem_map.mp (List.mem_of_mem_take hr)
  exact(a6E (h.ex z hz)).2
 ·intro i hi
  have e:=hs i hi
  have e2:((((nbs c ps).map lnR).take (i+1)).foldl (· + ·) 0:Rat) - (((nbs c ps).map lnR).take i).foldl (· + ·) 0=lnR ((nbs c ps).getD i ((0,0),(0,0))):=by rw[e];grind
  rw[e2]
  exact(a0W (hl i hi)).2.1
 ·intro i hi
  obtain⟨a,b⟩:=a39 (List.mem_of_getElem? (hq i hi))
  exact⟨h.sz _ a,h.sz _ b⟩
 ·exact b1Z (hq 0 ne)
 ·intro hc
  subst hc
  obtain⟨a,ha⟩:∃ a,ps[0]? = some a:=⟨_,List.getElem?_eq_getElem lo⟩
  obtain⟨z,hz⟩:∃ z,ps[ps.length - 1]? = some z:=⟨_,List.getElem?_eq_getElem (by omega)⟩
  have e:=a60 ps a z ha hz
  rw[ha,e,List.length_append,List.length_singleton,Nat.add_sub_cancel,List.getD_eq_getElem?_getD,List.getElem?_append_right (Nat.le_refl _),Nat.sub_self]
  rfl
variable {c:Bool}{ps:List Pt}{m:Nat}{S:Nat→Rat}{Q:Nat→Pt × Pt}{T:List Rat}
theorem Lay.mono (L:Lay c ps m S Q T):∀ (j i:Nat),i≤j→j≤m→S i≤S j
 |0,i,h,_=>by
  have:i=0:=by omega
  subst this
  exact Rat.le_refl
 |j+1,i,h,hj=>by
  by_cases e:i=j+1
  ·subst e
   exact Rat.le_refl
  ·exact Rat.le_trans (L.mono j i (by omega) (by omega)) (Rat.le_of_lt (L.up j (by omega)))
def onL (S:Nat→Rat) (Q:Nat→Pt × Pt) (len:Rat) (n:Nat):Pt:=L7 (Q n).1 (Q n).2 ((len - S n) / (S (n+1) - S n))
def J4 (S:Nat→Rat) (Q:Nat→Pt × Pt) (len:Rat) (p0:Pt):Nat→Pt
 |0=>p0
 |i+1=>if S i<len then onL S Q len i else J4 S Q len p0 i
theorem a7F (a b:Pt):L7 a b 0=a:=by
 unfold L7
 rw[Rat.zero_mul,Rat.zero_mul,Rat.add_zero,Rat.add_zero]
theorem a5N (a b:Pt):L7 a b 1=b:=by
 unfold L7
 rw[Rat.one_mul,Rat.one_mul]
 have e1:a.1+(b.1 - a.1)=b.1:=by grind
 have e2:a.2+(b.2 - a.2)=b.2:=by grind
 rw[e1,e2]
theorem Lay.df_ne (L:Lay c ps m S Q T) {n:Nat}(hn:n<m):S (n+1) - S n≠0:=fun z=>by
 have:=L.up n hn
 grind
theorem a0g (L:Lay c ps m S Q T) {len:Rat}{n:Nat}(hn:n<m) (h:n=0∨S n<len) (h0:0≤len) (h2:len≤S (n+1)):J4 S Q len (Q 0).1 m=onL S Q len n:=by
 by_cases h3:S n<len
 ·have g:∀ i,n<i→i≤m→J4 S Q len (Q 0).1 i=onL S Q len n:=by
   intro i
   induction i with
   |zero=>intro z;omega
   |succ i ih=>
    intro h4 h5
    rw[J4]
    by_cases e:i=n
    ·subst e
     rw[if_pos h3]
    ·have:=L.mono i (n+1) (by omega) (by omega)
     rw[if_neg (fun z=>by grind),ih (by omega) (by omega)]
  exact g m hn (Nat.le_refl _)
 ·have hz:n=0:=by
   rcases h with h | h
   ·exact h
   ·exact absurd h h3
  subst hz
  have e0:len=0:=by have:=L.z;grind
  have g:∀ i,i≤m→J4 S Q len (Q 0).1 i=(Q 0).1:=by
   intro i
   induction i with
   |zero=>intro _;rfl
   |succ i ih=>
    intro h5
    have:=L.mono i 0 (by omega) (by omega)
    have:=L.z
    rw[J4,if_neg (fun z=>by grind),ih (by omega)]
  rw[g m (Nat.le_refl _)]
  unfold onL
  have e1:len - S 0=0:=by have:=L.z;grind
  have e2:(0:Rat) / (S (0+1) - S 0)=0:=by rw[Rat.div_def,Rat.zero_mul]
  rw[e1,e2,a7F]
theorem b50 (L:Lay c ps m S Q T) {n:Nat}(hn:n<m) (h2:S m≤S (n+1)):onL S Q (S m) n=(Q (m - 1)).2:=by
 have e:n=m - 1:=by
  by_cases z:n+1=m
  ·omega
  ·have a:=L.up (n+1) (by omega)
   have b:=L.mono m (n+1+1) (by omega) (Nat.le_refl _)
   have:S m<S m:=by grind
   exact absurd this Rat.lt_irrefl
 subst e
 have ne:=L.df_ne hn
 unfold onL
 have e2:m - 1+1=m:=by omega
 rw[e2] at ne ⊢
 have e3:(S m - S (m - 1)) / (S m - S (m - 1))=1:=a03 ne (Rat.one_mul _).symm
 rw[e3,a5N]
theorem Lay.sh_sz (L:Lay c ps m S Q T) {len:Rat}(hs:Sz 90 len) {n:Nat}(hn:n<m):Sz 262 ((len - S n) / (S (n+1) - S n)):=b5w (L.df_ne hn) (hs.sub (L.sz n (by omega))) (L.df n hn)
theorem Lay.fr_at (L:Lay c ps m S Q T) {i:Nat}(hi:i≤m):atI (T.map fr) (i:Int)=some (fr (S i)):=atN (by rw[List.getElem?_map,L.at_ i hi];rfl)
theorem Lay.fr_at1 (L:Lay c ps m S Q T) {i:Nat}(hi:i<m):atI (T.map fr) ((i:Int)+1)=some (fr (S (i+1))):=by
 rw[←Int.natCast_succ]
 exact L.fr_at hi
theorem Lay.pc_at (L:Lay c ps m S Q T) {i:Nat}(hi:i<m):((nbs c ps).map prP)[i]? = some (prP (Q i)):=by rw[List.getElem?_map,L.q i hi];rfl
abbrev V9:DFn:=a5j FBt FF FX FPc B4 FSt
abbrev plT:DT:=dTr (e7 B4 (a7 (dOp pIx (dL 2) (dOp p7 (dL 3) (dC (.int 1)))) (a7 (dV 1) a8)))
abbrev plS (Ln:D) (len:Rat) (TL:List D) (n:Nat) (fs:Option FS):DS:=⟨[.val Ln,.val (fr len),.val (.lst TL),.val (.int (n:Int)),.no,.no,.no],fs⟩
theorem a7L (L:Lay c ps m S Q T) (Ln:D) {len:Rat}(hs:Sz 90 len) (h1:len≤S m) (fs:Option FS):∀ (k n:Nat),m - n=k→n<m→(n=0∨S n<len) →
  ∃ n',n'<m∧(n'=0∨S n'<len)∧len≤S (n'+1)∧C5 plT (a7D FBt FF FX FPc B4 FSt) (plS Ln len (T.map fr) n fs)=some (.next,plS Ln len (T.map fr) n' fs)
 |0,n,hk,hn,_=>by omega
 |k+1,n,hk,hn,h=>by
  have b:=V7 (S (n+1)) len fs (L.sz (n+1) hn) hs (by decide)
  have a:=L.fr_at1 hn
  have t:plT (plS Ln len (T.map fr) n fs)=some (decide (S (n+1)<len),plS Ln len (T.map fr) n fs):=E7 (j9 (i5 (c7 rfl (c7 rfl rfl rfl) (B6 a)) (i5 rfl rfl)) b)
  by_cases q:S (n+1)<len
  ·rw[decide_eq_true q] at t
   have hm:n+1<m:=by
    by_cases z:n+1=m
    ·rw[z] at q
     have:len<len:=by grind
     exact absurd this Rat.lt_irrefl
    ·omega
   obtain⟨n',e1,e2,e3,e⟩:=a7L L Ln hs h1 fs k (n+1) (by omega) hm (.inr q)
   exact⟨n',e1,e2,e3,R7 t (l5 (c7 rfl rfl rfl) rfl) e⟩
  ·rw[decide_eq_false q] at t
   exact⟨n,hn,h,Rat.not_lt.mp q,Q3 t⟩
theorem a5B (L:Lay c ps m S Q T) (hl:ps.length≤9) (fs:Option FS) (e:FSt [.tup [.bl c,.tup (ps.map pt)]] fs=some (.lst (T.map fr),fs)) {len:Rat}(hs:Sz 90 len) (h1:len≤S m) :
  ∃ n,n<m∧(n=0∨S n<len)∧len≤S (n+1)∧V9 [.tup [.bl c,.tup (ps.map pt)],fr len] fs=some (pt (onL S Q len n),fs):=by
 obtain⟨n,hn,g1,g2,w⟩:=a7L L (.tup [.bl c,.tup (ps.map pt)]) hs h1 fs m 0 rfl L.m1 (.inl rfl)
 refine⟨n,hn,g1,g2,?_⟩
 have e2:=a5x (ps.map pt) c fs (by rw[List.length_map];exact Nat.le_trans (by omega:ps.length+1≤100) (by decide))
 rw[a14] at e2
 have i1:=L.fr_at (i:=n) (by omega)
 have i2:=L.fr_at1 hn
 have i3:atI ((nbs c ps).map prP) (n:Int)=some (prP (Q n)):=atN (L.pc_at hn)
 obtain⟨z1,z2⟩:=L.pz n hn
 have s1:=hs.sub (L.sz n (by omega))
 have s2:=L.df n hn
 have m1:=a4m len (S n) fs hs (L.sz n (by omega)) (by decide)
 have m2:=a4m (S (n+1)) (S n) fs (L.sz (n+1) hn) (L.sz n (by omega)) (by decide)
 have q0:=L.df_ne hn
 have q1:=a2v (p:=len - S n) q0
 have q2:=a1c (p:=len - S n) q0
 have sh:=L.sh_sz hs hn
 have bt:=b13 (Q n).1 (Q n).2 _ fs z1 z2 sh (by decide)
 unfold onL
 have f1:=a2w ((len - S n).num*(S (n+1) - S n).den) ((len - S n).den*(S (n+1) - S n).num) fs q2 (Bd.mul s1.den s2.num) (by decide)
 rw[q1] at f1
 have b1:=s1.num.bits (by decide)
 have b2:=s1.den.bits (by decide)
 have b3:=s2.num.bits (by decide)
 have b4:=s2.den.bits (by decide)
 refine m8 (s:=⟨[.val (D.tup [.bl c,.tup (ps.map pt)]),.val (fr len),.val (.lst (T.map fr)),.val (.int (n:Int)),.val (prP (Q n)),.val (fr (len - S n)),.val (fr (S (n+1) - S n))],fs⟩) ?_
 show a3K FBt FF FX FPc B4 FSt ⟨[.val (D.tup [.bl c,.tup (ps.map pt)]),.val (fr len),.no,.no,.no,.no,.no],fs⟩=_
 unfold a3K
 rw[i6 (s1:=⟨[.val (D.tup [.bl c,.tup (ps.map pt)]),.val (fr len),.val (.lst (T.map fr)),.no,.no,.no,.no],fs⟩) (l5 (j9 rfl e) rfl),
  i6 (s1:=plS (D.tup [.bl c,.tup (ps.map pt)]) len (T.map fr) 0 fs) (l5 rfl rfl),
  i6 w,
  i6 (s1:=⟨[.val (D.tup [.bl c,.tup (ps.map pt)]),.val (fr len),.val (.lst (T.map fr)),.val (.int (n:Int)),.val (prP (Q n)),.no,.no],fs⟩) (l5 (c7 (j9 rfl e2) rfl ((ixT ((nbs c ps).map prP) n).trans i3)) rfl),
  i6 (s1:=⟨[.val (D.tup [.bl c,.tup (ps.map pt)]),.val (fr len),.val (.lst (T.map fr)),.val (.int (n:Int)),.val (prP (Q n)),.val (fr (len - S n)),.no],fs⟩) (l5 (j9 (i5 rfl (i5 (c7 rfl rfl (B6 i1)) rfl)) m1) rfl),
  i6 (s1:=⟨[.val (D.tup [.bl c,.tup (ps.map pt)]),.val (fr len),.val (.lst (T.map fr)),.val (.int (n:Int)),.val (prP (Q n)),.val (fr (len - S n)),.val (fr (S (n+1) - S n))],fs⟩) (l5 (j9 (i5 (c7 rfl (c7 rfl rfl rfl) (B6 i2)) (i5 (c7 rfl rfl (B6 i1)) rfl)) m2) rfl)]
 exact o8 (j9 (i5 (c7 rfl rfl rfl) (i5 (c7 rfl rfl rfl) (i5 (j9 (i5 (c7 (c7 rfl rfl (D3 (len - S n))) (c7 rfl rfl (C2 (S (n+1) - S n))) (r8 b1 b4)) (i5 (c7 (c7 rfl rfl (C2 (len - S n))) (c7 rfl rfl (D3 (S (n+1) - S n))) (r8 b2 b3)) rfl)) f1) rfl))) bt)
abbrev WAt:DFn:=a5q t7 WBt WOv WMi J0
abbrev lAt:DM:=a1J t7 WBt WOv WMi J0
abbrev atT:D→DS→Option DS:=t9 2 (l7 (c9 4) (l7 (t9 2 (l7 (c9 5) (l7 (c9 6) u4))) u4))
abbrev atS (Ln:D) (TL:List D) (len:Rat) (p:Pt) (x4 x5 x6 x7:Sl) (fs:Option FS):DS:=⟨[.val Ln,.val (.lst TL),.val (fr len),.val (pt p),x4,x5,x6,x7],fs⟩
theorem b0s {f:DA}{t:D→DS→Option DS}{b:DM}{s s1:DS}{ds:List D}(h:f s=some ([.lst ds],s1)):a0N f t b s=u7 t b (M6 ds) s1:=by
 unfold a0N
 rw[h]
 rfl
theorem b0o (L:Lay c ps m S Q T) (Ln:D) {len:Rat}(hs:Sz 90 len) (p:Pt) (x7:Sl) (fs:Option FS) {i:Nat}(hi:i<m) :
  ∃ y7,lAt (atS Ln (T.map fr) len p (.val (.int (i:Int))) (.val (pt (Q i).1)) (.val (pt (Q i).2)) x7 fs)=some (.next,atS Ln (T.map fr) len (if S i<len then onL S Q len i else p) (.val (.int (i:Int))) (.val (pt (Q i).1)) (.val (pt (Q i).2)) y7 fs):=by
 have b:=Q9 (S i) len fs (L.sz i (by omega)) hs (by decide)
 have i1:=L.fr_at (i:=i) (by omega)
 have i2:=L.fr_at1 hi
 have t:dTr (e7 t7 (a7 (dOp pIx (dL 1) (dL 4)) (a7 (dV 2) a8))) (atS Ln (T.map fr) len p (.val (.int (i:Int))) (.val (pt (Q i).1)) (.val (pt (Q i).2)) x7 fs)=some (decide (S i<len),atS Ln (T.map fr) len p (.val (.int (i:Int))) (.val (pt (Q i).1)) (.val (pt (Q i).2)) x7 fs):=E7 (j9 (i5 (c7 rfl rfl (B6 i1)) (i5 rfl rfl)) b)
 show ∃ y7,a1J t7 WBt WOv WMi J0 _=_
 unfold a1J
 by_cases q:S i<len
 ·rw[decide_eq_true q] at t
  rw[if_pos q]
  obtain⟨z1,z2⟩:=L.pz i hi
  have s1:=hs.sub (L.sz i (by omega))
  have m1:=J8 len (S i) fs hs (L.sz i (by omega)) (by decide)
  have m2:=J8 (S (i+1)) (S i) fs (L.sz (i+1) hi) (L.sz i (by omega)) (by decide)
  have ov:=b3V _ _ fs s1 (L.df i hi) (L.df_ne hi) (by decide)
  have bt:=a91 (Q i).1 (Q i).2 _ fs z1 z2 (L.sh_sz hs hi) (by decide)
  refine⟨.val (fr (S (i+1) - S i)),?_⟩
  unfold onL
  rw[L8 t,i6 (s1:=atS Ln (T.map fr) len p (.val (.int (i:Int))) (.val (pt (Q i).1)) (.val (pt (Q i).2)) (.val (fr (S (i+1) - S i))) fs) (l5 (j9 (i5 (c7 rfl (c7 rfl rfl rfl) (B6 i2)) (i5 (c7 rfl rfl (B6 i1)) rfl)) m2) rfl)]
  exact l5 (j9 (i5 rfl (i5 rfl (i5 (j9 (i5 (j9 (i5 rfl (i5 (c7 rfl rfl (B6 i1)) rfl)) m1) (i5 rfl rfl)) ov) rfl))) bt) rfl
 ·rw[decide_eq_false q] at t
  rw[if_neg q]
  exact⟨x7,E5 t⟩
theorem b1s (L:Lay c ps m S Q T) (h1:1≤ps.length) (hl:ps.length≤9) (fs:Option FS) {len:Rat}(hs:Sz 90 len):WAt [.tup [.bl c,.tup (ps.map pt)],.lst (T.map fr),fr len] fs=some (pt (J4 S Q len (Q 0).1 m),fs):=by
 have e:=a8v (ps.map pt) c fs (by rw[List.length_map];exact h1) (by rw[List.length_map];exact hl)
 rw[a14] at e
 have f0:atI (ps.map pt) 0=some (pt (Q 0).1):=atN (i:=0) (by rw[List.getElem?_map,L.fst];rfl)
 obtain⟨s',lp,x4,x5,x6,x7,rfl⟩:=W3 (t:=atT) (b:=lAt) (fun i s=>∃ x4 x5 x6 x7,s=atS (.tup [.bl c,.tup (ps.map pt)]) (T.map fr) len (J4 S Q len (Q 0).1 i) x4 x5 x6 x7 fs) (M6 ((nbs c ps).map prP)) 0 (atS (.tup [.bl c,.tup (ps.map pt)]) (T.map fr) len (Q 0).1 .no .no .no .no fs) ⟨.no,.no,.no,.no,rfl⟩ (by
  rintro i d s hd ⟨x4,x5,x6,x7,rfl⟩
  rw[Nat.zero_add] at *
  have hi:i<m:=by
   have:=(List.getElem?_eq_some_iff.mp hd).1
   unfold M6 at this
   rw[List.length_map,List.length_zipIdx,List.length_map,L.nl] at this
   exact this
  rw[a6Q (L.pc_at hi)] at hd
  cases hd
  obtain⟨y7,e⟩:=b0o L (.tup [.bl c,.tup (ps.map pt)]) hs (J4 S Q len (Q 0).1 i) x7 fs hi
  exact⟨_,_,rfl,.inl e,_,_,_,_,rfl⟩)
 have en:(M6 ((nbs c ps).map prP)).length=m:=by
  unfold M6
  rw[List.length_map,List.length_zipIdx,List.length_map,L.nl]
 rw[Nat.zero_add,en] at lp
 refine m8 (s:=atS (.tup [.bl c,.tup (ps.map pt)]) (T.map fr) len (J4 S Q len (Q 0).1 m) x4 x5 x6 x7 fs) ?_
 show a4h t7 WBt WOv WMi J0 ⟨[.val (.tup [.bl c,.tup (ps.map pt)]),.val (.lst (T.map fr)),.val (fr len),.no,.no,.no,.no,.no],fs⟩=_
 unfold a4h
 rw[i6 (s1:=atS (.tup [.bl c,.tup (ps.map pt)]) (T.map fr) len (Q 0).1 .no .no .no .no fs) (l5 (c7 (c7 rfl rfl rfl) rfl ((ixT (ps.map pt) 0).trans f0)) rfl),
  i6 ((b0s (ds:=((nbs c ps).map prP)) (s1:=atS (.tup [.bl c,.tup (ps.map pt)]) (T.map fr) len (Q 0).1 .no .no .no .no fs) (i5 (j9 rfl e) rfl)).trans lp)]
 exact o8 rfl
end T
namespace T
open PySem L2 DL
structure In (M x:Rat):Prop where
 lo:0≤x
 hi:x≤M
 sz:Sz 90 x
variable {c:Bool}{ps:List Pt}{m:Nat}{S:Nat→Rat}{Q:Nat→Pt × Pt}{T:List Rat}
theorem Lay.in_ (L:Lay c ps m S Q T) {i:Nat}(hi:i≤m):In (S m) (S i):=by
 have a:=L.mono i 0 (by omega) hi
 rw[L.z] at a
 exact⟨a,L.mono m i hi (Nat.le_refl _),(L.sz i hi).mono (by decide)⟩
theorem Lay.lst_at (L:Lay c ps m S Q T):atI (T.map fr) (-1)=some (fr (S m)):=a8N (by rw[L.len,Nat.add_sub_cancel];exact L.at_ m (Nat.le_refl _))
end T
namespace T
open PySem L2 DL
variable {c:Bool}{ps:List Pt}{m:Nat}{S:Nat→Rat}{Q:Nat→Pt × Pt}{T:List Rat}
abbrev atL (S:Nat→Rat) (Q:Nat→Pt × Pt) (m:Nat) (len:Rat):Pt:=J4 S Q len (Q 0).1 m
theorem a6L (L:Lay c ps m S Q T) (hl:ps.length≤9) (fs:Option FS) (e:FSt [.tup [.bl c,.tup (ps.map pt)]] fs=some (.lst (T.map fr),fs)) {len:Rat}(h:In (S m) len):V9 [.tup [.bl c,.tup (ps.map pt)],fr len] fs=some (pt (atL S Q m len),fs):=by
 obtain⟨n,hn,g1,g2,q⟩:=a5B L hl fs e h.sz h.hi
 rw[←a0g L hn g1 h.lo g2] at q
 exact q
def V3 (b e:Rat) (z:Pt × Rat):Bool:=decide (b<z.2)&&decide (z.2<e)
def A7 (b e:Rat) (Z:List (Pt × Rat)):List Pt:=(Z.filter (V3 b e)).map (·.1)
theorem b0U (b e:Rat) (Z:List (Pt × Rat)) (z:Pt × Rat):A7 b e (Z++[z])=A7 b e Z++(if V3 b e z then [z.1] else []):=by
 unfold A7
 rw[List.filter_append,List.map_append]
 cases h:V3 b e z
 ·rw[List.filter_cons_of_neg (by rw[h];decide)];simp
 ·rw[List.filter_cons_of_pos h];simp
theorem a9A {b e:Rat}{Z:List (Pt × Rat)}{i:Nat}{z:Pt × Rat}(h:Z[i]? = some z):A7 b e (Z.take (i+1))=A7 b e (Z.take i)++(if V3 b e z then [z.1] else []):=by
 rw[List.take_add_one,h]
 exact b0U ..
theorem a2o (b e:Rat) (Z:List (Pt × Rat)):(A7 b e Z).length≤Z.length:=by
 unfold A7
 rw[List.length_map]
 exact List.length_filter_le ..
theorem a9s {b e:Rat}{Z:List (Pt × Rat)}{p:Pt}(h:p∈A7 b e Z):∃ z∈Z,z.1=p:=by
 unfold A7 at h
 obtain⟨z,hz,rfl⟩:=List.mem_map.mp h
 exact⟨z,(List.mem_filter.mp hz).1,rfl⟩
theorem a9J {A:List Pt}{b e:Rat}{Z:List (Pt × Rat)}{i:Nat}{z:Pt × Rat}(h:Z[i]? = some z):(A++A7 b e (Z.take (i+1))).map pt=(A++A7 b e (Z.take i)).map pt++(if V3 b e z then [pt z.1] else []):=by
 rw[a9A h]
 cases V3 b e z <;> simp
abbrev FPo:DFn:=a2G V9 B4 FSt
abbrev poS (Ln:D) (b e:Rat) (A:List Pt) (x4 x5:Sl) (fs:Option FS):DS:=⟨[.val Ln,.val (fr b),.val (fr e),.own (A.map pt),x4,x5],fs⟩
theorem b5l (Ln:D) {b e:Rat}(hb:Sz 90 b) (he:Sz 90 e) (A:List Pt) {Z:List (Pt × Rat)}{i:Nat}{z:Pt × Rat}(h:Z[i]? = some z) (hz:Sz 81 z.2) (hl:(A++A7 b e (Z.take i)).length≤50) (fs:Option FS) :
  a1A V9 B4 FSt (poS Ln b e (A++A7 b e (Z.take i)) (.val (pt z.1)) (.val (fr z.2)) fs)=some (.next,poS Ln b e (A++A7 b e (Z.take (i+1))) (.val (pt z.1)) (.val (fr z.2)) fs):=by
 have b1:=V7 b z.2 fs hb hz (by decide)
 have b2:=V7 z.2 e fs hz he (by decide)
 have ap:=a9J (A:=A) (b:=b) (e:=e) h
 have ll:((A++A7 b e (Z.take i)).map pt).length<sizeLine:=Nat.lt_of_le_of_lt (by rw[List.length_map];exact hl) (show 50<sizeLine by decide)
 unfold poS
 rw[ap]
 unfold a1A
 have t1:dTr (e7 B4 (a7 (dV 1) (a7 (dV 5) a8))) ⟨[.val Ln,.val (fr b),.val (fr e),.own ((A++A7 b e (Z.take i)).map pt),.val (pt z.1),.val (fr z.2)],fs⟩=some (decide (b<z.2),⟨[.val Ln,.val (fr b),.val (fr e),.own ((A++A7 b e (Z.take i)).map pt),.val (pt z.1),.val (fr z.2)],fs⟩):=E7 (j9 rfl b1)
 have t2:dTr (e7 B4 (a7 (dV 5) (a7 (dV 2) a8))) ⟨[.val Ln,.val (fr b),.val (fr e),.own ((A++A7 b e (Z.take i)).map pt),.val (pt z.1),.val (fr z.2)],fs⟩=some (decide (z.2<e),⟨[.val Ln,.val (fr b),.val (fr e),.own ((A++A7 b e (Z.take i)).map pt),.val (pt z.1),.val (fr z.2)],fs⟩):=E7 (j9 rfl b2)
 unfold V3
 cases q1:decide (b<z.2) with
 |false=>
  rw[q1] at t1
  rw[E5 (X6 t1)]
  simp
 |true=>
  rw[q1] at t1
  cases q2:decide (z.2<e) with
  |false=>
   rw[q2] at t2
   rw[E5 (P8 t1 t2)]
   simp
  |true=>
   rw[q2] at t2
   rw[L8 (P8 t1 t2)]
   exact Q7 (s1:=⟨[.val Ln,.val (fr b),.val (fr e),.own ((A++A7 b e (Z.take i)).map pt),.val (pt z.1),.val (fr z.2)],fs⟩) (ds:=((A++A7 b e (Z.take i)).map pt)) (ds0:=((A++A7 b e (Z.take i)).map pt)) (d:=pt z.1) rfl rfl rfl ll
theorem b0E {f:DA}{t:D→DS→Option DS}{b:DM}{s s1:DS}{xs ys:List D}(h:f s=some ([.tup xs,.lst ys],s1)):X0 f t b s=u7 t b (List.zipWith F4 xs ys) s1:=by
 unfold X0
 rw[h]
 rfl
theorem a2f:∀ (ps:List Pt) (T:List Rat),List.zipWith F4 (ps.map pt) (T.map fr)=(ps.zip T).map fun z=>.tup [pt z.1,fr z.2]
 |[],_=>rfl
 |_::_,[]=>rfl
 |p::r,s::l=>by
  rw[List.map_cons,List.map_cons,List.zipWith_cons_cons,a2f r l,List.zip_cons_cons,List.map_cons]
  rfl
abbrev M8 (A:List Pt):D:=.tup [.bl false,.tup (A.map pt)]
abbrev P6 (S:Nat→Rat) (Q:Nat→Pt × Pt) (m:Nat) (Z:List (Pt × Rat)) (b e:Rat):List Pt:=([atL S Q m b]++A7 b e Z)++[atL S Q m e]
theorem a3f (L:Lay c ps m S Q T) {i:Nat}{z:Pt × Rat}(h:(ps.zip T)[i]? = some z):ps[i]? = some z.1∧i≤m∧z.2=S i:=by
 obtain⟨h1,h2⟩:=List.getElem?_zip_eq_some.mp h
 have hi:i≤m:=by
  have:=(List.getElem?_eq_some_iff.mp h2).1
  rw[L.len] at this
  omega
 rw[L.at_ i hi] at h2
 exact⟨h1,hi,(Option.some.inj h2).symm⟩
theorem a9m (A:List Pt) (p:Pt):(A++[p]).map pt=A.map pt++[pt p]:=by simp
theorem b3Z (L:Lay c ps m S Q T) (hl:ps.length≤9) (fs:Option FS) (e0:FSt [.tup [.bl c,.tup (ps.map pt)]] fs=some (.lst (T.map fr),fs)) {b e:Rat}(hb:In (S m) b) (he:In (S m) e) :
  FPo [.tup [.bl c,.tup (ps.map pt)],fr b,fr e] fs=some (M8 (P6 S Q m (ps.zip T) b e),fs):=by
 have p1:=a6L L hl fs e0 hb
 have p2:=a6L L hl fs e0 he
 have zl:(ps.zip T).length≤9:=by rw[List.length_zip];omega
 obtain⟨s',lp,x4,x5,rfl⟩:=W3 (t:=t9 2 (l7 (c9 4) (l7 (c9 5) u4))) (b:=a1A V9 B4 FSt) (fun i s=>∃ x4 x5,s=poS (.tup [.bl c,.tup (ps.map pt)]) b e ([atL S Q m b]++A7 b e ((ps.zip T).take i)) x4 x5 fs) (List.zipWith F4 (ps.map pt) (T.map fr)) 0 (poS (.tup [.bl c,.tup (ps.map pt)]) b e ([atL S Q m b]++A7 b e ((ps.zip T).take 0)) .no .no fs) ⟨.no,.no,rfl⟩ (by
  rintro i d s hd ⟨x4,x5,rfl⟩
  rw[Nat.zero_add] at *
  rw[a2f,List.getElem?_map] at hd
  obtain⟨z,hz,rfl⟩:=Option.map_eq_some_iff.mp hd
  obtain⟨_,hi,zz⟩:=a3f L hz
  have sl:=a2o b e ((ps.zip T).take i)
  have e:=b5l (.tup [.bl c,.tup (ps.map pt)]) hb.sz he.sz [atL S Q m b] hz (by rw[zz];exact L.sz i hi) (by rw[List.length_append,List.length_singleton];rw[List.length_take] at sl;omega) fs
  exact⟨_,_,rfl,.inl e,_,_,rfl⟩)
 rw[Nat.zero_add,a2f,List.length_map,List.take_of_length_le (Nat.le_refl _),←a2f] at lp
 have sl:=a2o b e (ps.zip T)
 have ll:(([atL S Q m b]++A7 b e (ps.zip T)).map pt).length<sizeLine:=Nat.lt_of_le_of_lt (by rw[List.length_map,List.length_append,List.length_singleton];omega) (show 50<sizeLine by decide)
 have i0:D6 3 (u9 (a7 (e7 V9 (a7 (dV 0) (a7 (dV 1) a8))) a8)) ⟨[.val (.tup [.bl c,.tup (ps.map pt)]),.val (fr b),.val (fr e),.no,.no,.no],fs⟩=some (.next,poS (.tup [.bl c,.tup (ps.map pt)]) b e ([atL S Q m b]++A7 b e ((ps.zip T).take 0)) .no .no fs):=
  F1 (s1:=⟨[.val (.tup [.bl c,.tup (ps.map pt)]),.val (fr b),.val (fr e),.no,.no,.no],fs⟩) (a4A (j9 rfl p1)) (show 3<6 by decide)
 unfold M8 P6
 rw[a9m]
 unfold poS at lp
 refine m8 (s:=⟨[.val (.tup [.bl c,.tup (ps.map pt)]),.val (fr b),.val (fr e),.own ((([atL S Q m b]++A7 b e (ps.zip T)).map pt)++[pt (atL S Q m e)]),x4,x5],fs⟩) ?_
 show a3r V9 B4 FSt ⟨[.val (.tup [.bl c,.tup (ps.map pt)]),.val (fr b),.val (fr e),.no,.no,.no],fs⟩=_
 unfold a3r
 rw[i6 i0,i6 ((b0E (xs:=ps.map pt) (ys:=T.map fr) (s1:=poS (.tup [.bl c,.tup (ps.map pt)]) b e ([atL S Q m b]++A7 b e ((ps.zip T).take 0)) .no .no fs) (i5 (c7 rfl rfl rfl) (i5 (j9 rfl e0) rfl))).trans lp),
  i6 (s1:=⟨[.val (.tup [.bl c,.tup (ps.map pt)]),.val (fr b),.val (fr e),.own ((([atL S Q m b]++A7 b e (ps.zip T)).map pt)++[pt (atL S Q m e)]),x4,x5],fs⟩) (Q7 (s1:=⟨[.val (.tup [.bl c,.tup (ps.map pt)]),.val (fr b),.val (fr e),.own (([atL S Q m b]++A7 b e (ps.zip T)).map pt),x4,x5],fs⟩) rfl (j9 rfl p2) rfl ll)]
 exact o8 (w9 rfl (F3 (p:=G8) rfl rfl))
end T
namespace T
open PySem L2 DL
variable {c:Bool}{ps:List Pt}{m:Nat}{S:Nat→Rat}{Q:Nat→Pt × Pt}{T:List Rat}
theorem pll (L:Lay c ps m S Q T) (fs:Option FS) (e:FSt [.tup [.bl c,.tup (ps.map pt)]] fs=some (.lst (T.map fr),fs)):FLl [.tup [.bl c,.tup (ps.map pt)]] fs=some (fr (S m),fs):=
 m8 (s:=⟨[.val (.tup [.bl c,.tup (ps.map pt)])],fs⟩) (o8 (c7 (j9 rfl e) rfl (B6 L.lst_at)))
end T
namespace T
open PySem L2 DL
abbrev Asc (X:List Rat):Prop:=X.Pairwise (· < ·)
def inB (u v x:Rat):Bool:=decide (u<x)&&decide (x<v)
def sbt (X:List Rat) (u v:Rat):List Rat:=u::(X.filter (inB u v)++[v])
theorem inB_iff {u v x:Rat}:inB u v x=true↔u<x∧x<v:=by
 unfold inB
 rw[Bool.and_eq_true,decide_eq_true_iff,decide_eq_true_iff]
theorem b0W {u v x:Rat}(h:¬ (u<x∧x<v)):¬ inB u v x=true:=fun z=>h (inB_iff.mp z)
theorem a82 {A B:List Rat}(ha:Asc A) (hb:Asc B) (h:∀ x∈A,∀ y∈B,x<y):Asc (A++B):=List.pairwise_append.mpr ⟨ha,hb,h⟩
theorem b5h {X:List Rat}(h:Asc X) {u v:Rat}(huv:u<v):Asc (sbt X u v):=by
 refine List.pairwise_cons.mpr ⟨fun x hx=>?_,a82 (h.filter _) (List.pairwise_singleton ..) fun x hx y hy=>?_⟩
 ·rcases List.mem_append.mp hx with z | z
  ·exact(inB_iff.mp (List.mem_filter.mp z).2).1
  ·rw[List.mem_singleton.mp z]
   exact huv
 ·rw[List.mem_singleton.mp hy]
  exact(inB_iff.mp (List.mem_filter.mp hx).2).2
theorem a4S {X:List Rat}{u v x:Rat}(huv:u<v) (h:x∈sbt X u v):(x=u∨x=v∨x∈X)∧u≤x∧x≤v:=by
 rcases List.mem_cons.mp h with rfl | z
 ·exact⟨.inl rfl,Rat.le_refl,Rat.le_of_lt huv⟩
 ·rcases List.mem_append.mp z with z | z
  ·obtain⟨a,b⟩:=List.mem_filter.mp z
   have:=inB_iff.mp b
   exact⟨.inr (.inr a),Rat.le_of_lt this.1,Rat.le_of_lt this.2⟩
  ·rw[List.mem_singleton.mp z]
   exact⟨.inr (.inl rfl),Rat.le_of_lt huv,Rat.le_refl⟩
theorem b3p {X:List Rat}{u v s:Rat}(hs:s∈X) (h1:u<s) (h2:s<v):s∈sbt X u v:=List.mem_cons_of_mem _ (List.mem_append_left _ (List.mem_filter.mpr ⟨hs,inB_iff.mpr ⟨h1,h2⟩⟩))
theorem a2u {Y:List Rat}(h:Asc Y) {i j:Nat}{x y:Rat}(hx:Y[i]? = some x) (hy:Y[j]? = some y) (hij:i<j):x<y:=by
 obtain⟨a,rfl⟩:=List.getElem?_eq_some_iff.mp hx
 obtain⟨b,rfl⟩:=List.getElem?_eq_some_iff.mp hy
 exact List.pairwise_iff_getElem.mp h i j a b hij
theorem b3q {Y:List Rat}(h:Asc Y) {j:Nat}{x y s:Rat}(hx:Y[j]? = some x) (hy:Y[j+1]? = some y) (hs:s∈Y):¬ (x<s∧s<y):=fun hQ__=>by
 obtain⟨a,b⟩:=hQ__
 obtain⟨k,hk⟩:=List.getElem?_of_mem hs
 rcases Nat.lt_trichotomy k j with z | z | z
 ·have:=a2u h hk hx z
  grind
 ·subst z
  rw[hk] at hx
  cases hx
  grind
 ·rcases Nat.lt_trichotomy k (j+1) with w | w | w
  ·omega
  ·subst w
   rw[hk] at hy
   cases hy
   grind
  ·have:=a2u h hy hk w
   grind
theorem b1z {X:List Rat}(h:Asc X) {u v:Rat}(huv:u<v) {j:Nat}{x y:Rat}(hx:(sbt X u v)[j]? = some x) (hy:(sbt X u v)[j+1]? = some y):u≤x∧x<y∧y≤v∧∀ s∈X,¬ (x<s∧s<y):=by
 have a:=b5h h huv
 have mx:=a4S huv (List.mem_of_getElem? hx)
 have my:=a4S huv (List.mem_of_getElem? hy)
 refine⟨mx.2.1,a2u a hx hy (Nat.lt_succ_self j),my.2.2,fun s hs z=>?_⟩
 exact b3q a hx hy (b3p hs (by have:=mx.2.1;grind) (by have:=my.2.2;grind)) z
variable {m:Nat}{S:Nat→Rat}{p D:Nat→Pt}{X:List Rat}
end T
namespace T
open PySem L2 DL
def tw (M:Rat) (k:Int):Rat:=M*Rat.divInt k 24
theorem K8 (M:Rat) (k:Int):tw M k=M*((k:Rat) / 24):=by
 unfold tw
 rw[Rat.divInt_eq_div]
 rfl
theorem V2 (M:Rat) (a b:Int):tw M a+tw M b=tw M (a+b):=by
 rw[K8,K8,K8,Rat.intCast_add]
 grind
theorem U6 (M:Rat) (a b:Int):tw M a - tw M b=tw M (a - b):=by
 rw[K8,K8,K8,Rat.intCast_sub]
 grind
theorem J6 (M:Rat):tw M 0=0:=by
 rw[K8]
 grind
theorem X3 (M:Rat):tw M 24=M:=by
 rw[K8]
 have:((24:Int):Rat) / 24=1:=by decide +kernel
 rw[this,Rat.mul_one]
theorem D8 {M:Rat}(h:0<M) (a b:Int):tw M a<tw M b↔a<b:=by
 have e:tw M b - tw M a=M*(((b - a:Int):Rat) / 24):=by rw[U6,K8]
 constructor
 ·intro z
  have:0<M*(((b - a:Int):Rat) / 24):=by rw[←e];grind
  have:0<((b - a:Int):Rat) / 24:=(Rat.mul_pos_iff_of_pos_left h).mp this
  have:(0:Rat)<((b - a:Int):Rat):=by grind
  have:=Rat.intCast_pos.mp this
  omega
 ·intro z
  have:(0:Rat)<((b - a:Int):Rat):=Rat.intCast_pos.mpr (by omega)
  have:0<M*(((b - a:Int):Rat) / 24):=Rat.mul_pos h (by grind)
  rw[←e] at this
  grind
theorem a6s {M:Rat}(h:0<M) {a b:Int}(hab:a≤b):tw M a≤tw M b:=by
 refine Rat.not_lt.mp fun z=>?_
 have:=(D8 h b a).mp z
 omega
theorem w6 {M:Rat}{k:Int}(h:Sz 81 M) (hk:k.natAbs<128):Sz 88 (tw M k):=h.mul (Sz.of_divInt (k:=7) (by decide) hk (by decide))
theorem b0M (M:Rat) {a b o:Int}(hb:b≠0) (h:a*24=o*b):M*Rat.divInt a b=tw M o:=by
 unfold tw
 rw[(Rat.divInt_eq_divInt_iff hb (by decide)).mpr h]
theorem a8w {M:Rat}(h:Sz 81 M) {a b o:Int}(fs:Option FS) (ha:a.natAbs<128) (hb:b.natAbs<128) (hb0:b≠0) (e:a*24=o*b):WPr [fr M,.tup [.int a,.int b]] fs=some (fr (tw M o),fs):=by
 have pr:=P2 M.num M.den a b fs (E1 _) hb0 h.num h.den (show Bd 7 a from ha) (show Bd 7 b from hb) (by decide)
 have e1:Rat.divInt (M.num*a) (M.den*b)=tw M o:=by
  rw[←b0M M hb0 e]
  conv=>rhs;rw[S8 M]
  rw[Rat.divInt_mul_divInt]
 rw[e1] at pr
 exact pr
abbrev WSh:DFn:=a4g WPr LDw
abbrev shE:DE:=e7 WPr (a7 (dV 1) (a7 (j6 (a7 (dOp p7 (dC (.int 1)) (e7 LDw (a7 (dV 2) (a7 (dC (.int 5)) a8)))) (a7 (dC (.int 24)) a8))) a8))
theorem a9Y {M:Rat}(hM:Sz 81 M):∀ (ds:List D) (n:Nat) (f:FS),Fd3 n f→n+ds.length<2 ^ 30→∃ (ks:List Int) (f':FS),A0 (fun d=>some (.val d::[.val (fr M),.val .feed])) B7 shE ds (some f)=some ((ks.map (tw M)).map fr,some f')∧ks.length=ds.length∧(∀ k∈ks,1≤k∧k≤5)∧Fd3 (n+ds.length) f':=by
 intro ds
 induction ds with
 |nil=>exact fun n f h _=>⟨[],f,rfl,rfl,(fun k hk=>by cases hk),h⟩
 |cons d r ih=>
  intro n f h hn
  rw[List.length_cons] at hn
  obtain⟨x,f1,e1,a1,a2,h1⟩:=F8 5 h
  obtain⟨ks,f',e,kl,kb,h'⟩:=ih (n+1) f1 h1 (by omega)
  refine⟨(1+x)::ks,f',?_,by rw[List.length_cons,List.length_cons,kl],?_,by rw[List.length_cons];exact h'.mono (by omega)⟩
  ·have pr:=a8w hM (some f1) (a:=1+x) (b:=24) (o:=1+x) (by omega) (by decide) (by decide) rfl
   have el:shE ⟨.val d::[.val (fr M),.val .feed],some f⟩=some (fr (tw M (1+x)),⟨.val d::[.val (fr M),.val .feed],some f1⟩):=a8r (sl':=.val d::[.val (fr M),.val .feed]) (i5 rfl (i5 (w9 (c7 rfl (v5 rfl e1) rfl) rfl) rfl)) pr
   rw[A0,Option.bind_some,show B7 ⟨.val d::[.val (fr M),.val .feed],some f⟩=some (true,⟨.val d::[.val (fr M),.val .feed],some f⟩) from rfl,Option.bind_some,if_pos rfl,el,Option.bind_some,e]
   rfl
  ·intro k hk
   rcases List.mem_cons.mp hk with z | z
   ·omega
   ·exact kb k z
def sh5:List (Int × Int):=[(0,1),(1,2),(1,24),(5,6),(1,3)]
theorem b5K:(sh5.all fun z=>decide (0≤z.1∧0<z.2∧z.1.natAbs<128∧z.2.natAbs<128∧z.1*24=(z.1*24 / z.2)*z.2∧0≤z.1*24 / z.2∧z.1*24 / z.2≤20))=true:=by decide +kernel
theorem b0z {M:Rat}(hM:Sz 81 M) {n:Nat}{f:FS}(h:Fd3 n f) (hn:n<2 ^ 28):∃ (ks:List Int) (o:Int) (f':FS),WSh [.feed,fr M] (some f)=some (.tup [.tup ((ks.map (tw M)).map fr),fr (tw M o)],some f')∧2≤ks.length∧ks.length≤6∧(∀ k∈ks,1≤k∧k≤5)∧0≤o∧o≤20∧Fd3 (n+8) f'∧ks.length % 2=0:=by
 obtain⟨r1,f1,e1,a1,a2,h1⟩:=F8 4 h
 obtain⟨x,hx,q1⟩:=Q8 (xs:=[D.int 2,.int 4,.int 2,.int 6]) a1 a2
 obtain⟨y,hy,rfl⟩:=List.mem_map.mp (show x∈[(2:Nat),4,2,6].map (fun (z:Nat)=>D.int (z:Int)) from hx)
 have hy2:2≤y∧y≤6∧y % 2=0:=of_decide_eq_true (List.all_eq_true.mp (show ([(2:Nat),4,2,6].all fun y=>decide (2≤y∧y≤6∧y % 2=0))=true by decide) y hy)
 obtain⟨ks,f2,e2,kl,kb,h2⟩:=a9Y hM (ups 0 y) (n+1) f1 h1 (by rw[M7];omega)
 rw[M7] at kl h2
 obtain⟨r3,f3,e3,b1,b2,h3⟩:=F8 5 h2
 obtain⟨w,hw,q3⟩:=Q8 (xs:=sh5.map fun z=>D.tup [.int z.1,.int z.2]) b1 b2
 obtain⟨z,hz,rfl⟩:=List.mem_map.mp hw
 obtain⟨z0,z1,z2,z3,z4,z5,z6⟩:=of_decide_eq_true (List.all_eq_true.mp b5K z hz)
 have pr:=a8w hM (some f3) z2 z3 (by omega) z4
 generalize z.1*24 / z.2=o at *
 refine⟨ks,o,f3,m8 (s:=⟨[.val .feed,.val (fr M),.val (.int (y:Int)),.val (.tup ((ks.map (tw M)).map fr)),.val (.tup [.int z.1,.int z.2])],some f3⟩) ?_,by omega,by omega,kb,z5,z6,h3.mono (by omega),by omega⟩
 show a4F WPr LDw ⟨[.val .feed,.val (fr M),.no,.no,.no],some f⟩=_
 unfold a4F
 have rg:N9 (a7 (dV 2) a8) ⟨[.val .feed,.val (fr M),.val (.int (y:Int)),.no,.no],some f1⟩=some (ups 0 y,⟨[.val .feed,.val (fr M),.val (.int (y:Int)),.no,.no],some f1⟩):=by
  unfold N9
  rw[show (a7 (dV 2) a8) ⟨[.val .feed,.val (fr M),.val (.int (y:Int)),.no,.no],some f1⟩=some ([.int (y:Int)],⟨[.val .feed,.val (fr M),.val (.int (y:Int)),.no,.no],some f1⟩) from rfl,Option.bind_some,V8 (by omega)]
  rfl
 have cm:F7 [1,0] (N9 (a7 (dV 2) a8)) B7 shE ⟨[.val .feed,.val (fr M),.val (.int (y:Int)),.no,.no],some f1⟩=some ((ks.map (tw M)).map fr,⟨[.val .feed,.val (fr M),.val (.int (y:Int)),.no,.no],some f2⟩):=by
  unfold F7
  rw[rg,Option.bind_some,if_pos (O0 (by rw[M7];omega))]
  show (A0 (fun d=>some (.val d::[.val (fr M),.val .feed])) B7 shE (ups 0 y) (some f1)).map _=_
  rw[e2]
  rfl
 rw[i6 (s1:=⟨[.val .feed,.val (fr M),.val (.int (y:Int)),.no,.no],some f1⟩) (l5 (c7 (x:=.lst [D.int 2,.int 4,.int 2,.int 6]) (s1:=⟨[.val .feed,.val (fr M),.no,.no,.no],some f⟩) (C9 rfl) (v5 rfl e1) (B6 q1)) rfl),
  i6 (s1:=⟨[.val .feed,.val (fr M),.val (.int (y:Int)),.val (.tup ((ks.map (tw M)).map fr)),.no],some f2⟩) (l5 (F3 (p:=G8) (C9 cm) rfl) rfl),
  i6 (s1:=⟨[.val .feed,.val (fr M),.val (.int (y:Int)),.val (.tup ((ks.map (tw M)).map fr)),.val (.tup [.int z.1,.int z.2])],some f3⟩) (l5 (c7 (x:=.lst (sh5.map fun z=>D.tup [.int z.1,.int z.2])) (s1:=⟨[.val .feed,.val (fr M),.val (.int (y:Int)),.val (.tup ((ks.map (tw M)).map fr)),.no],some f2⟩) (C9 rfl) (v5 rfl e3) (B6 q3)) rfl)]
 exact o8 (w9 rfl (j9 rfl pr))
theorem a7j {α:Type}{idx:List Nat}{sl:List Sl}{fe:DE}(fs:Option FS) (A B G:α→D):∀ l:List α,(∀ z∈l,fe ⟨.val (A z) :: .val (B z)::D4 idx sl,fs⟩=some (G z,⟨.val (A z) :: .val (B z)::D4 idx sl,fs⟩))→A0 (mk2 idx sl) B7 fe (l.map fun z=>.tup [A z,B z]) fs=some (l.map G,fs):=by
 intro l
 induction l with
 |nil=>exact fun _=>rfl
 |cons z r ih=>
  intro h
  have e:=h z (List.mem_cons_self ..)
  have ih:=ih fun y hy=>h y (List.mem_cons_of_mem _ hy)
  rw[List.map_cons,A0,show mk2 idx sl (.tup [A z,B z])=some (.val (A z) :: .val (B z)::D4 idx sl) from rfl,Option.bind_some,
   show B7 ⟨.val (A z) :: .val (B z)::D4 idx sl,fs⟩=some (true,⟨.val (A z) :: .val (B z)::D4 idx sl,fs⟩) from rfl,Option.bind_some,if_pos rfl,e,Option.bind_some,ih]
  rfl
abbrev FSo:DFn:=a10 FP
abbrev FFb:DFn:=a1G FX FT FSo
abbrev FGt:DFn:=a1T B4
abbrev FLs:DFn:=a1R B4
abbrev FMl:DFn:=a1O B4 FLs FGt FP FFb FLl
abbrev FMo:DFn:=a2q FMl FPo
theorem b40 {M:Rat}(hM:Sz 81 M) (P:Sl) (fs:Option FS):∀ (ks:List Int) (a:Int) (x2:Sl),(∀ k∈ks,1≤k∧k≤5)→0≤a→a+5*ks.length<100→∃ y2,u7 (c9 2) (a8K FP) ((ks.map (tw M)).map fr) ⟨[P,.val (fr (tw M a)),x2],fs⟩=some (.next,⟨[P,.val (fr (tw M (a+ks.sum))),y2],fs⟩):=by
 intro ks
 induction ks with
 |nil=>exact fun a x2 _ _ _=>⟨x2,by rw[List.sum_nil,Int.add_zero];rfl⟩
 |cons k r ih=>
  intro a x2 hk h0 h1
  rw[List.length_cons] at h1
  have k1:=hk k (List.mem_cons_self ..)
  obtain⟨y2,e⟩:=ih (a+k) (.val (fr (tw M k))) (fun z hz=>hk z (List.mem_cons_of_mem _ hz)) (by omega) (by omega)
  refine⟨y2,?_⟩
  have p:=a1U (tw M a) (tw M k) fs (w6 hM (by omega)) (w6 hM (by omega)) (by decide)
  rw[V2] at p
  rw[List.sum_cons,←Int.add_assoc,List.map_cons,List.map_cons,K6 (s1:=⟨[P,.val (fr (tw M a)),.val (fr (tw M k))],fs⟩) rfl (l5 (j9 rfl p) rfl)]
  exact e
theorem U8:∀ ks:List Int,(∀ k∈ks,1≤k∧k≤5)→(ks.length:Int)≤ks.sum∧ks.sum≤5*ks.length:=by
 intro ks
 induction ks with
 |nil=>exact fun _=>⟨by decide,by decide⟩
 |cons k r ih=>
  intro h
  have k1:=h k (List.mem_cons_self ..)
  have:=ih fun z hz=>h z (List.mem_cons_of_mem _ hz)
  rw[List.sum_cons,List.length_cons]
  omega
theorem b3s {M:Rat}(hM:Sz 81 M) (fs:Option FS) {ks:List Int}(hk:∀ k∈ks,1≤k∧k≤5) (hl:ks.length≤6):FSo [.tup ((ks.map (tw M)).map fr)] fs=some (fr (tw M ks.sum),fs):=by
 obtain⟨y2,lp⟩:=b40 hM (.val (.tup ((ks.map (tw M)).map fr))) fs ks 0 .no hk (by decide) (by omega)
 rw[Int.zero_add,J6] at lp
 refine m8 (s:=⟨[.val (.tup ((ks.map (tw M)).map fr)),.val (fr (tw M ks.sum)),y2],fs⟩) ?_
 show a5s FP ⟨[.val (.tup ((ks.map (tw M)).map fr)),.no,.no],fs⟩=_
 unfold a5s
 rw[i6 (s1:=⟨[.val (.tup ((ks.map (tw M)).map fr)),.val (fr 0),.no],fs⟩) (l5 (w9 rfl rfl) rfl),i6 ((a0b (ds:=(ks.map (tw M)).map fr) (s1:=⟨[.val (.tup ((ks.map (tw M)).map fr)),.val (fr 0),.no],fs⟩) rfl).trans lp)]
 exact o8 rfl
theorem a2e {q:Rat}(h:0<q):0<q.num:=by
 have a:=a0G (Rat.le_of_lt h)
 have b:q.num≠0:=fun z=>by
  rw[Rat.num_eq_zero] at z
  rw[z] at h
  exact absurd h Rat.lt_irrefl
 omega
theorem a6f {M:Rat}(hM:0<M) {o K:Int}(hK:0<K):((tw M o).num*(tw M K).den).fdiv ((tw M o).den*(tw M K).num)=o.fdiv K:=by
 have q0:0<tw M K:=by
  rw[←J6 M]
  exact(D8 hM 0 K).mpr hK
 have d0:0<((tw M o).den:Int)*(tw M K).num:=Int.mul_pos (X2 _) (a2e q0)
 have e:(tw M o).num*(tw M K).den*K=o*((tw M o).den*(tw M K).num):=by
  have r:(((tw M o).num*(tw M K).den*K:Int):Rat)=((o*((tw M o).den*(tw M K).num):Int):Rat):=by
   rw[Rat.intCast_mul,Rat.intCast_mul,Rat.intCast_mul,Rat.intCast_mul,S7,S7]
   have:tw M o*(K:Rat)=tw M K*(o:Rat):=by
    rw[K8,K8]
    grind
   grind
  exact Rat.intCast_inj.mp r
 rw[Int.fdiv_eq_ediv_of_nonneg _ (Int.le_of_lt d0),Int.fdiv_eq_ediv_of_nonneg _ (Int.le_of_lt hK),←Int.mul_ediv_mul_of_pos_left _ _ hK,e,Int.mul_comm _ K,Int.mul_ediv_mul_of_pos_left _ _ d0]
def bg0 (ks:List Int) (o:Int):Int:=ks.sum*o.fdiv ks.sum - o
theorem a16 {ks:List Int}{o:Int}(h:0<ks.sum) (h2:ks.sum≤30):-30≤bg0 ks o∧bg0 ks o≤0:=by
 unfold bg0
 rw[Int.fdiv_eq_ediv_of_nonneg _ (Int.le_of_lt h)]
 have a:=Int.mul_ediv_add_emod o ks.sum
 have b:=Int.emod_nonneg o (show ks.sum≠0 by omega)
 have c:=Int.emod_lt_of_pos o h
 omega
theorem a9z {M:Rat}(hM:Sz 81 M) (h0:0<M) (fs:Option FS) {ks:List Int}(hk:∀ k∈ks,1≤k∧k≤5) (hl:ks.length≤6) (h1:1≤ks.length) {o:Int}(o0:0≤o) (o1:o≤20):FFb [.tup ((ks.map (tw M)).map fr),fr (tw M o)] fs=some (fr (tw M (bg0 ks o)),fs):=by
 obtain⟨s1,s2⟩:=U8 ks hk
 have e1:=b3s hM fs hk hl
 have K0:0<ks.sum:=by omega
 have fd:=a6f h0 (o:=o) K0
 have bb:=a16 (o:=o) K0 (by omega)
 have f0:0≤o.fdiv ks.sum∧o.fdiv ks.sum≤20:=by
  rw[Int.fdiv_eq_ediv_of_nonneg _ (Int.le_of_lt K0)]
  exact⟨Int.ediv_nonneg o0 (Int.le_of_lt K0),Int.le_trans (Int.ediv_le_self _ o0) o1⟩
 have zo:=w6 hM (k:=o) (by omega)
 have zK:=w6 hM (k:=ks.sum) (by omega)
 have q0:0<tw M ks.sum:=by
  rw[←J6 M]
  exact(D8 h0 0 ks.sum).mpr K0
 have d0:((tw M o).den:Int)*(tw M ks.sum).num≠0:=Int.mul_ne_zero (E1 _) (Int.ne_of_gt (a2e q0))
 have dv:=(Bd.mul zo.den zK.num).div d0 (by decide)
 have zt:Sz 7 ((o.fdiv ks.sum:Int):Rat):=⟨show (o.fdiv ks.sum).natAbs<2 ^ 7 by omega,show 1<2 ^ 7 by decide⟩
 have t1:=b2C (tw M ks.sum) ((o.fdiv ks.sum:Int):Rat) fs zK zt (by decide)
 have e2:tw M ks.sum*((o.fdiv ks.sum:Int):Rat)=tw M (ks.sum*o.fdiv ks.sum):=by
  rw[K8,K8,Rat.intCast_mul]
  grind
 have l1:=a4m (tw M ks.sum*((o.fdiv ks.sum:Int):Rat)) (tw M o) fs (zK.mul zt) zo (by decide)
 rw[e2,U6] at l1
 rw[e2] at t1
 have b1:=zo.num.bits (by decide)
 have b2:=zo.den.bits (by decide)
 have b3:=zK.num.bits (by decide)
 have b4:=zK.den.bits (by decide)
 refine m8 (s:=⟨[.val (.tup ((ks.map (tw M)).map fr)),.val (fr (tw M o)),.val (fr (tw M ks.sum)),.val (.int (o.fdiv ks.sum))],fs⟩) ?_
 show a5a FX FT FSo ⟨[.val (.tup ((ks.map (tw M)).map fr)),.val (fr (tw M o)),.no,.no],fs⟩=_
 unfold a5a
 rw[i6 (s1:=⟨[.val (.tup ((ks.map (tw M)).map fr)),.val (fr (tw M o)),.val (fr (tw M ks.sum)),.no],fs⟩) (l5 (j9 rfl e1) rfl),
  i6 (s1:=⟨[.val (.tup ((ks.map (tw M)).map fr)),.val (fr (tw M o)),.val (fr (tw M ks.sum)),.val (.int (o.fdiv ks.sum))],fs⟩) (l5 (c7 (c7 (c7 rfl rfl (D3 _)) (c7 rfl rfl (C2 _)) (r8 b1 b4)) (c7 (c7 rfl rfl (C2 _)) (c7 rfl rfl (D3 _)) (r8 b2 b3)) (by rw[a4G _ dv,fd])) rfl)]
 exact o8 (j9 (i5 (j9 (i5 rfl (i5 (w9 rfl rfl) rfl)) t1) (i5 rfl rfl)) l1)
theorem b0t {M:Rat}(hM:Sz 81 M) (h0:0<M) (fs:Option FS) {b:Int}(hb:b.natAbs<128):FGt [fr (tw M b),fr 0] fs=some (fr (tw M (max b 0)),fs):=by
 have e:=V7 (tw M b) 0 fs (w6 hM hb) (Sz.lit (k:=1) (by decide)) (by decide)
 have q:(tw M b<0)↔b<0:=by
  conv=>lhs;rhs;rw[←J6 M]
  exact D8 h0 b 0
 refine m8 (s:=⟨[.val (fr (tw M b)),.val (fr 0)],fs⟩) (o8 ?_)
 by_cases c:b<0
 ·rw[decide_eq_true (q.mpr c)] at e
  rw[a1l (E7 (j9 rfl e)),show max b 0=0 by omega,J6]
  rfl
 ·rw[decide_eq_false (fun z=>c (q.mp z))] at e
  rw[a2c (E7 (j9 rfl e)),show max b 0=b by omega]
  rfl
theorem b2W {M:Rat}(hM:Sz 81 M) (h0:0<M) (fs:Option FS) {b:Int}(hb:b.natAbs<128):FLs [fr (tw M b),fr M] fs=some (fr (tw M (min b 24)),fs):=by
 have e:=V7 (tw M b) M fs (w6 hM hb) hM (by decide)
 have q:(tw M b<M)↔b<24:=by
  conv=>lhs;rhs;rw[←X3 M]
  exact D8 h0 b 24
 refine m8 (s:=⟨[.val (fr (tw M b)),.val (fr M)],fs⟩) (o8 ?_)
 by_cases c:b<24
 ·rw[decide_eq_true (q.mpr c)] at e
  rw[a1l (E7 (j9 rfl e)),show min b 24=b by omega]
  rfl
 ·rw[decide_eq_false (fun z=>c (q.mp z))] at e
  rw[a2c (E7 (j9 rfl e)),show min b 24=24 by omega,X3]
  rfl
def mkL (ks:List Int):Nat→Int→Nat→List (Int × Int)
 |0,_,_=>[]
 |t+1,b,n=>if b<24 then (if n % 2=0∧0<b+ks.getD n 1 then [(max b 0,min (b+ks.getD n 1) 24)] else [])++mkL ks t (b+ks.getD n 1) ((n+1) % ks.length) else []
theorem b47 {ks:List Int}:∀ (t:Nat) (b:Int) (n:Nat) z,z∈mkL ks t b n→(0≤z.1∧z.1≤24)∧0≤z.2∧z.2≤24:=by
 intro t
 induction t with
 |zero=>intro b n z hz;cases hz
 |succ t ih=>
  intro b n z hz
  rw[mkL] at hz
  by_cases c:b<24
  ·rw[if_pos c] at hz
   rcases List.mem_append.mp hz with hz | hz
   ·by_cases c2:n % 2=0∧0<b+ks.getD n 1
    ·rw[if_pos c2] at hz
     rw[List.mem_singleton.mp hz]
     obtain⟨_,c3⟩:=c2
     generalize ks.getD n 1=k at *
     exact⟨by constructor <;> (show _≤_;omega),by constructor <;> (show _≤_;omega)⟩
    ·rw[if_neg c2] at hz
     cases hz
   ·exact ih _ _ z hz
  ·rw[if_neg c] at hz
   cases hz
theorem a2l {ks:List Int}:∀ (t:Nat) (b:Int) (n:Nat),(mkL ks t b n).length≤t:=by
 intro t
 induction t with
 |zero=>exact fun _ _=>Nat.le_refl _
 |succ t ih=>
  intro b n
  rw[mkL]
  have:=ih (b+ks.getD n 1) ((n+1) % ks.length)
  split
  ·rw[List.length_append]
   split
   ·rw[List.length_singleton];omega
   ·rw[List.length_nil];omega
  ·exact Nat.zero_le _
abbrev mkD (M:Rat) (z:Int × Int):D:=.tup [fr (tw M z.1),fr (tw M z.2)]
abbrev mlS (Ln P off:D) (M:Rat) (acc:List D) (b:Int) (n:Nat) (x7:Sl) (fs:Option FS):DS:=⟨[.val Ln,.val P,.val off,.val (fr M),.own acc,.val (fr (tw M b)),.val (.int (n:Int)),x7],fs⟩
abbrev lMl:DM:=a2i B4 FLs FGt FP FFb FLl
theorem b1x {M:Rat}(hM:Sz 81 M) (h0:0<M) (fs:Option FS) {ks:List Int}(Ln off:D) (hk:∀ k∈ks,1≤k∧k≤5) (hl:ks.length≤6) {n:Nat}(hn:n<ks.length) {b:Int}(b0:-30≤b) (b1:b<24) (acc:List D) (ha:acc.length≤150) (x7:Sl) :
  lMl (mlS Ln (.tup ((ks.map (tw M)).map fr)) off M acc b n x7 fs)=some (.next,mlS Ln (.tup ((ks.map (tw M)).map fr)) off M (acc++(if n % 2=0∧0<b+ks.getD n 1 then [(max b 0,min (b+ks.getD n 1) 24)] else []).map (mkD M)) (b+ks.getD n 1) ((n+1) % ks.length) (.val (fr (tw M (b+ks.getD n 1)))) fs):=by
 have hg:ks[n]? = some (ks.getD n 1):=by
  rw[List.getD_eq_getElem?_getD,List.getElem?_eq_getElem hn]
  rfl
 have kb:=hk _ (List.mem_of_getElem? hg)
 have ix:atI ((ks.map (tw M)).map fr) (n:Int)=some (fr (tw M (ks.getD n 1))):=atN (by rw[List.getElem?_map,List.getElem?_map,hg];rfl)
 generalize ks.getD n 1=k at *
 have p:=a1U (tw M b) (tw M k) fs (w6 hM (by omega)) (w6 hM (by omega)) (by decide)
 rw[V2] at p
 have bl:=V7 0 (tw M (b+k)) fs (Sz.lit (k:=1) (by decide)) (w6 hM (by omega)) (by decide)
 have q:(0<tw M (b+k))↔0<b+k:=by
  conv=>lhs;lhs;rw[←J6 M]
  exact D8 h0 0 (b+k)
 have g:=b0t hM h0 fs (b:=b) (by omega)
 have s:=b2W hM h0 fs (b:=b+k) (by omega)
 have md:y8 (.int (n:Int)) (.int 2)=some (.int ((n % 2:Nat):Int)):=by
  rw[R5 (by decide),Int.fmod_eq_emod_of_nonneg _ (by decide)]
  congr 2
 have ml:y8 (.int ((n:Int)+1)) (.int (((ks.map (tw M)).map fr).length:Int))=some (.int (((n+1) % ks.length:Nat):Int)):=by
  rw[List.length_map,List.length_map,R5 (by omega),Int.fmod_eq_emod_of_nonneg _ (by omega)]
  congr 2
 generalize (ks.map (tw M)).map fr=P at *
 generalize hacc:acc++(if n % 2=0∧0<b+k then [(max b 0,min (b+k) 24)] else []).map (mkD M)=acc'
 have st:p9 (A8 (dB (dOp pEq (dOp y8 (dL 6) (dC (.int 2))) (dC (.int 0)))) (dTr (e7 B4 (a7 (j6 (a7 (dC (.int 0)) (a7 (dC (.int 1)) a8))) (a7 (dV 7) a8))))) (G1 4 (j6 (a7 (e7 FGt (a7 (dV 5) (a7 (j6 (a7 (dC (.int 0)) (a7 (dC (.int 1)) a8))) a8))) (a7 (e7 FLs (a7 (dV 7) (a7 (dV 3) a8))) a8)))) u6 (mlS Ln (.tup P) off M acc b n (.val (fr (tw M (b+k)))) fs)=some (.next,mlS Ln (.tup P) off M acc' b n (.val (fr (tw M (b+k)))) fs):=by
  have t1:dB (dOp pEq (dOp y8 (dL 6) (dC (.int 2))) (dC (.int 0))) (mlS Ln (.tup P) off M acc b n (.val (fr (tw M (b+k)))) fs)=some (decide (((n % 2:Nat):Int)=0),mlS Ln (.tup P) off M acc b n (.val (fr (tw M (b+k)))) fs):=C0 (c7 (c7 rfl rfl md) rfl (P7 _ 0))
  have t2:dTr (e7 B4 (a7 (j6 (a7 (dC (.int 0)) (a7 (dC (.int 1)) a8))) (a7 (dV 7) a8))) (mlS Ln (.tup P) off M acc b n (.val (fr (tw M (b+k)))) fs)=some (decide (0<tw M (b+k)),mlS Ln (.tup P) off M acc b n (.val (fr (tw M (b+k)))) fs):=E7 (j9 (i5 (w9 rfl rfl) (i5 rfl rfl)) bl)
  by_cases c1:n % 2=0
  ·rw[decide_eq_true (by omega)] at t1
   by_cases c2:0<b+k
   ·rw[decide_eq_true (q.mpr c2)] at t2
    rw[if_pos ⟨c1,c2⟩] at hacc
    rw[L8 (P8 t1 t2),←hacc]
    exact Q7 (s1:=mlS Ln (.tup P) off M acc b n (.val (fr (tw M (b+k)))) fs) (ds:=acc) (ds0:=acc) rfl (w9 (j9 (i5 rfl (i5 (w9 rfl rfl) rfl)) g) (j9 rfl s)) rfl (Nat.lt_of_le_of_lt ha (by decide))
   ·rw[decide_eq_false (fun z=>c2 (q.mp z))] at t2
    rw[if_neg (fun z=>c2 z.2),List.map_nil,List.append_nil] at hacc
    rw[←hacc]
    exact E5 (P8 t1 t2)
  ·rw[decide_eq_false (by omega)] at t1
   rw[if_neg (fun z=>c1 z.1),List.map_nil,List.append_nil] at hacc
   rw[←hacc]
   exact E5 (X6 t1)
 have hl':acc'.length≤151:=by
  rw[←hacc,List.length_append,List.length_map]
  split
  ·rw[List.length_singleton];omega
  ·rw[List.length_nil];omega
 have lt:¬ ((200:Int)<(acc'.length:Int)):=by omega
 show a2i B4 FLs FGt FP FFb FLl _=_
 unfold a2i
 rw[i6 (s1:=mlS Ln (.tup P) off M acc b n (.val (fr (tw M (b+k)))) fs) (l5 (j9 (i5 rfl (i5 (c7 rfl rfl ((ixT P n).trans ix)) rfl)) p) rfl),
  i6 st,
  i6 (s1:=mlS Ln (.tup P) off M acc' b n (.val (fr (tw M (b+k)))) fs) (E5 (C0 (c7 (F3 (p:=t6) rfl rfl) rfl (show some (D.bl (decide ((200:Int)<(acc'.length:Int))))=_ by rw[decide_eq_false lt])))),
  i6 (s1:=mlS Ln (.tup P) off M acc' (b+k) n (.val (fr (tw M (b+k)))) fs) (l5 rfl rfl)]
 exact l5 (c7 (c7 rfl rfl rfl) (F3 (p:=t6) rfl rfl) ml) rfl
theorem a8V {M:Rat}(hM:Sz 81 M) (h0:0<M) (fs:Option FS) {ks:List Int}(Ln off:D) (hk:∀ k∈ks,1≤k∧k≤5) (hl:ks.length≤6):∀ (t:Nat) (b:Int) (n:Nat) (acc:List D) (x7:Sl),24 - b≤t → -30≤b→b≤30→n<ks.length→acc.length+t≤100 →
  ∃ x5 x6 y7,C5 (dTr (e7 B4 (a7 (dV 5) (a7 (dV 3) a8)))) lMl (mlS Ln (.tup ((ks.map (tw M)).map fr)) off M acc b n x7 fs)=some (.next,⟨[.val Ln,.val (.tup ((ks.map (tw M)).map fr)),.val off,.val (fr M),.own (acc++(mkL ks t b n).map (mkD M)),x5,x6,y7],fs⟩):=by
 have tst:∀ (b:Int) (n:Nat) (acc:List D) (x7:Sl),-30≤b→b≤30→dTr (e7 B4 (a7 (dV 5) (a7 (dV 3) a8))) (mlS Ln (.tup ((ks.map (tw M)).map fr)) off M acc b n x7 fs)=some (decide (b<24),mlS Ln (.tup ((ks.map (tw M)).map fr)) off M acc b n x7 fs):=fun b n acc x7 b0 b1=>by
  have e:=V7 (tw M b) M fs (w6 hM (by omega)) hM (by decide)
  have q:decide (tw M b<M)=decide (b<24):=by
   rw[Bool.eq_iff_iff,decide_eq_true_iff,decide_eq_true_iff]
   conv=>lhs;rhs;rw[←X3 M]
   exact D8 h0 b 24
  rw[q] at e
  exact E7 (j9 rfl e)
 intro t
 induction t with
 |zero=>
  intro b n acc x7 h1 b0 b1 hn ha
  have e:=tst b n acc x7 b0 b1
  rw[decide_eq_false (by omega)] at e
  refine⟨.val (fr (tw M b)),.val (.int (n:Int)),x7,?_⟩
  rw[mkL,List.map_nil,List.append_nil]
  exact Q3 e
 |succ t ih=>
  intro b n acc x7 h1 b0 b1 hn ha
  have e:=tst b n acc x7 b0 b1
  rw[mkL]
  by_cases c:b<24
  ·rw[decide_eq_true c] at e
   rw[if_pos c]
   have tr:=b1x hM h0 fs Ln off hk hl hn b0 c acc (by omega) x7
   have hg:ks[n]? = some (ks.getD n 1):=by
    rw[List.getD_eq_getElem?_getD,List.getElem?_eq_getElem hn]
    rfl
   have kb:=hk _ (List.mem_of_getElem? hg)
   have al:(acc++(if n % 2=0∧0<b+ks.getD n 1 then [(max b 0,min (b+ks.getD n 1) 24)] else []).map (mkD M)).length≤acc.length+1:=by
    rw[List.length_append,List.length_map]
    split
    ·rw[List.length_singleton];omega
    ·rw[List.length_nil];omega
   obtain⟨x5,x6,y7,w⟩:=ih (b+ks.getD n 1) ((n+1) % ks.length) _ (.val (fr (tw M (b+ks.getD n 1)))) (by omega) (by omega) (by omega) (Nat.mod_lt _ (by omega)) (Nat.le_trans (Nat.add_le_add_right al t) (by omega))
   refine⟨x5,x6,y7,?_⟩
   rw[List.map_append,←List.append_assoc]
   exact R7 e tr w
  ·rw[decide_eq_false c] at e
   rw[if_neg c,List.map_nil,List.append_nil]
   exact⟨.val (fr (tw M b)),.val (.int (n:Int)),x7,Q3 e⟩
def o6 (ks:List Int) (o:Int):List (Int × Int):=mkL ks 60 (bg0 ks o) 0
theorem a6D {M:Rat}(hM:Sz 81 M) (h0:0<M) (fs:Option FS) {ks:List Int}(Ln:D) (hk:∀ k∈ks,1≤k∧k≤5) (hl:ks.length≤6) (h1:1≤ks.length) {o:Int}(o0:0≤o) (o1:o≤20) (hln:FLl [Ln] fs=some (fr M,fs)) :
  FMl [Ln,.tup ((ks.map (tw M)).map fr),fr (tw M o)] fs=some (.lst ((o6 ks o).map (mkD M)),fs):=by
 obtain⟨s1,s2⟩:=U8 ks hk
 have bb:=a16 (ks:=ks) (o:=o) (by omega) (by omega)
 have fb:=a9z hM h0 fs hk hl h1 o0 o1
 obtain⟨x5,x6,x7,w⟩:=a8V hM h0 fs Ln (fr (tw M o)) hk hl 60 (bg0 ks o) 0 [] .no (by omega) (by omega) (by omega) (by omega) (by decide)
 rw[List.nil_append] at w
 unfold o6
 generalize (ks.map (tw M)).map fr=P at *
 generalize (mkL ks 60 (bg0 ks o) 0).map (mkD M)=R at *
 refine m8 (s:=⟨[.val Ln,.val (.tup P),.val (fr (tw M o)),.val (fr M),.val (.lst R),x5,x6,x7],fs⟩) ?_
 show a3c B4 FLs FGt FP FFb FLl ⟨[.val Ln,.val (.tup P),.val (fr (tw M o)),.no,.no,.no,.no,.no],fs⟩=_
 unfold a3c
 rw[i6 (s1:=⟨[.val Ln,.val (.tup P),.val (fr (tw M o)),.val (fr M),.no,.no,.no,.no],fs⟩) (l5 (j9 rfl hln) rfl),
  i6 (s1:=⟨[.val Ln,.val (.tup P),.val (fr (tw M o)),.val (fr M),.own [],.no,.no,.no],fs⟩) (F1 (s1:=⟨[.val Ln,.val (.tup P),.val (fr (tw M o)),.val (fr M),.no,.no,.no,.no],fs⟩) rfl (show 4<8 by decide)),
  i6 (s1:=⟨[.val Ln,.val (.tup P),.val (fr (tw M o)),.val (fr M),.own [],.val (fr (tw M (bg0 ks o))),.no,.no],fs⟩) (l5 (j9 rfl fb) rfl),
  i6 (s1:=mlS Ln (.tup P) (fr (tw M o)) M [] (bg0 ks o) 0 .no fs) (l5 rfl rfl),
  i6 w]
 exact o8 rfl
end T
namespace T
open DL
def wk (ks:List Int):Nat→Nat→Int→Bool
 |0,_,_=>false
 |t+1,n,d=>if n % 2=0∧d≤4*ks.getD n 1 then true else if d<4*ks.getD n 1 then false else wk ks t ((n+1) % ks.length) (d - 4*ks.getD n 1)
theorem a1X {ks:List Int}(hk:∀ k∈ks,1≤k) (n:Nat):1≤ks.getD n 1:=by
 rw[List.getD_eq_getElem?_getD]
 cases h:ks[n]? with
 |none=>exact Int.le_refl _
 |some k=>exact hk k (List.mem_of_getElem? h)
theorem a8Q {ks:List Int}(hk:∀ k∈ks,1≤k):∀ (t:Nat) (b:Int) (n:Nat) z,z∈mkL ks t b n→b≤z.1:=by
 intro t
 induction t with
 |zero=>intro b n z hz;cases hz
 |succ t ih=>
  intro b n z hz
  have kp:=a1X hk n
  rw[mkL] at hz
  by_cases c:b<24
  ·rw[if_pos c] at hz
   rcases List.mem_append.mp hz with hz | hz
   ·by_cases c2:n % 2=0∧0<b+ks.getD n 1
    ·rw[if_pos c2] at hz
     rw[List.mem_singleton.mp hz]
     show b≤max b 0
     omega
    ·rw[if_neg c2] at hz
     cases hz
   ·have:=ih _ _ z hz
    omega
  ·rw[if_neg c] at hz
   cases hz
theorem a9l {ks:List Int}(hk:∀ k∈ks,1≤k) {x:Int}(x0:0<x) (x1:x<96):∀ (t:Nat) (b:Int) (n:Nat),4*b≤x→((∃ z∈mkL ks t b n,4*z.1≤x∧x≤4*z.2)↔wk ks t n (x - 4*b)=true):=by
 intro t
 induction t with
 |zero=>
  intro b n _
  constructor
  ·rintro⟨z,hz,_⟩;cases hz
  ·intro h;cases h
 |succ t ih=>
  intro b n hb
  have kp:=a1X hk n
  rw[mkL,wk,if_pos (show b<24 by omega)]
  have lo:=a8Q hk t (b+ks.getD n 1) ((n+1) % ks.length)
  have ih:=ih (b+ks.getD n 1) ((n+1) % ks.length)
  generalize ks.getD n 1=k at *
  by_cases c1:n % 2=0∧x - 4*b≤4*k
  ·rw[if_pos c1]
   refine⟨fun _=>rfl,fun _=>⟨(max b 0,min (b+k) 24),?_,?_,?_⟩⟩
   ·rw[if_pos ⟨c1.1,by omega⟩]
    exact List.mem_append.mpr (.inl (List.mem_singleton.mpr rfl))
   ·show 4*max b 0≤x
    omega
   ·show x≤4*min (b+k) 24
    omega
  ·rw[if_neg c1]
   by_cases c2:x - 4*b<4*k
   ·rw[if_pos c2]
    constructor
    ·rintro⟨z,hz,h1,h2⟩
     rcases List.mem_append.mp hz with hz | hz
     ·rw[if_neg (fun q=>c1 ⟨q.1,by omega⟩)] at hz
      cases hz
     ·have:=lo z hz
      omega
    ·intro h;cases h
   ·rw[if_neg c2]
    have e:x - 4*b - 4*k=x - 4*(b+k):=by omega
    rw[e,←ih (by omega)]
    constructor
    ·rintro⟨z,hz,h1,h2⟩
     rcases List.mem_append.mp hz with hz | hz
     ·by_cases c3:n % 2=0∧0<b+k
      ·rw[if_pos c3] at hz
       rw[List.mem_singleton.mp hz] at h1 h2
       have h2:x≤4*min (b+k) 24:=h2
       exact absurd ⟨c3.1,show x - 4*b≤4*k by omega⟩ c1
      ·rw[if_neg c3] at hz
       cases hz
     ·exact⟨z,hz,h1,h2⟩
    ·rintro⟨z,hz,h1,h2⟩
     exact⟨z,List.mem_append.mpr (.inr hz),h1,h2⟩
theorem a6A {ks:List Int}(hk:∀ k∈ks,1≤k) (he:ks.length % 2=0):∀ (t:Nat) (b:Int) (n:Nat),n<ks.length→(mkL ks t b n).Pairwise (fun y z=>y.2<z.1)∧(∀ z∈mkL ks t b n,0≤z.1∧z.1<z.2∧z.2≤24)∧(n % 2=1→∀ z∈mkL ks t b n,b<z.1):=by
 intro t
 induction t with
 |zero=>exact fun b n _=>⟨List.Pairwise.nil,fun z hz=>(by cases hz),fun _ z hz=>(by cases hz)⟩
 |succ t ih=>
  intro b n hn
  have kp:=a1X hk n
  have lo:=a8Q hk t (b+ks.getD n 1) ((n+1) % ks.length)
  obtain⟨i1,i2,i3⟩:=ih (b+ks.getD n 1) ((n+1) % ks.length) (Nat.mod_lt _ (by omega))
  rw[mkL]
  have pr:n % 2=0→(n+1) % ks.length % 2=1:=fun h=>by
   by_cases c:n+1<ks.length
   ·rw[Nat.mod_eq_of_lt c];omega
   ·omega
  generalize ks.getD n 1=k at *
  by_cases c:b<24
  ·rw[if_pos c]
   by_cases c2:n % 2=0∧0<b+k
   ·rw[if_pos c2]
    refine⟨?_,fun z hz=>?_,fun h=>by omega⟩
    ·rw[List.singleton_append,List.pairwise_cons]
     refine⟨fun z hz=>?_,i1⟩
     have:=i3 (pr c2.1) z hz
     show min (b+k) 24<z.1
     omega
    ·rcases List.mem_append.mp hz with hz | hz
     ·rw[List.mem_singleton.mp hz]
      refine⟨?_,?_,?_⟩
      ·show 0≤max b 0;omega
      ·show max b 0<min (b+k) 24;omega
      ·show min (b+k) 24≤24;omega
     ·exact i2 z hz
   ·rw[if_neg c2,List.nil_append]
    refine⟨i1,i2,fun _ z hz=>?_⟩
    have:=lo z hz
    omega
  ·rw[if_neg c]
   exact⟨List.Pairwise.nil,fun z hz=>(by cases hz),fun _ z hz=>(by cases hz)⟩
def imk:Nat→List Int→Int→Bool
 |_,[],d=>decide (d=0)
 |n,k::r,d=>if n % 2=0∧d≤4*k then true else if d<4*k then false else imk (n+1) r (d - 4*k)
theorem Y3 {ks:List Int}{n:Nat}{k:Int}{r:List Int}(h:ks.drop n=k::r):n<ks.length∧ks.getD n 1=k∧ks.drop (n+1)=r:=by
 have hn:n<ks.length:=by
  have:=congrArg List.length h
  rw[List.length_drop,List.length_cons] at this
  omega
 refine⟨hn,?_,?_⟩
 ·have e:=List.getElem?_drop (xs:=ks) (i:=n) (j:=0)
  rw[h] at e
  rw[List.getD_eq_getElem?_getD,←Nat.add_zero n,←e]
  rfl
 ·rw[←List.drop_drop,h]
  rfl
theorem b23 {ks:List Int}(hk:∀ k∈ks,1≤k):∀ (l:List Int) (n:Nat) (t:Nat) (d:Int),ks.drop n=l→l.length≤t→0≤d→d<4*l.sum→wk ks t n d=imk n l d:=by
 intro l
 induction l with
 |nil=>intro n t d _ _ h0 h1;simp at h1;omega
 |cons k r ih=>
  intro n t d hd ht h0 h1
  obtain⟨hn,hg,hr⟩:=Y3 hd
  rw[List.length_cons] at ht
  rw[List.sum_cons] at h1
  obtain⟨t,rfl⟩:∃ t',t=t'+1:=⟨t - 1,by omega⟩
  rw[wk,imk,hg]
  by_cases c1:n % 2=0∧d≤4*k
  ·rw[if_pos c1,if_pos c1]
  ·rw[if_neg c1,if_neg c1]
   by_cases c2:d<4*k
   ·rw[if_pos c2,if_pos c2]
   ·rw[if_neg c2,if_neg c2]
    have hl:n+1<ks.length:=by
     have e:=congrArg List.length hr
     rw[List.length_drop] at e
     cases r with
     |nil=>simp at h1;omega
     |cons _ _=>rw[List.length_cons] at e;omega
    rw[Nat.mod_eq_of_lt hl]
    exact ih (n+1) t (d - 4*k) hr (by omega) (by omega) (by omega)
theorem a0e {l:List Int}(h:∀ k∈l,1≤k):(l.length:Int)≤l.sum:=by
 induction l with
 |nil=>exact Int.le_refl _
 |cons k r ih=>
  have a:=h k (List.mem_cons_self ..)
  have b:=ih fun x hx=>h x (List.mem_cons_of_mem _ hx)
  rw[List.length_cons,List.sum_cons]
  omega
theorem b2L {ks:List Int}(hk:∀ k∈ks,1≤k) (he:ks.length % 2=0):∀ (l:List Int) (n:Nat) (t:Nat) (d:Int),ks.drop n=l→l≠[]→4*l.sum≤d→wk ks (t+l.length) n d=wk ks t 0 (d - 4*l.sum):=by
 intro l
 induction l with
 |nil=>intro n t d _ h;exact absurd rfl h
 |cons k r ih=>
  intro n t d hd _ h1
  obtain⟨hn,hg,hr⟩:=Y3 hd
  rw[List.sum_cons] at h1 ⊢
  rw[List.length_cons,←Nat.add_assoc,wk,hg]
  have rs:(r.length:Int)≤r.sum:=a0e fun x hx=>hk x (List.mem_of_mem_drop (hr▸hx))
  have el:=congrArg List.length hr
  rw[List.length_drop] at el
  rw[if_neg (fun q=>by
   have:1≤r.length:=by omega
   omega),if_neg (by omega)]
  by_cases hz:r=[]
  ·subst hz
   have hl:n+1=ks.length:=by simp at el;omega
   rw[hl,Nat.mod_self]
   simp
  ·have hl:n+1<ks.length:=by
    have:1≤r.length:=by
     cases r with
     |nil=>exact absurd rfl hz
     |cons _ _=>simp
    omega
   rw[Nat.mod_eq_of_lt hl,ih (n+1) t (d - 4*k) hr hz (by omega)]
   congr 1
   omega
theorem b3m {ks:List Int}(hk:∀ k∈ks,1≤k) (he:ks.length % 2=0) (h1:1≤ks.length) (t:Nat) (r:Int) (r0:0≤r):∀ j:Nat,wk ks (t+ks.length*j) 0 (r+4*ks.sum*j)=wk ks t 0 r:=by
 intro j
 induction j with
 |zero=>simp
 |succ j ih=>
  have sp:=a0e hk
  have z:ks≠[]:=fun e=>by rw[e] at h1;simp at h1
  have jp:0≤4*ks.sum*(j:Int):=Int.mul_nonneg (by omega) (by omega)
  have e1:4*ks.sum*((j+1:Nat):Int)=4*ks.sum*(j:Int)+4*ks.sum:=by
   rw[Int.natCast_add,Int.mul_add]
   simp
  rw[e1,Nat.mul_succ,←Nat.add_assoc,b2L hk he ks 0 (t+ks.length*j) _ rfl z (by omega)]
  rw[show r+(4*ks.sum*(j:Int)+4*ks.sum) - 4*ks.sum=r+4*ks.sum*(j:Int) by omega]
  exact ih
theorem b3r {ks:List Int}(hk:∀ k∈ks,1≤k∧k≤5) (he:ks.length % 2=0) (h1:1≤ks.length) (h6:ks.length≤6) {o x:Int}(o0:0≤o) (x0:0<x) (x1:x<96) :
  (∃ z∈o6 ks o,4*z.1≤x∧x≤4*z.2)↔imk 0 ks ((4*o+x) % (4*ks.sum))=true:=by
 have hk1:∀ k∈ks,1≤k:=fun k h=>(hk k h).1
 have sp:=a0e hk1
 have s5:=(U8 ks hk).2
 have bb:=a16 (ks:=ks) (o:=o) (by omega) (by omega)
 unfold o6
 rw[a9l hk1 x0 x1 60 (bg0 ks o) 0 (by omega)]
 have rn:=Int.emod_nonneg (4*o+x) (show 4*ks.sum≠0 by omega)
 have rl:=Int.emod_lt_of_pos (4*o+x) (show 0<4*ks.sum by omega)
 have dv:=Int.mul_ediv_add_emod (4*o+x) (4*ks.sum)
 have f:o.fdiv ks.sum=o / ks.sum:=Int.fdiv_eq_ediv_of_nonneg _ (by omega)
 have dv2:=Int.mul_ediv_add_emod o ks.sum
 have r2:=Int.emod_nonneg o (show ks.sum≠0 by omega)
 have e:x - 4*bg0 ks o=(4*o+x) % (4*ks.sum)+4*ks.sum*((4*o+x) / (4*ks.sum) - o / ks.sum):=by
  unfold bg0
  rw[f,Int.mul_sub (4*ks.sum)]
  have:4*ks.sum*(o / ks.sum)=4*(ks.sum*(o / ks.sum)):=Int.mul_assoc ..
  omega
 have jn:o / ks.sum≤(4*o+x) / (4*ks.sum):=by
  rw[Int.le_ediv_iff_mul_le (by omega)]
  have:o / ks.sum*(4*ks.sum)=4*(ks.sum*(o / ks.sum)):=by
   rw[Int.mul_comm (o / ks.sum),Int.mul_assoc]
  rw[this]
  generalize ks.sum*(o / ks.sum)=w at *
  omega
 obtain⟨j,hj⟩:=Int.eq_ofNat_of_zero_le (show 0≤(4*o+x) / (4*ks.sum) - o / ks.sum by omega)
 rw[hj] at e
 generalize (4*o+x) % (4*ks.sum)=r at *
 have fl:ks.length*j≤54:=by
  have a:(ks.length:Int)*(j:Int)≤ks.sum*(j:Int):=Int.mul_le_mul_of_nonneg_right sp (by omega)
  have b:4*ks.sum*(j:Int)=4*(ks.sum*(j:Int)):=Int.mul_assoc ..
  have c:((ks.length*j:Nat):Int)=(ks.length:Int)*(j:Int):=by push_cast;rfl
  omega
 have tu:=b3m hk1 he h1 (60 - ks.length*j) r rn j
 rw[Nat.sub_add_cancel (by omega),←e] at tu
 rw[tu,b23 hk1 ks 0 _ r rfl (by omega) rn rl]
def gw (ks:List Int):Nat→Nat→Int→Int
 |0,_,_=>0
 |t+1,n,d=>if d≤0 then 0 else (if n % 2=0 then min d (ks.getD n 1) else 0)+gw ks t ((n+1) % ks.length) (d - ks.getD n 1)
theorem X1 {ks:List Int}{t n:Nat}{d:Int}(h:d≤0):gw ks t n d=0:=by
 cases t with
 |zero=>rfl
 |succ t=>rw[gw,if_pos h]
def K4 (l:List (Int × Int)):Int:=(l.map fun z=>z.2 - z.1).sum
theorem b42 {ks:List Int}(hk:∀ k∈ks,1≤k):∀ (t:Nat) (b:Int) (n:Nat),K4 (mkL ks t b n)=gw ks t n (24 - b) - gw ks t n (-b):=by
 intro t
 induction t with
 |zero=>intro b n;rfl
 |succ t ih=>
  intro b n
  have kp:=a1X hk n
  have ih:=ih (b+ks.getD n 1) ((n+1) % ks.length)
  rw[mkL]
  by_cases c:b<24
  ·rw[if_pos c]
   unfold K4 at ih ⊢
   rw[List.map_append,List.sum_append,ih]
   have e1:gw ks (t+1) n (24 - b)=(if n % 2=0 then min (24 - b) (ks.getD n 1) else 0)+gw ks t ((n+1) % ks.length) (24 - b - ks.getD n 1):=by rw[gw,if_neg (by omega)]
   have e2:gw ks (t+1) n (-b)=(if b<0 then (if n % 2=0 then min (-b) (ks.getD n 1) else 0) else 0)+gw ks t ((n+1) % ks.length) (-b - ks.getD n 1):=by
    by_cases h:b<0
    ·rw[if_pos h,gw,if_neg (by omega)]
    ·rw[if_neg h,X1 (by omega),X1 (by omega)];rfl
   rw[e1,e2,show 24 - b - ks.getD n 1=24 - (b+ks.getD n 1) by omega,show -b - ks.getD n 1 = -(b+ks.getD n 1) by omega]
   generalize gw ks t ((n+1) % ks.length) (24 - (b+ks.getD n 1))=A
   generalize gw ks t ((n+1) % ks.length) (-(b+ks.getD n 1))=B
   generalize ks.getD n 1=k at *
   by_cases c2:n % 2=0
   ·rw[if_pos c2,if_pos c2]
    by_cases c3:0<b+k
    ·rw[if_pos ⟨c2,c3⟩]
     show (min (b+k) 24 - max b 0+0)+(A - B)=_
     split <;> omega
    ·rw[if_neg (fun q=>c3 q.2)]
     show 0+(A - B)=_
     split <;> omega
   ·rw[if_neg c2,if_neg c2,if_neg (fun q=>c2 q.1)]
    show 0+(A - B)=_
    split <;> omega
  ·rw[if_neg c,X1 (by omega),X1 (by omega)]
   rfl
def fil:Nat→List Int→Int→Int
 |_,[],_=>0
 |n,k::r,d=>(if n % 2=0 then min d k else 0)+fil (n+1) r (d - min d k)
def evS:Nat→List Int→Int
 |_,[]=>0
 |n,k::r=>(if n % 2=0 then k else 0)+evS (n+1) r
theorem a7O {l:List Int}(h:∀ k∈l,1≤k):∀ n,fil n l 0=0:=by
 induction l with
 |nil=>exact fun _=>rfl
 |cons k r ih=>
  intro n
  have kp:=h k (List.mem_cons_self ..)
  rw[fil,show min (0:Int) k=0 by omega,Int.sub_zero,ih (fun x hx=>h x (List.mem_cons_of_mem _ hx))]
  split <;> rfl
theorem a8M {ks:List Int}(hk:∀ k∈ks,1≤k):∀ (l:List Int) (n:Nat) (t:Nat) (d:Int),ks.drop n=l→l.length≤t→0≤d→d≤l.sum→gw ks t n d=fil n l d:=by
 intro l
 induction l with
 |nil=>intro n t d _ _ h0 h1;exact X1 (by simpa using h1)
 |cons k r ih=>
  intro n t d hd ht h0 h1
  obtain⟨hn,hg,hr⟩:=Y3 hd
  have hkr:∀ x∈k::r,1≤x:=fun x hx=>hk x (List.mem_of_mem_drop (hd▸hx))
  have kp:=hkr k (List.mem_cons_self ..)
  rw[List.length_cons] at ht
  rw[List.sum_cons] at h1
  by_cases dz:d=0
  ·subst dz
   rw[X1 (Int.le_refl _),a7O hkr]
  obtain⟨t,rfl⟩:∃ t',t=t'+1:=⟨t - 1,by omega⟩
  rw[gw,fil,hg,if_neg (by omega)]
  congr 1
  by_cases c:d≤k
  ·rw[X1 (by omega),show d - min d k=0 by omega,a7O fun x hx=>hkr x (List.mem_cons_of_mem _ hx)]
  ·have hl:n+1<ks.length:=by
    have e:=congrArg List.length hr
    rw[List.length_drop] at e
    cases r with
    |nil=>simp at h1;omega
    |cons _ _=>rw[List.length_cons] at e;omega
   rw[Nat.mod_eq_of_lt hl,show d - min d k=d - k by omega]
   exact ih (n+1) t (d - k) hr (by omega) (by omega) (by omega)
theorem b1V {ks:List Int}(hk:∀ k∈ks,1≤k):∀ (l:List Int) (n:Nat) (t:Nat) (d:Int),ks.drop n=l→l≠[]→l.sum≤d→gw ks (t+l.length) n d=evS n l+gw ks t 0 (d - l.sum):=by
 intro l
 induction l with
 |nil=>intro n t d _ h;exact absurd rfl h
 |cons k r ih=>
  intro n t d hd _ h1
  obtain⟨hn,hg,hr⟩:=Y3 hd
  have hkr:∀ x∈k::r,1≤x:=fun x hx=>hk x (List.mem_of_mem_drop (hd▸hx))
  have kp:=hkr k (List.mem_cons_self ..)
  have rs:(r.length:Int)≤r.sum:=a0e fun x hx=>hkr x (List.mem_cons_of_mem _ hx)
  rw[List.sum_cons] at h1 ⊢
  rw[List.length_cons,←Nat.add_assoc,gw,hg,evS,if_neg (by omega),show min d k=k by omega,Int.add_assoc]
  congr 1
  have el:=congrArg List.length hr
  rw[List.length_drop] at el
  by_cases hz:r=[]
  ·subst hz
   have hl:n+1=ks.length:=by simp at el;omega
   rw[hl,Nat.mod_self]
   simp[evS]
  ·have hl:n+1<ks.length:=by
    have:1≤r.length:=by
     cases r with
     |nil=>exact absurd rfl hz
     |cons _ _=>simp
    omega
   rw[Nat.mod_eq_of_lt hl,ih (n+1) t (d - k) hr hz (by omega),show d - k - r.sum=d - (k+r.sum) by omega]
theorem b3N {ks:List Int}(hk:∀ k∈ks,1≤k) (h1:1≤ks.length) (t:Nat) (r:Int) (r0:0≤r):∀ j:Nat,gw ks (t+ks.length*j) 0 (r+ks.sum*j)=evS 0 ks*j+gw ks t 0 r:=by
 intro j
 induction j with
 |zero=>simp
 |succ j ih=>
  have sp:=a0e hk
  have z:ks≠[]:=fun e=>by rw[e] at h1;simp at h1
  have jp:0≤ks.sum*(j:Int):=Int.mul_nonneg (by omega) (by omega)
  have e1:ks.sum*((j+1:Nat):Int)=ks.sum*(j:Int)+ks.sum:=by
   rw[Int.natCast_add,Int.mul_add];simp
  have e2:evS 0 ks*((j+1:Nat):Int)=evS 0 ks*(j:Int)+evS 0 ks:=by
   rw[Int.natCast_add,Int.mul_add];simp
  rw[e1,e2,Nat.mul_succ,←Nat.add_assoc,b1V hk ks 0 (t+ks.length*j) _ rfl z (by omega)]
  rw[show r+(ks.sum*(j:Int)+ks.sum) - ks.sum=r+ks.sum*(j:Int) by omega,ih]
  omega
def G9 (ks:List Int) (y:Int):Int:=evS 0 ks*(y / ks.sum)+fil 0 ks (y % ks.sum)
theorem b0O {ks:List Int}(hk:∀ k∈ks,1≤k∧k≤5) (h1:1≤ks.length) (h6:ks.length≤6) {o:Int}(o0:0≤o):K4 (o6 ks o)=G9 ks (o+24) - G9 ks o:=by
 have hk1:∀ k∈ks,1≤k:=fun k h=>(hk k h).1
 have sp:=a0e hk1
 have s5:=(U8 ks hk).2
 have bb:=a16 (ks:=ks) (o:=o) (by omega) (by omega)
 unfold o6
 rw[b42 hk1]
 have f:o.fdiv ks.sum=o / ks.sum:=Int.fdiv_eq_ediv_of_nonneg _ (by omega)
 have rn:=Int.emod_nonneg o (show ks.sum≠0 by omega)
 have rl:=Int.emod_lt_of_pos o (show 0<ks.sum by omega)
 have dv:=Int.mul_ediv_add_emod o ks.sum
 have rn2:=Int.emod_nonneg (o+24) (show ks.sum≠0 by omega)
 have rl2:=Int.emod_lt_of_pos (o+24) (show 0<ks.sum by omega)
 have dv2:=Int.mul_ediv_add_emod (o+24) ks.sum
 have jn:o / ks.sum≤(o+24) / ks.sum:=Int.ediv_le_ediv (by omega) (by omega)
 obtain⟨j,hj⟩:=Int.eq_ofNat_of_zero_le (show 0≤(o+24) / ks.sum - o / ks.sum by omega)
 have e1:-bg0 ks o=o % ks.sum:=by unfold bg0;rw[f];omega
 have e2:24 - bg0 ks o=(o+24) % ks.sum+ks.sum*(j:Int):=by
  unfold bg0
  rw[f,←hj,Int.mul_sub]
  omega
 have fl:ks.length*j≤54:=by
  have a:(ks.length:Int)*(j:Int)≤ks.sum*(j:Int):=Int.mul_le_mul_of_nonneg_right sp (by omega)
  have c:((ks.length*j:Nat):Int)=(ks.length:Int)*(j:Int):=by push_cast;rfl
  omega
 have tu:=b3N hk1 h1 (60 - ks.length*j) ((o+24) % ks.sum) rn2 j
 rw[Nat.sub_add_cancel (by omega),←e2] at tu
 rw[tu,e1,a8M hk1 ks 0 60 _ rfl (by omega) rn (by omega),a8M hk1 ks 0 _ _ rfl (by omega) rn2 (by omega)]
 unfold G9
 rw[←hj,Int.mul_sub]
 omega
end T
namespace T
open PySem L2 DL
variable {c:Bool}{ps:List Pt}{m:Nat}{S:Nat→Rat}{Q:Nat→Pt × Pt}{T:List Rat}
theorem Lay.lt (L:Lay c ps m S Q T) {i j:Nat}(h:i<j) (hj:j≤m):S i<S j:=by
 have a:=L.up i (by omega)
 have b:=L.mono j (i+1) h hj
 grind
theorem b0j (L:Lay c ps m S Q T):atL S Q m (S m)=(Q (m - 1)).2:=by
 have m1:=L.m1
 have e:m - 1+1=m:=by omega
 have hn:m - 1<m:=by omega
 have h2:S m≤S (m - 1+1):=by rw[e];exact Rat.le_refl
 rw[show atL S Q m (S m)=J4 S Q (S m) (Q 0).1 m from rfl,a0g L hn (.inr (L.lt hn (Nat.le_refl _))) (L.in_ (Nat.le_refl _)).lo h2,b50 L hn h2]
end T
namespace T
open PySem L2 DL
variable {c:Bool}{ps:List Pt}{cD:D}{φ:Pt→Pt}{q:Rat}
variable {m:Nat}{S:Nat→Rat}{Q:Nat→Pt × Pt}{T:List Rat}
variable {S':Nat→Rat}{Q':Nat→Pt × Pt}
theorem a1z {f:DE}{s s1:DS}{ds:List D}(h:f s=some (.lst ds,s1)):G6 f s=some (ds,s1):=by
 unfold G6
 rw[h]
 rfl
theorem Lay.in24 (L:Lay c ps m S Q T) {k:Int}(h0:0≤k) (h1:k≤24):In (S m) (tw (S m) k):=by
 have mp:0<S m:=by
  have:=L.lt (i:=0) (j:=m) L.m1 (Nat.le_refl _)
  rwa [L.z] at this
 have a:=a6s mp h0
 have b:=a6s mp h1
 rw[J6] at a
 rw[X3] at b
 exact⟨a,b,(w6 (L.sz m (Nat.le_refl _)) (by omega)).mono (by decide)⟩
abbrev mpD (S:Nat→Rat) (Q:Nat→Pt × Pt) (m:Nat) (Z:List (Pt × Rat)) (z:Int × Int):D:=M8 (P6 S Q m Z (tw (S m) z.1) (tw (S m) z.2))
theorem b5b (L:Lay c ps m S Q T) (hl:ps.length≤9) (fs:Option FS) (e0:FSt [.tup [.bl c,.tup (ps.map pt)]] fs=some (.lst (T.map fr),fs)) (mp:0<S m) {ks:List Int}(hk:∀ k∈ks,1≤k∧k≤5) (k6:ks.length≤6) (k1:1≤ks.length) {o:Int}(o0:0≤o) (o1:o≤20) :
  FMo [.tup [.bl c,.tup (ps.map pt)],.tup ((ks.map (tw (S m))).map fr),fr (tw (S m) o)] fs=some (.lst ((o6 ks o).map (mpD S Q m (ps.zip T))),fs):=by
 have e:=a6D (L.sz m (Nat.le_refl _)) mp fs (.tup [.bl c,.tup (ps.map pt)]) hk k6 k1 o0 o1 (pll L fs e0)
 have ml:=a2l (ks:=ks) 60 (bg0 ks o) 0
 have cm:=a7j (idx:=[0]) (sl:=[.val (.tup [.bl c,.tup (ps.map pt)]),.val (.tup ((ks.map (tw (S m))).map fr)),.val (fr (tw (S m) o))]) (fe:=e7 FPo (a7 (dV 2) (a7 (dV 0) (a7 (dV 1) a8)))) fs (fun z:Int × Int=>fr (tw (S m) z.1)) (fun z=>fr (tw (S m) z.2)) (mpD S Q m (ps.zip T)) (o6 ks o) fun z hz=>by
  obtain⟨⟨a1,a2⟩,a3,a4⟩:=b47 _ _ _ z hz
  exact j9 rfl (b3Z L hl fs e0 (L.in24 a1 a2) (L.in24 a3 a4))
 exact m8 (s:=⟨[.val (.tup [.bl c,.tup (ps.map pt)]),.val (.tup ((ks.map (tw (S m))).map fr)),.val (fr (tw (S m) o))],fs⟩) (o8 (C9 (Y9 (idx:=[0]) (ds:=(o6 ks o).map (mkD (S m))) (s1:=⟨[.val (.tup [.bl c,.tup (ps.map pt)]),.val (.tup ((ks.map (tw (S m))).map fr)),.val (fr (tw (S m) o))],fs⟩) (a1z (j9 rfl e)) (O0 (by rw[List.length_map];unfold o6;omega)) cm)))
end T
namespace T
open PySem L2 DL
variable {m:Nat}{S:Nat→Rat}{p D:Nat→Pt}{X:List Rat}
variable {u v:Rat}{k:Nat}{S':Nat→Rat}{Q':Nat→Pt × Pt}
end T
namespace T
open PySem L2 DL
variable {m:Nat}{S:Nat→Rat}{p D:Nat→Pt}{X:List Rat}{u v w:Rat}
end T
namespace T
open PySem L2 DL
theorem a78 {k l:Nat}{p q:Rat}(ha:Sz k p) (hb:Sz l q) (hk:k≤1920:=by decide) (hl:l≤1920:=by decide):pNe (fr p) (fr q)=some (.bl (!decide (p=q))):=by
 have h1:=(Ok.fr ha hk).eq
 have h2:=(Ok.fr hb hl).eq
 have e:=a6v ha hb hk hl
 have e':pEq (fr p) (fr q)=some (.bl (PyData.eqv (fr p).py (fr q).py)):=by
  show (if B8 (fr p)&&B8 (fr q) then some (DL.D.bl (PyData.eqv (fr p).py (fr q).py)) else none)=_
  rw[h1,h2];rfl
 rw[e] at e'
 have ee:decide (p=q)=PyData.eqv (fr p).py (fr q).py:=DL.D.bl.inj (Option.some.inj e')
 show (if B8 (fr p)&&B8 (fr q) then some (DL.D.bl (!PyData.eqv (fr p).py (fr q).py)) else none)=_
 rw[h1,h2,←ee];rfl
variable {c:Bool}{ps:List Pt}{m:Nat}{S:Nat→Rat}{Q:Nat→Pt × Pt}{T:List Rat}{p D:Nat→Pt}
end T
namespace T
open PySem L2 DL
def N4 (M:Rat):Rat:=M*Rat.divInt 1 4
theorem a1H (M:Rat) (k:Int):tw (N4 M) k=M*Rat.divInt k 96:=by
 unfold tw N4
 rw[Rat.mul_assoc,Rat.divInt_mul_divInt,Int.one_mul]
 rfl
theorem L5 (M:Rat) (k:Int):tw M k=tw (N4 M) (4*k):=by
 rw[a1H]
 unfold tw
 rw[(Rat.divInt_eq_divInt_iff (by decide) (by decide)).mpr (show k*96=4*k*24 by omega)]
theorem U9 {M:Rat}{k:Int}(h:Sz 81 M) (hk:k.natAbs<1024):Sz 91 (tw (N4 M) k):=by
 rw[a1H]
 exact h.mul (Sz.of_divInt (k:=10) (by decide) hk (by decide))
theorem O6 {M:Rat}(h:0<M):0<N4 M:=by
 unfold N4
 exact Rat.mul_pos h (by decide +kernel)
abbrev WS3:DFn:=a0k WPl
theorem b4n {M:Rat}(hM:Sz 81 M) (P:Sl) (fs:Option FS):∀ (ks:List Int) (a:Int) (x2:Sl),(∀ k∈ks,0≤k∧k≤24)→0≤a→a+24*ks.length<1000→∃ y2,u7 (c9 2) (a21 WPl) (ks.map fun k=>fr (tw M k)) ⟨[P,.val (fr (tw M a)),x2],fs⟩=some (.next,⟨[P,.val (fr (tw M (a+ks.sum))),y2],fs⟩):=by
 intro ks
 have sz:∀ {k:Int},0≤k→k<1000→Sz 93 (tw M k):=fun h0 h1=>by
  unfold tw
  exact(hM.mul (Sz.of_divInt (k:=10) (by decide) (show _<1024 by omega) (by decide))).mono (by decide)
 induction ks with
 |nil=>exact fun a x2 _ _ _=>⟨x2,by rw[List.sum_nil,Int.add_zero];rfl⟩
 |cons k r ih=>
  intro a x2 hk h0 h1
  rw[List.length_cons] at h1
  have k1:=hk k (List.mem_cons_self ..)
  obtain⟨y2,e⟩:=ih (a+k) (.val (fr (tw M k))) (fun z hz=>hk z (List.mem_cons_of_mem _ hz)) (by omega) (by omega)
  refine⟨y2,?_⟩
  have p:=G3 (tw M a) (tw M k) fs (sz h0 (by omega)) (sz k1.1 (by omega)) (by decide)
  rw[V2] at p
  rw[List.sum_cons,←Int.add_assoc,List.map_cons,K6 (s1:=⟨[P,.val (fr (tw M a)),.val (fr (tw M k))],fs⟩) rfl (l5 (j9 rfl p) rfl)]
  exact e
theorem a5b {M:Rat}(hM:Sz 81 M) (fs:Option FS) {ks:List Int}(hk:∀ k∈ks,0≤k∧k≤24) (hl:ks.length≤40) (d:D) (hd:d = .tup (ks.map fun k=>fr (tw M k))∨d = .lst (ks.map fun k=>fr (tw M k))):WS3 [d] fs=some (fr (tw M ks.sum),fs):=by
 obtain⟨y2,lp⟩:=b4n hM (.val d) fs ks 0 .no hk (by decide) (by omega)
 rw[Int.zero_add,J6] at lp
 refine m8 (s:=⟨[.val d,.val (fr (tw M ks.sum)),y2],fs⟩) ?_
 show a4x WPl ⟨[.val d,.no,.no],fs⟩=_
 unfold a4x
 have it:F6 (dV 0) (c9 2) (a21 WPl) ⟨[.val d,.val (fr 0),.no],fs⟩=some (.next,⟨[.val d,.val (fr (tw M ks.sum)),y2],fs⟩):=by
  rcases hd with rfl | rfl
  ·exact(a0b (s1:=⟨[.val _,.val (fr 0),.no],fs⟩) rfl).trans lp
  ·exact(X5 (s1:=⟨[.val _,.val (fr 0),.no],fs⟩) rfl).trans lp
 rw[i6 (s1:=⟨[.val d,.val (fr 0),.no],fs⟩) (l5 (w9 rfl rfl) rfl),i6 it]
 exact o8 rfl
abbrev m6 (M:Rat) (ks:List Int):D:=.tup ((ks.map (tw M)).map fr)
theorem b5S (M:Rat) (ks:List Int):m6 M ks = .tup (ks.map fun k=>fr (tw M k)):=by
 show D.tup _=_
 rw[List.map_map]
 rfl
abbrev WRs:DFn:=a13 WMi WPr WS3
theorem a5I {M:Rat}(hM:Sz 81 M) (h0:0<M) (fs:Option FS) {ks:List Int}(hk:∀ k∈ks,1≤k∧k≤5) (hl:ks.length≤6) (h1:1≤ks.length) {Y:Int}(y0:0≤Y) (y1:Y<400) :
  WRs [m6 M ks,fr (tw (N4 M) Y)] fs=some (.tup [.int (Y / (4*ks.sum)),fr (tw (N4 M) (Y % (4*ks.sum)))],fs):=by
 obtain⟨s1,s2⟩:=U8 ks hk
 have sm:=a5b hM fs (ks:=ks) (fun k h=>⟨by have:=hk k h;omega,by have:=hk k h;omega⟩) (by omega) (m6 M ks) (.inl (b5S M ks))
 rw[L5] at sm
 have hY:Sz 91 (tw (N4 M) Y):=U9 hM (by omega)
 have hK:Sz 91 (tw (N4 M) (4*ks.sum)):=U9 hM (by omega)
 have K0:0<4*ks.sum:=by omega
 have fd:=a6f (O6 h0) (o:=Y) K0
 rw[Int.fdiv_eq_ediv_of_nonneg _ (Int.le_of_lt K0)] at fd
 have q0:0<tw (N4 M) (4*ks.sum):=by
  rw[←J6 (N4 M)]
  exact(D8 (O6 h0) 0 _).mpr K0
 have nz:(tw (N4 M) Y).den*(tw (N4 M) (4*ks.sum)).num≠0:=Int.ne_of_gt (Int.mul_pos (X2 _) (a2e q0))
 have dn:=Int.ediv_nonneg y0 (Int.le_of_lt K0)
 have dm:=Int.mul_ediv_add_emod Y (4*ks.sum)
 have rn:=Int.emod_nonneg Y (show 4*ks.sum≠0 by omega)
 have rl:=Int.emod_lt_of_pos Y K0
 have dl:Y / (4*ks.sum)≤Y:=Int.ediv_le_self _ y0
 have pr:=P2 (tw (N4 M) (4*ks.sum)).num (tw (N4 M) (4*ks.sum)).den (Y / (4*ks.sum)) 1 fs (E1 _) (by decide) hK.num hK.den (show Bd 10 _ from (show _<1024 by omega)) (show (1:Int).natAbs<2 ^ 10 by decide) (by decide)
 have e1:Rat.divInt ((tw (N4 M) (4*ks.sum)).num*(Y / (4*ks.sum))) ((tw (N4 M) (4*ks.sum)).den*1)=tw (N4 M) (Y - Y % (4*ks.sum)):=by
  have:Rat.divInt ((tw (N4 M) (4*ks.sum)).num*(Y / (4*ks.sum))) ((tw (N4 M) (4*ks.sum)).den*1)=tw (N4 M) (4*ks.sum)*Rat.divInt (Y / (4*ks.sum)) 1:=by
   conv=>rhs;lhs;rw[S8 (tw (N4 M) (4*ks.sum))]
   rw[Rat.divInt_mul_divInt]
  rw[this]
  unfold tw
  rw[Rat.mul_assoc,Rat.divInt_mul_divInt]
  congr 2
  omega
 rw[e1] at pr
 have mi:=J8 (tw (N4 M) Y) (tw (N4 M) (Y - Y % (4*ks.sum))) fs hY (U9 hM (by omega)) (by decide)
 rw[U6,show Y - (Y - Y % (4*ks.sum))=Y % (4*ks.sum) by omega] at mi
 generalize tw (N4 M) (4*ks.sum)=W at *
 generalize tw (N4 M) Y=F at *
 generalize tw (N4 M) (Y - Y % (4*ks.sum))=G at *
 generalize tw (N4 M) (Y % (4*ks.sum))=R at *
 generalize Y / (4*ks.sum)=m at *
 refine m8 (s:=⟨[.val (m6 M ks),.val (fr F),.val (fr W),.val (.int m)],fs⟩) ?_
 show a27 WMi WPr WS3 ⟨[.val (m6 M ks),.val (fr F),.no,.no],fs⟩=_
 unfold a27
 have b1:=hY.num.bits (by decide)
 have b2:=hK.den.bits (by decide)
 have b3:=hY.den.bits (by decide)
 have b4:=hK.num.bits (by decide)
 have dd:=(hY.den.mul hK.num).div nz (by decide)
 rw[i6 (s1:=⟨[.val (m6 M ks),.val (fr F),.val (fr W),.no],fs⟩) (l5 (j9 rfl sm) rfl),
  i6 (s1:=⟨[.val (m6 M ks),.val (fr F),.val (fr W),.val (.int m)],fs⟩) (l5 (c7 (c7 (c7 rfl rfl (D3 F)) (c7 rfl rfl (C2 W)) (r8 b1 b2)) (c7 (c7 rfl rfl (C2 F)) (c7 rfl rfl (D3 W)) (r8 b3 b4)) ((a4G _ dd).trans (congrArg (fun z=>some (D.int z)) fd))) rfl)]
 exact o8 (w9 rfl (j9 (i5 rfl (i5 (j9 (i5 rfl (i5 (w9 rfl rfl) rfl)) pr) rfl)) mi))
def cr (a b:Pt):Rat:=a.1*b.2 - a.2*b.1
theorem a3o (lo:Int) (n:Nat):ups lo (n+1) = .int lo::ups (lo+1) n:=by
 unfold ups
 rw[List.range_succ_eq_map,List.map_cons,List.map_map]
 congr 1
 ·simp
 ·congr 1;funext i
  show D.int (lo+((i+1:Nat):Int))=D.int (lo+1+(i:Int))
  congr 1;omega
theorem a6O {t:D→DS→Option DS}{b:DM}{d v:D}{r:List D}{s s1 s2:DS}(h1:t d s=some s1) (h2:b s1=some (.ret v,s2)):u7 t b (d::r) s=some (.ret v,s2):=by simp[u7,h1,h2]
abbrev WMk:DFn:=a5i WMi t7 WRs
abbrev lMk:DM:=a1L WMi t7 WRs
abbrev imS (P Y:D) (N:Rat) (d:Int) (x3:Sl) (fs:Option FS):DS:=⟨[.val P,.val Y,.val (fr (tw N d)),x3],fs⟩
theorem a8g {M:Rat}{ks:List Int}{n:Nat}{k:Int}(h:ks[n]? = some k):pIx (m6 M ks) (.int (n:Int))=some (fr (tw M k)):=(ixT _ _).trans (atN (by rw[List.getElem?_map,List.getElem?_map,h];rfl))
theorem a7n (n:Nat):decide ((n:Int).fmod 2=0)=decide (n % 2=0):=by
 have e:(n:Int).fmod 2=((n % 2:Nat):Int):=by
  rw[Int.fmod_eq_emod_of_nonneg _ (by decide)];rfl
 rw[e]
 by_cases h:n % 2=0
 ·rw[decide_eq_true h,decide_eq_true (by omega)]
 ·rw[decide_eq_false h,decide_eq_false (by omega)]
theorem a5z (x:Rat):x.num<0↔x<0:=by
 rw[←Int.not_le,←Rat.not_le,Rat.num_nonneg]
theorem a6b (q:Rat):decide (q.num<0)=decide (q<0):=by
 by_cases h:q<0
 ·rw[decide_eq_true h,decide_eq_true ((a5z q).mpr h)]
 ·rw[decide_eq_false h,decide_eq_false (fun z=>h ((a5z q).mp z))]
theorem b0D {M:Rat}(hM:Sz 81 M) (h0:0<M) (fs:Option FS) {ks:List Int}(Y:D) {n:Nat}{k:Int}(hn:ks[n]? = some k) (hk:1≤k∧k≤5) {d:Int}(d0:0≤d) (d1:d<400) :
  lMk (imS (m6 M ks) Y (N4 M) d (.val (.int (n:Int))) fs)=(if n % 2=0∧d≤4*k then some (.ret (.bl true),imS (m6 M ks) Y (N4 M) d (.val (.int (n:Int))) fs) else if d<4*k then some (.ret (.bl false),imS (m6 M ks) Y (N4 M) (d - 4*k) (.val (.int (n:Int))) fs) else some (.next,imS (m6 M ks) Y (N4 M) (d - 4*k) (.val (.int (n:Int))) fs)):=by
 have ix:=a8g (M:=M) hn
 have sk:Sz 91 (tw M k):=by rw[L5];exact U9 hM (by omega)
 have sd:Sz 91 (tw (N4 M) d):=U9 hM (by omega)
 have bl:=Q9 (tw M k) (tw (N4 M) d) fs sk sd (by decide)
 have be:decide (tw M k<tw (N4 M) d)=decide (4*k<d):=by
  rw[Bool.eq_iff_iff,decide_eq_true_iff,decide_eq_true_iff,L5]
  exact D8 (O6 h0) _ _
 rw[be] at bl
 have mi:=J8 (tw (N4 M) d) (tw M k) fs sd sk (by decide)
 rw[show tw (N4 M) d - tw M k=tw (N4 M) (d - 4*k) by rw[L5 M k,U6]] at mi
 have ng:decide ((tw (N4 M) (d - 4*k)).num<0)=decide (d<4*k):=by
  rw[a6b,Bool.eq_iff_iff,decide_eq_true_iff,decide_eq_true_iff]
  conv=>lhs;rhs;rw[←J6 (N4 M)]
  rw[D8 (O6 h0)]
  omega
 have t1:A8 (B1 (dTr (e7 t7 (a7 (dOp pIx (dL 0) (dL 3)) (a7 (dV 2) a8))))) (dB (dOp pEq (dOp y8 (dL 3) (dC (.int 2))) (dC (.int 0)))) (imS (m6 M ks) Y (N4 M) d (.val (.int (n:Int))) fs)=some (decide (n % 2=0∧d≤4*k),imS (m6 M ks) Y (N4 M) d (.val (.int (n:Int))) fs):=by
  have a:B1 (dTr (e7 t7 (a7 (dOp pIx (dL 0) (dL 3)) (a7 (dV 2) a8)))) (imS (m6 M ks) Y (N4 M) d (.val (.int (n:Int))) fs)=some (!decide (4*k<d),imS (m6 M ks) Y (N4 M) d (.val (.int (n:Int))) fs):=V6 (E7 (j9 (m:=t7) (sl:=[.val (m6 M ks),.val Y,.val (fr (tw (N4 M) d)),.val (.int (n:Int))]) (i5 (c7 rfl rfl ix) (i5 rfl rfl)) bl))
  have b:dB (dOp pEq (dOp y8 (dL 3) (dC (.int 2))) (dC (.int 0))) (imS (m6 M ks) Y (N4 M) d (.val (.int (n:Int))) fs)=some (decide (n % 2=0),imS (m6 M ks) Y (N4 M) d (.val (.int (n:Int))) fs):=by
   rw[←a7n]
   exact C0 (c7 (c7 rfl rfl (a7o _ (by decide))) rfl (P7 _ _))
  by_cases c:4*k<d
  ·rw[decide_eq_true c] at a
   rw[decide_eq_false (fun q=>by omega)]
   exact X6 a
  ·rw[decide_eq_false c] at a
   refine(P8 a b).trans ?_
   congr 2
   rw[Bool.eq_iff_iff,decide_eq_true_iff,decide_eq_true_iff]
   exact⟨fun q=>⟨q,by omega⟩,fun q=>q.1⟩
 show a1L WMi t7 WRs _=_
 unfold a1L
 by_cases c1:n % 2=0∧d≤4*k
 ·rw[decide_eq_true c1] at t1
  rw[if_pos c1]
  exact T3 ((L8 t1).trans (o8 rfl))
 ·rw[decide_eq_false c1] at t1
  rw[if_neg c1,i6 (E5 t1),i6 (s1:=imS (m6 M ks) Y (N4 M) (d - 4*k) (.val (.int (n:Int))) fs) (l5 (j9 (sl:=[.val (m6 M ks),.val Y,.val (fr (tw (N4 M) d)),.val (.int (n:Int))]) (i5 rfl (i5 (c7 rfl rfl ix) rfl)) mi) rfl)]
  have t2:dB (dOp (n9 (fun i j=>decide (i<j))) (dOp pIx (dL 2) (dC (.int 0))) (dC (.int 0))) (imS (m6 M ks) Y (N4 M) (d - 4*k) (.val (.int (n:Int))) fs)=some (decide (d<4*k),imS (m6 M ks) Y (N4 M) (d - 4*k) (.val (.int (n:Int))) fs):=by
   rw[←ng]
   exact C0 (c7 (c7 rfl rfl (D3 _)) rfl rfl)
  by_cases c2:d<4*k
  ·rw[decide_eq_true c2] at t2
   rw[if_pos c2]
   exact(L8 t2).trans (o8 rfl)
  ·rw[decide_eq_false c2] at t2
   rw[if_neg c2]
   exact E5 t2
theorem b49 {M:Rat}(hM:Sz 81 M) (h0:0<M) (fs:Option FS) {ks:List Int}(Y:D) (hk:∀ k∈ks,1≤k∧k≤5):∀ (l:List Int) (n:Nat) (d:Int) (x3:Sl),ks.drop n=l→0≤d→d<400 →
  (∃ s',u7 (c9 3) lMk (ups (n:Int) l.length) (imS (m6 M ks) Y (N4 M) d x3 fs)=some (.ret (.bl (imk n l d)),s')∧s'.fs=fs)∨(∃ d' y3,u7 (c9 3) lMk (ups (n:Int) l.length) (imS (m6 M ks) Y (N4 M) d x3 fs)=some (.next,imS (m6 M ks) Y (N4 M) d' y3 fs)∧decide (d'=0)=imk n l d∧0≤d'∧d'<400):=by
 intro l
 induction l with
 |nil=>exact fun n d x3 _ e0 e1=>.inr ⟨d,x3,rfl,rfl,e0,e1⟩
 |cons k r ih=>
  intro n d x3 hd e0 e1
  obtain⟨hn,hg,hr⟩:=Y3 hd
  have hkn:ks[n]? = some k:=by
   have e:=List.getElem?_drop (xs:=ks) (i:=n) (j:=0)
   rw[hd] at e
   exact e.symm
  have kk:=hk k (List.mem_of_getElem? hkn)
  have tu:=b0D hM h0 fs Y hkn kk e0 e1
  rw[List.length_cons,a3o,imk]
  have pt3:c9 3 (.int (n:Int)) (imS (m6 M ks) Y (N4 M) d x3 fs)=some (imS (m6 M ks) Y (N4 M) d (.val (.int (n:Int))) fs):=rfl
  by_cases c1:n % 2=0∧d≤4*k
  ·rw[if_pos c1] at tu ⊢
   exact .inl ⟨_,a6O pt3 tu,rfl⟩
  ·rw[if_neg c1] at tu ⊢
   by_cases c2:d<4*k
   ·rw[if_pos c2] at tu ⊢
    exact .inl ⟨_,a6O pt3 tu,rfl⟩
   ·rw[if_neg c2] at tu ⊢
    rw[K6 pt3 tu,show (n:Int)+1=((n+1:Nat):Int) by omega]
    exact ih (n+1) (d - 4*k) _ hr (by omega) (by omega)
theorem b0i {M:Rat}(hM:Sz 81 M) (h0:0<M) (fs:Option FS) {ks:List Int}(hk:∀ k∈ks,1≤k∧k≤5) (hl:ks.length≤6) (h1:1≤ks.length) {Y:Int}(y0:0≤Y) (y1:Y<400) :
  WMk [m6 M ks,fr (tw (N4 M) Y)] fs=some (.bl (imk 0 ks (Y % (4*ks.sum))),fs):=by
 obtain⟨s1,s2⟩:=U8 ks hk
 have rs:=a5I hM h0 fs hk hl h1 y0 y1
 have rn:=Int.emod_nonneg Y (show 4*ks.sum≠0 by omega)
 have rl:=Int.emod_lt_of_pos Y (show 0<4*ks.sum by omega)
 generalize Y % (4*ks.sum)=d at *
 have a1:j7 (dOp pIx (e7 WRs (a7 (dV 0) (a7 (dV 1) a8))) (dC (.int 1))) (c9 2) ⟨[.val (m6 M ks),.val (fr (tw (N4 M) Y)),.no,.no],fs⟩=some (.next,imS (m6 M ks) (fr (tw (N4 M) Y)) (N4 M) d .no fs):=l5 (c7 (j9 rfl rs) rfl rfl) rfl
 have fr':∀ R,u7 (c9 3) lMk (ups 0 ks.length) (imS (m6 M ks) (fr (tw (N4 M) Y)) (N4 M) d .no fs)=R→O9 (a7 (dCB (one t6) (a7 (dL 0) a8)) a8) (c9 3) lMk (imS (m6 M ks) (fr (tw (N4 M) Y)) (N4 M) d .no fs)=R:=fun R e=>(a0j (xs:=[.int (((ks.map (tw M)).map fr).length:Int)]) (s1:=imS (m6 M ks) (fr (tw (N4 M) Y)) (N4 M) d .no fs) (i5 (F3 (p:=t6) rfl rfl) rfl) (by rw[List.length_map,List.length_map];exact V8 (by omega))).trans e
 rcases b49 hM h0 fs (fr (tw (N4 M) Y)) hk ks 0 d .no rfl rn (by omega) with ⟨s',lp,sf⟩ | ⟨d',y3,lp,de,d0,d1⟩
 ·have z:a0J WMi t7 WRs ⟨[.val (m6 M ks),.val (fr (tw (N4 M) Y)),.no,.no],fs⟩=some (.ret (.bl (imk 0 ks d)),s'):=by
   unfold a0J
   rw[i6 a1]
   exact T3 (fr' _ lp)
  have:=m8 (n:=4) (ds:=[m6 M ks,fr (tw (N4 M) Y)]) z
  rw[sf] at this
  exact this
 ·refine m8 (s:=imS (m6 M ks) (fr (tw (N4 M) Y)) (N4 M) d' y3 fs) ?_
  show a0J WMi t7 WRs ⟨[.val (m6 M ks),.val (fr (tw (N4 M) Y)),.no,.no],fs⟩=_
  unfold a0J
  rw[i6 a1,i6 (fr' _ lp),←de]
  refine o8 (c7 rfl (w9 rfl rfl) ?_)
  have pe:=a6v (U9 (k:=d') hM (by omega)) (show Sz 1 (0:Rat) from Sz.lit (by decide))
  refine Eq.trans (show _=pEq (fr (tw (N4 M) d')) (fr 0) from rfl) (pe.trans ?_)
  congr 2
  rw[Bool.eq_iff_iff,decide_eq_true_iff,decide_eq_true_iff]
  constructor
  ·intro e
   have a:=(D8 (O6 h0) d' 0)
   have b:=(D8 (O6 h0) 0 d')
   rw[J6,e] at a b
   have na:¬ d'<0:=fun z=>Rat.lt_irrefl (a.mpr z)
   have nb:¬ 0<d':=fun z=>Rat.lt_irrefl (b.mpr z)
   omega
  ·rintro rfl
   exact J6 _
abbrev WFl:DFn:=a3q WMi WPl t7 WPr WS3 WRs
abbrev lFl:DM:=a1p WMi WPl t7 WPr WS3 WRs
abbrev flS (P Y:D) (m:Int) (M:Rat) (d a:Int) (x5 x6:Sl) (fs:Option FS):DS:=⟨[.val P,.val Y,.val (.int m),.val (fr (tw M d)),.val (fr (tw M a)),x5,x6],fs⟩
theorem b41 {M:Rat}(hM:Sz 81 M) (h0:0<M) (fs:Option FS) {ks:List Int}(Y:D) (m:Int) {n:Nat}{k:Int}(hn:ks[n]? = some k) (hk:1≤k∧k≤5) {d a:Int}(d0:0≤d) (d1:d<100) (a0:0≤a) (a1:a<110) (x6:Sl) :
  ∃ y6,lFl (flS (m6 M ks) Y m M d a (.val (.int (n:Int))) x6 fs)=some (.next,flS (m6 M ks) Y m M (d - min d k) (a+if n % 2=0 then min d k else 0) (.val (.int (n:Int))) y6 fs):=by
 have ix:=a8g (M:=M) hn
 have sk:Sz 88 (tw M k):=w6 hM (by omega)
 have sd:Sz 88 (tw M d):=w6 hM (by omega)
 have sa:Sz 88 (tw M a):=w6 hM (by omega)
 have so:Sz 88 (tw M (min d k)):=w6 hM (by omega)
 have bl:=Q9 (tw M d) (tw M k) fs sd sk (by decide)
 have be:decide (tw M d<tw M k)=decide (d<k):=by
  rw[Bool.eq_iff_iff,decide_eq_true_iff,decide_eq_true_iff]
  exact D8 h0 _ _
 rw[be] at bl
 have pl:=G3 (tw M a) (tw M (min d k)) fs sa so (by decide)
 rw[V2] at pl
 have mi:=J8 (tw M d) (tw M (min d k)) fs sd so (by decide)
 rw[U6] at mi
 have e1:j7 (dIf (dTr (e7 t7 (a7 (dV 3) (a7 (dOp pIx (dL 0) (dL 5)) a8)))) (dV 3) (dOp pIx (dL 0) (dL 5))) (c9 6) (flS (m6 M ks) Y m M d a (.val (.int (n:Int))) x6 fs)=some (.next,flS (m6 M ks) Y m M d a (.val (.int (n:Int))) (.val (fr (tw M (min d k)))) fs):=by
  have t:dTr (e7 t7 (a7 (dV 3) (a7 (dOp pIx (dL 0) (dL 5)) a8))) (flS (m6 M ks) Y m M d a (.val (.int (n:Int))) x6 fs)=some (decide (d<k),flS (m6 M ks) Y m M d a (.val (.int (n:Int))) x6 fs):=E7 (j9 (i5 rfl (i5 (c7 rfl rfl ix) rfl)) bl)
  by_cases c:d<k
  ·rw[decide_eq_true c] at t
   rw[show min d k=d by omega]
   exact l5 ((a1l t).trans rfl) rfl
  ·rw[decide_eq_false c] at t
   rw[show min d k=k by omega]
   exact l5 ((a2c t).trans (c7 rfl rfl ix)) rfl
 have e2:p9 (dB (dOp pEq (dOp y8 (dL 5) (dC (.int 2))) (dC (.int 0)))) (j7 (e7 WPl (a7 (dV 4) (a7 (dV 6) a8))) (c9 4)) u6 (flS (m6 M ks) Y m M d a (.val (.int (n:Int))) (.val (fr (tw M (min d k)))) fs)=some (.next,flS (m6 M ks) Y m M d (a+if n % 2=0 then min d k else 0) (.val (.int (n:Int))) (.val (fr (tw M (min d k)))) fs):=by
  have t:dB (dOp pEq (dOp y8 (dL 5) (dC (.int 2))) (dC (.int 0))) (flS (m6 M ks) Y m M d a (.val (.int (n:Int))) (.val (fr (tw M (min d k)))) fs)=some (decide (n % 2=0),flS (m6 M ks) Y m M d a (.val (.int (n:Int))) (.val (fr (tw M (min d k)))) fs):=by
   rw[←a7n]
   exact C0 (c7 (c7 rfl rfl (a7o _ (by decide))) rfl (P7 _ _))
  by_cases c:n % 2=0
  ·rw[decide_eq_true c] at t
   rw[if_pos c,L8 t]
   exact l5 (j9 rfl pl) rfl
  ·rw[decide_eq_false c] at t
   rw[if_neg c,Int.add_zero]
   exact E5 t
 refine⟨.val (fr (tw M (min d k))),?_⟩
 show a1p WMi WPl t7 WPr WS3 WRs _=_
 unfold a1p
 rw[i6 e1,i6 e2]
 exact l5 (j9 rfl mi) rfl
theorem b1U {M:Rat}(hM:Sz 81 M) (h0:0<M) (fs:Option FS) {ks:List Int}(Y:D) (m:Int) (hk:∀ k∈ks,1≤k∧k≤5):∀ (l:List Int) (n:Nat) (d a:Int) (x5 x6:Sl),ks.drop n=l→0≤d→d<100→0≤a→a+5*l.length<110 →
  ∃ d' y5 y6,u7 (c9 5) lFl (ups (n:Int) l.length) (flS (m6 M ks) Y m M d a x5 x6 fs)=some (.next,flS (m6 M ks) Y m M d' (a+fil n l d) y5 y6 fs):=by
 intro l
 induction l with
 |nil=>exact fun n d a x5 x6 _ _ _ _ _=>⟨d,x5,x6,by rw[fil,Int.add_zero];rfl⟩
 |cons k r ih=>
  intro n d a x5 x6 hd d0 d1 a0 a1
  obtain⟨hn,hg,hr⟩:=Y3 hd
  have hkn:ks[n]? = some k:=by
   have e:=List.getElem?_drop (xs:=ks) (i:=n) (j:=0)
   rw[hd] at e
   exact e.symm
  have kk:=hk k (List.mem_of_getElem? hkn)
  rw[List.length_cons] at a1 ⊢
  obtain⟨y6,tu⟩:=b41 hM h0 fs Y m hkn kk d0 d1 a0 (by omega) x6
  obtain⟨d',z5,z6,e⟩:=ih (n+1) (d - min d k) (a+if n % 2=0 then min d k else 0) (.val (.int (n:Int))) y6 hr (by omega) (by omega) (by split <;> omega) (by split <;> omega)
  refine⟨d',z5,z6,?_⟩
  rw[a3o,K6 (s1:=flS (m6 M ks) Y m M d a (.val (.int (n:Int))) x6 fs) rfl tu,show (n:Int)+1=((n+1:Nat):Int) by omega,e,fil,Int.add_assoc]
def ev2:List Int→List Int
 |[]=>[]
 |[k]=>[k]
 |k::_::r=>k::ev2 r
theorem b4D {ks:List Int}(he:ks.length % 2=0) (h1:1≤ks.length) (h6:ks.length≤6):(∃ a b,ks=[a,b])∨(∃ a b c d,ks=[a,b,c,d])∨∃ a b c d e f,ks=[a,b,c,d,e,f]:=by
 match ks,he,h1,h6 with
 |[a,b],_,_,_=>exact .inl ⟨a,b,rfl⟩
 |[a,b,c,d],_,_,_=>exact .inr (.inl ⟨a,b,c,d,rfl⟩)
 |[a,b,c,d,e,f],_,_,_=>exact .inr (.inr ⟨a,b,c,d,e,f,rfl⟩)
 |[],_,h,_=>simp at h
 |[_],h,_,_=>simp at h
 |[_,_,_],h,_,_=>simp at h
 |[_,_,_,_,_],h,_,_=>simp at h
 |_::_::_::_::_::_::_::_,_,_,h=>simp at h
theorem b1J {ks:List Int}(he:ks.length % 2=0) (h1:1≤ks.length) (h6:ks.length≤6):(ev2 ks).sum=evS 0 ks:=by
 rcases b4D he h1 h6 with ⟨a,b,rfl⟩ | ⟨a,b,c,d,rfl⟩ | ⟨a,b,c,d,e,f,rfl⟩ <;> simp[ev2,evS]
theorem a59:∀ ks:List Int,ev2 ks=evn ks
 |[]=>rfl
 |[_]=>rfl
 |k::_::r=>by rw[ev2,evn,a59 r]
theorem a3T:∀ (ks:List Int) (n:Nat),(∀ k∈ks,1≤k∧k≤5)→0≤evS n ks∧evS n ks≤ks.sum
 |[],_,_=>⟨Int.le_refl _,Int.le_refl _⟩
 |k::r,n,h=>by
  have k1:=h k (List.mem_cons_self ..)
  have:=a3T r (n+1) fun x hx=>h x (List.mem_cons_of_mem _ hx)
  rw[evS,List.sum_cons]
  split <;> omega
theorem a7m {ks:List Int}:∀ k∈evn ks,k∈ks:=by
 have:∀ (n:Nat) (ks:List Int),ks.length≤n→∀ k∈evn ks,k∈ks:=by
  intro n
  induction n with
  |zero=>
   intro ks hn k hk
   cases ks with
   |nil=>cases hk
   |cons _ _=>simp at hn
  |succ n ih=>
   intro ks hn k hk
   match ks,hn,hk with
   |[_],_,hk=>exact hk
   |a::b::r,hn,hk=>
    rw[evn] at hk
    rw[List.length_cons,List.length_cons] at hn
    rcases List.mem_cons.mp hk with z | z
    ·rw[z];exact List.mem_cons_self ..
    ·exact List.mem_cons_of_mem _ (List.mem_cons_of_mem _ (ih r (by omega) k z))
 exact this _ ks (Nat.le_refl _)
theorem b3Q {M:Rat}(hM:Sz 81 M) {a m:Int}(fs:Option FS) (ha:a.natAbs<128) (hm:m.natAbs<1024):WPr [fr (tw M a),.tup [.int m,.int 1]] fs=some (fr (tw M (a*m)),fs):=by
 have sa:Sz 88 (tw M a):=w6 hM ha
 have pr:=P2 (tw M a).num (tw M a).den m 1 fs (E1 _) (by decide) sa.num sa.den (show Bd 10 m from hm) (show (1:Int).natAbs<2 ^ 10 by decide) (by decide)
 have e1:Rat.divInt ((tw M a).num*m) ((tw M a).den*1)=tw M (a*m):=by
  have:Rat.divInt ((tw M a).num*m) ((tw M a).den*1)=tw M a*Rat.divInt m 1:=by
   conv=>rhs;lhs;rw[S8 (tw M a)]
   rw[Rat.divInt_mul_divInt]
  rw[this]
  unfold tw
  rw[Rat.mul_assoc,Rat.divInt_mul_divInt]
  congr 2
 rw[e1] at pr
 exact pr
theorem a8O {M:Rat}(hM:Sz 81 M) (h0:0<M) (fs:Option FS) {ks:List Int}(hk:∀ k∈ks,1≤k∧k≤5) (he:ks.length % 2=0) (hl:ks.length≤6) (h1:1≤ks.length) {y:Int}(y0:0≤y) (y1:y<64) :
  WFl [m6 M ks,fr (tw M y)] fs=some (fr (tw M (G9 ks y)),fs):=by
 obtain⟨s1,s2⟩:=U8 ks hk
 have rs:=a5I hM h0 fs hk hl h1 (Y:=4*y) (by omega) (by omega)
 rw[←L5,Int.mul_ediv_mul_of_pos _ _ (by decide),Int.mul_emod_mul_of_pos _ _ (by decide),←L5] at rs
 have K0:0<ks.sum:=by omega
 have rn:=Int.emod_nonneg y (show ks.sum≠0 by omega)
 have rl:=Int.emod_lt_of_pos y K0
 have dn:=Int.ediv_nonneg y0 (Int.le_of_lt K0)
 have dm:=Int.mul_ediv_add_emod y ks.sum
 have dl:y / ks.sum≤y:=Int.ediv_le_self _ y0
 obtain⟨v0,v1⟩:=a3T ks 0 hk
 have sm:=a5b hM fs (ks:=evn ks) (fun k h=>⟨by have:=hk k (a7m k h);omega,by have:=hk k (a7m k h);omega⟩) (by rw[evn_len];omega) (.tup (evn ((ks.map (tw M)).map fr))) (.inl (by rw[a3E,a3E,List.map_map];rfl))
 rw[←a59,b1J he h1 hl] at sm
 have em0:0≤evS 0 ks*(y / ks.sum):=Int.mul_nonneg v0 dn
 have em1:evS 0 ks*(y / ks.sum)≤ks.sum*(y / ks.sum):=Int.mul_le_mul_of_nonneg_right v1 dn
 have pr:=b3Q hM fs (a:=evS 0 ks) (m:=y / ks.sum) (by omega) (by omega)
 obtain⟨d',y5,y6,lp⟩:=b1U hM h0 fs (fr (tw M y)) (y / ks.sum) hk ks 0 (y % ks.sum) (evS 0 ks*(y / ks.sum)) .no .no rfl rn (by omega) em0 (by omega)
 have lp:u7 (c9 5) lFl (ups 0 ks.length) (flS (m6 M ks) (fr (tw M y)) (y / ks.sum) M (y % ks.sum) (evS 0 ks*(y / ks.sum)) .no .no fs)=some (.next,flS (m6 M ks) (fr (tw M y)) (y / ks.sum) M d' (G9 ks y) y5 y6 fs):=lp
 generalize G9 ks y=R at *
 generalize evS 0 ks*(y / ks.sum)=E at *
 generalize y / ks.sum=m at *
 generalize y % ks.sum=d at *
 refine m8 (s:=flS (m6 M ks) (fr (tw M y)) m M d' R y5 y6 fs) ?_
 show a4r WMi WPl t7 WPr WS3 WRs ⟨[.val (m6 M ks),.val (fr (tw M y)),.no,.no,.no,.no,.no],fs⟩=_
 unfold a4r
 rw[i6 (s1:=⟨[.val (m6 M ks),.val (fr (tw M y)),.val (.int m),.val (fr (tw M d)),.no,.no,.no],fs⟩) (l5 (j9 rfl rs) rfl),
  i6 (s1:=flS (m6 M ks) (fr (tw M y)) m M d E .no .no fs) (l5 (j9 (i5 (j9 (i5 (x:=.tup (evn ((ks.map (tw M)).map fr))) (s1:=⟨[.val (m6 M ks),.val (fr (tw M y)),.val (.int m),.val (fr (tw M d)),.no,.no,.no],fs⟩) rfl rfl) sm) (i5 (w9 rfl rfl) rfl)) pr) rfl),
  i6 ((a0j (xs:=[.int (((ks.map (tw M)).map fr).length:Int)]) (s1:=flS (m6 M ks) (fr (tw M y)) m M d E .no .no fs) (i5 (F3 (p:=t6) rfl rfl) rfl) (by rw[List.length_map,List.length_map];exact V8 (by omega))).trans lp)]
 exact o8 rfl
abbrev WAp:DFn:=a2V t7
abbrev apS (M:Rat) (tl:D) (b:Option Int) (x3 x4:Sl) (fs:Option FS):DS:=⟨[.val (fr M),.val tl,.val (match b with | none=>.non | some b=>fr (tw M b)),x3,x4],fs⟩
theorem a9L {M:Rat}(hM:Sz 81 M) (h0:0<M) (fs:Option FS) (tl:D):∀ (l:List (Int × Int)) (b:Option Int) (x3 x4:Sl),(∀ z∈l,0≤z.1∧z.1<z.2∧z.2≤24)→l.Pairwise (fun y z=>y.2<z.1)→(∀ c,b=some c→0≤c∧c≤24∧∀ z∈l,c<z.1) →
  ∃ b' y3 y4,u7 (t9 2 (l7 (c9 3) (l7 (c9 4) u4))) (a3R t7) (l.map (mkD M)) (apS M tl b x3 x4 fs)=some (.next,apS M tl b' y3 y4 fs):=by
 intro l
 induction l with
 |nil=>exact fun b x3 x4 _ _ _=>⟨b,x3,x4,rfl⟩
 |cons z r ih=>
  intro b x3 x4 hz hp hb
  obtain⟨z0,z1,z2⟩:=hz z (List.mem_cons_self ..)
  rw[List.pairwise_cons] at hp
  obtain⟨b',y3,y4,e⟩:=ih (some z.2) (.val (fr (tw M z.1))) (.val (fr (tw M z.2))) (fun x hx=>hz x (List.mem_cons_of_mem _ hx)) hp.2 (fun c hc=>by
   cases hc
   exact⟨by omega,z2,hp.1⟩)
  refine⟨b',y3,y4,?_⟩
  have g1:Sz 88 (tw M z.1):=w6 hM (by omega)
  have g2:Sz 88 (tw M z.2):=w6 hM (by omega)
  have bl:=Q9 (tw M z.1) (tw M z.2) fs g1 g2 (by decide)
  rw[decide_eq_true ((D8 h0 _ _).mpr z1)] at bl
  have bl2:=Q9 M (tw M z.2) fs hM g2 (by decide)
  have nz:¬ M<tw M z.2:=fun q=>by
   have q:tw M 24<tw M z.2:=by rw[X3];exact q
   have:=(D8 h0 _ _).mp q
   omega
  rw[decide_eq_false nz] at bl2
  have ng:decide ((tw M z.1).num<0)=false:=by
   rw[a6b]
   refine decide_eq_false fun q=>?_
   rw[←J6 M] at q
   have:=(D8 h0 _ _).mp q
   omega
  have t1:∀ B:D,dOr (dB (dOp (n9 (fun i j=>decide (i<j))) (dOp pIx (dL 3) (dC (.int 0))) (dC (.int 0)))) (dOr (B1 (dTr (e7 t7 (a7 (dV 3) (a7 (dV 4) a8))))) (dTr (e7 t7 (a7 (dV 0) (a7 (dV 4) a8))))) ⟨[.val (fr M),.val tl,.val B,.val (fr (tw M z.1)),.val (fr (tw M z.2))],fs⟩=some (false,⟨[.val (fr M),.val tl,.val B,.val (fr (tw M z.1)),.val (fr (tw M z.2))],fs⟩):=fun B=>
   a0C (by rw[←ng];exact C0 (c7 (c7 rfl rfl (D3 _)) rfl rfl)) (a0C (V6 (E7 (j9 rfl bl))) (E7 (j9 rfl bl2)))
  have t2:A8 (dB (dOp a2W (dL 2) (dC .non))) (B1 (dTr (e7 t7 (a7 (dV 2) (a7 (dV 3) a8))))) (apS M tl b (.val (fr (tw M z.1))) (.val (fr (tw M z.2))) fs)=some (false,apS M tl b (.val (fr (tw M z.1))) (.val (fr (tw M z.2))) fs):=by
   cases b with
   |none=>exact X6 (C0 (c7 rfl rfl rfl))
   |some c=>
    obtain⟨c0,c1,c2⟩:=hb c rfl
    have bl3:=Q9 (tw M c) (tw M z.1) fs (w6 hM (by omega)) g1 (by decide)
    rw[decide_eq_true ((D8 h0 _ _).mpr (c2 z (List.mem_cons_self ..)))] at bl3
    exact P8 (C0 (c7 rfl rfl rfl)) (V6 (E7 (j9 rfl bl3)))
  rw[List.map_cons,K6 (s1:=apS M tl b (.val (fr (tw M z.1))) (.val (fr (tw M z.2))) fs) (s2:=apS M tl (some z.2) (.val (fr (tw M z.1))) (.val (fr (tw M z.2))) fs) rfl ?_]
  ·exact e
  ·unfold a3R
   rw[i6 (E5 (t1 _)),i6 (E5 t2)]
   exact l5 rfl rfl
theorem b1P {M:Rat}(hM:Sz 81 M) (h0:0<M) (fs:Option FS) {l:List (Int × Int)}(h1:∀ z∈l,0≤z.1∧z.1<z.2∧z.2≤24) (h2:l.Pairwise (fun y z=>y.2<z.1)):WAp [fr M,.lst (l.map (mkD M))] fs=some (.bl true,fs):=by
 obtain⟨b',y3,y4,lp⟩:=a9L hM h0 fs (.lst (l.map (mkD M))) l none .no .no h1 h2 (fun c hc=>by cases hc)
 refine m8 (s:=apS M (.lst (l.map (mkD M))) b' y3 y4 fs) ?_
 show a4j t7 ⟨[.val (fr M),.val (.lst (l.map (mkD M))),.no,.no,.no],fs⟩=_
 unfold a4j
 rw[i6 (s1:=apS M (.lst (l.map (mkD M))) none .no .no fs) (l5 rfl rfl),i6 ((X5 (s1:=apS M (.lst (l.map (mkD M))) none .no .no fs) rfl).trans lp)]
 exact o8 rfl
abbrev qF (M:Rat) (k:Int):D:=fr (tw (N4 M) k)
theorem a9g {M:Rat}(h:Sz 81 M) {a:Int}(fs:Option FS) (ha:a.natAbs<128):WPr [fr M,.tup [.int a,.int 96]] fs=some (qF M a,fs):=by
 have pr:=P2 M.num M.den a 96 fs (E1 _) (by decide) h.num h.den (show Bd 7 a from ha) (show (96:Int).natAbs<2 ^ 7 by decide) (by decide)
 have e1:Rat.divInt (M.num*a) (M.den*96)=tw (N4 M) a:=by
  rw[a1H]
  conv=>rhs;rw[S8 M]
  rw[Rat.divInt_mul_divInt]
 rw[e1] at pr
 exact pr
theorem a8i {M:Rat}(h:Sz 81 M) {s:Int}(fs:Option FS) (hs:s.natAbs<128):WPr [fr (tw M s),.tup [.int 1,.int 2]] fs=some (qF M (2*s),fs):=by
 have sa:Sz 88 (tw M s):=w6 h hs
 have pr:=P2 (tw M s).num (tw M s).den 1 2 fs (E1 _) (by decide) sa.num sa.den (show (1:Int).natAbs<2 ^ 10 by decide) (show (2:Int).natAbs<2 ^ 10 by decide) (by decide)
 have e1:Rat.divInt ((tw M s).num*1) ((tw M s).den*2)=tw (N4 M) (2*s):=by
  have:Rat.divInt ((tw M s).num*1) ((tw M s).den*2)=tw M s*Rat.divInt 1 2:=by
   conv=>rhs;lhs;rw[S8 (tw M s)]
   rw[Rat.divInt_mul_divInt]
  rw[this,a1H]
  unfold tw
  rw[Rat.mul_assoc,Rat.divInt_mul_divInt,(Rat.divInt_eq_divInt_iff (by decide) (by decide)).mpr (show s*1*96=2*s*(24*2) by omega)]
 rw[e1] at pr
 exact pr
abbrev WAk:DFn:=a4O t7 WPr WPl LDw
abbrev akE:DE:=e7 WPr (a7 (dV 1) (a7 (j6 (a7 (dOp p7 (dC (.int 1)) (e7 LDw (a7 (dV 2) (a7 (dC (.int 95)) a8)))) (a7 (dC (.int 96)) a8))) a8))
theorem b5R {M:Rat}(hM:Sz 81 M):∀ (ds:List D) (n:Nat) (f:FS),Fd3 n f→n+ds.length<2 ^ 30→∃ (ks:List Int) (f':FS),A0 (fun d=>some (.val d::[.val (fr M),.val .feed])) B7 akE ds (some f)=some (ks.map (qF M),some f')∧ks.length=ds.length∧(∀ k∈ks,0≤k∧k≤96)∧Fd3 (n+ds.length) f':=by
 intro ds
 induction ds with
 |nil=>exact fun n f h _=>⟨[],f,rfl,rfl,(fun k hk=>by cases hk),h⟩
 |cons d r ih=>
  intro n f h hn
  rw[List.length_cons] at hn
  obtain⟨x,f1,e1,a1,a2,h1⟩:=F8 95 h
  obtain⟨ks,f',e,kl,kb,h'⟩:=ih (n+1) f1 h1 (by omega)
  refine⟨(1+x)::ks,f',?_,by rw[List.length_cons,List.length_cons,kl],?_,by rw[List.length_cons];exact h'.mono (by omega)⟩
  ·have pr:=a9g hM (some f1) (a:=1+x) (by omega)
   have el:akE ⟨.val d::[.val (fr M),.val .feed],some f⟩=some (qF M (1+x),⟨.val d::[.val (fr M),.val .feed],some f1⟩):=a8r (sl':=.val d::[.val (fr M),.val .feed]) (i5 rfl (i5 (w9 (c7 rfl (v5 rfl e1) rfl) rfl) rfl)) pr
   rw[A0,Option.bind_some,show B7 ⟨.val d::[.val (fr M),.val .feed],some f⟩=some (true,⟨.val d::[.val (fr M),.val .feed],some f⟩) from rfl,Option.bind_some,if_pos rfl,el,Option.bind_some,e]
   rfl
  ·intro k hk
   rcases List.mem_cons.mp hk with z | z
   ·omega
   ·exact kb k z
abbrev akS (M:Rat) (tl:D) (L:List Int) (x4 x5 x6:Sl) (fs:Option FS):DS:=⟨[.val .feed,.val (fr M),.val tl,.own (L.map (qF M)),x4,x5,x6],fs⟩
theorem b2r {i:Nat}{f:DA}{s s1:DS}{ds ds0 es:List D}(h0:s.sl[i]? = some (.own ds0)) (h:f s=some ([.lst es],s1)) (h1:s1.sl[i]? = some (.own ds)) (hl:ds.length+es.length≤sizeLine):a0P i f s=some (.next,{ s1 with sl:=s1.sl.set i (.own (ds++es)) }):=by
 unfold a0P a0O
 simp[h0,h,a3a,h1,hl]
theorem b2D {a b c:DE}{s s1 s2 s3:DS}{x y z:D}(h:a s=some (x,s1)) (h2:b s1=some (y,s2)) (h3:c s2=some (z,s3)):u9 (a7 a (a7 b (a7 c a8))) s=some ([x,y,z],s3):=by
 unfold u9
 rw[i5 h (i5 h2 (i5 h3 (show a8 s3=some ([],s3) from rfl))),Option.bind_some]
 exact if_pos (show 3≤sizeLine by decide)
theorem b5t {M:Rat}(hM:Sz 81 M) (fs:Option FS) (tl:D):∀ (l:List (Int × Int)) (L:List Int) (x4 x5 x6:Sl),(∀ z∈l,0≤z.1∧z.1<z.2∧z.2≤24)→(∀ k∈L,0≤k∧k≤96)→L.length+3*l.length≤500 →
  ∃ L' y4 y5,u7 (t9 2 (l7 (c9 4) (l7 (c9 5) u4))) (a1C t7 WPr WPl LDw) (l.map (mkD M)) (akS M tl L x4 x5 x6 fs)=some (.next,akS M tl L' y4 y5 x6 fs)∧(∀ k∈L',0≤k∧k≤96)∧L'.length=L.length+3*l.length:=by
 intro l
 induction l with
 |nil=>exact fun L x4 x5 x6 _ hL _=>⟨L,x4,x5,rfl,hL,rfl⟩
 |cons z r ih=>
  intro L x4 x5 x6 hz hL hn
  rw[List.length_cons] at hn
  obtain⟨z0,z1,z2⟩:=hz z (List.mem_cons_self ..)
  obtain⟨L',y4,y5,e,hb,hl⟩:=ih (L++[4*z.1,4*z.2,2*(z.1+z.2)]) (.val (fr (tw M z.1))) (.val (fr (tw M z.2))) x6 (fun x hx=>hz x (List.mem_cons_of_mem _ hx)) (fun k hk=>by
   rcases List.mem_append.mp hk with q | q
   ·exact hL k q
   ·simp only[List.mem_cons,List.not_mem_nil,or_false] at q
    omega) (by rw[List.length_append];show L.length+3+3*r.length≤500;omega)
  refine⟨L',y4,y5,?_,hb,by rw[hl,List.length_append,List.length_cons (a:=z)];show L.length+3+3*r.length=_;omega⟩
  have g1:Sz 88 (tw M z.1):=w6 hM (by omega)
  have g2:Sz 88 (tw M z.2):=w6 hM (by omega)
  have p1:=G3 (tw M z.1) (tw M z.2) fs g1 g2 (by decide)
  rw[V2] at p1
  have p2:=a8i hM fs (s:=z.1+z.2) (by omega)
  have ea:(L++[4*z.1,4*z.2,2*(z.1+z.2)]).map (qF M)=L.map (qF M)++[fr (tw M z.1),fr (tw M z.2),qF M (2*(z.1+z.2))]:=by
   rw[List.map_append,L5 M z.1,L5 M z.2]
   rfl
  have e:u7 (t9 2 (l7 (c9 4) (l7 (c9 5) u4))) (a1C t7 WPr WPl LDw) (r.map (mkD M)) ⟨[.val .feed,.val (fr M),.val tl,.own (L.map (qF M)++[fr (tw M z.1),fr (tw M z.2),qF M (2*(z.1+z.2))]),.val (fr (tw M z.1)),.val (fr (tw M z.2)),x6],fs⟩=some (.next,akS M tl L' y4 y5 x6 fs):=by
   rw[←ea]
   exact e
  rw[List.map_cons,K6 (s1:=akS M tl L (.val (fr (tw M z.1))) (.val (fr (tw M z.2))) x6 fs) (s2:=⟨[.val .feed,.val (fr M),.val tl,.own (L.map (qF M)++[fr (tw M z.1),fr (tw M z.2),qF M (2*(z.1+z.2))]),.val (fr (tw M z.1)),.val (fr (tw M z.2)),x6],fs⟩) rfl ?_]
  ·exact e
  ·unfold a1C
   exact b2r (ds:=L.map (qF M)) (s1:=akS M tl L (.val (fr (tw M z.1))) (.val (fr (tw M z.2))) x6 fs) rfl (i5 (C9 (b2D rfl rfl (j9 (i5 (j9 rfl p1) (i5 (w9 rfl rfl) rfl)) p2))) rfl) rfl (Nat.le_trans (show _≤600 by rw[List.length_map];show L.length+3≤600;omega) (by decide))
theorem b33 {M:Rat}(hM:Sz 81 M) (fs:Option FS) {l:List (Int × Int)}(hz:∀ z∈l,0≤z.1∧z.1<z.2∧z.2≤24) (x4 x5:Sl):∀ (j n:Nat) (L:List Int) (x6:Sl),n+j+1≤l.length→(∀ k∈L,0≤k∧k≤96)→L.length+j≤500 →
  ∃ L' y6,u7 (c9 6) (a0F t7 WPr WPl LDw) (ups (n:Int) j) (akS M (.lst (l.map (mkD M))) L x4 x5 x6 fs)=some (.next,akS M (.lst (l.map (mkD M))) L' x4 x5 y6 fs)∧(∀ k∈L',0≤k∧k≤96)∧L'.length=L.length+j:=by
 intro j
 induction j with
 |zero=>exact fun n L x6 _ hL _=>⟨L,x6,rfl,hL,rfl⟩
 |succ j ih=>
  intro n L x6 hj hL hn
  obtain⟨z,hzn⟩:∃ z,l[n]? = some z:=⟨_,List.getElem?_eq_getElem (by omega)⟩
  obtain⟨w,hwn⟩:∃ z,l[n+1]? = some z:=⟨_,List.getElem?_eq_getElem (by omega)⟩
  obtain⟨z0,z1,z2⟩:=hz z (List.mem_of_getElem? hzn)
  obtain⟨w0,w1,w2⟩:=hz w (List.mem_of_getElem? hwn)
  have i1:pIx (.lst (l.map (mkD M))) (.int (n:Int))=some (mkD M z):=B6 (atN (by rw[List.getElem?_map,hzn];rfl))
  have i2:pIx (.lst (l.map (mkD M))) (.int ((n:Int)+1))=some (mkD M w):=by
   rw[show (n:Int)+1=((n+1:Nat):Int) by omega]
   exact B6 (atN (by rw[List.getElem?_map,hwn];rfl))
  obtain⟨L',y6,e,hb,hl⟩:=ih (n+1) (L++[2*(z.2+w.1)]) (.val (.int (n:Int))) (by omega) (fun k hk=>by
   rcases List.mem_append.mp hk with q | q
   ·exact hL k q
   ·rw[List.mem_singleton] at q
    omega) (by rw[List.length_append,List.length_singleton];omega)
  refine⟨L',y6,?_,hb,by rw[hl,List.length_append,List.length_singleton];omega⟩
  have p1:=G3 (tw M z.2) (tw M w.1) fs (w6 hM (by omega)) (w6 hM (by omega)) (by decide)
  rw[V2] at p1
  have p2:=a8i hM fs (s:=z.2+w.1) (by omega)
  have e:u7 (c9 6) (a0F t7 WPr WPl LDw) (ups ((n+1:Nat):Int) j) ⟨[.val .feed,.val (fr M),.val (.lst (l.map (mkD M))),.own (L.map (qF M)++[qF M (2*(z.2+w.1))]),x4,x5,.val (.int (n:Int))],fs⟩=some (.next,akS M (.lst (l.map (mkD M))) L' x4 x5 y6 fs):=by
   rw[←e,show L.map (qF M)++[qF M (2*(z.2+w.1))]=(L++[2*(z.2+w.1)]).map (qF M) by rw[List.map_append];rfl]
  rw[a3o,K6 (s1:=akS M (.lst (l.map (mkD M))) L x4 x5 (.val (.int (n:Int))) fs) (s2:=⟨[.val .feed,.val (fr M),.val (.lst (l.map (mkD M))),.own (L.map (qF M)++[qF M (2*(z.2+w.1))]),x4,x5,.val (.int (n:Int))],fs⟩) rfl ?_]
  ·exact e
  ·unfold a0F
   exact Q7 (s1:=akS M (.lst (l.map (mkD M))) L x4 x5 (.val (.int (n:Int))) fs) rfl (j9 (i5 (j9 (i5 (c7 (c7 rfl rfl i1) rfl rfl) (i5 (c7 (c7 rfl (c7 rfl rfl rfl) i2) rfl rfl) rfl)) p1) (i5 (w9 rfl rfl) rfl)) p2) rfl (Nat.lt_of_le_of_lt (show _≤600 by rw[List.length_map];omega) (by decide))
theorem b4w {α:Type}{caps:List Sl}{fc:DT}{fe:DE}(fs:Option FS) (A G:α→D) (p:α→Bool):∀ l:List α,(∀ z∈l,fc ⟨.val (A z)::caps,fs⟩=some (p z,⟨.val (A z)::caps,fs⟩))→(∀ z∈l,p z=true→fe ⟨.val (A z)::caps,fs⟩=some (G z,⟨.val (A z)::caps,fs⟩))→A0 (fun d=>some (.val d::caps)) fc fe (l.map A) fs=some ((l.filter p).map G,fs):=by
 intro l
 induction l with
 |nil=>exact fun _ _=>rfl
 |cons z r ih=>
  intro h1 h2
  have e:=ih (fun x hx=>h1 x (List.mem_cons_of_mem _ hx)) (fun x hx=>h2 x (List.mem_cons_of_mem _ hx))
  have a:=h1 z (List.mem_cons_self ..)
  rw[List.map_cons,A0,Option.bind_some,a,Option.bind_some]
  cases hp:p z with
  |true=>
   rw[if_pos rfl,h2 z (List.mem_cons_self ..) hp,Option.bind_some,List.filter_cons_of_pos hp]
   show (A0 _ fc fe (r.map A) fs).map _=_
   rw[e]
   rfl
  |false=>
   rw[if_neg (fun q=>by cases q),List.filter_cons_of_neg (by rw[hp];decide)]
   exact e
theorem b4d (q:Rat):decide (0<q.num)=decide (0<q):=by
 rw[Bool.eq_iff_iff,decide_eq_true_iff,decide_eq_true_iff]
 exact⟨fun h=>by
  rw[←Rat.not_le]
  intro z
  have:=Rat.num_nonneg.mpr (show 0 ≤ -q by grind)
  rw[Rat.neg_num] at this
  omega,fun h=>a2e h⟩
theorem b2f {M:Rat}(hM:Sz 81 M) (h0:0<M) {l:List (Int × Int)}(hz:∀ z∈l,0≤z.1∧z.1<z.2∧z.2≤24) (hl:l.length≤60) {n:Nat}{f:FS}(h:Fd3 n f) (hn:n<2 ^ 28) :
  ∃ (F:List Int) (f':FS),WAk [.feed,fr M,.lst (l.map (mkD M))] (some f)=some (.lst (F.map (qF M)),some f')∧(∀ k∈F,0<k∧k<96)∧Fd3 (n+6) f':=by
 obtain⟨ks,f1,e1,kl,kb,h1⟩:=b5R hM (ups 0 6) n f h (by rw[M7];omega)
 rw[M7] at kl h1
 obtain⟨L1,y4,y5,e2,b2,l2⟩:=b5t hM (some f1) (.lst (l.map (mkD M))) l ks .no .no .no hz kb (by omega)
 have e3:∃ L2 y6,O9 (a7 (dOp B2 (dCB (one t6) (a7 (dL 2) a8)) (dC (.int 1))) a8) (c9 6) (a0F t7 WPr WPl LDw) (akS M (.lst (l.map (mkD M))) L1 y4 y5 .no (some f1))=some (.next,akS M (.lst (l.map (mkD M))) L2 y4 y5 y6 (some f1))∧(∀ k∈L2,0≤k∧k≤96)∧L2.length≤400:=by
  have ha:a7 (dOp B2 (dCB (one t6) (a7 (dL 2) a8)) (dC (.int 1))) a8 (akS M (.lst (l.map (mkD M))) L1 y4 y5 .no (some f1))=some ([.int ((l.length:Int) - 1)],akS M (.lst (l.map (mkD M))) L1 y4 y5 .no (some f1)):=i5 (c7 (F3 (p:=t6) rfl (show t6 _=some (.int (l.length:Int)) from congrArg (fun (z:Nat)=>some (D.int (z:Int))) (List.length_map ..))) rfl rfl) rfl
  by_cases c:l=[]
  ·subst c
   exact⟨L1,.no,(a0j ha (ds:=[]) rfl),b2,by omega⟩
  ·have l1:1≤l.length:=List.length_pos_iff.mpr c
   obtain⟨L2,y6,e,b,q⟩:=b33 hM (some f1) hz y4 y5 (l.length - 1) 0 L1 .no (by omega) b2 (by omega)
   refine⟨L2,y6,(a0j ha ?_).trans e,b,by omega⟩
   rw[show (l.length:Int) - 1=((l.length - 1:Nat):Int) by omega]
   exact V8 (by omega)
 obtain⟨L2,y6,e3,b3,l3⟩:=e3
 have cf:=b4w (caps:=[.val (fr M)]) (fc:=A8 (dB (dOp (n9 (fun i j=>decide (j<i))) (dOp pIx (dL 0) (dC (.int 0))) (dC (.int 0)))) (dTr (e7 t7 (a7 (dV 0) (a7 (dV 1) a8))))) (fe:=dV 0) (some f1) (qF M) (qF M) (fun k=>decide (0<k)&&decide (k<96)) L2 (fun k hk=>by
  have kk:=b3 k hk
  have a:dB (dOp (n9 (fun i j=>decide (j<i))) (dOp pIx (dL 0) (dC (.int 0))) (dC (.int 0))) ⟨.val (qF M k)::[.val (fr M)],some f1⟩=some (decide (0<k),⟨.val (qF M k)::[.val (fr M)],some f1⟩):=by
   have:decide (0<(tw (N4 M) k).num)=decide (0<k):=by
    rw[b4d,Bool.eq_iff_iff,decide_eq_true_iff,decide_eq_true_iff]
    conv=>lhs;lhs;rw[←J6 (N4 M)]
    exact D8 (O6 h0) _ _
   rw[←this]
   exact C0 (c7 (c7 rfl rfl (D3 _)) rfl rfl)
  have b:dTr (e7 t7 (a7 (dV 0) (a7 (dV 1) a8))) ⟨.val (qF M k)::[.val (fr M)],some f1⟩=some (decide (k<96),⟨.val (qF M k)::[.val (fr M)],some f1⟩):=by
   have bl:=Q9 (tw (N4 M) k) M (some f1) (U9 hM (by omega)) hM (by decide)
   have:decide (tw (N4 M) k<M)=decide (k<96):=by
    rw[Bool.eq_iff_iff,decide_eq_true_iff,decide_eq_true_iff]
    conv=>lhs;rhs;rw[←X3 M,L5]
    exact D8 (O6 h0) _ _
   rw[this] at bl
   exact E7 (j9 rfl bl)
  by_cases c:0<k
  ·rw[decide_eq_true c] at a
   rw[decide_eq_true c,Bool.true_and]
   exact P8 a b
  ·rw[decide_eq_false c] at a
   rw[decide_eq_false c,Bool.false_and]
   exact X6 a) (fun _ _ _=>rfl)
 refine⟨L2.filter (fun k=>decide (0<k)&&decide (k<96)),f1,m8 (s:=⟨[.val .feed,.val (fr M),.val (.lst (l.map (mkD M))),.val (.lst (L2.map (qF M))),y4,y5,y6],some f1⟩) ?_,?_,h1⟩
 ·show a4s t7 WPr WPl LDw ⟨[.val .feed,.val (fr M),.val (.lst (l.map (mkD M))),.no,.no,.no,.no],some f⟩=_
  unfold a4s
  have c1:F7 [1,0] (N9 (a7 (dC (.int 6)) a8)) B7 akE ⟨[.val .feed,.val (fr M),.val (.lst (l.map (mkD M))),.no,.no,.no,.no],some f⟩=some (ks.map (qF M),⟨[.val .feed,.val (fr M),.val (.lst (l.map (mkD M))),.no,.no,.no,.no],some f1⟩):=b3S (s1:=⟨[.val .feed,.val (fr M),.val (.lst (l.map (mkD M))),.no,.no,.no,.no],some f⟩) (ds:=ups 0 6) rfl (by decide) e1
  rw[i6 (s1:=akS M (.lst (l.map (mkD M))) ks .no .no .no (some f1)) (F1 (s1:=⟨[.val .feed,.val (fr M),.val (.lst (l.map (mkD M))),.no,.no,.no,.no],some f1⟩) c1 (show 3<7 by decide)),
   i6 ((X5 (s1:=akS M (.lst (l.map (mkD M))) ks .no .no .no (some f1)) rfl).trans e2),i6 e3]
  exact o8 (C9 (a08 (idx:=[1]) (ds:=L2.map (qF M)) (s1:=⟨[.val .feed,.val (fr M),.val (.lst (l.map (mkD M))),.val (.lst (L2.map (qF M))),y4,y5,y6],some f1⟩) (a1z rfl) (Nat.le_trans (show _≤400 by rw[List.length_map];exact l3) (by decide)) cf))
 ·intro k hk
  have:=(List.mem_filter.mp hk).2
  rw[Bool.and_eq_true,decide_eq_true_iff,decide_eq_true_iff] at this
  exact this
theorem b4b (a b:Pt) (fs:Option FS) (ha:PtS 870 a) (hb:PtS 870 b):WSq [pt a,pt b] fs=some (fr (dsq a b),fs):=by
 have xa:=wxy a fs (Ps.of ha.1 ha.2) (by decide)
 have xb:=wxy b fs (Ps.of hb.1 hb.2) (by decide)
 have m1:=J8 b.1 a.1 fs hb.1 ha.1 (by decide)
 have m2:=J8 b.2 a.2 fs hb.2 ha.2 (by decide)
 have z1:=hb.1.sub ha.1
 have z2:=hb.2.sub ha.2
 have p1:=Z9 _ _ fs z1 z1 (by decide)
 have p2:=Z9 _ _ fs z2 z2 (by decide)
 have s3:=G3 _ _ fs (z1.mul z1) (z2.mul z2) (by decide)
 rw[a6X] at s3
 refine m8 (s:=⟨[.val (pt a),.val (pt b),.val (fr a.1),.val (fr a.2),.val (fr b.1),.val (fr b.2),.val (fr (b.1 - a.1)),.val (fr (b.2 - a.2))],fs⟩) ?_
 show a0D WPl WPr WMi WXy ⟨[.val (pt a),.val (pt b),.no,.no,.no,.no,.no,.no],fs⟩=_
 unfold a0D
 rw[i6 (s1:=⟨[.val (pt a),.val (pt b),.val (fr a.1),.val (fr a.2),.val (fr b.1),.val (fr b.2),.no,.no],fs⟩) (l5 (w9 (j9 (i5 rfl rfl) xa) (j9 (i5 rfl rfl) xb)) rfl)]
 rw[i6 (s1:=⟨[.val (pt a),.val (pt b),.val (fr a.1),.val (fr a.2),.val (fr b.1),.val (fr b.2),.val (fr (b.1 - a.1)),.val (fr (b.2 - a.2))],fs⟩) (b5v (i5 (j9 rfl m1) (i5 (j9 rfl m2) rfl)) rfl)]
 exact o8 (j9 (i5 (j9 (i5 rfl (i5 rfl rfl)) p1) (i5 (j9 (i5 rfl (i5 rfl rfl)) p2) rfl)) s3)
theorem b3B (a b:Pt) (r:Rat) (fs:Option FS) (ha:PtS 870 a) (hb:PtS 870 b) (h0:0≤r) (hr:Sz 180 r) (h:dsq a b=r*r):WSz [pt a,pt b] fs=some (fr r,fs):=by
 have e:=b4b a b fs ha hb
 have qs:Sz 2000 (dsq a b):=by rw[h];exact(hr.mul hr).mono (by decide)
 obtain⟨n1,n2⟩:=a1y qs
 have r1:=a1S (a0G (a31 a b)) n1 fs
 have r2:=a1S (show (0:Int)≤(dsq a b).den by omega) n2 fs
 obtain⟨h3,h4⟩:=a3I h0
 rw[h] at r1 r2 e
 rw[h3] at r1
 rw[h4] at r2
 refine m8 (s:=⟨[.val (pt a),.val (pt b),.val (.int (r*r).num),.val (.int (r*r).den)],fs⟩) ?_
 show a0u W0 WSq ⟨[.val (pt a),.val (pt b),.no,.no],fs⟩=_
 unfold a0u
 rw[i6 (s1:=⟨[.val (pt a),.val (pt b),.val (.int (r*r).num),.val (.int (r*r).den)],fs⟩) (l5 (j9 rfl e) rfl)]
 exact o8 (w9 (j9 rfl r1) (j9 rfl r2))
theorem b3e (P:Rat→Pt) (l0:Sl) (fs:Option FS):∀ (Y:List Rat) (x:Rat) (T0:List Rat) (S:Rat) (k:Nat) (x2 x3:Sl),Sz k S→(∀ j a b,(x::Y)[j]? = some a→(x::Y)[j+1]? = some b→a≤b∧Sz 180 (b - a)∧dsq (P a) (P b)=(b - a)*(b - a))→(∀ y∈x::Y,PtS 870 (P y))→k+181*Y.length≤2500→T0.length+1+Y.length≤50 →
  ∃ (T':List Rat) (y2 y3:Sl),u7 (t9 2 (l7 (c9 2) (l7 (c9 3) u4))) (a4i WPl WSz J0) ((nbs false ((x::Y).map P)).map prP) ⟨[l0,.own ((T0++[S]).map fr),x2,x3],fs⟩=some (.next,⟨[l0,.own ((T'++[(x::Y).getLast (List.cons_ne_nil _ _) - x+S]).map fr),y2,y3],fs⟩):=by
 intro Y
 induction Y with
 |nil=>exact fun x T0 S k x2 x3 _ _ _ _ _=>⟨T0,x2,x3,by rw[show [x].getLast (List.cons_ne_nil _ _) - x+S=S from (by show x - x+S=S;grind)];rfl⟩
 |cons y r ih=>
  intro x T0 S k x2 x3 hs hd hp hk ht
  rw[List.length_cons] at hk ht
  obtain⟨d1,d2,d3⟩:=hd 0 x y rfl rfl
  obtain⟨T',y2,y3,e⟩:=ih y (T0++[S]) (S+(y - x)) (k+180+1) (.val (pt (P x))) (.val (pt (P y))) (hs.add d2) (fun j a b ha hb=>hd (j+1) a b ha hb) (fun z hz=>hp z (List.mem_cons_of_mem _ hz)) (by omega) (by rw[List.length_append,List.length_singleton];omega)
  refine⟨T',y2,y3,?_⟩
  have z:=b3B (P x) (P y) (y - x) fs (hp x (List.mem_cons_self ..)) (hp y (List.mem_cons_of_mem _ (List.mem_cons_self ..))) (by grind) d2 d3
  have p:=G3 S (y - x) fs hs d2 (by omega)
  have la:=a2d T0 S
  have ll:((T0++[S]).map fr).length<sizeLine:=a2t (by rw[List.length_append,List.length_singleton];omega)
  rw[←a2T] at e
  have eg:(x::y::r).getLast (List.cons_ne_nil _ _) - x+S=(y::r).getLast (List.cons_ne_nil _ _) - y+(S+(y - x)):=by
   rw[List.getLast_cons (List.cons_ne_nil _ _)]
   grind
  rw[eg]
  show u7 _ _ (prP (P x,P y)::(nbs false ((y::r).map P)).map prP) _=_
  rw[K6 (s1:=⟨[l0,.own ((T0++[S]).map fr),.val (pt (P x)),.val (pt (P y))],fs⟩) rfl (Q7 rfl (j9 (i5 (c7 rfl rfl (B6 la)) (i5 (j9 rfl z) rfl)) p) rfl ll)]
  exact e
theorem b1m (P:Rat→Pt) (fs:Option FS) {Y:List Rat}{x v:Rat}(hd:∀ j a b,(x::(Y++[v]))[j]? = some a→(x::(Y++[v]))[j+1]? = some b→a≤b∧Sz 180 (b - a)∧dsq (P a) (P b)=(b - a)*(b - a)) (hp:∀ y∈x::(Y++[v]),PtS 870 (P y)) (hl:Y.length≤11) :
  ∃ TL:List D,WSu [M8 ((x::(Y++[v])).map P)] fs=some (.lst TL,fs)∧atI TL (-1)=some (fr (v - x)):=by
 have e:=a8f (((x::(Y++[v])).map P).map pt) false fs (by rw[List.length_map,List.length_map];simp) (by rw[List.length_map,List.length_map,List.length_cons,List.length_append,List.length_singleton];omega)
 rw[a14] at e
 obtain⟨T',y2,y3,lp⟩:=b3e P (.val (M8 ((x::(Y++[v])).map P))) fs (Y++[v]) x [] 0 1 .no .no (Sz.lit (by decide)) hd hp (by rw[List.length_append,List.length_singleton];omega) (by rw[List.length_append,List.length_singleton,List.length_nil];omega)
 have eg:(x::(Y++[v])).getLast (List.cons_ne_nil _ _) - x+0=v - x:=by
  have e1:(x::(Y++[v])).getLast (List.cons_ne_nil _ _)=v:=by
   have:(x::(Y++[v])).getLast? = some v:=by
    rw[←List.cons_append,List.getLast?_append]
    rfl
   rw[List.getLast?_eq_some_getLast (List.cons_ne_nil _ _)] at this
   exact Option.some.inj this
  rw[e1]
  grind
 rw[eg] at lp
 rw[List.nil_append] at lp
 refine⟨(T'++[v - x]).map fr,?_,a2d T' (v - x)⟩
 refine m8 (s:=⟨[.val (M8 ((x::(Y++[v])).map P)),.val (.lst ((T'++[v - x]).map fr)),y2,y3],fs⟩) ?_
 show a0T WPl WSz J0 ⟨[.val (M8 ((x::(Y++[v])).map P)),.no,.no,.no],fs⟩=_
 unfold a0T
 rw[i6 (s1:=⟨[.val (M8 ((x::(Y++[v])).map P)),.own ([(0:Rat)].map fr),.no,.no],fs⟩) (F1 (s1:=⟨[.val (M8 ((x::(Y++[v])).map P)),.no,.no,.no],fs⟩) rfl (show 1<4 by decide)),
  i6 ((X5 (ds:=((nbs false ((x::(Y++[v])).map P)).map prP)) (s1:=⟨[.val (M8 ((x::(Y++[v])).map P)),.own ([(0:Rat)].map fr),.no,.no],fs⟩) (j9 rfl e)).trans lp)]
 exact o8 rfl
variable {c:Bool}{ps:List Pt}{m:Nat}{S:Nat→Rat}{Q:Nat→Pt × Pt}{T:List Rat}
theorem a75 {c:Bool}{l:List Pt}{i:Nat}{p:Pt × Pt}(h:(nbs c l)[i]? = some p):l[i]? = some p.1:=by
 unfold nbs at h
 exact(List.getElem?_zip_eq_some.mp h).1
theorem a6q {c:Bool}{l:List Pt}{i:Nat}{p:Pt × Pt}(h:(nbs c l)[i]? = some p) (hi:i+1<l.length):l[i+1]? = some p.2:=by
 unfold nbs at h
 have:=(List.getElem?_zip_eq_some.mp h).2
 cases c
 ·rw[if_neg (by decide),List.getElem?_drop,Nat.add_comm] at this
  exact this
 ·rw[if_pos rfl,List.getElem?_append_left (by rw[List.length_drop];omega),List.getElem?_drop,Nat.add_comm] at this
  exact this
theorem Lay.plen (L:Lay c ps m S Q T):m≤ps.length∧ps.length≤m+1∧(ps.length=m+1∨c=true):=by
 have:=Y6 c ps
 rw[L.nl] at this
 have m1:=L.m1
 cases c
 ·rw[if_neg (by decide)] at this
  exact⟨by omega,by omega,.inl (by omega)⟩
 ·rw[if_pos rfl] at this
  exact⟨by omega,by omega,.inr rfl⟩
theorem Lay.nxt (L:Lay c ps m S Q T) {i:Nat}(hi:i+1<m):(Q i).2=(Q (i+1)).1:=by
 obtain⟨l1,l2,_⟩:=L.plen
 have a:=a6q (L.q i (by omega)) (by omega)
 have b:=a75 (L.q (i+1) hi)
 rw[a] at b
 exact Option.some.inj b
theorem Lay.asc (L:Lay c ps m S Q T):Asc T:=by
 refine List.pairwise_iff_getElem.mpr ?_
 intro i j hi hj hij
 have l:=L.len
 have e1:=L.at_ i (by omega)
 have e2:=L.at_ j (by omega)
 rw[List.getElem?_eq_getElem hi] at e1
 rw[List.getElem?_eq_getElem hj] at e2
 rw[Option.some.inj e1,Option.some.inj e2]
 exact L.lt hij (by omega)
theorem Lay.on_end (L:Lay c ps m S Q T) {n:Nat}(hn:n<m):onL S Q (S (n+1)) n=(Q n).2:=by
 unfold onL
 have e:(S (n+1) - S n) / (S (n+1) - S n)=1:=by
  have:=L.df_ne hn
  exact a03 this (by grind)
 rw[e,a5N]
theorem Lay.on_beg (L:Lay c ps m S Q T) {n:Nat}(hn:n<m):onL S Q (S n) n=(Q n).1:=by
 unfold onL
 have e:(S n - S n) / (S (n+1) - S n)=0:=by
  have:=L.df_ne hn
  exact a03 this (by grind)
 rw[e,a7F]
theorem Lay.on_at (L:Lay c ps m S Q T) {t:Rat}{i:Nat}(hi:i<m) (h1:S i≤t) (h2:t≤S (i+1)):atL S Q m t=onL S Q t i:=by
 have h0:0≤t:=by
  have:=L.mono i 0 (by omega) (by omega)
  have:=L.z
  grind
 by_cases c:S i<t
 ·exact a0g L hi (.inr c) h0 h2
 ·have e:t=S i:=by grind
  cases i with
  |zero=>exact a0g L hi (.inl rfl) h0 h2
  |succ i=>
   have up:=L.up i (by omega)
   show J4 S Q t (Q 0).1 m=_
   rw[a0g L (n:=i) (by omega) (.inr (by rw[e];exact up)) h0 (by rw[e];exact Rat.le_refl),e,L.on_end (by omega),L.on_beg hi,L.nxt hi]
theorem Lay.at_st (L:Lay c ps m S Q T) {i:Nat}(hi:i<m):atL S Q m (S i)=(Q i).1:=by
 rw[L.on_at hi Rat.le_refl (Rat.le_of_lt (L.up i hi)),L.on_beg hi]
theorem Lay.ix (L:Lay c ps m S Q T) {t:Rat}(h0:0≤t):∀ k,k≤m→t<S k→∃ i,i<k∧S i≤t∧t<S (i+1):=by
 intro k
 induction k with
 |zero=>intro _ h;have:=L.z;grind
 |succ k ih=>
  intro hk h
  by_cases c:t<S k
  ·obtain⟨i,a,b⟩:=ih (by omega) c
   exact⟨i,by omega,b⟩
  ·exact⟨k,by omega,Rat.not_lt.mp c,h⟩
theorem Lay.seg (L:Lay c ps m S Q T) {x y:Rat}(h0:0≤x) (hxy:x<y) (hy:y≤S m) (g:∀ s∈T,¬ (x<s∧s<y)):∃ i,i<m∧S i≤x∧y≤S (i+1)∧x<S (i+1):=by
 obtain⟨i,a,b,c⟩:=L.ix h0 m (Nat.le_refl _) (by grind)
 refine⟨i,a,b,?_,c⟩
 have:=g _ (List.mem_of_getElem? (L.at_ (i+1) (by omega)))
 grind
theorem Lay.sel (L:Lay c ps m S Q T) {u v:Rat}(hv:v≤S m):A7 u v (ps.zip T)=(T.filter (inB u v)).map fun t=>atL S Q m t:=by
 obtain⟨l1,l2,l3⟩:=L.plen
 have tl:=L.len
 have e1:T.filter (inB u v)=((ps.zip T).map (·.2)).filter (inB u v):=by
  by_cases c1:ps.length=m+1
  ·have:(ps.zip T).map (·.2)=T:=List.map_snd_zip (by omega)
   rw[this]
  ·have e:T=T.take m++[S m]:=by
    refine List.ext_getElem? fun i=>?_
    by_cases h:i<m
    ·rw[List.getElem?_append_left (by rw[List.length_take];omega),List.getElem?_take_of_lt h]
    ·by_cases h2:i=m
     ·subst h2
      rw[List.getElem?_append_right (by rw[List.length_take];omega),L.at_ i (Nat.le_refl _),List.length_take,Nat.min_eq_left (by omega),Nat.sub_self]
      rfl
     ·rw[List.getElem?_eq_none (by omega),List.getElem?_eq_none (by rw[List.length_append,List.length_take,List.length_singleton];omega)]
   have e2:(ps.zip T).map (·.2)=T.take m:=by
    have z:ps.zip T=ps.zip (T.take m):=by
     refine List.ext_getElem? fun i=>?_
     by_cases h:i<m
     ·simp only[List.getElem?_zip_eq_some,List.zip,List.getElem?_zipWith,List.getElem?_take_of_lt h]
     ·rw[List.getElem?_eq_none (by rw[List.length_zip];omega),List.getElem?_eq_none (by rw[List.length_zip];omega)]
    rw[z]
    exact List.map_snd_zip (by rw[List.length_take];omega)
   rw[e2]
   conv=>lhs;rw[e]
   rw[List.filter_append,List.filter_cons_of_neg (b0W (fun z=>by grind)),List.filter_nil,List.append_nil]
 rw[e1,List.filter_map,List.map_map]
 unfold A7
 have e3:((ps.zip T).filter (V3 u v))=(ps.zip T).filter (inB u v∘fun x=>x.2):=rfl
 rw[e3]
 refine List.map_congr_left fun z hz=>?_
 obtain⟨i,hi⟩:=List.getElem?_of_mem (List.mem_filter.mp hz).1
 obtain⟨g1,g2,g3⟩:=a3f L hi
 show z.1=atL S Q m z.2
 rw[g3]
 by_cases h:i<m
 ·have:=a75 (L.q i h)
  rw[L.at_st h]
  rw[g1] at this
  exact Option.some.inj this
 ·have e:i=m:=by omega
  subst e
  rw[b0j L]
  have m1:=L.m1
  have:=a6q (L.q (i - 1) (by omega)) (by have:=(List.getElem?_eq_some_iff.mp g1).1;omega)
  rw[show i - 1+1=i by omega,g1] at this
  exact Option.some.inj this
theorem Lay.partE (L:Lay c ps m S Q T) {u v:Rat}(hv:v≤S m):P6 S Q m (ps.zip T) u v=(sbt T u v).map fun t=>atL S Q m t:=by
 unfold P6 sbt
 rw[L.sel hv,List.map_cons,List.map_append]
 rfl
theorem Lay.dist (L:Lay c ps m S Q T) (hx:ExS c ps) (hT:T=scn 0 ((nbs c ps).map lnR)) {i:Nat}(hi:i<m) {x y:Rat}:dsq (onL S Q x i) (onL S Q y i)=(y - x)*(y - x):=by
 have hr:S (i+1) - S i=lnR (Q i):=by
  have a1:=L.at_ i (by omega)
  have a2:=L.at_ (i+1) (by omega)
  rw[hT,a3C _ 0 _ (by rw[List.length_map,L.nl];omega)] at a1 a2
  rw[List.take_add_one,List.foldl_append,List.getElem?_map,L.q i hi] at a2
  have a1:=Option.some.inj a1
  have a2:=Option.some.inj a2
  rw[a1] at a2
  have a2:S i+lnR (Q i)=S (i+1):=a2
  grind
 obtain⟨_,_,d⟩:=a0W (hx.ex _ (List.mem_of_getElem? (L.q i hi)))
 rw[←hr] at d
 have ne:=L.df_ne hi
 unfold onL
 generalize S (i+1) - S i=r at *
 have e:∀ s t:Rat,dsq (L7 (Q i).1 (Q i).2 s) (L7 (Q i).1 (Q i).2 t)=(t - s)*(t - s)*dsq (Q i).1 (Q i).2:=fun s t=>by
  unfold L7 dsq
  grind
 rw[e,d]
 have q:∀ z:Rat,z / r*r=z:=fun z=>Rat.div_mul_cancel ne
 have q1:=q (x - S i)
 have q2:=q (y - S i)
 generalize (x - S i) / r=s at *
 generalize (y - S i) / r=t at *
 have:(t - s)*r=y - x:=by grind
 have e2:(t - s)*(t - s)*(r*r)=((t - s)*r)*((t - s)*r):=by grind
 rw[e2,this]
theorem Lay.psums (L:Lay c ps m S Q T) (hx:ExS c ps) (hT:T=scn 0 ((nbs c ps).map lnR)) (fs:Option FS) {u v:Rat}(u0:0≤u) (huv:u<v) (hv:v≤S m) (su:Sz 88 u) (sv:Sz 88 v) (hp:∀ p∈P6 S Q m (ps.zip T) u v,PtS 870 p) :
  ∃ TL:List D,WSu [M8 (P6 S Q m (ps.zip T) u v)] fs=some (.lst TL,fs)∧atI TL (-1)=some (fr (v - u)):=by
 rw[L.partE hv] at hp ⊢
 have asc:=L.asc
 have sz:∀ {t:Rat},t∈sbt T u v→Sz 88 t:=fun {t} h=>by
  obtain⟨h,_⟩:=a4S huv h
  rcases h with rfl | rfl | h
  ·exact su
  ·exact sv
  ·obtain⟨i,hi⟩:=List.getElem?_of_mem h
   have:=(List.getElem?_eq_some_iff.mp hi).1
   have tl:=L.len
   rw[L.at_ i (by omega)] at hi
   cases hi
   exact(L.sz i (by omega)).mono (by decide)
 refine b1m (fun t=>atL S Q m t) fs (x:=u) (Y:=T.filter (inB u v)) (v:=v) ?_ ?_ ?_
 ·intro j a b ha hb
  have ha':(sbt T u v)[j]? = some a:=ha
  have hb':(sbt T u v)[j+1]? = some b:=hb
  obtain⟨g1,g2,g3,g4⟩:=b1z asc huv ha' hb'
  obtain⟨i,i1,i2,i3,i4⟩:=L.seg (x:=a) (y:=b) (by grind) g2 (by grind) g4
  refine⟨Rat.le_of_lt g2,((sz (List.mem_of_getElem? hb')).sub (sz (List.mem_of_getElem? ha'))).mono (by decide),?_⟩
  show dsq (atL S Q m a) (atL S Q m b)=_
  rw[L.on_at i1 i2 (Rat.le_of_lt i4),L.on_at i1 (t:=b) (by grind) i3]
  exact L.dist hx hT i1
 ·intro y hy
  exact hp _ (List.mem_map.mpr ⟨y,hy,rfl⟩)
 ·have:=List.length_filter_le (inB u v) T
  have tl:=L.len
  have:=L.m9
  omega
end T
namespace T
open PySem L2 DL
variable {c:Bool}{ps:List Pt}{m:Nat}{S:Nat→Rat}{Q:Nat→Pt × Pt}{T:List Rat}
theorem b5V (a:Pt):pNe (pt a) (pt a)=some (.bl false):=(a0o (pX a,pY a,pL a) (pX a,pY a,pL a)).trans (by rw[decide_eq_true rfl];rfl)
theorem b0K (L:Lay c ps m S Q T) (hx:ExS c ps) (e0:∀ fs,FSt [.tup [.bl c,.tup (ps.map pt)]] fs=some (.lst (T.map fr),fs)) {b e:Rat}(hb:In (S m) b) (he:In (S m) e):(∀ p∈P6 S Q m (ps.zip T) b e,PtS 864 p)∧(P6 S Q m (ps.zip T) b e).length≤50:=by
 have at_:∀ {x:Rat},In (S m) x→PtS 864 (atL S Q m x):=fun {x} h=>by
  obtain⟨n,hn,g1,g2,_⟩:=a5B L hx.hi none (e0 _) h.sz h.hi
  show PtS 864 (J4 S Q x (Q 0).1 m)
  rw[a0g L hn g1 h.lo g2]
  obtain⟨a1,a2⟩:=L.pz n hn
  exact b3U a1 a2 (L.sh_sz h.sz hn)
 have sl:=a2o b e (ps.zip T)
 have hi:=hx.hi
 have zl:(ps.zip T).length≤9:=by rw[List.length_zip];omega
 refine⟨fun p hp=>?_,by rw[List.length_append,List.length_append,List.length_singleton,List.length_singleton];omega⟩
 rcases List.mem_append.mp hp with hp | hp
 ·rcases List.mem_append.mp hp with hp | hp
  ·rw[List.mem_singleton.mp hp]
   exact at_ hb
  ·obtain⟨z,hz,rfl⟩:=a9s hp
   obtain⟨i,hi⟩:=List.getElem?_of_mem hz
   have:=hx.sz _ (List.mem_of_getElem? (a3f L hi).1)
   exact⟨this.1.mono (by decide),this.2.mono (by decide)⟩
 ·rw[List.mem_singleton.mp hp]
  exact at_ he
theorem a6Z:∀ (l:List Int) (n:Nat) (d:Int),(∀ k∈l,1≤k∧k≤5)→0≤d→0≤fil n l d∧fil n l d≤5*l.length
 |[],_,_,_,_=>⟨Int.le_refl _,by simp[fil]⟩
 |k::r,n,d,h,h0=>by
  have k1:=h k (List.mem_cons_self ..)
  have:=a6Z r (n+1) (d - min d k) (fun x hx=>h x (List.mem_cons_of_mem _ hx)) (by omega)
  rw[fil,List.length_cons]
  split <;> omega
theorem b4I {ks:List Int}(hk:∀ k∈ks,1≤k∧k≤5) (h1:1≤ks.length) (h6:ks.length≤6) {y:Int}(y0:0≤y) (y1:y<64):0≤G9 ks y∧G9 ks y≤94:=by
 obtain⟨s1,s2⟩:=U8 ks hk
 obtain⟨v0,v1⟩:=a3T ks 0 hk
 have K0:0<ks.sum:=by omega
 have rn:=Int.emod_nonneg y (show ks.sum≠0 by omega)
 have dn:=Int.ediv_nonneg y0 (Int.le_of_lt K0)
 have dm:=Int.mul_ediv_add_emod y ks.sum
 have em0:0≤evS 0 ks*(y / ks.sum):=Int.mul_nonneg v0 dn
 have em1:evS 0 ks*(y / ks.sum)≤ks.sum*(y / ks.sum):=Int.mul_le_mul_of_nonneg_right v1 dn
 have:=a6Z ks 0 (y % ks.sum) hk rn
 unfold G9
 omega
theorem a5T:∀ (l:List (Int × Int)) (b:Int),b≤24→l.Pairwise (fun y z=>y.2<z.1)→(∀ z∈l,b≤z.1∧z.1<z.2∧z.2≤24)→(l.length:Int)≤24 - b
 |[],b,hb,_,_=>by
  show (0:Int)≤24 - b
  omega
 |z::r,b,hb,hp,h=>by
  rw[List.pairwise_cons] at hp
  have k1:=h z (List.mem_cons_self ..)
  have:=a5T r z.2 k1.2.2 hp.2 fun x hx=>⟨Int.le_of_lt (hp.1 x hx),(h x (List.mem_cons_of_mem _ hx)).2⟩
  rw[List.length_cons]
  omega
theorem b4q {M:Rat}(hM:Sz 81 M) (fs:Option FS) {l:List (Int × Int)}(hz:∀ z∈l,0≤z.1∧z.1<z.2∧z.2≤24) (hp:l.Pairwise (fun y z=>y.2<z.1)):WS3 [.lst (l.map fun z=>fr (tw M (z.2 - z.1)))] fs=some (fr (tw M (K4 l)),fs):=by
 have ll:=a5T l 0 (by decide) hp (fun z hzm=>hz z hzm)
 have:=a5b hM fs (ks:=l.map fun z=>z.2 - z.1) (fun k h=>by
  obtain⟨z,hzm,rfl⟩:=List.mem_map.mp h
  have:=hz z hzm
  omega) (by rw[List.length_map];omega) (.lst (l.map fun z=>fr (tw M (z.2 - z.1)))) (.inr (by rw[List.map_map];rfl))
 exact this
theorem b0p {α:Type}{idx:List Nat}{sl:List Sl}{fc:DT}{fe:DE}(fs:Option FS) (A B G:α→D) (p:α→Bool):∀ l:List α,(∀ z∈l,fc ⟨.val (A z) :: .val (B z)::D4 idx sl,fs⟩=some (p z,⟨.val (A z) :: .val (B z)::D4 idx sl,fs⟩))→(∀ z∈l,p z=true→fe ⟨.val (A z) :: .val (B z)::D4 idx sl,fs⟩=some (G z,⟨.val (A z) :: .val (B z)::D4 idx sl,fs⟩))→A0 (mk2 idx sl) fc fe (l.map fun z=>.tup [A z,B z]) fs=some ((l.filter p).map G,fs):=by
 intro l
 induction l with
 |nil=>exact fun _ _=>rfl
 |cons z r ih=>
  intro h1 h2
  have e:=ih (fun x hx=>h1 x (List.mem_cons_of_mem _ hx)) (fun x hx=>h2 x (List.mem_cons_of_mem _ hx))
  have a:=h1 z (List.mem_cons_self ..)
  rw[List.map_cons,A0,show mk2 idx sl (.tup [A z,B z])=some (.val (A z) :: .val (B z)::D4 idx sl) from rfl,Option.bind_some,a,Option.bind_some]
  cases hp:p z with
  |true=>
   rw[if_pos rfl,h2 z (List.mem_cons_self ..) hp,Option.bind_some,List.filter_cons_of_pos hp]
   show (A0 _ fc fe (r.map _) fs).map _=_
   rw[e]
   rfl
  |false=>
   rw[if_neg (fun q=>by cases q),List.filter_cons_of_neg (by rw[hp];decide)]
   exact e
theorem b0T {α:Type}(l:List α):pNe (.lst (l.map fun _=>.int 1)) (.lst [])=some (.bl (!decide (l=[]))):=by
 have e:l.map (fun _=>D.int 1)=(l.map fun _=>(1:Int)).map D.int:=by rw[List.map_map];rfl
 have o1:=b5P (l.map fun _=>(1:Int))
 have o2:B8 (.lst [])=true:=rfl
 rw[e]
 show (if (B8 (.lst ((l.map fun _=>(1:Int)).map D.int))&&B8 (.lst []))=true then some (D.bl (!PyData.eqv (D.py (.lst ((l.map fun _=>(1:Int)).map .int))) (D.py (.lst [])))) else none)=_
 rw[o1,o2,Bool.and_self,if_pos rfl,b5z]
 congr 3
 rw[Bool.eq_iff_iff,decide_eq_true_iff,decide_eq_true_iff,List.map_eq_nil_iff]
theorem b1e (a b:Bool):pNe (.bl a) (.bl b)=some (.bl (!(a == b))):=by cases a <;> cases b <;> rfl
abbrev WR5:DFn:=a4Y WAt WSu WMi FMo WMk WPl t7 WAk WS3 WFl WAp FMl
abbrev a8H:DM:=a2b WAt WSu WMi FMo WMk WPl t7 WAk WS3 WFl WAp FMl
abbrev a5M:DM:=a1m WAt WSu WMi FMo WMk WPl t7 WAk WS3 WFl WAp FMl
abbrev r5S (Ln:D) (P:D) (O:D) (TL:D) (M:D) (R:D) (W:D) (x8 x9 x10 x11 x12:Sl) (fs:Option FS):DS:=⟨[.val .feed,.val Ln,.val P,.val O,.val TL,.val M,.val R,.val W,x8,x9,x10,x11,x12],fs⟩
theorem b4e {M:Rat}(hM:Sz 81 M) (h0:0<M) {ks:List Int}(hk:∀ k∈ks,1≤k∧k≤5) (he:ks.length % 2=0) (k6:ks.length≤6) (k1:1≤ks.length) {o:Int}(o0:0≤o) (o1:o≤20) (Ln TL W:D) (x9 x10 x11 x12:Sl) (fs:Option FS) {x:Int}(hx0:0<x) (hx1:x<96) :
  ∃ y9,a8H (r5S Ln (m6 M ks) (fr (tw M o)) TL (fr M) (.lst ((o6 ks o).map (mkD M))) W (.val (qF M x)) x9 x10 x11 x12 fs)=some (.next,r5S Ln (m6 M ks) (fr (tw M o)) TL (fr M) (.lst ((o6 ks o).map (mkD M))) W (.val (qF M x)) y9 x10 x11 x12 fs):=by
 have hz:=(a6A (fun k h=>(hk k h).1) he 60 (bg0 ks o) 0 (by omega)).2.1
 have hz:∀ z∈o6 ks o,0≤z.1∧z.1<z.2∧z.2≤24:=hz
 have ml:(o6 ks o).length≤60:=a2l (ks:=ks) 60 (bg0 ks o) 0
 have sx:Sz 91 (tw (N4 M) x):=U9 hM (by omega)
 have cf:=b0p (idx:=[8]) (sl:=[.val .feed,.val Ln,.val (m6 M ks),.val (fr (tw M o)),.val TL,.val (fr M),.val (.lst ((o6 ks o).map (mkD M))),.val W,.val (qF M x),x9,x10,x11,x12]) (fc:=A8 (B1 (dTr (e7 t7 (a7 (dV 2) (a7 (dV 0) a8))))) (B1 (dTr (e7 t7 (a7 (dV 1) (a7 (dV 2) a8)))))) (fe:=dC (.int 1)) fs (fun z:Int × Int=>fr (tw M z.1)) (fun z=>fr (tw M z.2)) (fun _=>.int 1) (fun z=>decide (4*z.1≤x)&&decide (x≤4*z.2)) (o6 ks o) (fun z hzm=>by
  obtain⟨z0,z1,z2⟩:=hz z hzm
  have g1:Sz 88 (tw M z.1):=w6 hM (by omega)
  have g2:Sz 88 (tw M z.2):=w6 hM (by omega)
  have a:B1 (dTr (e7 t7 (a7 (dV 2) (a7 (dV 0) a8)))) ⟨[.val (fr (tw M z.1)),.val (fr (tw M z.2)),.val (qF M x)],fs⟩=some (decide (4*z.1≤x),⟨[.val (fr (tw M z.1)),.val (fr (tw M z.2)),.val (qF M x)],fs⟩):=by
   have bl:=Q9 (tw (N4 M) x) (tw M z.1) fs sx g1 (by decide)
   have:decide (4*z.1≤x) = !decide (tw (N4 M) x<tw M z.1):=by
    rw[L5 M z.1,Bool.eq_iff_iff,Bool.not_eq_true',decide_eq_true_iff,decide_eq_false_iff_not,D8 (O6 h0)]
    omega
   rw[this]
   exact V6 (E7 (j9 rfl bl))
  have b:B1 (dTr (e7 t7 (a7 (dV 1) (a7 (dV 2) a8)))) ⟨[.val (fr (tw M z.1)),.val (fr (tw M z.2)),.val (qF M x)],fs⟩=some (decide (x≤4*z.2),⟨[.val (fr (tw M z.1)),.val (fr (tw M z.2)),.val (qF M x)],fs⟩):=by
   have bl:=Q9 (tw M z.2) (tw (N4 M) x) fs g2 sx (by decide)
   have:decide (x≤4*z.2) = !decide (tw M z.2<tw (N4 M) x):=by
    rw[L5 M z.2,Bool.eq_iff_iff,Bool.not_eq_true',decide_eq_true_iff,decide_eq_false_iff_not,D8 (O6 h0)]
    omega
   rw[this]
   exact V6 (E7 (j9 rfl bl))
  show A8 _ _ ⟨[.val (fr (tw M z.1)),.val (fr (tw M z.2)),.val (qF M x)],fs⟩=_
  by_cases c:4*z.1≤x
  ·rw[decide_eq_true c] at a
   rw[decide_eq_true c,Bool.true_and]
   exact P8 a b
  ·rw[decide_eq_false c] at a
   rw[decide_eq_false c,Bool.false_and]
   exact X6 a) (fun _ _ _=>rfl)
 have pl:=G3 (tw M o) (tw (N4 M) x) fs (w6 hM (by omega)) sx (by decide)
 rw[L5 M o,V2,←L5 M o] at pl
 have mk:=b0i hM h0 fs hk k6 k1 (Y:=4*o+x) (by omega) (by omega)
 have lk:=b3r hk he k1 k6 (o:=o) o0 hx0 hx1
 have same:(!decide ((o6 ks o).filter (fun z=>decide (4*z.1≤x)&&decide (x≤4*z.2))=[]))=imk 0 ks ((4*o+x) % (4*ks.sum)):=by
  rw[Bool.eq_iff_iff,←lk,Bool.not_eq_true',decide_eq_false_iff_not]
  constructor
  ·intro h
   obtain⟨z,hz⟩:=List.exists_mem_of_ne_nil _ h
   obtain⟨a,b⟩:=List.mem_filter.mp hz
   rw[Bool.and_eq_true,decide_eq_true_iff,decide_eq_true_iff] at b
   exact⟨z,a,b⟩
  ·rintro⟨z,a,b1,b2⟩ e
   have:z∈(o6 ks o).filter (fun z=>decide (4*z.1≤x)&&decide (x≤4*z.2)):=List.mem_filter.mpr ⟨a,by rw[decide_eq_true b1,decide_eq_true b2];rfl⟩
   rw[e] at this
   cases this
 generalize (o6 ks o).filter (fun z=>decide (4*z.1≤x)&&decide (x≤4*z.2))=F at *
 generalize imk 0 ks ((4*o+x) % (4*ks.sum))=B at *
 refine⟨.own (F.map fun _=>.int 1),?_⟩
 show a2b WAt WSu WMi FMo WMk WPl t7 WAk WS3 WFl WAp FMl _=_
 unfold a2b
 have nn:=b0T F
 rw[same] at nn
 have bb:=b1e B B
 rw[show (B == B)=true by cases B <;> rfl] at bb
 rw[i6 (s1:=r5S Ln (m6 M ks) (fr (tw M o)) TL (fr M) (.lst ((o6 ks o).map (mkD M))) W (.val (qF M x)) (.own (F.map fun _=>.int 1)) x10 x11 x12 fs) (F1 (s1:=r5S Ln (m6 M ks) (fr (tw M o)) TL (fr M) (.lst ((o6 ks o).map (mkD M))) W (.val (qF M x)) x9 x10 x11 x12 fs) (Y9 (idx:=[8]) (ds:=(o6 ks o).map (mkD M)) (s1:=r5S Ln (m6 M ks) (fr (tw M o)) TL (fr M) (.lst ((o6 ks o).map (mkD M))) W (.val (qF M x)) x9 x10 x11 x12 fs) (a1z rfl) (O0 (by rw[List.length_map];omega)) cf) (show 9<13 by decide))]
 exact E5 (C0 (c7 (c7 rfl (C9 rfl) nn) (j9 (i5 rfl (i5 (j9 rfl pl) rfl)) mk) bb))
theorem b0x (L:Lay c ps m S Q T) (hx:ExS c ps) (hT:T=scn 0 ((nbs c ps).map lnR)) (mp:0<S m) {z:Int × Int}(z0:0≤z.1) (z1:z.1<z.2) (z2:z.2≤24) (P O M R W:D) (x8 x9 x10:Sl) (fs:Option FS) :
  a5M (r5S (.tup [.bl c,.tup (ps.map pt)]) P O (.lst (T.map fr)) M R W x8 x9 x10 (.val (mpD S Q m (ps.zip T) z)) (.val (mkD (S m) z)) fs)=some (.next,r5S (.tup [.bl c,.tup (ps.map pt)]) P O (.lst (T.map fr)) M R W x8 x9 x10 (.val (mpD S Q m (ps.zip T) z)) (.val (mkD (S m) z)) fs):=by
 have sM:=L.sz m (Nat.le_refl _)
 have b1:=L.in24 (k:=z.1) z0 (by omega)
 have b2:=L.in24 (k:=z.2) (by omega) z2
 obtain⟨p1,p2⟩:=b0K L hx (fun fs=>by rw[hT];exact a7e hx fs) b1 b2
 obtain⟨TL,e1,l1⟩:=L.psums hx hT fs b1.lo ((D8 mp _ _).mpr z1) b2.hi (w6 sM (by omega)) (w6 sM (by omega)) (fun p hp=>(p1 p hp).mono (by decide))
 have mi:=J8 (tw (S m) z.2) (tw (S m) z.1) fs (w6 sM (by omega)) (w6 sM (by omega)) (by decide)
 have sd:Sz 88 (tw (S m) z.2 - tw (S m) z.1):=by rw[U6];exact w6 sM (by omega)
 have ne:=a78 sd sd
 rw[decide_eq_true rfl] at ne
 have wa:=b1s L hx.lo hx.hi fs (len:=tw (S m) z.1) b1.sz
 have n2:=b5V (atL S Q m (tw (S m) z.1))
 have i0:pIx (.tup ((P6 S Q m (ps.zip T) (tw (S m) z.1) (tw (S m) z.2)).map pt)) (.int 0)=some (pt (atL S Q m (tw (S m) z.1))):=(ixT _ _).trans (atN (i:=0) rfl)
 show a1m WAt WSu WMi FMo WMk WPl t7 WAk WS3 WFl WAp FMl _=_
 unfold a1m
 refine E5 (a0C (C0 (c7 (c7 (j9 rfl e1) rfl (B6 l1)) (j9 (i5 (c7 rfl rfl rfl) (i5 (c7 rfl rfl rfl) rfl)) mi) ne)) (C0 (c7 (c7 (c7 rfl rfl rfl) rfl i0) (j9 (i5 rfl (i5 rfl (i5 (c7 rfl rfl rfl) rfl))) wa) n2)))
theorem b07 (L:Lay c ps m S Q T) (hx:ExS c ps) (hT:T=scn 0 ((nbs c ps).map lnR)) (mp:0<S m) {ks:List Int}(hk:∀ k∈ks,1≤k∧k≤5) (he:ks.length % 2=0) (k6:ks.length≤6) (k1:1≤ks.length) {o:Int}(o0:0≤o) (o1:o≤20) {n:Nat}{f:FS}(h:Fd3 n f) (hn:n<2 ^ 27) :
  ∃ f',WR5 [.feed,.tup [.bl c,.tup (ps.map pt)],m6 (S m) ks,fr (tw (S m) o)] (some f)=some (.bl true,some f')∧Fd3 (n+6) f':=by
 have sM:=L.sz m (Nat.le_refl _)
 have ap:=a6A (fun k h=>(hk k h).1) he 60 (bg0 ks o) 0 (by omega)
 have hz:∀ z∈o6 ks o,0≤z.1∧z.1<z.2∧z.2≤24:=ap.2.1
 have pw:(o6 ks o).Pairwise (fun y z=>y.2<z.1):=ap.1
 have ml:(o6 ks o).length≤60:=a2l (ks:=ks) 60 (bg0 ks o) 0
 have st:∀ fs,FSt [.tup [.bl c,.tup (ps.map pt)]] fs=some (.lst (T.map fr),fs):=fun fs=>by rw[hT];exact a7e hx fs
 have sm:WSu [.tup [.bl c,.tup (ps.map pt)]] (some f)=some (.lst (T.map fr),some f):=by rw[hT];exact a8q hx _
 have la:=L.lst_at
 have m1:FMl [.tup [.bl c,.tup (ps.map pt)],m6 (S m) ks,fr (tw (S m) o)] (some f)=some (.lst ((o6 ks o).map (mkD (S m))),some f):=a6D sM mp (some f) (.tup [.bl c,.tup (ps.map pt)]) hk k6 k1 o0 o1 (pll L _ (st _))
 have wp:=b1P sM mp (some f) hz pw
 have pl:=G3 (tw (S m) o) (S m) (some f) (w6 sM (by omega)) sM (by decide)
 have epl:tw (S m) o+S m=tw (S m) (o+24):=by rw[←V2,X3]
 rw[epl] at pl
 have f1:=a8O sM mp (some f) hk he k6 k1 (y:=o+24) (by omega) (by omega)
 have f2:=a8O sM mp (some f) hk he k6 k1 (y:=o) (by omega) (by omega)
 have mf:=b0O hk k1 k6 (o:=o) o0
 have fb:∀ y:Int,0≤y→y<64→0≤G9 ks y∧G9 ks y≤94:=fun y y0 y1=>b4I hk k1 k6 y0 y1
 have fb1:=fb (o+24) (by omega) (by omega)
 have fb2:=fb o (by omega) (by omega)
 have mi:=J8 (tw (S m) (G9 ks (o+24))) (tw (S m) (G9 ks o)) (some f) (w6 sM (by omega)) (w6 sM (by omega)) (by decide)
 rw[U6,←mf] at mi
 have cd:=a7j (idx:=[]) (sl:=[.val .feed,.val (.tup [.bl c,.tup (ps.map pt)]),.val (m6 (S m) ks),.val (fr (tw (S m) o)),.val (.lst (T.map fr)),.val (fr (S m)),.val (.lst ((o6 ks o).map (mkD (S m)))),.val (fr (tw (S m) (K4 (o6 ks o)))),.no,.no,.no,.no,.no]) (fe:=e7 WMi (a7 (dV 1) (a7 (dV 0) a8))) (some f) (fun z:Int × Int=>fr (tw (S m) z.1)) (fun z=>fr (tw (S m) z.2)) (fun z=>fr (tw (S m) (z.2 - z.1))) (o6 ks o) fun z hzm=>by
  obtain⟨z0,z1,z2⟩:=hz z hzm
  have:=J8 (tw (S m) z.2) (tw (S m) z.1) (some f) (w6 sM (by omega)) (w6 sM (by omega)) (by decide)
  rw[U6] at this
  exact j9 rfl this
 have s3:=b4q sM (some f) (l:=o6 ks o) hz pw
 have sl:Sz 88 (tw (S m) (K4 (o6 ks o))):=w6 sM (by rw[mf];omega)
 have ne:=a78 sl sl
 rw[decide_eq_true rfl] at ne
 obtain⟨F,f3,e3,hF,h3⟩:=b2f sM mp hz ml h (by omega)
 have mo:FMo [.tup [.bl c,.tup (ps.map pt)],m6 (S m) ks,fr (tw (S m) o)] (some f3)=some (.lst ((o6 ks o).map (mpD S Q m (ps.zip T))),some f3):=b5b L hx.hi (some f3) (st _) mp hk k6 k1 o0 o1
 have lk:=fun (W:D) (x9:Sl) (x:Int) (h1:0<x) (h2:x<96)=>b4e sM mp hk he k6 k1 o0 o1 (.tup [.bl c,.tup (ps.map pt)]) (.lst (T.map fr)) W x9 .no .no .no (some f3) h1 h2
 have pt5:=fun (W:D) (x8 x9 x10:Sl) (z:Int × Int) (hzm:z∈o6 ks o)=>b0x L hx hT mp (hz z hzm).1 (hz z hzm).2.1 (hz z hzm).2.2 (m6 (S m) ks) (fr (tw (S m) o)) (fr (S m)) (.lst ((o6 ks o).map (mkD (S m)))) W x8 x9 x10 (some f3)
 generalize hLn:D.tup [.bl c,.tup (ps.map pt)]=Ln at *
 generalize hTL:D.lst (T.map fr)=TL at *
 generalize m6 (S m) ks=P at *
 generalize fr (tw (S m) o)=O at *
 obtain⟨s',lp,x8,x9,rfl⟩:=W3 (t:=c9 8) (b:=a8H) (fun _ s=>∃ x8 x9,s=r5S Ln P O TL (fr (S m)) (.lst ((o6 ks o).map (mkD (S m)))) (fr (tw (S m) (K4 (o6 ks o)))) x8 x9 .no .no .no (some f3)) (F.map (qF (S m))) 0 (r5S Ln P O TL (fr (S m)) (.lst ((o6 ks o).map (mkD (S m)))) (fr (tw (S m) (K4 (o6 ks o)))) .no .no .no .no .no (some f3)) ⟨.no,.no,rfl⟩ (by
  rintro i d s hd ⟨x8,x9,rfl⟩
  obtain⟨x,hxm,rfl⟩:=List.mem_map.mp (List.mem_of_getElem? hd)
  obtain⟨hx0,hx1⟩:=hF x hxm
  obtain⟨y9,e⟩:=lk (fr (tw (S m) (K4 (o6 ks o)))) x9 x hx0 hx1
  exact⟨_,_,rfl,.inl e,_,y9,rfl⟩)
 have zp:List.zipWith F4 ((o6 ks o).map (mpD S Q m (ps.zip T))) ((o6 ks o).map (mkD (S m)))=(o6 ks o).map fun z=>.tup [mpD S Q m (ps.zip T) z,mkD (S m) z]:=by
  rw[List.zipWith_map,List.zipWith_self]
  rfl
 obtain⟨s',lp2,x11,x12,rfl⟩:=W3 (t:=t9 2 (l7 (c9 11) (l7 (c9 12) u4))) (b:=a5M) (fun _ s=>∃ x11 x12,s=r5S Ln P O TL (fr (S m)) (.lst ((o6 ks o).map (mkD (S m)))) (fr (tw (S m) (K4 (o6 ks o)))) x8 x9 (.val (.lst ((o6 ks o).map (mpD S Q m (ps.zip T))))) x11 x12 (some f3)) ((o6 ks o).map fun z=>D.tup [mpD S Q m (ps.zip T) z,mkD (S m) z]) 0 (r5S Ln P O TL (fr (S m)) (.lst ((o6 ks o).map (mkD (S m)))) (fr (tw (S m) (K4 (o6 ks o)))) x8 x9 (.val (.lst ((o6 ks o).map (mpD S Q m (ps.zip T))))) .no .no (some f3)) ⟨.no,.no,rfl⟩ (by
  rintro i d s hd ⟨x11,x12,rfl⟩
  obtain⟨z,hzm,rfl⟩:=List.mem_map.mp (List.mem_of_getElem? hd)
  have e:=pt5 (fr (tw (S m) (K4 (o6 ks o)))) x8 x9 (.val (.lst ((o6 ks o).map (mpD S Q m (ps.zip T))))) z hzm
  exact⟨_,_,rfl,.inl e,_,_,rfl⟩)
 have ll:pEq (.int (((o6 ks o).map (mpD S Q m (ps.zip T))).length:Int)) (.int (((o6 ks o).map (mkD (S m))).length:Int))=some (.bl true):=by
  rw[List.length_map,List.length_map,P7,decide_eq_true rfl]
 have l1:((o6 ks o).map (mkD (S m))).length≤100:=by rw[List.length_map];omega
 generalize (o6 ks o).map (mpD S Q m (ps.zip T))=R3 at *
 have cd2:A0 (mk2 [] [.val .feed,.val Ln,.val P,.val O,.val TL,.val (fr (S m)),.val (.lst ((o6 ks o).map (mkD (S m)))),.val (fr (tw (S m) (K4 (o6 ks o)))),.no,.no,.no,.no,.no]) B7 (e7 WMi (a7 (dV 1) (a7 (dV 0) a8))) ((o6 ks o).map (mkD (S m))) (some f)=some ((o6 ks o).map (fun z=>fr (tw (S m) (z.2 - z.1))),some f):=cd
 generalize (o6 ks o).map (mkD (S m))=R1 at *
 generalize (o6 ks o).map (fun z=>fr (tw (S m) (z.2 - z.1)))=R2 at *
 generalize fr (tw (S m) (K4 (o6 ks o)))=W at *
 generalize fr (tw (S m) (o+24))=O2 at *
 generalize fr (tw (S m) (G9 ks (o+24)))=A1 at *
 generalize fr (tw (S m) (G9 ks o))=A2 at *
 generalize fr (S m)=M at *
 refine⟨f3,m8 (s:=r5S Ln P O TL M (.lst R1) W x8 x9 (.val (.lst R3)) x11 x12 (some f3)) ?_,h3⟩
 show a33 WAt WSu WMi FMo WMk WPl t7 WAk WS3 WFl WAp FMl ⟨[.val .feed,.val Ln,.val P,.val O,.no,.no,.no,.no,.no,.no,.no,.no,.no],some f⟩=_
 unfold a33
 rw[i6 (s1:=⟨[.val .feed,.val Ln,.val P,.val O,.val TL,.no,.no,.no,.no,.no,.no,.no,.no],some f⟩) (l5 (j9 rfl sm) rfl),
  i6 (s1:=⟨[.val .feed,.val Ln,.val P,.val O,.val TL,.val M,.no,.no,.no,.no,.no,.no,.no],some f⟩) (l5 (c7 rfl rfl (by rw[←hTL];exact B6 la)) rfl),
  i6 (s1:=⟨[.val .feed,.val Ln,.val P,.val O,.val TL,.val M,.val (.lst R1),.no,.no,.no,.no,.no,.no],some f⟩) (l5 (j9 rfl m1) rfl),
  i6 (s1:=⟨[.val .feed,.val Ln,.val P,.val O,.val TL,.val M,.val (.lst R1),.no,.no,.no,.no,.no,.no],some f⟩) (E5 (V6 (E7 (j9 rfl wp)))),
  i6 (s1:=r5S Ln P O TL M (.lst R1) W .no .no .no .no .no (some f)) (l5 (j9 (i5 (j9 (i5 rfl (i5 (j9 rfl pl) rfl)) f1) (i5 (j9 rfl f2) rfl)) mi) rfl),
  i6 (s1:=r5S Ln P O TL M (.lst R1) W .no .no .no .no .no (some f)) (E5 (C0 (c7 (j9 (i5 (C9 (Y9 (idx:=[]) (ds:=R1) (R:=R2) (s1:=r5S Ln P O TL M (.lst R1) W .no .no .no .no .no (some f)) (a1z rfl) (O0 l1) cd2)) rfl) s3) rfl ne))),
  i6 ((X5 (s1:=r5S Ln P O TL M (.lst R1) W .no .no .no .no .no (some f3)) (v5 rfl e3)).trans lp),
  i6 (s1:=r5S Ln P O TL M (.lst R1) W x8 x9 (.val (.lst R3)) .no .no (some f3)) (l5 (j9 rfl mo) rfl),
  i6 (Eq.trans (show X0 (a7 (dV 10) (a7 (dV 6) a8)) _ _ (r5S Ln P O TL M (.lst R1) W x8 x9 (.val (.lst R3)) .no .no (some f3))=u7 _ _ (List.zipWith F4 R3 R1) (r5S Ln P O TL M (.lst R1) W x8 x9 (.val (.lst R3)) .no .no (some f3)) from rfl) ((congrArg (fun l=>u7 _ _ l _) zp).trans lp2))]
 exact o8 (c7 (F3 (p:=t6) rfl rfl) (F3 (p:=t6) rfl rfl) ll)
abbrev C45:DM:=a1q WR5 WSh WSu WEx W9
theorem b3W {n:Nat}{f:FS}(h:Fd3 n f) (hn:n<2 ^ 24) (x0 x2 x3 x4 x5:Sl):∃ y3 y4 y5 f',C45 ⟨[x0,.val .feed,x2,x3,x4,x5],some f⟩=some (.next,⟨[x0,.val .feed,x2,y3,y4,y5],some f'⟩)∧Fd3 (n+45) f':=by
 obtain⟨c,ps,f1,e1,hx,ht,h1⟩:=b45 5 (by decide) h (by omega)
 obtain⟨m,S,Q,L⟩:=b4g hx
 have mp:0<S m:=by
  have:=L.lt (i:=0) (j:=m) L.m1 (Nat.le_refl _)
  rwa [L.z] at this
 obtain⟨ks,o,f2,e2,k2,k6,kb,o0,o1,h2,ke⟩:=b0z (L.sz m (Nat.le_refl _)) h1 (by omega)
 obtain⟨f3,e3,h3⟩:=b07 L hx rfl mp kb ke k6 (by omega) o0 o1 h2 (by omega)
 have sm:=a8q hx (some f1)
 have la:=L.lst_at
 generalize D.tup [.bl c,.tup (ps.map pt)]=Ln at *
 refine⟨.val Ln,.val (m6 (S m) ks),.val (fr (tw (S m) o)),f3,?_,h3.mono (by omega)⟩
 show a1q WR5 WSh WSu WEx W9 _=_
 unfold a1q
 rw[i6 (s1:=⟨[x0,.val .feed,x2,.val Ln,x4,x5],some f1⟩) (l5 (v5 rfl e1) rfl),
  i6 (s1:=⟨[x0,.val .feed,x2,.val Ln,.val (m6 (S m) ks),.val (fr (tw (S m) o))],some f2⟩) (l5 (v5 (i5 rfl (i5 (c7 (j9 rfl sm) rfl (B6 la)) rfl)) e2) rfl)]
 exact E5 (V6 (E7 (v5 rfl e3)))
abbrev b5A:DFn:=a3l WR5 WSh WSu WEx W9
theorem math (ns:List Int) (hl:ns.length≤63):∃ fs',b5A [.scr ns] none=some (.bl true,fs'):=by
 have e0:=b2c ns
 obtain⟨s',lp,x2,x3,x4,x5,f',rfl,I⟩:=W3 (t:=c9 2) (b:=C45) (fun i s=>∃ x2 x3 x4 x5 f',s=⟨[.val (.scr ns),.val .feed,x2,x3,x4,x5],some f'⟩∧Fd3 (45*i) f') (ups 0 2) 0 ⟨[.val (.scr ns),.val .feed,.no,.no,.no,.no],some ⟨ns,0,0,0,1⟩⟩
  ⟨.no,.no,.no,.no,_,rfl,Fd3.zero ns⟩ (by
   rintro i d s hd ⟨x2,x3,x4,x5,f',rfl,I⟩
   obtain⟨rfl,hi⟩:=a3D hd
   rw[Nat.zero_add] at *
   obtain⟨y3,y4,y5,f'',e,I'⟩:=b3W I (by omega) (.val (.scr ns)) (.val (.int ((0:Int)+i))) x3 x4 x5
   exact⟨⟨[.val (.scr ns),.val .feed,.val (.int ((0:Int)+i)),x3,x4,x5],some f'⟩,_,rfl,.inl e,_,y3,y4,y5,f'',rfl,I'.mono (by omega)⟩)
 refine⟨some f',m8 (s:=⟨[.val (.scr ns),.val .feed,x2,x3,x4,x5],some f'⟩) ?_⟩
 show a4c WR5 WSh WSu WEx W9 ⟨[.val (.scr ns),.no,.no,.no,.no,.no],none⟩=_
 unfold a4c
 rw[i6 (s1:=⟨[.val (.scr ns),.val .feed,.no,.no,.no,.no],some ⟨ns,0,0,0,1⟩⟩) (l5 (v5 rfl e0) rfl),
  i6 ((a0j (xs:=[.int 2]) (s1:=⟨[.val (.scr ns),.val .feed,.no,.no,.no,.no],some ⟨ns,0,0,0,1⟩⟩) rfl (V8 (n:=2) (by decide))).trans lp)]
 exact o8 rfl
end T
namespace T
open PySem PySem.Spec L2 DL
def top (i:Nat):Stmt:=PySem.Challenge.pw_widelines_k45_whole_marks_share_by_share.main.body.getD i (.Pass ⟨0,0,0,0⟩)
abbrev a5o:Stmt:=top 37
theorem ua:FnScope ["_law_script"] ["_law_script"] (m5 a5o):=⟨rfl,rfl,rfl,by decide +kernel,rfl,by decide +kernel,by decide +kernel⟩
set_option maxHeartbeats 4000000 in
section
variable {P:Program}{w:World}{K:PySem.W.Frag}{mg:Str→Option Value}{base:Heap}
theorem b4y {f:Addr}{fd:FuncData}(B:Blt mg) (F:GF K mg "_law_new_tape" a5o f fd):Cal P w K mg base 1 "_law_new_tape" ["_law_script"] (W9):=
 o9 F (fun _ _ _ _ _ _=>on1 fun _=>rfl) ua fun cdv A outer s H E g hr=>
  have nd:=ua.nd
  (k9 (m7 (b3d (pv 0))))
abbrev a3N:Stmt:=top 38
theorem ub:FnScope ["_law_tape", "_law_many", "_law_found", "_law_spot_here", "_law_cell", "_law_seed"] ["_law_tape", "_law_many"] (m5 a3N):=⟨rfl,rfl,rfl,by decide +kernel,rfl,by decide +kernel,by decide +kernel⟩
set_option maxHeartbeats 4000000 in
theorem a9x {f:Addr}{fd:FuncData}(B:Blt mg) (F:GF K mg "_law_draw" a3N f fd):Cal P w K mg base 1 "_law_draw" ["_law_tape", "_law_many"] (N5):=
 o9 F (fun _ _ _ _ _ _=>on2 fun _ _=>rfl) ub fun cdv A outer s H E g hr=>
  have nd:=ub.nd
  (i9 (C7 (A9 W7 (F0 (fun i j=>decide (j<i))) (EO.b (U4 (pv 0))) (EO.b a9) (w8 _)) (i9 (l4 (i:=2) nd rfl (by first | exact Or.inl rfl | exact Or.inr rfl) (j8 K5 J2 (EO.b (U4 (pv 0))) (c5 (pv 1)))) (i9 (a4e (pv 0) (j8 E6 E8 (EO.b (U4 (pv 0))) (c5 (pv 1)))) (k9 (m7 (c8 (pv 2)))))) D0) (i9 (l4 (i:=3) nd rfl (by first | exact Or.inl rfl | exact Or.inr rfl) (U4 (pv 0))) (i9 (a4e (pv 0) (j8 C3 C4 (c5 (pv 3)) (EO.b a9))) (i9 (l4 (i:=4) nd rfl (by first | exact Or.inl rfl | exact Or.inr rfl) a9) (i9 (C7 (A9 W7 (F0 (fun i j=>decide (j<i))) (EO.b (F2 J5 K2 (by rfl) B.len K1 (bc (EO.b (U4 (pv 0))) B5))) (EO.b a9) (w8 _)) (k9 (l4 (i:=4) nd rfl (by first | exact Or.inl rfl | exact Or.inr rfl) (j5 j3 j4 (EO.b (U4 (pv 0))) (EO.b (j8 K5 J2 (c5 (pv 3)) (EO.b (F2 J5 K2 (by rfl) B.len K1 (bc (EO.b (U4 (pv 0))) B5))))) (fun _ _=>rfl)))) D0) (i9 (C7 (WO.t (W1 (A9 b5q (F0 (fun i j=>decide (j≤i))) (c5 (pv 4)) (EO.b (j8 a5Z a6T (EO.b a9) (EO.b a9))) (w8 _)) (X4 (A9 S5 (F0 (fun i j=>decide (i<j))) (c5 (pv 3)) (EO.b (F2 J5 K2 (by rfl) B.len K1 (bc (EO.b (U4 (pv 0))) B5))) (w8 _))))) (i9 (a4e (pv 0) (j8 E6 E8 (c5 (pv 4)) (c5 (pv 1)))) (k9 (m7 (j8 K5 J2 (c5 (pv 4)) (c5 (pv 1)))))) D0) (i9 (l4 (i:=5) nd rfl (by first | exact Or.inl rfl | exact Or.inr rfl) (j8 K5 J2 (EO.b (j8 o7 n8 (EO.b (j8 C3 C4 (EO.b (j8 C3 C4 (EO.b (j8 K5 J2 (c5 (pv 4)) (EO.b a9))) (EO.b (j8 o7 n8 (EO.b (j8 o7 n8 (EO.b a9) (c5 (pv 3)))) (c5 (pv 3)))))) (EO.b a9))) (EO.b a9))) (EO.b a9))) (k9 (m7 (j8 K5 J2 (EO.b (j8 E6 E8 (EO.b (j8 K5 J2 (EO.b (j8 o7 n8 (EO.b (j8 K5 J2 (EO.b (j8 C3 C4 (EO.b (j8 o7 n8 (c5 (pv 5)) (EO.b a9))) (EO.b (j8 o7 n8 (c5 (pv 3)) (EO.b a9))))) (EO.b a9))) (EO.b a9))) (EO.b a9))) (EO.b a9))) (c5 (pv 1))))))))))))
abbrev a4V:Stmt:=top 49
theorem uc:FnScope ["_law_tape", "_law_some", "_law_x"] ["_law_tape"] (m5 a4V):=⟨rfl,rfl,rfl,by decide +kernel,rfl,by decide +kernel,by decide +kernel⟩
set_option maxHeartbeats 4000000 in
theorem b26 {mh:DFn}(Cb:Cal P w K mg base 1 "_law_draw" ["_law_tape", "_law_many"] mh) {f:Addr}{fd:FuncData}(B:Blt mg) (F:GF K mg "_law_start" a4V f fd):Cal P w K mg base 2 "_law_start" ["_law_tape"] (a1o mh):=
 o9 F (fun _ _ _ _ _ _=>on1 fun _=>rfl) uc fun cdv A outer s H E g hr=>
  have nd:=uc.nd
  (i9 (J3 (i:=1) nd rfl (by first | exact Or.inl rfl | exact Or.inr rfl) (C6 (ac (k0 (ac a9 (ac a9 b6))) (ac (k0 (ac a9 (ac a9 b6))) (ac (k0 (ac (D7 E3 E2 (EO.b a9)) (ac a9 b6))) (ac (k0 (ac a9 (ac a9 b6))) (ac (k0 (ac (D7 E3 E2 (EO.b a9)) (ac a9 b6))) (ac (k0 (ac a9 (ac a9 b6))) b6)))))))) (i9 (l4 (i:=2) nd rfl (by first | exact Or.inl rfl | exact Or.inr rfl) (j5 j3 j4 (c5 (pv 1)) (EO.b (i7 Cb _ hr (by decide) (by rfl) (ac (c8 (pv 0)) (ac a9 b6)) (c6 (c6 i8)))) (fun _ _=>rfl))) (k9 (m7 (k0 (ac (c8 (pv 2)) (ac (j5 j3 j4 (c5 (pv 1)) (EO.b (i7 Cb _ hr (by decide) (by rfl) (ac (c8 (pv 0)) (ac a9 b6)) (c6 (c6 i8)))) (fun _ _=>rfl)) b6)))))))
abbrev a2p:Stmt:=top 39
theorem ud:FnScope ["_law_one", "_law_other"] ["_law_one", "_law_other"] (m5 a2p):=⟨rfl,rfl,rfl,by decide +kernel,rfl,by decide +kernel,by decide +kernel⟩
set_option maxHeartbeats 4000000 in
theorem a9p {f:Addr}{fd:FuncData}(B:Blt mg) (F:GF K mg "_law_divisor" a2p f fd):Cal P w K mg base 1 "_law_divisor" ["_law_one", "_law_other"] (v4):=
 o9 F (fun _ _ _ _ _ _=>on2 fun _ _=>rfl) ud fun cdv A outer s H E g hr=>
  have nd:=ud.nd
  (i9 (a3H (i:=0) (j:=1) rfl nd rfl rfl (by decide) rfl rfl (ac (F2 a1e a2a (by rfl) B.abs a2j (bc (c5 (pv 0)) B5)) (ac (F2 a1e a2a (by rfl) B.abs a2j (bc (c5 (pv 1)) B5)) b6)) rfl) (i9 (U0 PassesOwn.never (A9 W7 (F0 (fun i j=>decide (j<i))) (c5 (pv 1)) (EO.b a9) (w8 _)) (k9 (a3H (i:=0) (j:=1) rfl nd rfl rfl (by decide) rfl rfl (ac (c8 (pv 1)) (ac (j8 K5 J2 (c5 (pv 0)) (c5 (pv 1))) b6)) rfl))) (k9 (m7 (c8 (pv 0))))))
abbrev a2R:Stmt:=top 40
theorem ue:FnScope ["_law_top", "_law_bottom", "_law_shared"] ["_law_top", "_law_bottom"] (m5 a2R):=⟨rfl,rfl,rfl,by decide +kernel,rfl,by decide +kernel,by decide +kernel⟩
set_option maxHeartbeats 4000000 in
theorem a8R {mK:DFn}(Cn:Cal P w K mg base 1 "_law_divisor" ["_law_one", "_law_other"] mK) {f:Addr}{fd:FuncData}(B:Blt mg) (F:GF K mg "_law_low" a2R f fd):Cal P w K mg base 2 "_law_low" ["_law_top", "_law_bottom"] (v8 mK):=
 o9 F (fun _ _ _ _ _ _=>on2 fun _ _=>rfl) ue fun cdv A outer s H E g hr=>
  have nd:=ue.nd
  (i9 (l4 (i:=2) nd rfl (by first | exact Or.inl rfl | exact Or.inr rfl) (i7 Cn _ hr (by decide) (by rfl) (ac (c8 (pv 0)) (ac (c8 (pv 1)) b6)) (c6 (c6 i8)))) (i9 (C7 (A9 S5 (F0 (fun i j=>decide (i<j))) (c5 (pv 1)) (EO.b a9) (w8 _)) (k9 (l4 (i:=2) nd rfl (by first | exact Or.inl rfl | exact Or.inr rfl) (D7 E3 E2 (c5 (pv 2))))) D0) (k9 (m7 (k0 (ac (j8 E6 E8 (c5 (pv 0)) (c5 (pv 2))) (ac (j8 E6 E8 (c5 (pv 1)) (c5 (pv 2))) b6)))))))
abbrev a3d:Stmt:=top 43
theorem uf:FnScope ["_law_one", "_law_other"] ["_law_one", "_law_other"] (m5 a3d):=⟨rfl,rfl,rfl,by decide +kernel,rfl,by decide +kernel,by decide +kernel⟩
set_option maxHeartbeats 4000000 in
theorem b36 {mq:DFn}(Cg:Cal P w K mg base 2 "_law_low" ["_law_top", "_law_bottom"] mq) {f:Addr}{fd:FuncData}(B:Blt mg) (F:GF K mg "_law_product" a3d f fd):Cal P w K mg base 3 "_law_product" ["_law_one", "_law_other"] (M2 mq):=
 o9 F (fun _ _ _ _ _ _=>on2 fun _ _=>rfl) uf fun cdv A outer s H E g hr=>
  have nd:=uf.nd
  (k9 (m7 (i7 Cg _ hr (by decide) (by rfl) (ac (j8 o7 n8 (EO.b (j5 j3 j4 (c5 (pv 0)) (EO.b a9) (fun _ _=>rfl))) (EO.b (j5 j3 j4 (c5 (pv 1)) (EO.b a9) (fun _ _=>rfl)))) (ac (j8 o7 n8 (EO.b (j5 j3 j4 (c5 (pv 0)) (EO.b a9) (fun _ _=>rfl))) (EO.b (j5 j3 j4 (c5 (pv 1)) (EO.b a9) (fun _ _=>rfl)))) b6)) (c6 (c6 i8)))))
abbrev a4o:Stmt:=top 46
theorem ug:FnScope ["_law_x", "_law_y", "_law_some", "_law_shared"] ["_law_x", "_law_y"] (m5 a4o):=⟨rfl,rfl,rfl,by decide +kernel,rfl,by decide +kernel,by decide +kernel⟩
set_option maxHeartbeats 4000000 in
theorem b30 {mK:DFn}(Cn:Cal P w K mg base 1 "_law_divisor" ["_law_one", "_law_other"] mK) {f:Addr}{fd:FuncData}(B:Blt mg) (F:GF K mg "_law_spot" a4o f fd):Cal P w K mg base 2 "_law_spot" ["_law_x", "_law_y"] (a0n mK):=
 o9 F (fun _ _ _ _ _ _=>on2 fun _ _=>rfl) ug fun cdv A outer s H E g hr=>
  have nd:=ug.nd
  (i9 (l4 (i:=2) nd rfl (by first | exact Or.inl rfl | exact Or.inr rfl) (k0 (ac (j8 o7 n8 (EO.b (j5 j3 j4 (c5 (pv 0)) (EO.b a9) (fun _ _=>rfl))) (EO.b (j5 j3 j4 (c5 (pv 1)) (EO.b a9) (fun _ _=>rfl)))) (ac (j8 o7 n8 (EO.b (j5 j3 j4 (c5 (pv 1)) (EO.b a9) (fun _ _=>rfl))) (EO.b (j5 j3 j4 (c5 (pv 0)) (EO.b a9) (fun _ _=>rfl)))) (ac (j8 o7 n8 (EO.b (j5 j3 j4 (c5 (pv 0)) (EO.b a9) (fun _ _=>rfl))) (EO.b (j5 j3 j4 (c5 (pv 1)) (EO.b a9) (fun _ _=>rfl)))) b6))))) (i9 (l4 (i:=3) nd rfl (by first | exact Or.inl rfl | exact Or.inr rfl) (i7 Cn _ hr (by decide) (by rfl) (ac (i7 Cn _ hr (by decide) (by rfl) (ac (j5 j3 j4 (c5 (pv 2)) (EO.b a9) (fun _ _=>rfl)) (ac (j5 j3 j4 (c5 (pv 2)) (EO.b a9) (fun _ _=>rfl)) b6)) (c6 (c6 i8))) (ac (j5 j3 j4 (c5 (pv 2)) (EO.b a9) (fun _ _=>rfl)) b6)) (c6 (c6 i8)))) (k9 (m7 (Q5 T4 T9 (by rfl) B.tuple U2 (bc (EO.b (FO.v (a1w (N':=["_law_one", "_law_shared"]) (idx:=[3]) rfl (W2 (by rfl) (.cons rfl .nil) (by decide +kernel) rfl (by decide +kernel) (by rfl) (.cons rfl (by first | exact Or.inl rfl | exact Or.inr rfl) (by first | exact Or.inl rfl | exact Or.inr rfl) .nil)) (N8 (c8 (pv 2))) (fun _ _ _ _=>n0 (i:=0) (show List.Nodup (["_law_one", "_law_shared"]:List Str) by decide +kernel) rfl (Or.inl rfl)) (fun _ _ _ _ _=>N6) (fun _ _ _ _ _=>(j8 E6 E8 (c5 (pv 0)) (c5 (pv 1))))))) B5))))))
abbrev a4R:Stmt:=top 41
theorem uh:FnScope ["_law_one", "_law_other"] ["_law_one", "_law_other"] (m5 a4R):=⟨rfl,rfl,rfl,by decide +kernel,rfl,by decide +kernel,by decide +kernel⟩
set_option maxHeartbeats 4000000 in
theorem b4R {mq:DFn}(Cg:Cal P w K mg base 2 "_law_low" ["_law_top", "_law_bottom"] mq) {f:Addr}{fd:FuncData}(B:Blt mg) (F:GF K mg "_law_plus" a4R f fd):Cal P w K mg base 3 "_law_plus" ["_law_one", "_law_other"] (G2 mq):=
 o9 F (fun _ _ _ _ _ _=>on2 fun _ _=>rfl) uh fun cdv A outer s H E g hr=>
  have nd:=uh.nd
  (k9 (m7 (i7 Cg _ hr (by decide) (by rfl) (ac (j8 C3 C4 (EO.b (j8 o7 n8 (EO.b (j5 j3 j4 (c5 (pv 0)) (EO.b a9) (fun _ _=>rfl))) (EO.b (j5 j3 j4 (c5 (pv 1)) (EO.b a9) (fun _ _=>rfl))))) (EO.b (j8 o7 n8 (EO.b (j5 j3 j4 (c5 (pv 1)) (EO.b a9) (fun _ _=>rfl))) (EO.b (j5 j3 j4 (c5 (pv 0)) (EO.b a9) (fun _ _=>rfl)))))) (ac (j8 o7 n8 (EO.b (j5 j3 j4 (c5 (pv 0)) (EO.b a9) (fun _ _=>rfl))) (EO.b (j5 j3 j4 (c5 (pv 1)) (EO.b a9) (fun _ _=>rfl)))) b6)) (c6 (c6 i8)))))
abbrev a35:Stmt:=top 51
theorem ui:FnScope ["_law_tape", "_law_some", "_law_told", "_law_k", "_law_a", "_law_b", "_law_h", "_law_size_here", "_law_x", "_law_y", "_law_found", "_law_one", "_law_other", "_law_far", "_law_high"] ["_law_tape"] (m5 a35):=⟨rfl,rfl,rfl,by decide +kernel,rfl,by decide +kernel,by decide +kernel⟩
set_option maxHeartbeats 4000000 in
theorem a9q {mv:DFn}{ma:DFn}{me:DFn}{mC:DFn}{mh:DFn}(Ci:Cal P w K mg base 2 "_law_spot" ["_law_x", "_law_y"] mv) (Ca:Cal P w K mg base 3 "_law_plus" ["_law_one", "_law_other"] ma) (Cc:Cal P w K mg base 3 "_law_product" ["_law_one", "_law_other"] me) (Cr:Cal P w K mg base 2 "_law_start" ["_law_tape"] mC) (Cb:Cal P w K mg base 1 "_law_draw" ["_law_tape", "_law_many"] mh) {f:Addr}{fd:FuncData}(B:Blt mg) (F:GF K mg "_law_closed" a35 f fd):Cal P w K mg base 4 "_law_closed" ["_law_tape"] (a4y mv ma me mC mh):=
 o9 F (fun _ _ _ _ _ _=>on1 fun _=>rfl) ui fun cdv A outer s H E g hr=>
  have nd:=ui.nd
  (i9 (J3 (i:=1) nd rfl (by first | exact Or.inl rfl | exact Or.inr rfl) (C6 (ac (k0 (ac (k0 (ac a9 (ac a9 b6))) (ac (k0 (ac a9 (ac a9 b6))) (ac (k0 (ac a9 (ac a9 b6))) b6)))) (ac (k0 (ac (k0 (ac a9 (ac a9 b6))) (ac (k0 (ac a9 (ac a9 b6))) (ac (k0 (ac a9 (ac a9 b6))) b6)))) (ac (k0 (ac (k0 (ac a9 (ac a9 b6))) (ac (k0 (ac a9 (ac a9 b6))) (ac (k0 (ac a9 (ac a9 b6))) (ac (k0 (ac a9 (ac a9 b6))) b6))))) b6))))) (i9 (J3 (i:=1) nd rfl (by first | exact Or.inl rfl | exact Or.inr rfl) (Y4 a0f a00 (c5 (pv 1)) (EO.b (FO.v (C6 (ac (k0 (ac (k0 (ac a9 (ac a9 b6))) (ac (k0 (ac a9 (ac a9 b6))) (ac (k0 (ac a9 (ac a9 b6))) (ac (k0 (ac a9 (ac a9 b6))) b6))))) (ac (k0 (ac (k0 (ac a9 (ac a9 b6))) (ac (k0 (ac a9 (ac a9 b6))) (ac (k0 (ac a9 (ac a9 b6))) (ac (k0 (ac a9 (ac a9 b6))) b6))))) b6))))))) (i9 (J3 (i:=1) nd rfl (by first | exact Or.inl rfl | exact Or.inr rfl) (Y4 a0f a00 (c5 (pv 1)) (EO.b (FO.v (C6 (ac (k0 (ac (k0 (ac a9 (ac a9 b6))) (ac (k0 (ac a9 (ac a9 b6))) (ac (k0 (ac a9 (ac a9 b6))) (ac (k0 (ac a9 (ac a9 b6))) (ac (k0 (ac a9 (ac a9 b6))) (ac (k0 (ac a9 (ac a9 b6))) b6))))))) b6)))))) (i9 (J3 (i:=1) nd rfl (by first | exact Or.inl rfl | exact Or.inr rfl) (Y4 a0f a00 (c5 (pv 1)) (EO.b (FO.v (C6 (ac (k0 (ac (k0 (ac a9 (ac a9 b6))) (ac (k0 (ac a9 (ac a9 b6))) (ac (k0 (ac a9 (ac a9 b6))) (ac (k0 (ac a9 (ac a9 b6))) (ac (k0 (ac a9 (ac a9 b6))) (ac (k0 (ac a9 (ac a9 b6))) (ac (k0 (ac a9 (ac a9 b6))) (ac (k0 (ac a9 (ac a9 b6))) b6))))))))) b6)))))) (i9 (l4 (i:=2) nd rfl (by first | exact Or.inl rfl | exact Or.inr rfl) (j5 j3 j4 (c5 (pv 1)) (EO.b (i7 Cb _ hr (by decide) (by rfl) (ac (c8 (pv 0)) (ac a9 b6)) (c6 (c6 i8)))) (fun _ _=>rfl))) (i9 (l4 (i:=3) nd rfl (by first | exact Or.inl rfl | exact Or.inr rfl) (i7 Cb _ hr (by decide) (by rfl) (ac (c8 (pv 0)) (ac (F2 J5 K2 (by rfl) B.len K1 (bc (c5 (pv 2)) B5)) b6)) (c6 (c6 i8)))) (i9 (l4 (i:=2) nd rfl (by first | exact Or.inl rfl | exact Or.inr rfl) (b3f (EO.b (j8 C3 C4 (EO.b (a0I (c5 (pv 2)) (a0v (c5 (pv 3))) a0q)) (EO.b (a0I (c5 (pv 2)) a0q (a0v (c5 (pv 3))))))) (EO.b (j8 O7 P5 (EO.b a9) (EO.b (j8 o7 n8 (EO.b a9) (EO.b (i7 Cb _ hr (by decide) (by rfl) (ac (c8 (pv 0)) (ac a9 b6)) (c6 (c6 i8)))))))))) (i9 (N2 (j5 j3 j4 (EO.b (FO.v (C6 (ac (k0 (ac a9 (ac a9 (ac a9 b6)))) (ac (k0 (ac a9 (ac a9 (ac a9 b6)))) (ac (k0 (ac a9 (ac a9 (ac a9 b6)))) (ac (k0 (ac (D7 E3 E2 (EO.b a9)) (ac a9 (ac a9 b6)))) (ac (k0 (ac a9 (ac a9 (ac a9 b6)))) b6)))))))) (EO.b (i7 Cb _ hr (by decide) (by rfl) (ac (c8 (pv 0)) (ac a9 b6)) (c6 (c6 i8)))) (fun _ _=>rfl)) (D2 rfl (u5 (p8 (n0 (i:=4) nd rfl (by first | exact Or.inl rfl | exact Or.inr rfl))) (u5 (p8 (n0 (i:=5) nd rfl (by first | exact Or.inl rfl | exact Or.inr rfl))) (u5 (p8 (n0 (i:=6) nd rfl (by first | exact Or.inl rfl | exact Or.inr rfl))) D1))))) (i9 (l4 (i:=7) nd rfl (by first | exact Or.inl rfl | exact Or.inr rfl) (j5 j3 j4 (EO.b (FO.v (C6 (ac (k0 (ac a9 (ac a9 b6))) (ac (k0 (ac a9 (ac a9 b6))) (ac (k0 (ac a9 (ac a9 b6))) b6)))))) (EO.b (i7 Cb _ hr (by decide) (by rfl) (ac (c8 (pv 0)) (ac a9 b6)) (c6 (c6 i8)))) (fun _ _=>rfl))) (i9 (N2 (i7 Cr _ hr (by decide) (by rfl) (ac (c8 (pv 0)) b6) (c6 i8)) (D2 rfl (u5 (p8 (n0 (i:=8) nd rfl (by first | exact Or.inl rfl | exact Or.inr rfl))) (u5 (p8 (n0 (i:=9) nd rfl (by first | exact Or.inl rfl | exact Or.inr rfl))) D1)))) (i9 (J3 (i:=10) nd rfl (by first | exact Or.inl rfl | exact Or.inr rfl) (C6 b6)) (i9 (P4 PassesOwn.never rfl (c8 (pv 2)) (D2 rfl (u5 (p8 (n0 (i:=11) nd rfl (by first | exact Or.inl rfl | exact Or.inr rfl))) (u5 (p8 (n0 (i:=12) nd rfl (by first | exact Or.inl rfl | exact Or.inr rfl))) D1))) (i9 (l4 (i:=13) nd rfl (by first | exact Or.inl rfl | exact Or.inr rfl) (i7 Cc _ hr (by decide) (by rfl) (ac (c8 (pv 7)) (ac (k0 (ac (j8 O7 P5 (EO.b (j8 o7 n8 (c5 (pv 11)) (c5 (pv 4)))) (EO.b (j8 o7 n8 (c5 (pv 12)) (c5 (pv 5))))) (ac (c8 (pv 6)) b6))) b6)) (c6 (c6 i8)))) (i9 (l4 (i:=14) nd rfl (by first | exact Or.inl rfl | exact Or.inr rfl) (i7 Cc _ hr (by decide) (by rfl) (ac (c8 (pv 7)) (ac (k0 (ac (j8 C3 C4 (EO.b (j8 o7 n8 (c5 (pv 11)) (c5 (pv 5)))) (EO.b (j8 o7 n8 (c5 (pv 12)) (c5 (pv 4))))) (ac (c8 (pv 6)) b6))) b6)) (c6 (c6 i8)))) (k9 (V1 (pv 10) (i7 Ci _ hr (by decide) (by rfl) (ac (i7 Ca _ hr (by decide) (by rfl) (ac (c8 (pv 8)) (ac (c8 (pv 13)) b6)) (c6 (c6 i8))) (ac (i7 Ca _ hr (by decide) (by rfl) (ac (c8 (pv 9)) (ac (c8 (pv 14)) b6)) (c6 (c6 i8))) b6)) (c6 (c6 i8)))))))) (k9 (m7 (k0 (ac K3 (ac (Q5 T4 T9 (by rfl) B.tuple U2 (bc (c5 (pv 10)) B5)) b6)))))))))))))))))
abbrev a4W:Stmt:=top 48
theorem uj:FnScope ["_law_tape", "_law_great", "_law_choice", "_law_some", "_law_a", "_law_b", "_law_h", "_law_found", "_law_x", "_law_y"] ["_law_tape"] (m5 a4W):=⟨rfl,rfl,rfl,by decide +kernel,rfl,by decide +kernel,by decide +kernel⟩
set_option maxHeartbeats 4000000 in
theorem b4h {mh:DFn}(Cb:Cal P w K mg base 1 "_law_draw" ["_law_tape", "_law_many"] mh) {f:Addr}{fd:FuncData}(B:Blt mg) (F:GF K mg "_law_menu" a4W f fd):Cal P w K mg base 2 "_law_menu" ["_law_tape"] (a3t mh):=
 o9 F (fun _ _ _ _ _ _=>on1 fun _=>rfl) uj fun cdv A outer s H E g hr=>
  have nd:=uj.nd
  (i9 (l4 (i:=1) nd rfl (by first | exact Or.inl rfl | exact Or.inr rfl) (j5 j3 j4 (EO.b (FO.v (C6 (ac a9 (ac a9 (ac a9 (ac a9 (ac a9 (ac a9 (ac a9 (ac (j8 a5Z a6T (EO.b a9) (EO.b a9)) b6))))))))))) (EO.b (i7 Cb _ hr (by decide) (by rfl) (ac (c8 (pv 0)) (ac a9 b6)) (c6 (c6 i8)))) (fun _ _=>rfl))) (i9 (l4 (i:=2) nd rfl (by first | exact Or.inl rfl | exact Or.inr rfl) (i7 Cb _ hr (by decide) (by rfl) (ac (c8 (pv 0)) (ac a9 b6)) (c6 (c6 i8)))) (i9 (C7 (A9 (T8 (u64 hr)) T5 (c5 (pv 2)) (EO.b a9) (w8 _)) (i9 (J3 (i:=3) nd rfl (by first | exact Or.inl rfl | exact Or.inr rfl) (C6 (ac (k0 (ac a9 (ac a9 b6))) (ac (k0 (ac a9 (ac a9 b6))) (ac (k0 (ac a9 (ac a9 b6))) (ac (k0 (ac a9 (ac a9 b6))) (ac (k0 (ac a9 (ac a9 b6))) b6))))))) (k9 (m7 (k0 (ac (FO.v (C6 (ac (k0 (ac a9 (ac a9 (ac a9 b6)))) (ac (k0 (ac a9 (ac a9 (ac a9 b6)))) (ac (k0 (ac (D7 E3 E2 (EO.b a9)) (ac a9 (ac a9 b6)))) (ac (k0 (ac a9 (ac (D7 E3 E2 (EO.b a9)) (ac a9 b6)))) b6)))))) (ac (FO.v (a0p (caps:=["_law_great"]) (idx:=[1]) rfl (Z3 (by rfl) (.cons rfl .nil) (by decide +kernel) rfl (by decide +kernel) (by rfl) (.cons rfl (by first | exact Or.inl rfl | exact Or.inr rfl) (by first | exact Or.inl rfl | exact Or.inr rfl) .nil)) (N8 (c8 (pv 3))) (show List.Nodup (["_law_top", "_law_bottom", "_law_great"]:List Str) by decide +kernel) (fun _ _ _ _=>rfl) (fun _ _ _ _=>rfl) (fun _ _ _ _ _=>N6) (fun _ _ _ _ _=>(k0 (ac (j8 o7 n8 (c5 (pv 2)) (c5 (pv 0))) (ac (c8 (pv 1)) b6)))))) b6)))))) D0) (i9 (N2 (j5 j3 j4 (EO.b (FO.v (C6 (ac (k0 (ac a9 (ac a9 (ac a9 b6)))) (ac (k0 (ac a9 (ac a9 (ac a9 b6)))) (ac (k0 (ac a9 (ac a9 (ac a9 b6)))) (ac (k0 (ac a9 (ac a9 (ac a9 b6)))) b6))))))) (EO.b (j8 O7 P5 (c5 (pv 2)) (EO.b a9))) (fun _ _=>rfl)) (D2 rfl (u5 (p8 (n0 (i:=4) nd rfl (by first | exact Or.inl rfl | exact Or.inr rfl))) (u5 (p8 (n0 (i:=5) nd rfl (by first | exact Or.inl rfl | exact Or.inr rfl))) (u5 (p8 (n0 (i:=6) nd rfl (by first | exact Or.inl rfl | exact Or.inr rfl))) D1))))) (i9 (J3 (i:=7) nd rfl (by first | exact Or.inl rfl | exact Or.inr rfl) (C6 (ac (k0 (ac (c8 (pv 6)) (ac a9 (ac (c8 (pv 6)) b6)))) (ac (k0 (ac a9 (ac (c8 (pv 6)) (ac (c8 (pv 6)) b6)))) (ac (k0 (ac (D7 E3 E2 (c5 (pv 6))) (ac a9 (ac (c8 (pv 6)) b6)))) (ac (k0 (ac a9 (ac (D7 E3 E2 (c5 (pv 6))) (ac (c8 (pv 6)) b6)))) b6)))))) (i9 (P4 PassesOwn.never rfl (FO.v (C6 (ac (k0 (ac (c8 (pv 4)) (ac (c8 (pv 5)) b6))) (ac (k0 (ac (c8 (pv 5)) (ac (c8 (pv 4)) b6))) b6)))) (D2 rfl (u5 (p8 (n0 (i:=8) nd rfl (by first | exact Or.inl rfl | exact Or.inr rfl))) (u5 (p8 (n0 (i:=9) nd rfl (by first | exact Or.inl rfl | exact Or.inr rfl))) D1))) (k9 (J3 (i:=7) nd rfl (by first | exact Or.inl rfl | exact Or.inr rfl) (Y4 a0f a00 (c5 (pv 7)) (EO.b (FO.v (C6 (ac (k0 (ac (c8 (pv 8)) (ac (c8 (pv 9)) (ac (c8 (pv 6)) b6)))) (ac (k0 (ac (D7 E3 E2 (c5 (pv 9))) (ac (c8 (pv 8)) (ac (c8 (pv 6)) b6)))) (ac (k0 (ac (D7 E3 E2 (c5 (pv 8))) (ac (D7 E3 E2 (c5 (pv 9))) (ac (c8 (pv 6)) b6)))) (ac (k0 (ac (c8 (pv 9)) (ac (D7 E3 E2 (c5 (pv 8))) (ac (c8 (pv 6)) b6)))) b6))))))))))) (k9 (m7 (k0 (ac (c8 (pv 7)) (ac (FO.v (a0p (caps:=["_law_great"]) (idx:=[1]) rfl (Z3 (by rfl) (.cons rfl .nil) (by decide +kernel) rfl (by decide +kernel) (by rfl) (.cons rfl (by first | exact Or.inl rfl | exact Or.inr rfl) (by first | exact Or.inl rfl | exact Or.inr rfl) .nil)) (N8 (FO.v (C6 (ac (k0 (ac (c8 (pv 6)) (ac a9 b6))) (ac (k0 (ac a9 (ac a9 b6))) (ac (k0 (ac (c8 (pv 6)) (ac a9 b6))) (ac (k0 (ac a9 (ac a9 b6))) b6))))))) (show List.Nodup (["_law_top", "_law_bottom", "_law_great"]:List Str) by decide +kernel) (fun _ _ _ _=>rfl) (fun _ _ _ _=>rfl) (fun _ _ _ _ _=>N6) (fun _ _ _ _ _=>(k0 (ac (j8 o7 n8 (c5 (pv 2)) (c5 (pv 0))) (ac (c8 (pv 1)) b6)))))) b6)))))))))))
abbrev a49:Stmt:=top 50
theorem uk:FnScope ["_law_tape", "_law_most", "_law_ways", "_law_sizes", "_law_x", "_law_y", "_law_found", "_law_former", "_law_k", "_law_some", "_law_size_here"] ["_law_tape", "_law_most"] (m5 a49):=⟨rfl,rfl,rfl,by decide +kernel,rfl,by decide +kernel,by decide +kernel⟩
set_option maxHeartbeats 4000000 in
theorem b3A {mv:DFn}{ma:DFn}{me:DFn}{mh:DFn}{mC:DFn}{mU:DFn}(Ci:Cal P w K mg base 2 "_law_spot" ["_law_x", "_law_y"] mv) (Ca:Cal P w K mg base 3 "_law_plus" ["_law_one", "_law_other"] ma) (Cc:Cal P w K mg base 3 "_law_product" ["_law_one", "_law_other"] me) (Cb:Cal P w K mg base 1 "_law_draw" ["_law_tape", "_law_many"] mh) (Cr:Cal P w K mg base 2 "_law_start" ["_law_tape"] mC) (CC:Cal P w K mg base 2 "_law_menu" ["_law_tape"] mU) {f:Addr}{fd:FuncData}(B:Blt mg) (F:GF K mg "_law_open" a49 f fd):Cal P w K mg base 4 "_law_open" ["_law_tape", "_law_most"] (a2P mv ma me mh mC mU):=
 o9 F (fun _ _ _ _ _ _=>on2 fun _ _=>rfl) uk fun cdv A outer s H E g hr=>
  have nd:=uk.nd
  (i9 (N2 (i7 CC _ hr (by decide) (by rfl) (ac (c8 (pv 0)) b6) (c6 i8)) (D2 rfl (u5 (p8 (n0 (i:=2) nd rfl (by first | exact Or.inl rfl | exact Or.inr rfl))) (u5 (p8 (n0 (i:=3) nd rfl (by first | exact Or.inl rfl | exact Or.inr rfl))) D1)))) (i9 (N2 (i7 Cr _ hr (by decide) (by rfl) (ac (c8 (pv 0)) b6) (c6 i8)) (D2 rfl (u5 (p8 (n0 (i:=4) nd rfl (by first | exact Or.inl rfl | exact Or.inr rfl))) (u5 (p8 (n0 (i:=5) nd rfl (by first | exact Or.inl rfl | exact Or.inr rfl))) D1)))) (i9 (J3 (i:=6) nd rfl (by first | exact Or.inl rfl | exact Or.inr rfl) (C6 (ac (i7 Ci _ hr (by decide) (by rfl) (ac (c8 (pv 4)) (ac (c8 (pv 5)) b6)) (c6 (c6 i8))) b6))) (i9 (l4 (i:=7) nd rfl (by first | exact Or.inl rfl | exact Or.inr rfl) a04) (i9 (a0K PassesOwn.never rfl (by rfl) B.range (j8 C3 C4 (EO.b a9) (EO.b (i7 Cb _ hr (by decide) (by rfl) (ac (c8 (pv 0)) (ac (j8 O7 P5 (c5 (pv 1)) (EO.b a9)) b6)) (c6 (c6 i8))))) (p8 (n0 (i:=8) nd rfl (by first | exact Or.inl rfl | exact Or.inr rfl))) (i9 (a19 (i:=9) nd rfl (by first | exact Or.inl rfl | exact Or.inr rfl) (a3n (N':=["_law_choice", "_law_former"]) (idx:=[7]) rfl (W2 (by rfl) (.cons rfl .nil) (by decide +kernel) rfl (by decide +kernel) (by rfl) (.cons rfl (by first | exact Or.inl rfl | exact Or.inr rfl) (by first | exact Or.inl rfl | exact Or.inr rfl) .nil)) (N8 (c8 (pv 2))) (fun _ _ _ _=>n0 (i:=0) (show List.Nodup (["_law_choice", "_law_former"]:List Str) by decide +kernel) rfl (Or.inl rfl)) (fun _ _ _ _ _=>(a4Q (A9 (P9 (u64 hr)) S0 (c5 (pv 0)) (c5 (pv 1)) (w8 _)))) (fun _ _ _ _ _=>(c8 (pv 0))))) (i9 (l4 (i:=7) nd rfl (by first | exact Or.inl rfl | exact Or.inr rfl) (j5 j3 j4 (c5 (pv 9)) (EO.b (i7 Cb _ hr (by decide) (by rfl) (ac (c8 (pv 0)) (ac (F2 J5 K2 (by rfl) B.len K1 (bc (c5 (pv 9)) B5)) b6)) (c6 (c6 i8)))) (fun _ _=>rfl))) (i9 (l4 (i:=10) nd rfl (by first | exact Or.inl rfl | exact Or.inr rfl) (j5 j3 j4 (c5 (pv 3)) (EO.b (i7 Cb _ hr (by decide) (by rfl) (ac (c8 (pv 0)) (ac (F2 J5 K2 (by rfl) B.len K1 (bc (c5 (pv 3)) B5)) b6)) (c6 (c6 i8)))) (fun _ _=>rfl))) (i9 (l4 (i:=4) nd rfl (by first | exact Or.inl rfl | exact Or.inr rfl) (i7 Ca _ hr (by decide) (by rfl) (ac (c8 (pv 4)) (ac (i7 Cc _ hr (by decide) (by rfl) (ac (c8 (pv 10)) (ac (k0 (ac (j5 j3 j4 (c5 (pv 7)) (EO.b a9) (fun _ _=>rfl)) (ac (j5 j3 j4 (c5 (pv 7)) (EO.b a9) (fun _ _=>rfl)) b6))) b6)) (c6 (c6 i8))) b6)) (c6 (c6 i8)))) (i9 (l4 (i:=5) nd rfl (by first | exact Or.inl rfl | exact Or.inr rfl) (i7 Ca _ hr (by decide) (by rfl) (ac (c8 (pv 5)) (ac (i7 Cc _ hr (by decide) (by rfl) (ac (c8 (pv 10)) (ac (k0 (ac (j5 j3 j4 (c5 (pv 7)) (EO.b a9) (fun _ _=>rfl)) (ac (j5 j3 j4 (c5 (pv 7)) (EO.b a9) (fun _ _=>rfl)) b6))) b6)) (c6 (c6 i8))) b6)) (c6 (c6 i8)))) (k9 (V1 (pv 6) (i7 Ci _ hr (by decide) (by rfl) (ac (c8 (pv 4)) (ac (c8 (pv 5)) b6)) (c6 (c6 i8))))))))))) (k9 (m7 (k0 (ac K3 (ac (Q5 T4 T9 (by rfl) B.tuple U2 (bc (c5 (pv 6)) B5)) b6))))))))))
abbrev a2z:Stmt:=top 52
theorem ul:FnScope ["_law_tape", "_law_most"] ["_law_tape", "_law_most"] (m5 a2z):=⟨rfl,rfl,rfl,by decide +kernel,rfl,by decide +kernel,by decide +kernel⟩
set_option maxHeartbeats 4000000 in
theorem b19 {mh:DFn}{m0e:DFn}{m0f:DFn}(Cb:Cal P w K mg base 1 "_law_draw" ["_law_tape", "_law_many"] mh) (CD:Cal P w K mg base 4 "_law_closed" ["_law_tape"] m0e) (CF:Cal P w K mg base 4 "_law_open" ["_law_tape", "_law_most"] m0f) {f:Addr}{fd:FuncData}(B:Blt mg) (F:GF K mg "_law_exact" a2z f fd):Cal P w K mg base 5 "_law_exact" ["_law_tape", "_law_most"] (a4N mh m0e m0f):=
 o9 F (fun _ _ _ _ _ _=>on2 fun _ _=>rfl) ul fun cdv A outer s H E g hr=>
  have nd:=ul.nd
  (k9 (m7 (a18 (A9 (T8 (u64 hr)) T5 (EO.b (i7 Cb _ hr (by decide) (by rfl) (ac (c8 (pv 0)) (ac a9 b6)) (c6 (c6 i8)))) (EO.b a9) (w8 _)) (i7 CD _ hr (by decide) (by rfl) (ac (c8 (pv 0)) b6) (c6 i8)) (i7 CF _ hr (by decide) (by rfl) (ac (c8 (pv 0)) (ac (c8 (pv 1)) b6)) (c6 (c6 i8))))))
abbrev a24:Stmt:=top 60
theorem um:FnScope ["_law_tape", "_law_length", "_law_many", "_law_pattern", "_law_share"] ["_law_tape", "_law_length"] (m5 a24):=⟨rfl,rfl,rfl,by decide +kernel,rfl,by decide +kernel,by decide +kernel⟩
set_option maxHeartbeats 4000000 in
theorem b5o {me:DFn}{mh:DFn}(Cc:Cal P w K mg base 3 "_law_product" ["_law_one", "_law_other"] me) (Cb:Cal P w K mg base 1 "_law_draw" ["_law_tape", "_law_many"] mh) {f:Addr}{fd:FuncData}(B:Blt mg) (F:GF K mg "_law_shares" a24 f fd):Cal P w K mg base 4 "_law_shares" ["_law_tape", "_law_length"] (a4g me mh):=
 o9 F (fun _ _ _ _ _ _=>on2 fun _ _=>rfl) um fun cdv A outer s H E g hr=>
  have nd:=um.nd
  (i9 (l4 (i:=2) nd rfl (by first | exact Or.inl rfl | exact Or.inr rfl) (j5 j3 j4 (EO.b (FO.v (C6 (ac a9 (ac a9 (ac a9 (ac a9 b6))))))) (EO.b (i7 Cb _ hr (by decide) (by rfl) (ac (c8 (pv 0)) (ac a9 b6)) (c6 (c6 i8)))) (fun _ _=>rfl))) (i9 (l4 (i:=3) nd rfl (by first | exact Or.inl rfl | exact Or.inr rfl) (Q5 T4 T9 (by rfl) B.tuple U2 (bc (EO.b (FO.v (a1w (N':=["_law_k", "_law_length", "_law_tape"]) (idx:=[1,0]) rfl (W2 (by rfl) (.cons rfl (.cons rfl .nil)) (by decide +kernel) rfl (by decide +kernel) (by rfl) (.cons rfl (by first | exact Or.inl rfl | exact Or.inr rfl) (by first | exact Or.inl rfl | exact Or.inr rfl) (.cons rfl (by first | exact Or.inl rfl | exact Or.inr rfl) (by first | exact Or.inl rfl | exact Or.inr rfl) .nil))) (a3S (by rfl) B.range (c8 (pv 2))) (fun _ _ _ _=>n0 (i:=0) (show List.Nodup (["_law_k", "_law_length", "_law_tape"]:List Str) by decide +kernel) rfl (Or.inl rfl)) (fun _ _ _ _ _=>N6) (fun _ _ _ _ _=>(i7 Cc _ hr (by decide) (by rfl) (ac (c8 (pv 1)) (ac (k0 (ac (j8 C3 C4 (EO.b a9) (EO.b (i7 Cb _ hr (by decide) (by rfl) (ac (c8 (pv 2)) (ac a9 b6)) (c6 (c6 i8))))) (ac a9 b6))) b6)) (c6 (c6 i8))))))) B5))) (i9 (l4 (i:=4) nd rfl (by first | exact Or.inl rfl | exact Or.inr rfl) (j5 j3 j4 (EO.b (FO.v (C6 (ac (k0 (ac a9 (ac a9 b6))) (ac (k0 (ac a9 (ac a9 b6))) (ac (k0 (ac a9 (ac a9 b6))) (ac (k0 (ac a9 (ac a9 b6))) (ac (k0 (ac a9 (ac a9 b6))) b6)))))))) (EO.b (i7 Cb _ hr (by decide) (by rfl) (ac (c8 (pv 0)) (ac a9 b6)) (c6 (c6 i8)))) (fun _ _=>rfl))) (k9 (m7 (k0 (ac (c8 (pv 3)) (ac (i7 Cc _ hr (by decide) (by rfl) (ac (c8 (pv 1)) (ac (c8 (pv 4)) b6)) (c6 (c6 i8))) b6))))))))
abbrev a2D:Stmt:=top 53
theorem uo:FnScope ["_law_line", "_law_closed_here", "_law_some", "_law_found"] ["_law_line"] (m5 a2D):=⟨rfl,rfl,rfl,by decide +kernel,rfl,by decide +kernel,by decide +kernel⟩
set_option maxHeartbeats 4000000 in
theorem a8T {f:Addr}{fd:FuncData}(B:Blt mg) (F:GF K mg "_law_pairs" a2D f fd):Cal P w K mg base 1 "_law_pairs" ["_law_line"] (J0):=
 o9 F (fun _ _ _ _ _ _=>on1 fun _=>rfl) uo fun cdv A outer s H E g hr=>
  have nd:=uo.nd
  (i9 (N2 (c8 (pv 0)) (D2 rfl (u5 (p8 (n0 (i:=1) nd rfl (by first | exact Or.inl rfl | exact Or.inr rfl))) (u5 (p8 (n0 (i:=2) nd rfl (by first | exact Or.inl rfl | exact Or.inr rfl))) D1)))) (i9 (a19 (i:=3) nd rfl (by first | exact Or.inl rfl | exact Or.inr rfl) (a3n (N':=["_law_k", "_law_some"]) (idx:=[2]) rfl (W2 (by rfl) (.cons rfl .nil) (by decide +kernel) rfl (by decide +kernel) (by rfl) (.cons rfl (by first | exact Or.inl rfl | exact Or.inr rfl) (by first | exact Or.inl rfl | exact Or.inr rfl) .nil)) (a3S (by rfl) B.range (j8 O7 P5 (EO.b (F2 J5 K2 (by rfl) B.len K1 (bc (c5 (pv 2)) B5))) (EO.b a9))) (fun _ _ _ _=>n0 (i:=0) (show List.Nodup (["_law_k", "_law_some"]:List Str) by decide +kernel) rfl (Or.inl rfl)) (fun _ _ _ _ _=>N6) (fun _ _ _ _ _=>(k0 (ac (j5 j3 j4 (c5 (pv 1)) (c5 (pv 0)) (fun _ _=>rfl)) (ac (j5 j3 j4 (c5 (pv 1)) (EO.b (j8 C3 C4 (c5 (pv 0)) (EO.b a9))) (fun _ _=>rfl)) b6)))))) (k9 (m7 (FO.v (Y4 a0f a00 (c5 (pv 3)) (EO.b (FO.v (Y4 a5w a97 (EO.b (FO.v (C6 (ac (k0 (ac (j5 j3 j4 (c5 (pv 2)) (EO.b (D7 E3 E2 (EO.b a9))) (fun _ _=>rfl)) (ac (j5 j3 j4 (c5 (pv 2)) (EO.b a9) (fun _ _=>rfl)) b6))) b6)))) (EO.b (Q5 b34 b5g (by rfl) B.int b2I (bc (c5 (pv 1)) B5))))))))))))
abbrev a4P:Stmt:=top 47
theorem uq:FnScope ["_law_spot_here"] ["_law_spot_here"] (m5 a4P):=⟨rfl,rfl,rfl,by decide +kernel,rfl,by decide +kernel,by decide +kernel⟩
set_option maxHeartbeats 4000000 in
theorem a80 {mq:DFn}(Cg:Cal P w K mg base 2 "_law_low" ["_law_top", "_law_bottom"] mq) {f:Addr}{fd:FuncData}(B:Blt mg) (F:GF K mg "_law_xy" a4P f fd):Cal P w K mg base 3 "_law_xy" ["_law_spot_here"] (a0y mq):=
 o9 F (fun _ _ _ _ _ _=>on1 fun _=>rfl) uq fun cdv A outer s H E g hr=>
  have nd:=uq.nd
  (k9 (m7 (k0 (ac (i7 Cg _ hr (by decide) (by rfl) (ac (j5 j3 j4 (c5 (pv 0)) (EO.b a9) (fun _ _=>rfl)) (ac (j5 j3 j4 (c5 (pv 0)) (EO.b a9) (fun _ _=>rfl)) b6)) (c6 (c6 i8))) (ac (i7 Cg _ hr (by decide) (by rfl) (ac (j5 j3 j4 (c5 (pv 0)) (EO.b a9) (fun _ _=>rfl)) (ac (j5 j3 j4 (c5 (pv 0)) (EO.b a9) (fun _ _=>rfl)) b6)) (c6 (c6 i8))) b6)))))
abbrev a2Z:Stmt:=top 42
theorem ur:FnScope ["_law_one", "_law_other"] ["_law_one", "_law_other"] (m5 a2Z):=⟨rfl,rfl,rfl,by decide +kernel,rfl,by decide +kernel,by decide +kernel⟩
set_option maxHeartbeats 4000000 in
theorem b2M {mq:DFn}(Cg:Cal P w K mg base 2 "_law_low" ["_law_top", "_law_bottom"] mq) {f:Addr}{fd:FuncData}(B:Blt mg) (F:GF K mg "_law_minus" a2Z f fd):Cal P w K mg base 3 "_law_minus" ["_law_one", "_law_other"] (N0 mq):=
 o9 F (fun _ _ _ _ _ _=>on2 fun _ _=>rfl) ur fun cdv A outer s H E g hr=>
  have nd:=ur.nd
  (k9 (m7 (i7 Cg _ hr (by decide) (by rfl) (ac (j8 O7 P5 (EO.b (j8 o7 n8 (EO.b (j5 j3 j4 (c5 (pv 0)) (EO.b a9) (fun _ _=>rfl))) (EO.b (j5 j3 j4 (c5 (pv 1)) (EO.b a9) (fun _ _=>rfl))))) (EO.b (j8 o7 n8 (EO.b (j5 j3 j4 (c5 (pv 1)) (EO.b a9) (fun _ _=>rfl))) (EO.b (j5 j3 j4 (c5 (pv 0)) (EO.b a9) (fun _ _=>rfl)))))) (ac (j8 o7 n8 (EO.b (j5 j3 j4 (c5 (pv 0)) (EO.b a9) (fun _ _=>rfl))) (EO.b (j5 j3 j4 (c5 (pv 1)) (EO.b a9) (fun _ _=>rfl)))) b6)) (c6 (c6 i8)))))
abbrev a2E:Stmt:=top 55
theorem ut:FnScope ["_law_a", "_law_b", "_law_x", "_law_y", "_law_far", "_law_high", "_law_one", "_law_other"] ["_law_a", "_law_b"] (m5 a2E):=⟨rfl,rfl,rfl,by decide +kernel,rfl,by decide +kernel,by decide +kernel⟩
set_option maxHeartbeats 4000000 in
theorem b2J {ma:DFn}{me:DFn}{mj:DFn}{mJ:DFn}(Ca:Cal P w K mg base 3 "_law_plus" ["_law_one", "_law_other"] ma) (Cc:Cal P w K mg base 3 "_law_product" ["_law_one", "_law_other"] me) (Cd:Cal P w K mg base 3 "_law_minus" ["_law_one", "_law_other"] mj) (Cm:Cal P w K mg base 3 "_law_xy" ["_law_spot_here"] mJ) {f:Addr}{fd:FuncData}(B:Blt mg) (F:GF K mg "_law_square" a2E f fd):Cal P w K mg base 4 "_law_square" ["_law_a", "_law_b"] (a1Z ma me mj mJ):=
 o9 F (fun _ _ _ _ _ _=>on2 fun _ _=>rfl) ut fun cdv A outer s H E g hr=>
  have nd:=ut.nd
  (i9 (N2 (k0 (ac (i7 Cm _ hr (by decide) (by rfl) (ac (c8 (pv 0)) b6) (c6 i8)) (ac (i7 Cm _ hr (by decide) (by rfl) (ac (c8 (pv 1)) b6) (c6 i8)) b6))) (D2 rfl (u5 (D2 rfl (u5 (p8 (n0 (i:=2) nd rfl (by first | exact Or.inl rfl | exact Or.inr rfl))) (u5 (p8 (n0 (i:=3) nd rfl (by first | exact Or.inl rfl | exact Or.inr rfl))) D1))) (u5 (D2 rfl (u5 (p8 (n0 (i:=4) nd rfl (by first | exact Or.inl rfl | exact Or.inr rfl))) (u5 (p8 (n0 (i:=5) nd rfl (by first | exact Or.inl rfl | exact Or.inr rfl))) D1))) D1)))) (i9 (a3H (i:=6) (j:=7) rfl nd rfl rfl (by decide) rfl rfl (ac (i7 Cd _ hr (by decide) (by rfl) (ac (c8 (pv 4)) (ac (c8 (pv 2)) b6)) (c6 (c6 i8))) (ac (i7 Cd _ hr (by decide) (by rfl) (ac (c8 (pv 5)) (ac (c8 (pv 3)) b6)) (c6 (c6 i8))) b6)) rfl) (k9 (m7 (i7 Ca _ hr (by decide) (by rfl) (ac (i7 Cc _ hr (by decide) (by rfl) (ac (c8 (pv 6)) (ac (c8 (pv 6)) b6)) (c6 (c6 i8))) (ac (i7 Cc _ hr (by decide) (by rfl) (ac (c8 (pv 7)) (ac (c8 (pv 7)) b6)) (c6 (c6 i8))) b6)) (c6 (c6 i8)))))))
abbrev a4C:Stmt:=top 54
theorem uu:FnScope ["_law_number", "_law_found", "_law_step"] ["_law_number"] (m5 a4C):=⟨rfl,rfl,rfl,by decide +kernel,rfl,by decide +kernel,by decide +kernel⟩
set_option maxHeartbeats 4000000 in
theorem b0g {f:Addr}{fd:FuncData}(B:Blt mg) (F:GF K mg "_law_root" a4C f fd):Cal P w K mg base 1 "_law_root" ["_law_number"] (W0):=
 o9 F (fun _ _ _ _ _ _=>on1 fun _=>rfl) uu fun cdv A outer s H E g hr=>
  have nd:=uu.nd
  (i9 (l4 (i:=1) nd rfl (by first | exact Or.inl rfl | exact Or.inr rfl) a9) (i9 (l4 (i:=2) nd rfl (by first | exact Or.inl rfl | exact Or.inr rfl) a9) (i9 (U0 PassesOwn.never (A9 a62 (F0 (fun i j=>decide (i≤j))) (EO.b (j8 o7 n8 (c5 (pv 2)) (c5 (pv 2)))) (c5 (pv 0)) (w8 _)) (k9 (l4 (i:=2) nd rfl (by first | exact Or.inl rfl | exact Or.inr rfl) (j8 o7 n8 (c5 (pv 2)) (EO.b a9))))) (i9 (U0 PassesOwn.never (A9 W7 (F0 (fun i j=>decide (j<i))) (c5 (pv 2)) (EO.b a9) (w8 _)) (i9 (C7 (A9 a62 (F0 (fun i j=>decide (i≤j))) (EO.b (j8 o7 n8 (EO.b (j8 C3 C4 (c5 (pv 1)) (c5 (pv 2)))) (EO.b (j8 C3 C4 (c5 (pv 1)) (c5 (pv 2)))))) (c5 (pv 0)) (w8 _)) (k9 (l4 (i:=1) nd rfl (by first | exact Or.inl rfl | exact Or.inr rfl) (j8 C3 C4 (c5 (pv 1)) (c5 (pv 2))))) D0) (k9 (l4 (i:=2) nd rfl (by first | exact Or.inl rfl | exact Or.inr rfl) (j8 E6 E8 (c5 (pv 2)) (EO.b a9)))))) (k9 (m7 (c8 (pv 1))))))))
abbrev a2J:Stmt:=top 56
theorem uv:FnScope ["_law_a", "_law_b", "_law_top", "_law_bottom"] ["_law_a", "_law_b"] (m5 a2J):=⟨rfl,rfl,rfl,by decide +kernel,rfl,by decide +kernel,by decide +kernel⟩
set_option maxHeartbeats 4000000 in
theorem b1b {m09:DFn}{m0g:DFn}(Cy:Cal P w K mg base 1 "_law_root" ["_law_number"] m09) (CG:Cal P w K mg base 4 "_law_square" ["_law_a", "_law_b"] m0g) {f:Addr}{fd:FuncData}(B:Blt mg) (F:GF K mg "_law_size" a2J f fd):Cal P w K mg base 5 "_law_size" ["_law_a", "_law_b"] (a1B m09 m0g):=
 o9 F (fun _ _ _ _ _ _=>on2 fun _ _=>rfl) uv fun cdv A outer s H E g hr=>
  have nd:=uv.nd
  (i9 (N2 (i7 CG _ hr (by decide) (by rfl) (ac (c8 (pv 0)) (ac (c8 (pv 1)) b6)) (c6 (c6 i8))) (D2 rfl (u5 (p8 (n0 (i:=2) nd rfl (by first | exact Or.inl rfl | exact Or.inr rfl))) (u5 (p8 (n0 (i:=3) nd rfl (by first | exact Or.inl rfl | exact Or.inr rfl))) D1)))) (k9 (m7 (k0 (ac (i7 Cy _ hr (by decide) (by rfl) (ac (c8 (pv 2)) b6) (c6 i8)) (ac (i7 Cy _ hr (by decide) (by rfl) (ac (c8 (pv 3)) b6) (c6 i8)) b6))))))
abbrev a3Y:Stmt:=top 57
theorem uw:FnScope ["_law_line", "_law_found", "_law_a", "_law_b"] ["_law_line"] (m5 a3Y):=⟨rfl,rfl,rfl,by decide +kernel,rfl,by decide +kernel,by decide +kernel⟩
set_option maxHeartbeats 4000000 in
theorem a92 {ma:DFn}{mW:DFn}{mD:DFn}(Ca:Cal P w K mg base 3 "_law_plus" ["_law_one", "_law_other"] ma) (CH:Cal P w K mg base 5 "_law_size" ["_law_a", "_law_b"] mW) (Cs:Cal P w K mg base 1 "_law_pairs" ["_law_line"] mD) {f:Addr}{fd:FuncData}(B:Blt mg) (F:GF K mg "_law_sums" a3Y f fd):Cal P w K mg base 6 "_law_sums" ["_law_line"] (a1N ma mW mD):=
 o9 F (fun _ _ _ _ _ _=>on1 fun _=>rfl) uw fun cdv A outer s H E g hr=>
  have nd:=uw.nd
  (i9 (J3 (i:=1) nd rfl (by first | exact Or.inl rfl | exact Or.inr rfl) (C6 (ac (k0 (ac a9 (ac a9 b6))) b6))) (i9 (P4 PassesOwn.never rfl (i7 Cs _ hr (by decide) (by rfl) (ac (c8 (pv 0)) b6) (c6 i8)) (D2 rfl (u5 (p8 (n0 (i:=2) nd rfl (by first | exact Or.inl rfl | exact Or.inr rfl))) (u5 (p8 (n0 (i:=3) nd rfl (by first | exact Or.inl rfl | exact Or.inr rfl))) D1))) (k9 (V1 (pv 1) (i7 Ca _ hr (by decide) (by rfl) (ac (j5 j3 j4 (c5 (pv 1)) (EO.b (D7 E3 E2 (EO.b a9))) (fun _ _=>rfl)) (ac (i7 CH _ hr (by decide) (by rfl) (ac (c8 (pv 2)) (ac (c8 (pv 3)) b6)) (c6 (c6 i8))) b6)) (c6 (c6 i8)))))) (k9 (m7 (c8 (pv 1))))))
abbrev a2Q:Stmt:=top 12
theorem ux:FnScope ["number", "guess", "rest"] ["number"] (m5 a2Q):=⟨rfl,rfl,rfl,by decide +kernel,rfl,by decide +kernel,by decide +kernel⟩
set_option maxHeartbeats 4000000 in
theorem b0a {f:Addr}{fd:FuncData}(B:Blt mg) (F:GF K mg "above_root" a2Q f fd):Cal P w K mg base 1 "above_root" ["number"] (L9):=
 o9 F (fun _ _ _ _ _ _=>on1 fun _=>rfl) ux fun cdv A outer s H E g hr=>
  have nd:=ux.nd
  (i9 (l4 (i:=1) nd rfl (by first | exact Or.inl rfl | exact Or.inr rfl) a9) (i9 (l4 (i:=2) nd rfl (by first | exact Or.inl rfl | exact Or.inr rfl) (c8 (pv 0))) (i9 (U0 PassesOwn.never (A9 W7 (F0 (fun i j=>decide (j<i))) (c5 (pv 2)) (EO.b a9) (w8 _)) (i9 (l4 (i:=1) nd rfl (by first | exact Or.inl rfl | exact Or.inr rfl) (j8 o7 n8 (c5 (pv 1)) (EO.b a9))) (k9 (l4 (i:=2) nd rfl (by first | exact Or.inl rfl | exact Or.inr rfl) (j8 E6 E8 (c5 (pv 2)) (EO.b a9)))))) (k9 (m7 (c8 (pv 1)))))))
abbrev a5r:Stmt:=top 13
theorem uy:FnScope ["number", "guess", "better"] ["number"] (m5 a5r):=⟨rfl,rfl,rfl,by decide +kernel,rfl,by decide +kernel,by decide +kernel⟩
set_option maxHeartbeats 4000000 in
theorem b1w {mT:DFn}(CJ:Cal P w K mg base 1 "above_root" ["number"] mT) {f:Addr}{fd:FuncData}(B:Blt mg) (F:GF K mg "root_below" a5r f fd):Cal P w K mg base 2 "root_below" ["number"] (Q0 mT):=
 o9 F (fun _ _ _ _ _ _=>on1 fun _=>rfl) uy fun cdv A outer s H E g hr=>
  have nd:=uy.nd
  (i9 (C7 (A9 (T8 (u64 hr)) T5 (c5 (pv 0)) (EO.b a9) (w8 _)) (k9 (m7 a9)) D0) (i9 (l4 (i:=1) nd rfl (by first | exact Or.inl rfl | exact Or.inr rfl) (i7 CJ _ hr (by decide) (by rfl) (ac (c8 (pv 0)) b6) (c6 i8))) (i9 (l4 (i:=2) nd rfl (by first | exact Or.inl rfl | exact Or.inr rfl) (j8 E6 E8 (EO.b (j8 C3 C4 (c5 (pv 1)) (EO.b (j8 E6 E8 (c5 (pv 0)) (c5 (pv 1)))))) (EO.b a9))) (i9 (U0 PassesOwn.never (A9 S5 (F0 (fun i j=>decide (i<j))) (c5 (pv 2)) (c5 (pv 1)) (w8 _)) (i9 (l4 (i:=1) nd rfl (by first | exact Or.inl rfl | exact Or.inr rfl) (c8 (pv 2))) (k9 (l4 (i:=2) nd rfl (by first | exact Or.inl rfl | exact Or.inr rfl) (j8 E6 E8 (EO.b (j8 C3 C4 (c5 (pv 1)) (EO.b (j8 E6 E8 (c5 (pv 0)) (c5 (pv 1)))))) (EO.b a9)))))) (k9 (m7 (c8 (pv 1))))))))
abbrev a4w:Stmt:=top 14
theorem uz:FnScope ["one", "top", "bottom"] ["one"] (m5 a4w):=⟨rfl,rfl,rfl,by decide +kernel,rfl,by decide +kernel,by decide +kernel⟩
set_option maxHeartbeats 4000000 in
theorem b2h {m08:DFn}(Cz:Cal P w K mg base 2 "root_below" ["number"] m08) {f:Addr}{fd:FuncData}(B:Blt mg) (F:GF K mg "root" a4w f fd):Cal P w K mg base 3 "root" ["one"] (W4 m08):=
 o9 F (fun _ _ _ _ _ _=>on1 fun _=>rfl) uz fun cdv A outer s H E g hr=>
  have nd:=uz.nd
  (i9 (C7 (A9 S5 (F0 (fun i j=>decide (i<j))) (EO.b (j5 j3 j4 (c5 (pv 0)) (EO.b a9) (fun _ _=>rfl))) (EO.b a9) (w8 _)) (k9 (m7 a04)) D0) (i9 (l4 (i:=1) nd rfl (by first | exact Or.inl rfl | exact Or.inr rfl) (i7 Cz _ hr (by decide) (by rfl) (ac (j5 j3 j4 (c5 (pv 0)) (EO.b a9) (fun _ _=>rfl)) b6) (c6 i8))) (i9 (l4 (i:=2) nd rfl (by first | exact Or.inl rfl | exact Or.inr rfl) (i7 Cz _ hr (by decide) (by rfl) (ac (j5 j3 j4 (c5 (pv 0)) (EO.b a9) (fun _ _=>rfl)) b6) (c6 i8))) (i9 (C7 (WO.t (a1P (A9 (P9 (u64 hr)) S0 (EO.b (j8 o7 n8 (c5 (pv 1)) (c5 (pv 1)))) (EO.b (j5 j3 j4 (c5 (pv 0)) (EO.b a9) (fun _ _=>rfl))) (w8 _)) (a3b (A9 (P9 (u64 hr)) S0 (EO.b (j8 o7 n8 (c5 (pv 2)) (c5 (pv 2)))) (EO.b (j5 j3 j4 (c5 (pv 0)) (EO.b a9) (fun _ _=>rfl))) (w8 _))))) (k9 (m7 a04)) D0) (k9 (m7 (k0 (ac (c8 (pv 1)) (ac (c8 (pv 2)) b6)))))))))
abbrev a4J:Stmt:=top 4
theorem uA:FnScope ["one", "other", "greater", "rest", "left_over"] ["one", "other"] (m5 a4J):=⟨rfl,rfl,rfl,by decide +kernel,rfl,by decide +kernel,by decide +kernel⟩
set_option maxHeartbeats 4000000 in
theorem b2b {f:Addr}{fd:FuncData}(B:Blt mg) (F:GF K mg "divisor_of_two" a4J f fd):Cal P w K mg base 1 "divisor_of_two" ["one", "other"] (A3):=
 o9 F (fun _ _ _ _ _ _=>on2 fun _ _=>rfl) uA fun cdv A outer s H E g hr=>
  have nd:=uA.nd
  (i9 (l4 (i:=2) nd rfl (by first | exact Or.inl rfl | exact Or.inr rfl) (F2 a1e a2a (by rfl) B.abs a2j (bc (c5 (pv 0)) B5))) (i9 (l4 (i:=3) nd rfl (by first | exact Or.inl rfl | exact Or.inr rfl) (F2 a1e a2a (by rfl) B.abs a2j (bc (c5 (pv 1)) B5))) (i9 (U0 PassesOwn.never (A9 (P9 (u64 hr)) S0 (c5 (pv 3)) (EO.b a9) (w8 _)) (i9 (l4 (i:=4) nd rfl (by first | exact Or.inl rfl | exact Or.inr rfl) (j8 K5 J2 (c5 (pv 2)) (c5 (pv 3)))) (i9 (l4 (i:=2) nd rfl (by first | exact Or.inl rfl | exact Or.inr rfl) (c8 (pv 3))) (k9 (l4 (i:=3) nd rfl (by first | exact Or.inl rfl | exact Or.inr rfl) (c8 (pv 4))))))) (k9 (m7 (c8 (pv 2)))))))
abbrev a2s:Stmt:=top 5
theorem uB:FnScope ["parts", "shared", "part"] ["parts"] (m5 a2s):=⟨rfl,rfl,rfl,by decide +kernel,rfl,by decide +kernel,by decide +kernel⟩
set_option maxHeartbeats 4000000 in
theorem b0l {mG:DFn}(Co:Cal P w K mg base 1 "divisor_of_two" ["one", "other"] mG) {f:Addr}{fd:FuncData}(B:Blt mg) (F:GF K mg "divisor" a2s f fd):Cal P w K mg base 2 "divisor" ["parts"] (G7 mG):=
 o9 F (fun _ _ _ _ _ _=>on1 fun _=>rfl) uB fun cdv A outer s H E g hr=>
  have nd:=uB.nd
  (i9 (l4 (i:=1) nd rfl (by first | exact Or.inl rfl | exact Or.inr rfl) a9) (i9 (P4 PassesOwn.never rfl (c8 (pv 0)) (p8 (n0 (i:=2) nd rfl (by first | exact Or.inl rfl | exact Or.inr rfl))) (k9 (l4 (i:=1) nd rfl (by first | exact Or.inl rfl | exact Or.inr rfl) (i7 Co _ hr (by decide) (by rfl) (ac (c8 (pv 1)) (ac (c8 (pv 2)) b6)) (c6 (c6 i8)))))) (k9 (m7 (c8 (pv 1))))))
abbrev a3k:Stmt:=top 6
theorem uC:FnScope ["parts", "shared"] ["parts"] (m5 a3k):=⟨rfl,rfl,rfl,by decide +kernel,rfl,by decide +kernel,by decide +kernel⟩
set_option maxHeartbeats 4000000 in
theorem b3x {m0a:DFn}(CK:Cal P w K mg base 2 "divisor" ["parts"] m0a) {f:Addr}{fd:FuncData}(B:Blt mg) (F:GF K mg "lowest" a3k f fd):Cal P w K mg base 3 "lowest" ["parts"] (P0 m0a):=
 o9 F (fun _ _ _ _ _ _=>on1 fun _=>rfl) uC fun cdv A outer s H E g hr=>
  have nd:=uC.nd
  (i9 (l4 (i:=1) nd rfl (by first | exact Or.inl rfl | exact Or.inr rfl) (i7 CK _ hr (by decide) (by rfl) (ac (c8 (pv 0)) b6) (c6 i8))) (i9 (C7 (A9 S5 (F0 (fun i j=>decide (i<j))) (EO.b (j5 j3 j4 (c5 (pv 0)) (EO.b (D7 E3 E2 (EO.b a9))) (fun _ _=>rfl))) (EO.b a9) (w8 _)) (k9 (l4 (i:=1) nd rfl (by first | exact Or.inl rfl | exact Or.inr rfl) (D7 E3 E2 (c5 (pv 1))))) D0) (k9 (m7 (Q5 T4 T9 (by rfl) B.tuple U2 (bc (EO.b (FO.v (a1w (N':=["part", "shared"]) (idx:=[1]) rfl (W2 (by rfl) (.cons rfl .nil) (by decide +kernel) rfl (by decide +kernel) (by rfl) (.cons rfl (by first | exact Or.inl rfl | exact Or.inr rfl) (by first | exact Or.inl rfl | exact Or.inr rfl) .nil)) (N8 (c8 (pv 0))) (fun _ _ _ _=>n0 (i:=0) (show List.Nodup (["part", "shared"]:List Str) by decide +kernel) rfl (Or.inl rfl)) (fun _ _ _ _ _=>N6) (fun _ _ _ _ _=>(j8 E6 E8 (c5 (pv 0)) (c5 (pv 1))))))) B5))))))
abbrev a40:Stmt:=top 7
theorem uD:FnScope ["top", "bottom"] ["top", "bottom"] (m5 a40):=⟨rfl,rfl,rfl,by decide +kernel,rfl,by decide +kernel,by decide +kernel⟩
set_option maxHeartbeats 4000000 in
theorem b3E {mL:DFn}(Ct:Cal P w K mg base 3 "lowest" ["parts"] mL) {f:Addr}{fd:FuncData}(B:Blt mg) (F:GF K mg "fraction" a40 f fd):Cal P w K mg base 4 "fraction" ["top", "bottom"] (Q4 mL):=
 o9 F (fun _ _ _ _ _ _=>on2 fun _ _=>rfl) uD fun cdv A outer s H E g hr=>
  have nd:=uD.nd
  (k9 (m7 (i7 Ct _ hr (by decide) (by rfl) (ac (k0 (ac (c8 (pv 0)) (ac (c8 (pv 1)) b6))) b6) (c6 i8))))
abbrev a2S:Stmt:=top 16
theorem uE:FnScope ["one", "other", "wide", "high", "bottom"] ["one", "other"] (m5 a2S):=⟨rfl,rfl,rfl,by decide +kernel,rfl,by decide +kernel,by decide +kernel⟩
set_option maxHeartbeats 4000000 in
theorem b3J {mz:DFn}(Cj:Cal P w K mg base 4 "fraction" ["top", "bottom"] mz) {f:Addr}{fd:FuncData}(B:Blt mg) (F:GF K mg "squared" a2S f fd):Cal P w K mg base 5 "squared" ["one", "other"] (S3 mz):=
 o9 F (fun _ _ _ _ _ _=>on2 fun _ _=>rfl) uE fun cdv A outer s H E g hr=>
  have nd:=uE.nd
  (i9 (l4 (i:=2) nd rfl (by first | exact Or.inl rfl | exact Or.inr rfl) (j8 O7 P5 (EO.b (j8 o7 n8 (EO.b (j5 j3 j4 (c5 (pv 0)) (EO.b a9) (fun _ _=>rfl))) (EO.b (j5 j3 j4 (c5 (pv 1)) (EO.b a9) (fun _ _=>rfl))))) (EO.b (j8 o7 n8 (EO.b (j5 j3 j4 (c5 (pv 1)) (EO.b a9) (fun _ _=>rfl))) (EO.b (j5 j3 j4 (c5 (pv 0)) (EO.b a9) (fun _ _=>rfl))))))) (i9 (l4 (i:=3) nd rfl (by first | exact Or.inl rfl | exact Or.inr rfl) (j8 O7 P5 (EO.b (j8 o7 n8 (EO.b (j5 j3 j4 (c5 (pv 0)) (EO.b a9) (fun _ _=>rfl))) (EO.b (j5 j3 j4 (c5 (pv 1)) (EO.b a9) (fun _ _=>rfl))))) (EO.b (j8 o7 n8 (EO.b (j5 j3 j4 (c5 (pv 1)) (EO.b a9) (fun _ _=>rfl))) (EO.b (j5 j3 j4 (c5 (pv 0)) (EO.b a9) (fun _ _=>rfl))))))) (i9 (l4 (i:=4) nd rfl (by first | exact Or.inl rfl | exact Or.inr rfl) (j8 o7 n8 (EO.b (j5 j3 j4 (c5 (pv 0)) (EO.b a9) (fun _ _=>rfl))) (EO.b (j5 j3 j4 (c5 (pv 1)) (EO.b a9) (fun _ _=>rfl))))) (k9 (m7 (i7 Cj _ hr (by decide) (by rfl) (ac (j8 C3 C4 (EO.b (j8 o7 n8 (c5 (pv 2)) (c5 (pv 2)))) (EO.b (j8 o7 n8 (c5 (pv 3)) (c5 (pv 3))))) (ac (j8 o7 n8 (c5 (pv 4)) (c5 (pv 4))) b6)) (c6 (c6 i8))))))))
abbrev a2C:Stmt:=top 18
theorem uF:FnScope ["row", "closed"] ["row", "closed"] (m5 a2C):=⟨rfl,rfl,rfl,by decide +kernel,rfl,by decide +kernel,by decide +kernel⟩
set_option maxHeartbeats 4000000 in
theorem a86 {f:Addr}{fd:FuncData}(B:Blt mg) (F:GF K mg "neighbours" a2C f fd):Cal P w K mg base 1 "neighbours" ["row", "closed"] (R0):=
 o9 F (fun _ _ _ _ _ _=>on2 fun _ _=>rfl) uF fun cdv A outer s H E g hr=>
  have nd:=uF.nd
  (i9 (C7 (E9 (c5 (pv 1))) (k9 (m7 (FO.v (a6B rfl (by rfl) B.list (by rfl) B.zip (bc (c5 (pv 0)) (bc (EO.b (j8 C3 C4 (EO.b (a0I (c5 (pv 0)) (a0v (EO.b a9)) a0q)) (EO.b (a0I (c5 (pv 0)) a0q (a0v (EO.b a9)))))) B5)))))) D0) (k9 (m7 (FO.v (a6B rfl (by rfl) B.list (by rfl) B.zip (bc (c5 (pv 0)) (bc (EO.b (a0I (c5 (pv 0)) (a0v (EO.b a9)) a0q)) B5)))))))
abbrev a4Z:Stmt:=top 21
theorem uG:FnScope ["line"] ["line"] (m5 a4Z):=⟨rfl,rfl,rfl,by decide +kernel,rfl,by decide +kernel,by decide +kernel⟩
set_option maxHeartbeats 4000000 in
theorem a9O {m0b:DFn}(CL:Cal P w K mg base 1 "neighbours" ["row", "closed"] m0b) {f:Addr}{fd:FuncData}(B:Blt mg) (F:GF K mg "pieces" a4Z f fd):Cal P w K mg base 2 "pieces" ["line"] (X7 m0b):=
 o9 F (fun _ _ _ _ _ _=>on1 fun _=>rfl) uG fun cdv A outer s H E g hr=>
  have nd:=uG.nd
  (k9 (m7 (Q5 T4 T9 (by rfl) B.tuple U2 (bc (EO.b (i7 CL _ hr (by decide) (by rfl) (ac (j5 j3 j4 (c5 (pv 0)) (EO.b a9) (fun _ _=>rfl)) (ac (j5 j3 j4 (c5 (pv 0)) (EO.b a9) (fun _ _=>rfl)) b6)) (c6 (c6 i8)))) B5))))
abbrev a5n:Stmt:=top 22
theorem uH:FnScope ["line"] ["line"] (m5 a5n):=⟨rfl,rfl,rfl,by decide +kernel,rfl,by decide +kernel,by decide +kernel⟩
set_option maxHeartbeats 4000000 in
theorem a9W {mI:DFn}{m0c:DFn}{m0d:DFn}(Cu:Cal P w K mg base 2 "pieces" ["line"] mI) (CM:Cal P w K mg base 3 "root" ["one"] m0c) (CN:Cal P w K mg base 5 "squared" ["one", "other"] m0d) {f:Addr}{fd:FuncData}(B:Blt mg) (F:GF K mg "lengths" a5n f fd):Cal P w K mg base 6 "lengths" ["line"] (a0c mI m0c m0d):=
 o9 F (fun _ _ _ _ _ _=>on1 fun _=>rfl) uH fun cdv A outer s H E g hr=>
  have nd:=uH.nd
  (k9 (m7 (Q5 T4 T9 (by rfl) B.tuple U2 (bc (EO.b (FO.v (a0p (caps:=[]) (idx:=[]) rfl (Z3 (by rfl) .nil (by decide +kernel) rfl (by decide +kernel) (by rfl) .nil) (N8 (i7 Cu _ hr (by decide) (by rfl) (ac (c8 (pv 0)) b6) (c6 i8))) (show List.Nodup (["a", "b"]:List Str) by decide +kernel) (fun _ _ _ _=>rfl) (fun _ _ _ _=>rfl) (fun _ _ _ _ _=>N6) (fun _ _ _ _ _=>(i7 CM _ hr (by decide) (by rfl) (ac (i7 CN _ hr (by decide) (by rfl) (ac (c8 (pv 0)) (ac (c8 (pv 1)) b6)) (c6 (c6 i8))) b6) (c6 i8)))))) B5))))
abbrev a4v:Stmt:=top 8
theorem uI:FnScope ["one", "other", "shared", "top", "taken_out"] ["one", "other"] (m5 a4v):=⟨rfl,rfl,rfl,by decide +kernel,rfl,by decide +kernel,by decide +kernel⟩
set_option maxHeartbeats 4000000 in
theorem b5f {mG:DFn}(Co:Cal P w K mg base 1 "divisor_of_two" ["one", "other"] mG) {f:Addr}{fd:FuncData}(B:Blt mg) (F:GF K mg "plus" a4v f fd):Cal P w K mg base 2 "plus" ["one", "other"] (L4 mG):=
 o9 F (fun _ _ _ _ _ _=>on2 fun _ _=>rfl) uI fun cdv A outer s H E g hr=>
  have nd:=uI.nd
  (i9 (l4 (i:=2) nd rfl (by first | exact Or.inl rfl | exact Or.inr rfl) (i7 Co _ hr (by decide) (by rfl) (ac (j5 j3 j4 (c5 (pv 0)) (EO.b a9) (fun _ _=>rfl)) (ac (j5 j3 j4 (c5 (pv 1)) (EO.b a9) (fun _ _=>rfl)) b6)) (c6 (c6 i8)))) (i9 (l4 (i:=3) nd rfl (by first | exact Or.inl rfl | exact Or.inr rfl) (j8 C3 C4 (EO.b (j8 o7 n8 (EO.b (j5 j3 j4 (c5 (pv 0)) (EO.b a9) (fun _ _=>rfl))) (EO.b (j8 E6 E8 (EO.b (j5 j3 j4 (c5 (pv 1)) (EO.b a9) (fun _ _=>rfl))) (c5 (pv 2)))))) (EO.b (j8 o7 n8 (EO.b (j5 j3 j4 (c5 (pv 1)) (EO.b a9) (fun _ _=>rfl))) (EO.b (j8 E6 E8 (EO.b (j5 j3 j4 (c5 (pv 0)) (EO.b a9) (fun _ _=>rfl))) (c5 (pv 2)))))))) (i9 (l4 (i:=4) nd rfl (by first | exact Or.inl rfl | exact Or.inr rfl) (i7 Co _ hr (by decide) (by rfl) (ac (c8 (pv 3)) (ac (c8 (pv 2)) b6)) (c6 (c6 i8)))) (k9 (m7 (k0 (ac (j8 E6 E8 (c5 (pv 3)) (c5 (pv 4))) (ac (j8 o7 n8 (EO.b (j8 E6 E8 (EO.b (j5 j3 j4 (c5 (pv 0)) (EO.b a9) (fun _ _=>rfl))) (c5 (pv 2)))) (EO.b (j8 E6 E8 (EO.b (j5 j3 j4 (c5 (pv 1)) (EO.b a9) (fun _ _=>rfl))) (c5 (pv 4))))) b6))))))))
abbrev a4T:Stmt:=top 24
theorem uJ:FnScope ["line", "told", "length"] ["line"] (m5 a4T):=⟨rfl,rfl,rfl,by decide +kernel,rfl,by decide +kernel,by decide +kernel⟩
set_option maxHeartbeats 4000000 in
theorem b4M {mr:DFn}{mV:DFn}(Ch:Cal P w K mg base 2 "plus" ["one", "other"] mr) (CP:Cal P w K mg base 6 "lengths" ["line"] mV) {f:Addr}{fd:FuncData}(B:Blt mg) (F:GF K mg "stations" a4T f fd):Cal P w K mg base 7 "stations" ["line"] (Y2 mr mV):=
 o9 F (fun _ _ _ _ _ _=>on1 fun _=>rfl) uJ fun cdv A outer s H E g hr=>
  have nd:=uJ.nd
  (i9 (J3 (i:=1) nd rfl (by first | exact Or.inl rfl | exact Or.inr rfl) (C6 (ac (k0 (ac a9 (ac a9 b6))) b6))) (i9 (P4 PassesOwn.never rfl (i7 CP _ hr (by decide) (by rfl) (ac (c8 (pv 0)) b6) (c6 i8)) (p8 (n0 (i:=2) nd rfl (by first | exact Or.inl rfl | exact Or.inr rfl))) (k9 (V1 (pv 1) (i7 Ch _ hr (by decide) (by rfl) (ac (j5 j3 j4 (c5 (pv 1)) (EO.b (D7 E3 E2 (EO.b a9))) (fun _ _=>rfl)) (ac (c8 (pv 2)) b6)) (c6 (c6 i8)))))) (k9 (m7 (c8 (pv 1))))))
abbrev a3J:Stmt:=top 25
theorem uK:FnScope ["line"] ["line"] (m5 a3J):=⟨rfl,rfl,rfl,by decide +kernel,rfl,by decide +kernel,by decide +kernel⟩
set_option maxHeartbeats 4000000 in
theorem b17 {mw:DFn}(Ck:Cal P w K mg base 7 "stations" ["line"] mw) {f:Addr}{fd:FuncData}(B:Blt mg) (F:GF K mg "line_length" a3J f fd):Cal P w K mg base 8 "line_length" ["line"] (a1Y mw):=
 o9 F (fun _ _ _ _ _ _=>on1 fun _=>rfl) uK fun cdv A outer s H E g hr=>
  have nd:=uK.nd
  (k9 (m7 (j5 j3 j4 (EO.b (i7 Ck _ hr (by decide) (by rfl) (ac (c8 (pv 0)) b6) (c6 i8))) (EO.b (D7 E3 E2 (EO.b a9))) (fun _ _=>rfl))))
abbrev a2A:Stmt:=top 32
theorem uL:FnScope ["fractions", "told", "one"] ["fractions"] (m5 a2A):=⟨rfl,rfl,rfl,by decide +kernel,rfl,by decide +kernel,by decide +kernel⟩
set_option maxHeartbeats 4000000 in
theorem b1y {mr:DFn}(Ch:Cal P w K mg base 2 "plus" ["one", "other"] mr) {f:Addr}{fd:FuncData}(B:Blt mg) (F:GF K mg "sum_of" a2A f fd):Cal P w K mg base 3 "sum_of" ["fractions"] (a10 mr):=
 o9 F (fun _ _ _ _ _ _=>on1 fun _=>rfl) uL fun cdv A outer s H E g hr=>
  have nd:=uL.nd
  (i9 (l4 (i:=1) nd rfl (by first | exact Or.inl rfl | exact Or.inr rfl) (k0 (ac a9 (ac a9 b6)))) (i9 (P4 PassesOwn.never rfl (c8 (pv 0)) (p8 (n0 (i:=2) nd rfl (by first | exact Or.inl rfl | exact Or.inr rfl))) (k9 (l4 (i:=1) nd rfl (by first | exact Or.inl rfl | exact Or.inr rfl) (i7 Ch _ hr (by decide) (by rfl) (ac (c8 (pv 1)) (ac (c8 (pv 2)) b6)) (c6 (c6 i8)))))) (k9 (m7 (c8 (pv 1))))))
abbrev a2n:Stmt:=top 9
theorem uM:FnScope ["one", "other"] ["one", "other"] (m5 a2n):=⟨rfl,rfl,rfl,by decide +kernel,rfl,by decide +kernel,by decide +kernel⟩
set_option maxHeartbeats 4000000 in
theorem b3D {mr:DFn}(Ch:Cal P w K mg base 2 "plus" ["one", "other"] mr) {f:Addr}{fd:FuncData}(B:Blt mg) (F:GF K mg "less" a2n f fd):Cal P w K mg base 3 "less" ["one", "other"] (a0X mr):=
 o9 F (fun _ _ _ _ _ _=>on2 fun _ _=>rfl) uM fun cdv A outer s H E g hr=>
  have nd:=uM.nd
  (k9 (m7 (i7 Ch _ hr (by decide) (by rfl) (ac (c8 (pv 0)) (ac (k0 (ac (D7 E3 E2 (EO.b (j5 j3 j4 (c5 (pv 1)) (EO.b a9) (fun _ _=>rfl)))) (ac (j5 j3 j4 (c5 (pv 1)) (EO.b a9) (fun _ _=>rfl)) b6))) b6)) (c6 (c6 i8)))))
abbrev a2L:Stmt:=top 10
theorem uN:FnScope ["one", "other"] ["one", "other"] (m5 a2L):=⟨rfl,rfl,rfl,by decide +kernel,rfl,by decide +kernel,by decide +kernel⟩
set_option maxHeartbeats 4000000 in
theorem a9n {mz:DFn}(Cj:Cal P w K mg base 4 "fraction" ["top", "bottom"] mz) {f:Addr}{fd:FuncData}(B:Blt mg) (F:GF K mg "times" a2L f fd):Cal P w K mg base 5 "times" ["one", "other"] (a11 mz):=
 o9 F (fun _ _ _ _ _ _=>on2 fun _ _=>rfl) uN fun cdv A outer s H E g hr=>
  have nd:=uN.nd
  (k9 (m7 (i7 Cj _ hr (by decide) (by rfl) (ac (j8 o7 n8 (EO.b (j5 j3 j4 (c5 (pv 0)) (EO.b a9) (fun _ _=>rfl))) (EO.b (j5 j3 j4 (c5 (pv 1)) (EO.b a9) (fun _ _=>rfl)))) (ac (j8 o7 n8 (EO.b (j5 j3 j4 (c5 (pv 0)) (EO.b a9) (fun _ _=>rfl))) (EO.b (j5 j3 j4 (c5 (pv 1)) (EO.b a9) (fun _ _=>rfl)))) b6)) (c6 (c6 i8)))))
abbrev a3j:Stmt:=top 31
theorem uO:FnScope ["pattern", "offset", "size", "passed"] ["pattern", "offset"] (m5 a3j):=⟨rfl,rfl,rfl,by decide +kernel,rfl,by decide +kernel,by decide +kernel⟩
set_option maxHeartbeats 4000000 in
theorem b44 {mH:DFn}{m0h:DFn}{m0i:DFn}(Cp:Cal P w K mg base 3 "less" ["one", "other"] mH) (CQ:Cal P w K mg base 5 "times" ["one", "other"] m0h) (CS:Cal P w K mg base 3 "sum_of" ["fractions"] m0i) {f:Addr}{fd:FuncData}(B:Blt mg) (F:GF K mg "first_begin" a3j f fd):Cal P w K mg base 6 "first_begin" ["pattern", "offset"] (a1G mH m0h m0i):=
 o9 F (fun _ _ _ _ _ _=>on2 fun _ _=>rfl) uO fun cdv A outer s H E g hr=>
  have nd:=uO.nd
  (i9 (l4 (i:=2) nd rfl (by first | exact Or.inl rfl | exact Or.inr rfl) (i7 CS _ hr (by decide) (by rfl) (ac (c8 (pv 0)) b6) (c6 i8))) (i9 (l4 (i:=3) nd rfl (by first | exact Or.inl rfl | exact Or.inr rfl) (j8 E6 E8 (EO.b (j8 o7 n8 (EO.b (j5 j3 j4 (c5 (pv 1)) (EO.b a9) (fun _ _=>rfl))) (EO.b (j5 j3 j4 (c5 (pv 2)) (EO.b a9) (fun _ _=>rfl))))) (EO.b (j8 o7 n8 (EO.b (j5 j3 j4 (c5 (pv 1)) (EO.b a9) (fun _ _=>rfl))) (EO.b (j5 j3 j4 (c5 (pv 2)) (EO.b a9) (fun _ _=>rfl))))))) (k9 (m7 (i7 Cp _ hr (by decide) (by rfl) (ac (i7 CQ _ hr (by decide) (by rfl) (ac (c8 (pv 2)) (ac (k0 (ac (c8 (pv 3)) (ac a9 b6))) b6)) (c6 (c6 i8))) (ac (c8 (pv 1)) b6)) (c6 (c6 i8)))))))
abbrev a38:Stmt:=top 11
theorem uP:FnScope ["one", "other"] ["one", "other"] (m5 a38):=⟨rfl,rfl,rfl,by decide +kernel,rfl,by decide +kernel,by decide +kernel⟩
set_option maxHeartbeats 4000000 in
theorem b1k {f:Addr}{fd:FuncData}(B:Blt mg) (F:GF K mg "is_below" a38 f fd):Cal P w K mg base 1 "is_below" ["one", "other"] (B4):=
 o9 F (fun _ _ _ _ _ _=>on2 fun _ _=>rfl) uP fun cdv A outer s H E g hr=>
  have nd:=uP.nd
  (k9 (m7 (a0V S5 (F0 (fun i j=>decide (i<j))) (EO.b (j8 o7 n8 (EO.b (j5 j3 j4 (c5 (pv 0)) (EO.b a9) (fun _ _=>rfl))) (EO.b (j5 j3 j4 (c5 (pv 1)) (EO.b a9) (fun _ _=>rfl))))) (EO.b (j8 o7 n8 (EO.b (j5 j3 j4 (c5 (pv 1)) (EO.b a9) (fun _ _=>rfl))) (EO.b (j5 j3 j4 (c5 (pv 0)) (EO.b a9) (fun _ _=>rfl))))) (w8 _))))
abbrev a5m:Stmt:=top 33
theorem uQ:FnScope ["one", "other"] ["one", "other"] (m5 a5m):=⟨rfl,rfl,rfl,by decide +kernel,rfl,by decide +kernel,by decide +kernel⟩
set_option maxHeartbeats 4000000 in
theorem b2y {mn:DFn}(Cf:Cal P w K mg base 1 "is_below" ["one", "other"] mn) {f:Addr}{fd:FuncData}(B:Blt mg) (F:GF K mg "greater_of" a5m f fd):Cal P w K mg base 2 "greater_of" ["one", "other"] (a1T mn):=
 o9 F (fun _ _ _ _ _ _=>on2 fun _ _=>rfl) uQ fun cdv A outer s H E g hr=>
  have nd:=uQ.nd
  (k9 (m7 (a18 (E9 (EO.b (i7 Cf _ hr (by decide) (by rfl) (ac (c8 (pv 0)) (ac (c8 (pv 1)) b6)) (c6 (c6 i8))))) (c8 (pv 1)) (c8 (pv 0)))))
abbrev a3u:Stmt:=top 34
theorem uR:FnScope ["one", "other"] ["one", "other"] (m5 a3u):=⟨rfl,rfl,rfl,by decide +kernel,rfl,by decide +kernel,by decide +kernel⟩
set_option maxHeartbeats 4000000 in
theorem b3w {mn:DFn}(Cf:Cal P w K mg base 1 "is_below" ["one", "other"] mn) {f:Addr}{fd:FuncData}(B:Blt mg) (F:GF K mg "lesser_of" a3u f fd):Cal P w K mg base 2 "lesser_of" ["one", "other"] (a1R mn):=
 o9 F (fun _ _ _ _ _ _=>on2 fun _ _=>rfl) uR fun cdv A outer s H E g hr=>
  have nd:=uR.nd
  (k9 (m7 (a18 (E9 (EO.b (i7 Cf _ hr (by decide) (by rfl) (ac (c8 (pv 0)) (ac (c8 (pv 1)) b6)) (c6 (c6 i8))))) (c8 (pv 0)) (c8 (pv 1)))))
abbrev a4H:Stmt:=top 30
theorem uS:FnScope ["line", "pattern", "offset", "whole", "told", "begin", "number", "end"] ["line", "pattern", "offset"] (m5 a4H):=⟨rfl,rfl,rfl,by decide +kernel,rfl,by decide +kernel,by decide +kernel⟩
set_option maxHeartbeats 4000000 in
theorem b2j {mn:DFn}{m00:DFn}{m01:DFn}{mr:DFn}{m02:DFn}{m03:DFn}(Cf:Cal P w K mg base 1 "is_below" ["one", "other"] mn) (CT:Cal P w K mg base 2 "lesser_of" ["one", "other"] m00) (CU:Cal P w K mg base 2 "greater_of" ["one", "other"] m01) (Ch:Cal P w K mg base 2 "plus" ["one", "other"] mr) (CV:Cal P w K mg base 6 "first_begin" ["pattern", "offset"] m02) (CW:Cal P w K mg base 8 "line_length" ["line"] m03) (CY:Con K mg "MOST_MARKS" (.int 200)) {f:Addr}{fd:FuncData}(B:Blt mg) (F:GF K mg "mark_lengths" a4H f fd):Cal P w K mg base 9 "mark_lengths" ["line", "pattern", "offset"] (a1O mn m00 m01 mr m02 m03):=
 o9 F (fun _ _ _ _ _ _=>on3 fun _ _ _=>rfl) uS fun cdv A outer s H E g hr=>
  have nd:=uS.nd
  (i9 (l4 (i:=3) nd rfl (by first | exact Or.inl rfl | exact Or.inr rfl) (i7 CW _ hr (by decide) (by rfl) (ac (c8 (pv 0)) b6) (c6 i8))) (i9 (J3 (i:=4) nd rfl (by first | exact Or.inl rfl | exact Or.inr rfl) (C6 b6)) (i9 (l4 (i:=5) nd rfl (by first | exact Or.inl rfl | exact Or.inr rfl) (i7 CV _ hr (by decide) (by rfl) (ac (c8 (pv 1)) (ac (c8 (pv 2)) b6)) (c6 (c6 i8)))) (i9 (l4 (i:=6) nd rfl (by first | exact Or.inl rfl | exact Or.inr rfl) a9) (i9 (U0 PassesOwn.never (E9 (EO.b (i7 Cf _ hr (by decide) (by rfl) (ac (c8 (pv 5)) (ac (c8 (pv 3)) b6)) (c6 (c6 i8))))) (i9 (l4 (i:=7) nd rfl (by first | exact Or.inl rfl | exact Or.inr rfl) (i7 Ch _ hr (by decide) (by rfl) (ac (c8 (pv 5)) (ac (j5 j3 j4 (c5 (pv 1)) (c5 (pv 6)) (fun _ _=>rfl)) b6)) (c6 (c6 i8)))) (i9 (C7 (WO.t (W1 (A9 (T8 (u64 hr)) T5 (EO.b (j8 K5 J2 (c5 (pv 6)) (EO.b a9))) (EO.b a9) (w8 _)) (X4 (E9 (EO.b (i7 Cf _ hr (by decide) (by rfl) (ac (k0 (ac a9 (ac a9 b6))) (ac (c8 (pv 7)) b6)) (c6 (c6 i8)))))))) (k9 (V1 (pv 4) (k0 (ac (i7 CU _ hr (by decide) (by rfl) (ac (c8 (pv 5)) (ac (k0 (ac a9 (ac a9 b6))) b6)) (c6 (c6 i8))) (ac (i7 CT _ hr (by decide) (by rfl) (ac (c8 (pv 7)) (ac (c8 (pv 3)) b6)) (c6 (c6 i8))) b6))))) D0) (i9 (C7 (A9 W7 (F0 (fun i j=>decide (j<i))) (EO.b (F2 J5 K2 (by rfl) B.len K1 (bc (c5 (pv 4)) B5))) (EO.b (b4x CY (by rfl))) (w8 _)) (k9 b4N) D0) (i9 (l4 (i:=5) nd rfl (by first | exact Or.inl rfl | exact Or.inr rfl) (c8 (pv 7))) (k9 (l4 (i:=6) nd rfl (by first | exact Or.inl rfl | exact Or.inr rfl) (j8 K5 J2 (EO.b (j8 C3 C4 (c5 (pv 6)) (EO.b a9))) (EO.b (F2 J5 K2 (by rfl) B.len K1 (bc (c5 (pv 1)) B5))))))))))) (k9 (m7 (c8 (pv 4)))))))))
abbrev a32:Stmt:=top 45
theorem uT:FnScope ["_law_one", "_law_other"] ["_law_one", "_law_other"] (m5 a32):=⟨rfl,rfl,rfl,by decide +kernel,rfl,by decide +kernel,by decide +kernel⟩
set_option maxHeartbeats 4000000 in
theorem b2B {f:Addr}{fd:FuncData}(B:Blt mg) (F:GF K mg "_law_below" a32 f fd):Cal P w K mg base 1 "_law_below" ["_law_one", "_law_other"] (t7):=
 o9 F (fun _ _ _ _ _ _=>on2 fun _ _=>rfl) uT fun cdv A outer s H E g hr=>
  have nd:=uT.nd
  (k9 (m7 (a0V S5 (F0 (fun i j=>decide (i<j))) (EO.b (j8 o7 n8 (EO.b (j5 j3 j4 (c5 (pv 0)) (EO.b a9) (fun _ _=>rfl))) (EO.b (j5 j3 j4 (c5 (pv 1)) (EO.b a9) (fun _ _=>rfl))))) (EO.b (j8 o7 n8 (EO.b (j5 j3 j4 (c5 (pv 1)) (EO.b a9) (fun _ _=>rfl))) (EO.b (j5 j3 j4 (c5 (pv 0)) (EO.b a9) (fun _ _=>rfl))))) (w8 _))))
abbrev a3g:Stmt:=top 65
theorem uU:FnScope ["_law_tape", "_law_length", "_law_told", "_law_some", "_law_begin", "_law_end", "_law_k"] ["_law_tape", "_law_length", "_law_told"] (m5 a3g):=⟨rfl,rfl,rfl,by decide +kernel,rfl,by decide +kernel,by decide +kernel⟩
set_option maxHeartbeats 4000000 in
theorem b2U {mm:DFn}{me:DFn}{ma:DFn}{mh:DFn}(Ce:Cal P w K mg base 1 "_law_below" ["_law_one", "_law_other"] mm) (Cc:Cal P w K mg base 3 "_law_product" ["_law_one", "_law_other"] me) (Ca:Cal P w K mg base 3 "_law_plus" ["_law_one", "_law_other"] ma) (Cb:Cal P w K mg base 1 "_law_draw" ["_law_tape", "_law_many"] mh) {f:Addr}{fd:FuncData}(B:Blt mg) (F:GF K mg "_law_asked" a3g f fd):Cal P w K mg base 4 "_law_asked" ["_law_tape", "_law_length", "_law_told"] (a4O mm me ma mh):=
 o9 F (fun _ _ _ _ _ _=>on3 fun _ _ _=>rfl) uU fun cdv A outer s H E g hr=>
  have nd:=uU.nd
  (i9 (a19 (i:=3) nd rfl (by first | exact Or.inl rfl | exact Or.inr rfl) (a3n (N':=["_law_k", "_law_length", "_law_tape"]) (idx:=[1,0]) rfl (W2 (by rfl) (.cons rfl (.cons rfl .nil)) (by decide +kernel) rfl (by decide +kernel) (by rfl) (.cons rfl (by first | exact Or.inl rfl | exact Or.inr rfl) (by first | exact Or.inl rfl | exact Or.inr rfl) (.cons rfl (by first | exact Or.inl rfl | exact Or.inr rfl) (by first | exact Or.inl rfl | exact Or.inr rfl) .nil))) (a3S (by rfl) B.range a9) (fun _ _ _ _=>n0 (i:=0) (show List.Nodup (["_law_k", "_law_length", "_law_tape"]:List Str) by decide +kernel) rfl (Or.inl rfl)) (fun _ _ _ _ _=>N6) (fun _ _ _ _ _=>(i7 Cc _ hr (by decide) (by rfl) (ac (c8 (pv 1)) (ac (k0 (ac (j8 C3 C4 (EO.b a9) (EO.b (i7 Cb _ hr (by decide) (by rfl) (ac (c8 (pv 2)) (ac a9 b6)) (c6 (c6 i8))))) (ac a9 b6))) b6)) (c6 (c6 i8)))))) (i9 (P4 PassesOwn.never rfl (c8 (pv 2)) (D2 rfl (u5 (p8 (n0 (i:=4) nd rfl (by first | exact Or.inl rfl | exact Or.inr rfl))) (u5 (p8 (n0 (i:=5) nd rfl (by first | exact Or.inl rfl | exact Or.inr rfl))) D1))) (k9 (b4V (pv 3) (ac (FO.v (C6 (ac (c8 (pv 4)) (ac (c8 (pv 5)) (ac (i7 Cc _ hr (by decide) (by rfl) (ac (i7 Ca _ hr (by decide) (by rfl) (ac (c8 (pv 4)) (ac (c8 (pv 5)) b6)) (c6 (c6 i8))) (ac (k0 (ac a9 (ac a9 b6))) b6)) (c6 (c6 i8))) b6))))) b6)))) (i9 (a0K PassesOwn.never rfl (by rfl) B.range (j8 O7 P5 (EO.b (F2 J5 K2 (by rfl) B.len K1 (bc (c5 (pv 2)) B5))) (EO.b a9)) (p8 (n0 (i:=6) nd rfl (by first | exact Or.inl rfl | exact Or.inr rfl))) (k9 (V1 (pv 3) (i7 Cc _ hr (by decide) (by rfl) (ac (i7 Ca _ hr (by decide) (by rfl) (ac (j5 j3 j4 (EO.b (j5 j3 j4 (c5 (pv 2)) (c5 (pv 6)) (fun _ _=>rfl))) (EO.b a9) (fun _ _=>rfl)) (ac (j5 j3 j4 (EO.b (j5 j3 j4 (c5 (pv 2)) (EO.b (j8 C3 C4 (c5 (pv 6)) (EO.b a9))) (fun _ _=>rfl))) (EO.b a9) (fun _ _=>rfl)) b6)) (c6 (c6 i8))) (ac (k0 (ac a9 (ac a9 b6))) b6)) (c6 (c6 i8)))))) (k9 (m7 (FO.v (a1w (N':=["_law_one", "_law_length"]) (idx:=[1]) rfl (W2 (by rfl) (.cons rfl .nil) (by decide +kernel) rfl (by decide +kernel) (by rfl) (.cons rfl (by first | exact Or.inl rfl | exact Or.inr rfl) (by first | exact Or.inl rfl | exact Or.inr rfl) .nil)) (N8 (c8 (pv 3))) (fun _ _ _ _=>n0 (i:=0) (show List.Nodup (["_law_one", "_law_length"]:List Str) by decide +kernel) rfl (Or.inl rfl)) (fun _ _ _ _ _=>(a4Q (WO.t (W1 (A9 W7 (F0 (fun i j=>decide (j<i))) (EO.b (j5 j3 j4 (c5 (pv 0)) (EO.b a9) (fun _ _=>rfl))) (EO.b a9) (w8 _)) (X4 (E9 (EO.b (i7 Ce _ hr (by decide) (by rfl) (ac (c8 (pv 0)) (ac (c8 (pv 1)) b6)) (c6 (c6 i8)))))))))) (fun _ _ _ _ _=>(c8 (pv 0))))))))))
abbrev a5p:Stmt:=top 19
theorem uV:FnScope ["a", "b", "share", "near", "far"] ["a", "b", "share"] (m5 a5p):=⟨rfl,rfl,rfl,by decide +kernel,rfl,by decide +kernel,by decide +kernel⟩
set_option maxHeartbeats 4000000 in
theorem b3H {mL:DFn}(Ct:Cal P w K mg base 3 "lowest" ["parts"] mL) {f:Addr}{fd:FuncData}(B:Blt mg) (F:GF K mg "between" a5p f fd):Cal P w K mg base 4 "between" ["a", "b", "share"] (a4z mL):=
 o9 F (fun _ _ _ _ _ _=>on3 fun _ _ _=>rfl) uV fun cdv A outer s H E g hr=>
  have nd:=uV.nd
  (i9 (l4 (i:=3) nd rfl (by first | exact Or.inl rfl | exact Or.inr rfl) (j8 o7 n8 (EO.b (j5 j3 j4 (c5 (pv 1)) (EO.b a9) (fun _ _=>rfl))) (EO.b (j8 O7 P5 (EO.b (j5 j3 j4 (c5 (pv 2)) (EO.b a9) (fun _ _=>rfl))) (EO.b (j5 j3 j4 (c5 (pv 2)) (EO.b a9) (fun _ _=>rfl))))))) (i9 (l4 (i:=4) nd rfl (by first | exact Or.inl rfl | exact Or.inr rfl) (j8 o7 n8 (EO.b (j5 j3 j4 (c5 (pv 0)) (EO.b a9) (fun _ _=>rfl))) (EO.b (j5 j3 j4 (c5 (pv 2)) (EO.b a9) (fun _ _=>rfl))))) (k9 (m7 (i7 Ct _ hr (by decide) (by rfl) (ac (k0 (ac (j8 C3 C4 (EO.b (j8 o7 n8 (EO.b (j5 j3 j4 (c5 (pv 0)) (EO.b a9) (fun _ _=>rfl))) (c5 (pv 3)))) (EO.b (j8 o7 n8 (EO.b (j5 j3 j4 (c5 (pv 1)) (EO.b a9) (fun _ _=>rfl))) (c5 (pv 4))))) (ac (j8 C3 C4 (EO.b (j8 o7 n8 (EO.b (j5 j3 j4 (c5 (pv 0)) (EO.b a9) (fun _ _=>rfl))) (c5 (pv 3)))) (EO.b (j8 o7 n8 (EO.b (j5 j3 j4 (c5 (pv 1)) (EO.b a9) (fun _ _=>rfl))) (c5 (pv 4))))) (ac (j8 o7 n8 (EO.b (j8 o7 n8 (EO.b (j5 j3 j4 (c5 (pv 0)) (EO.b a9) (fun _ _=>rfl))) (EO.b (j5 j3 j4 (c5 (pv 1)) (EO.b a9) (fun _ _=>rfl))))) (EO.b (j5 j3 j4 (c5 (pv 2)) (EO.b a9) (fun _ _=>rfl)))) b6)))) b6) (c6 i8))))))
abbrev a28:Stmt:=top 26
theorem uW:FnScope ["line", "length", "rows", "number", "piece", "gone", "whole"] ["line", "length"] (m5 a28):=⟨rfl,rfl,rfl,by decide +kernel,rfl,by decide +kernel,by decide +kernel⟩
set_option maxHeartbeats 4000000 in
theorem a9t {mX:DFn}{mz:DFn}{mH:DFn}{mI:DFn}{mn:DFn}{mw:DFn}(CZ:Cal P w K mg base 4 "between" ["a", "b", "share"] mX) (Cj:Cal P w K mg base 4 "fraction" ["top", "bottom"] mz) (Cp:Cal P w K mg base 3 "less" ["one", "other"] mH) (Cu:Cal P w K mg base 2 "pieces" ["line"] mI) (Cf:Cal P w K mg base 1 "is_below" ["one", "other"] mn) (Ck:Cal P w K mg base 7 "stations" ["line"] mw) {f:Addr}{fd:FuncData}(B:Blt mg) (F:GF K mg "place_at" a28 f fd):Cal P w K mg base 8 "place_at" ["line", "length"] (a5j mX mz mH mI mn mw):=
 o9 F (fun _ _ _ _ _ _=>on2 fun _ _=>rfl) uW fun cdv A outer s H E g hr=>
  have nd:=uW.nd
  (i9 (l4 (i:=2) nd rfl (by first | exact Or.inl rfl | exact Or.inr rfl) (i7 Ck _ hr (by decide) (by rfl) (ac (c8 (pv 0)) b6) (c6 i8))) (i9 (l4 (i:=3) nd rfl (by first | exact Or.inl rfl | exact Or.inr rfl) a9) (i9 (U0 PassesOwn.never (E9 (EO.b (i7 Cf _ hr (by decide) (by rfl) (ac (j5 j3 j4 (c5 (pv 2)) (EO.b (j8 C3 C4 (c5 (pv 3)) (EO.b a9))) (fun _ _=>rfl)) (ac (c8 (pv 1)) b6)) (c6 (c6 i8))))) (k9 (l4 (i:=3) nd rfl (by first | exact Or.inl rfl | exact Or.inr rfl) (j8 C3 C4 (c5 (pv 3)) (EO.b a9))))) (i9 (l4 (i:=4) nd rfl (by first | exact Or.inl rfl | exact Or.inr rfl) (j5 j3 j4 (EO.b (i7 Cu _ hr (by decide) (by rfl) (ac (c8 (pv 0)) b6) (c6 i8))) (c5 (pv 3)) (fun _ _=>rfl))) (i9 (l4 (i:=5) nd rfl (by first | exact Or.inl rfl | exact Or.inr rfl) (i7 Cp _ hr (by decide) (by rfl) (ac (c8 (pv 1)) (ac (j5 j3 j4 (c5 (pv 2)) (c5 (pv 3)) (fun _ _=>rfl)) b6)) (c6 (c6 i8)))) (i9 (l4 (i:=6) nd rfl (by first | exact Or.inl rfl | exact Or.inr rfl) (i7 Cp _ hr (by decide) (by rfl) (ac (j5 j3 j4 (c5 (pv 2)) (EO.b (j8 C3 C4 (c5 (pv 3)) (EO.b a9))) (fun _ _=>rfl)) (ac (j5 j3 j4 (c5 (pv 2)) (c5 (pv 3)) (fun _ _=>rfl)) b6)) (c6 (c6 i8)))) (k9 (m7 (i7 CZ _ hr (by decide) (by rfl) (ac (j5 j3 j4 (c5 (pv 4)) (EO.b a9) (fun _ _=>rfl)) (ac (j5 j3 j4 (c5 (pv 4)) (EO.b a9) (fun _ _=>rfl)) (ac (i7 Cj _ hr (by decide) (by rfl) (ac (j8 o7 n8 (EO.b (j5 j3 j4 (c5 (pv 5)) (EO.b a9) (fun _ _=>rfl))) (EO.b (j5 j3 j4 (c5 (pv 6)) (EO.b a9) (fun _ _=>rfl)))) (ac (j8 o7 n8 (EO.b (j5 j3 j4 (c5 (pv 5)) (EO.b a9) (fun _ _=>rfl))) (EO.b (j5 j3 j4 (c5 (pv 6)) (EO.b a9) (fun _ _=>rfl)))) b6)) (c6 (c6 i8))) b6))) (c6 (c6 (c6 i8))))))))))))
abbrev a4M:Stmt:=top 29
theorem uX:FnScope ["line", "begin", "end", "told", "one", "station"] ["line", "begin", "end"] (m5 a4M):=⟨rfl,rfl,rfl,by decide +kernel,rfl,by decide +kernel,by decide +kernel⟩
set_option maxHeartbeats 4000000 in
theorem b1Y {mS:DFn}{mn:DFn}{mw:DFn}(CA:Cal P w K mg base 8 "place_at" ["line", "length"] mS) (Cf:Cal P w K mg base 1 "is_below" ["one", "other"] mn) (Ck:Cal P w K mg base 7 "stations" ["line"] mw) {f:Addr}{fd:FuncData}(B:Blt mg) (F:GF K mg "part_of" a4M f fd):Cal P w K mg base 9 "part_of" ["line", "begin", "end"] (a2G mS mn mw):=
 o9 F (fun _ _ _ _ _ _=>on3 fun _ _ _=>rfl) uX fun cdv A outer s H E g hr=>
  have nd:=uX.nd
  (i9 (J3 (i:=3) nd rfl (by first | exact Or.inl rfl | exact Or.inr rfl) (C6 (ac (i7 CA _ hr (by decide) (by rfl) (ac (c8 (pv 0)) (ac (c8 (pv 1)) b6)) (c6 (c6 i8))) b6))) (i9 (a6I PassesOwn.never rfl (by rfl) B.zip (ac (j5 j3 j4 (c5 (pv 0)) (EO.b a9) (fun _ _=>rfl)) (ac (i7 Ck _ hr (by decide) (by rfl) (ac (c8 (pv 0)) b6) (c6 i8)) b6)) (D2 rfl (u5 (p8 (n0 (i:=4) nd rfl (by first | exact Or.inl rfl | exact Or.inr rfl))) (u5 (p8 (n0 (i:=5) nd rfl (by first | exact Or.inl rfl | exact Or.inr rfl))) D1))) (k9 (C7 (WO.t (W1 (E9 (EO.b (i7 Cf _ hr (by decide) (by rfl) (ac (c8 (pv 1)) (ac (c8 (pv 5)) b6)) (c6 (c6 i8))))) (X4 (E9 (EO.b (i7 Cf _ hr (by decide) (by rfl) (ac (c8 (pv 5)) (ac (c8 (pv 2)) b6)) (c6 (c6 i8)))))))) (k9 (V1 (pv 3) (c8 (pv 4)))) D0))) (i9 (V1 (pv 3) (i7 CA _ hr (by decide) (by rfl) (ac (c8 (pv 0)) (ac (c8 (pv 2)) b6)) (c6 (c6 i8)))) (k9 (m7 (k0 (ac K3 (ac (Q5 T4 T9 (by rfl) B.tuple U2 (bc (c5 (pv 3)) B5)) b6))))))))
abbrev a4q:Stmt:=top 35
theorem uY:FnScope ["line", "pattern", "offset"] ["line", "pattern", "offset"] (m5 a4q):=⟨rfl,rfl,rfl,by decide +kernel,rfl,by decide +kernel,by decide +kernel⟩
set_option maxHeartbeats 4000000 in
theorem b3M {mE:DFn}{m0j:DFn}(Cv:Cal P w K mg base 9 "mark_lengths" ["line", "pattern", "offset"] mE) (C00:Cal P w K mg base 9 "part_of" ["line", "begin", "end"] m0j) {f:Addr}{fd:FuncData}(B:Blt mg) (F:GF K mg "marks_of" a4q f fd):Cal P w K mg base 10 "marks_of" ["line", "pattern", "offset"] (a2q mE m0j):=
 o9 F (fun _ _ _ _ _ _=>on3 fun _ _ _=>rfl) uY fun cdv A outer s H E g hr=>
  have nd:=uY.nd
  (k9 (m7 (FO.v (a0p (caps:=["line"]) (idx:=[0]) rfl (Z3 (by rfl) (.cons rfl .nil) (by decide +kernel) rfl (by decide +kernel) (by rfl) (.cons rfl (by first | exact Or.inl rfl | exact Or.inr rfl) (by first | exact Or.inl rfl | exact Or.inr rfl) .nil)) (N8 (i7 Cv _ hr (by decide) (by rfl) (ac (c8 (pv 0)) (ac (c8 (pv 1)) (ac (c8 (pv 2)) b6))) (c6 (c6 (c6 i8))))) (show List.Nodup (["begin", "end", "line"]:List Str) by decide +kernel) (fun _ _ _ _=>rfl) (fun _ _ _ _=>rfl) (fun _ _ _ _ _=>N6) (fun _ _ _ _ _=>(i7 C00 _ hr (by decide) (by rfl) (ac (c8 (pv 2)) (ac (c8 (pv 0)) (ac (c8 (pv 1)) b6))) (c6 (c6 (c6 i8)))))))))
abbrev a3A:Stmt:=top 66
theorem uZ:FnScope ["_law_length", "_law_told", "_law_behind", "_law_begin", "_law_end"] ["_law_length", "_law_told"] (m5 a3A):=⟨rfl,rfl,rfl,by decide +kernel,rfl,by decide +kernel,by decide +kernel⟩
set_option maxHeartbeats 4000000 in
theorem a95 {mm:DFn}(Ce:Cal P w K mg base 1 "_law_below" ["_law_one", "_law_other"] mm) {f:Addr}{fd:FuncData}(B:Blt mg) (F:GF K mg "_law_apart" a3A f fd):Cal P w K mg base 2 "_law_apart" ["_law_length", "_law_told"] (a2V mm):=
 o9 F (fun _ _ _ _ _ _=>on2 fun _ _=>rfl) uZ fun cdv A outer s H E g hr=>
  have nd:=uZ.nd
  (i9 (l4 (i:=2) nd rfl (by first | exact Or.inl rfl | exact Or.inr rfl) a04) (i9 (P4 PassesOwn.never rfl (c8 (pv 1)) (D2 rfl (u5 (p8 (n0 (i:=3) nd rfl (by first | exact Or.inl rfl | exact Or.inr rfl))) (u5 (p8 (n0 (i:=4) nd rfl (by first | exact Or.inl rfl | exact Or.inr rfl))) D1))) (i9 (C7 (WO.t (a1P (A9 S5 (F0 (fun i j=>decide (i<j))) (EO.b (j5 j3 j4 (c5 (pv 3)) (EO.b a9) (fun _ _=>rfl))) (EO.b a9) (w8 _)) (a1P (W6 (E9 (EO.b (i7 Ce _ hr (by decide) (by rfl) (ac (c8 (pv 3)) (ac (c8 (pv 4)) b6)) (c6 (c6 i8)))))) (a3b (E9 (EO.b (i7 Ce _ hr (by decide) (by rfl) (ac (c8 (pv 0)) (ac (c8 (pv 4)) b6)) (c6 (c6 i8))))))))) (k9 (m7 K3)) D0) (i9 (C7 (WO.t (W1 (A9 a9Z b0d (c5 (pv 2)) (EO.b a04) (w8 _)) (X4 (W6 (E9 (EO.b (i7 Ce _ hr (by decide) (by rfl) (ac (c8 (pv 2)) (ac (c8 (pv 3)) b6)) (c6 (c6 i8))))))))) (k9 (m7 K3)) D0) (k9 (l4 (i:=2) nd rfl (by first | exact Or.inl rfl | exact Or.inr rfl) (c8 (pv 4))))))) (k9 (m7 K3))))
abbrev a4p:Stmt:=top 61
theorem u00:FnScope ["_law_some", "_law_found", "_law_one"] ["_law_some"] (m5 a4p):=⟨rfl,rfl,rfl,by decide +kernel,rfl,by decide +kernel,by decide +kernel⟩
set_option maxHeartbeats 4000000 in
theorem b2s {ma:DFn}(Ca:Cal P w K mg base 3 "_law_plus" ["_law_one", "_law_other"] ma) {f:Addr}{fd:FuncData}(B:Blt mg) (F:GF K mg "_law_sum" a4p f fd):Cal P w K mg base 4 "_law_sum" ["_law_some"] (a0k ma):=
 o9 F (fun _ _ _ _ _ _=>on1 fun _=>rfl) u00 fun cdv A outer s H E g hr=>
  have nd:=u00.nd
  (i9 (l4 (i:=1) nd rfl (by first | exact Or.inl rfl | exact Or.inr rfl) (k0 (ac a9 (ac a9 b6)))) (i9 (P4 PassesOwn.never rfl (c8 (pv 0)) (p8 (n0 (i:=2) nd rfl (by first | exact Or.inl rfl | exact Or.inr rfl))) (k9 (l4 (i:=1) nd rfl (by first | exact Or.inl rfl | exact Or.inr rfl) (i7 Ca _ hr (by decide) (by rfl) (ac (c8 (pv 1)) (ac (c8 (pv 2)) b6)) (c6 (c6 i8)))))) (k9 (m7 (c8 (pv 1))))))
abbrev a26:Stmt:=top 62
theorem u01:FnScope ["_law_pattern", "_law_far", "_law_whole", "_law_many"] ["_law_pattern", "_law_far"] (m5 a26):=⟨rfl,rfl,rfl,by decide +kernel,rfl,by decide +kernel,by decide +kernel⟩
set_option maxHeartbeats 4000000 in
theorem b1j {mj:DFn}{me:DFn}{mt:DFn}(Cd:Cal P w K mg base 3 "_law_minus" ["_law_one", "_law_other"] mj) (Cc:Cal P w K mg base 3 "_law_product" ["_law_one", "_law_other"] me) (Cl:Cal P w K mg base 4 "_law_sum" ["_law_some"] mt) {f:Addr}{fd:FuncData}(B:Blt mg) (F:GF K mg "_law_rest" a26 f fd):Cal P w K mg base 5 "_law_rest" ["_law_pattern", "_law_far"] (a13 mj me mt):=
 o9 F (fun _ _ _ _ _ _=>on2 fun _ _=>rfl) u01 fun cdv A outer s H E g hr=>
  have nd:=u01.nd
  (i9 (l4 (i:=2) nd rfl (by first | exact Or.inl rfl | exact Or.inr rfl) (i7 Cl _ hr (by decide) (by rfl) (ac (c8 (pv 0)) b6) (c6 i8))) (i9 (l4 (i:=3) nd rfl (by first | exact Or.inl rfl | exact Or.inr rfl) (j8 E6 E8 (EO.b (j8 o7 n8 (EO.b (j5 j3 j4 (c5 (pv 1)) (EO.b a9) (fun _ _=>rfl))) (EO.b (j5 j3 j4 (c5 (pv 2)) (EO.b a9) (fun _ _=>rfl))))) (EO.b (j8 o7 n8 (EO.b (j5 j3 j4 (c5 (pv 1)) (EO.b a9) (fun _ _=>rfl))) (EO.b (j5 j3 j4 (c5 (pv 2)) (EO.b a9) (fun _ _=>rfl))))))) (k9 (m7 (k0 (ac (c8 (pv 3)) (ac (i7 Cd _ hr (by decide) (by rfl) (ac (c8 (pv 1)) (ac (i7 Cc _ hr (by decide) (by rfl) (ac (c8 (pv 2)) (ac (k0 (ac (c8 (pv 3)) (ac a9 b6))) b6)) (c6 (c6 i8))) b6)) (c6 (c6 i8))) b6)))))))
abbrev a3O:Stmt:=top 64
theorem u02:FnScope ["_law_pattern", "_law_far", "_law_many", "_law_left", "_law_found", "_law_k", "_law_own"] ["_law_pattern", "_law_far"] (m5 a3O):=⟨rfl,rfl,rfl,by decide +kernel,rfl,by decide +kernel,by decide +kernel⟩
set_option maxHeartbeats 4000000 in
theorem a9d {mj:DFn}{ma:DFn}{mm:DFn}{me:DFn}{mt:DFn}{mF:DFn}(Cd:Cal P w K mg base 3 "_law_minus" ["_law_one", "_law_other"] mj) (Ca:Cal P w K mg base 3 "_law_plus" ["_law_one", "_law_other"] ma) (Ce:Cal P w K mg base 1 "_law_below" ["_law_one", "_law_other"] mm) (Cc:Cal P w K mg base 3 "_law_product" ["_law_one", "_law_other"] me) (Cl:Cal P w K mg base 4 "_law_sum" ["_law_some"] mt) (Cw:Cal P w K mg base 5 "_law_rest" ["_law_pattern", "_law_far"] mF) {f:Addr}{fd:FuncData}(B:Blt mg) (F:GF K mg "_law_filled" a3O f fd):Cal P w K mg base 6 "_law_filled" ["_law_pattern", "_law_far"] (a3q mj ma mm me mt mF):=
 o9 F (fun _ _ _ _ _ _=>on2 fun _ _=>rfl) u02 fun cdv A outer s H E g hr=>
  have nd:=u02.nd
  (i9 (N2 (i7 Cw _ hr (by decide) (by rfl) (ac (c8 (pv 0)) (ac (c8 (pv 1)) b6)) (c6 (c6 i8))) (D2 rfl (u5 (p8 (n0 (i:=2) nd rfl (by first | exact Or.inl rfl | exact Or.inr rfl))) (u5 (p8 (n0 (i:=3) nd rfl (by first | exact Or.inl rfl | exact Or.inr rfl))) D1)))) (i9 (l4 (i:=4) nd rfl (by first | exact Or.inl rfl | exact Or.inr rfl) (i7 Cc _ hr (by decide) (by rfl) (ac (i7 Cl _ hr (by decide) (by rfl) (ac (b4H (c5 (pv 0)) (EO.b a9)) b6) (c6 i8)) (ac (k0 (ac (c8 (pv 2)) (ac a9 b6))) b6)) (c6 (c6 i8)))) (i9 (a0K PassesOwn.never rfl (by rfl) B.range (F2 J5 K2 (by rfl) B.len K1 (bc (c5 (pv 0)) B5)) (p8 (n0 (i:=5) nd rfl (by first | exact Or.inl rfl | exact Or.inr rfl))) (i9 (l4 (i:=6) nd rfl (by first | exact Or.inl rfl | exact Or.inr rfl) (a18 (E9 (EO.b (i7 Ce _ hr (by decide) (by rfl) (ac (c8 (pv 3)) (ac (j5 j3 j4 (c5 (pv 0)) (c5 (pv 5)) (fun _ _=>rfl)) b6)) (c6 (c6 i8))))) (c8 (pv 3)) (j5 j3 j4 (c5 (pv 0)) (c5 (pv 5)) (fun _ _=>rfl)))) (i9 (C7 (A9 (T8 (u64 hr)) T5 (EO.b (j8 K5 J2 (c5 (pv 5)) (EO.b a9))) (EO.b a9) (w8 _)) (k9 (l4 (i:=4) nd rfl (by first | exact Or.inl rfl | exact Or.inr rfl) (i7 Ca _ hr (by decide) (by rfl) (ac (c8 (pv 4)) (ac (c8 (pv 6)) b6)) (c6 (c6 i8))))) D0) (k9 (l4 (i:=3) nd rfl (by first | exact Or.inl rfl | exact Or.inr rfl) (i7 Cd _ hr (by decide) (by rfl) (ac (c8 (pv 3)) (ac (c8 (pv 6)) b6)) (c6 (c6 i8)))))))) (k9 (m7 (c8 (pv 4)))))))
abbrev a2r:Stmt:=top 63
theorem u03:FnScope ["_law_pattern", "_law_far", "_law_left", "_law_k"] ["_law_pattern", "_law_far"] (m5 a2r):=⟨rfl,rfl,rfl,by decide +kernel,rfl,by decide +kernel,by decide +kernel⟩
set_option maxHeartbeats 4000000 in
theorem b20 {mj:DFn}{mm:DFn}{mF:DFn}(Cd:Cal P w K mg base 3 "_law_minus" ["_law_one", "_law_other"] mj) (Ce:Cal P w K mg base 1 "_law_below" ["_law_one", "_law_other"] mm) (Cw:Cal P w K mg base 5 "_law_rest" ["_law_pattern", "_law_far"] mF) {f:Addr}{fd:FuncData}(B:Blt mg) (F:GF K mg "_law_is_marked" a2r f fd):Cal P w K mg base 6 "_law_is_marked" ["_law_pattern", "_law_far"] (a5i mj mm mF):=
 o9 F (fun _ _ _ _ _ _=>on2 fun _ _=>rfl) u03 fun cdv A outer s H E g hr=>
  have nd:=u03.nd
  (i9 (l4 (i:=2) nd rfl (by first | exact Or.inl rfl | exact Or.inr rfl) (j5 j3 j4 (EO.b (i7 Cw _ hr (by decide) (by rfl) (ac (c8 (pv 0)) (ac (c8 (pv 1)) b6)) (c6 (c6 i8)))) (EO.b a9) (fun _ _=>rfl))) (i9 (a0K PassesOwn.never rfl (by rfl) B.range (F2 J5 K2 (by rfl) B.len K1 (bc (c5 (pv 0)) B5)) (p8 (n0 (i:=3) nd rfl (by first | exact Or.inl rfl | exact Or.inr rfl))) (i9 (C7 (WO.t (W1 (W6 (E9 (EO.b (i7 Ce _ hr (by decide) (by rfl) (ac (j5 j3 j4 (c5 (pv 0)) (c5 (pv 3)) (fun _ _=>rfl)) (ac (c8 (pv 2)) b6)) (c6 (c6 i8)))))) (X4 (A9 (T8 (u64 hr)) T5 (EO.b (j8 K5 J2 (c5 (pv 3)) (EO.b a9))) (EO.b a9) (w8 _))))) (k9 (m7 K3)) D0) (i9 (l4 (i:=2) nd rfl (by first | exact Or.inl rfl | exact Or.inr rfl) (i7 Cd _ hr (by decide) (by rfl) (ac (c8 (pv 2)) (ac (j5 j3 j4 (c5 (pv 0)) (c5 (pv 3)) (fun _ _=>rfl)) b6)) (c6 (c6 i8)))) (k9 (C7 (A9 S5 (F0 (fun i j=>decide (i<j))) (EO.b (j5 j3 j4 (c5 (pv 2)) (EO.b a9) (fun _ _=>rfl))) (EO.b a9) (w8 _)) (k9 (m7 K3)) D0))))) (k9 (m7 (a0V (T8 (u64 hr)) T5 (c5 (pv 2)) (EO.b (k0 (ac a9 (ac a9 b6)))) (w8 _))))))
abbrev a37:Stmt:=top 58
theorem u04:FnScope ["_law_a", "_law_b", "_law_share", "_law_x", "_law_y", "_law_far", "_law_high"] ["_law_a", "_law_b", "_law_share"] (m5 a37):=⟨rfl,rfl,rfl,by decide +kernel,rfl,by decide +kernel,by decide +kernel⟩
set_option maxHeartbeats 4000000 in
theorem b3P {mv:DFn}{ma:DFn}{me:DFn}{mj:DFn}{mJ:DFn}(Ci:Cal P w K mg base 2 "_law_spot" ["_law_x", "_law_y"] mv) (Ca:Cal P w K mg base 3 "_law_plus" ["_law_one", "_law_other"] ma) (Cc:Cal P w K mg base 3 "_law_product" ["_law_one", "_law_other"] me) (Cd:Cal P w K mg base 3 "_law_minus" ["_law_one", "_law_other"] mj) (Cm:Cal P w K mg base 3 "_law_xy" ["_law_spot_here"] mJ) {f:Addr}{fd:FuncData}(B:Blt mg) (F:GF K mg "_law_between" a37 f fd):Cal P w K mg base 4 "_law_between" ["_law_a", "_law_b", "_law_share"] (a3L mv ma me mj mJ):=
 o9 F (fun _ _ _ _ _ _=>on3 fun _ _ _=>rfl) u04 fun cdv A outer s H E g hr=>
  have nd:=u04.nd
  (i9 (N2 (k0 (ac (i7 Cm _ hr (by decide) (by rfl) (ac (c8 (pv 0)) b6) (c6 i8)) (ac (i7 Cm _ hr (by decide) (by rfl) (ac (c8 (pv 1)) b6) (c6 i8)) b6))) (D2 rfl (u5 (D2 rfl (u5 (p8 (n0 (i:=3) nd rfl (by first | exact Or.inl rfl | exact Or.inr rfl))) (u5 (p8 (n0 (i:=4) nd rfl (by first | exact Or.inl rfl | exact Or.inr rfl))) D1))) (u5 (D2 rfl (u5 (p8 (n0 (i:=5) nd rfl (by first | exact Or.inl rfl | exact Or.inr rfl))) (u5 (p8 (n0 (i:=6) nd rfl (by first | exact Or.inl rfl | exact Or.inr rfl))) D1))) D1)))) (i9 (l4 (i:=3) nd rfl (by first | exact Or.inl rfl | exact Or.inr rfl) (i7 Ca _ hr (by decide) (by rfl) (ac (c8 (pv 3)) (ac (i7 Cc _ hr (by decide) (by rfl) (ac (c8 (pv 2)) (ac (i7 Cd _ hr (by decide) (by rfl) (ac (c8 (pv 5)) (ac (c8 (pv 3)) b6)) (c6 (c6 i8))) b6)) (c6 (c6 i8))) b6)) (c6 (c6 i8)))) (k9 (m7 (i7 Ci _ hr (by decide) (by rfl) (ac (c8 (pv 3)) (ac (i7 Ca _ hr (by decide) (by rfl) (ac (c8 (pv 4)) (ac (i7 Cc _ hr (by decide) (by rfl) (ac (c8 (pv 2)) (ac (i7 Cd _ hr (by decide) (by rfl) (ac (c8 (pv 6)) (ac (c8 (pv 4)) b6)) (c6 (c6 i8))) b6)) (c6 (c6 i8))) b6)) (c6 (c6 i8))) b6)) (c6 (c6 i8)))))))
abbrev a3v:Stmt:=top 44
theorem u05:FnScope ["_law_one", "_law_other"] ["_law_one", "_law_other"] (m5 a3v):=⟨rfl,rfl,rfl,by decide +kernel,rfl,by decide +kernel,by decide +kernel⟩
set_option maxHeartbeats 4000000 in
theorem b0r {mq:DFn}(Cg:Cal P w K mg base 2 "_law_low" ["_law_top", "_law_bottom"] mq) {f:Addr}{fd:FuncData}(B:Blt mg) (F:GF K mg "_law_over" a3v f fd):Cal P w K mg base 3 "_law_over" ["_law_one", "_law_other"] (a2H mq):=
 o9 F (fun _ _ _ _ _ _=>on2 fun _ _=>rfl) u05 fun cdv A outer s H E g hr=>
  have nd:=u05.nd
  (k9 (m7 (i7 Cg _ hr (by decide) (by rfl) (ac (j8 o7 n8 (EO.b (j5 j3 j4 (c5 (pv 0)) (EO.b a9) (fun _ _=>rfl))) (EO.b (j5 j3 j4 (c5 (pv 1)) (EO.b a9) (fun _ _=>rfl)))) (ac (j8 o7 n8 (EO.b (j5 j3 j4 (c5 (pv 0)) (EO.b a9) (fun _ _=>rfl))) (EO.b (j5 j3 j4 (c5 (pv 1)) (EO.b a9) (fun _ _=>rfl)))) b6)) (c6 (c6 i8)))))
abbrev a2K:Stmt:=top 59
theorem u06:FnScope ["_law_line", "_law_sums_here", "_law_length", "_law_found", "_law_k", "_law_a", "_law_b", "_law_size_here"] ["_law_line", "_law_sums_here", "_law_length"] (m5 a2K):=⟨rfl,rfl,rfl,by decide +kernel,rfl,by decide +kernel,by decide +kernel⟩
set_option maxHeartbeats 4000000 in
theorem b4S {mm:DFn}{mY:DFn}{mZ:DFn}{mj:DFn}{mD:DFn}(Ce:Cal P w K mg base 1 "_law_below" ["_law_one", "_law_other"] mm) (C01:Cal P w K mg base 4 "_law_between" ["_law_a", "_law_b", "_law_share"] mY) (C02:Cal P w K mg base 3 "_law_over" ["_law_one", "_law_other"] mZ) (Cd:Cal P w K mg base 3 "_law_minus" ["_law_one", "_law_other"] mj) (Cs:Cal P w K mg base 1 "_law_pairs" ["_law_line"] mD) {f:Addr}{fd:FuncData}(B:Blt mg) (F:GF K mg "_law_at" a2K f fd):Cal P w K mg base 5 "_law_at" ["_law_line", "_law_sums_here", "_law_length"] (a5q mm mY mZ mj mD):=
 o9 F (fun _ _ _ _ _ _=>on3 fun _ _ _=>rfl) u06 fun cdv A outer s H E g hr=>
  have nd:=u06.nd
  (i9 (l4 (i:=3) nd rfl (by first | exact Or.inl rfl | exact Or.inr rfl) (j5 j3 j4 (EO.b (j5 j3 j4 (c5 (pv 0)) (EO.b a9) (fun _ _=>rfl))) (EO.b a9) (fun _ _=>rfl))) (i9 (b5p PassesOwn.never rfl (by rfl) B.enumerate (ac (i7 Cs _ hr (by decide) (by rfl) (ac (c8 (pv 0)) b6) (c6 i8)) b6) (D2 rfl (u5 (p8 (n0 (i:=4) nd rfl (by first | exact Or.inl rfl | exact Or.inr rfl))) (u5 (D2 rfl (u5 (p8 (n0 (i:=5) nd rfl (by first | exact Or.inl rfl | exact Or.inr rfl))) (u5 (p8 (n0 (i:=6) nd rfl (by first | exact Or.inl rfl | exact Or.inr rfl))) D1))) D1))) (k9 (C7 (E9 (EO.b (i7 Ce _ hr (by decide) (by rfl) (ac (j5 j3 j4 (c5 (pv 1)) (c5 (pv 4)) (fun _ _=>rfl)) (ac (c8 (pv 2)) b6)) (c6 (c6 i8))))) (i9 (l4 (i:=7) nd rfl (by first | exact Or.inl rfl | exact Or.inr rfl) (i7 Cd _ hr (by decide) (by rfl) (ac (j5 j3 j4 (c5 (pv 1)) (EO.b (j8 C3 C4 (c5 (pv 4)) (EO.b a9))) (fun _ _=>rfl)) (ac (j5 j3 j4 (c5 (pv 1)) (c5 (pv 4)) (fun _ _=>rfl)) b6)) (c6 (c6 i8)))) (k9 (l4 (i:=3) nd rfl (by first | exact Or.inl rfl | exact Or.inr rfl) (i7 C01 _ hr (by decide) (by rfl) (ac (c8 (pv 5)) (ac (c8 (pv 6)) (ac (i7 C02 _ hr (by decide) (by rfl) (ac (i7 Cd _ hr (by decide) (by rfl) (ac (c8 (pv 2)) (ac (j5 j3 j4 (c5 (pv 1)) (c5 (pv 4)) (fun _ _=>rfl)) b6)) (c6 (c6 i8))) (ac (c8 (pv 7)) b6)) (c6 (c6 i8))) b6))) (c6 (c6 (c6 i8))))))) D0))) (k9 (m7 (c8 (pv 3))))))
abbrev a3M:Stmt:=top 67
theorem u07:FnScope ["_law_tape", "_law_line", "_law_pattern", "_law_offset", "_law_sums_here", "_law_length", "_law_told", "_law_due", "_law_one", "_law_here", "_law_parts", "_law_part", "_law_mark"] ["_law_tape", "_law_line", "_law_pattern", "_law_offset"] (m5 a3M):=⟨rfl,rfl,rfl,by decide +kernel,rfl,by decide +kernel,by decide +kernel⟩
set_option maxHeartbeats 4000000 in
theorem b3G {mN:DFn}{mB:DFn}{mj:DFn}{mO:DFn}{mP:DFn}{ma:DFn}{mm:DFn}{mQ:DFn}{mt:DFn}{mM:DFn}{mR:DFn}{mE:DFn}(C03:Cal P w K mg base 5 "_law_at" ["_law_line", "_law_sums_here", "_law_length"] mN) (Cq:Cal P w K mg base 6 "_law_sums" ["_law_line"] mB) (Cd:Cal P w K mg base 3 "_law_minus" ["_law_one", "_law_other"] mj) (C04:Cal P w K mg base 10 "marks_of" ["line", "pattern", "offset"] mO) (C05:Cal P w K mg base 6 "_law_is_marked" ["_law_pattern", "_law_far"] mP) (Ca:Cal P w K mg base 3 "_law_plus" ["_law_one", "_law_other"] ma) (Ce:Cal P w K mg base 1 "_law_below" ["_law_one", "_law_other"] mm) (C06:Cal P w K mg base 4 "_law_asked" ["_law_tape", "_law_length", "_law_told"] mQ) (Cl:Cal P w K mg base 4 "_law_sum" ["_law_some"] mt) (CB:Cal P w K mg base 6 "_law_filled" ["_law_pattern", "_law_far"] mM) (C07:Cal P w K mg base 2 "_law_apart" ["_law_length", "_law_told"] mR) (Cv:Cal P w K mg base 9 "mark_lengths" ["line", "pattern", "offset"] mE) {f:Addr}{fd:FuncData}(B:Blt mg) (F:GF K mg "_law_right" a3M f fd):Cal P w K mg base 11 "_law_right" ["_law_tape", "_law_line", "_law_pattern", "_law_offset"] (a4Y mN mB mj mO mP ma mm mQ mt mM mR mE):=
 o9 F (fun _ _ _ _ _ _=>on4 fun _ _ _ _=>rfl) u07 fun cdv A outer s H E g hr=>
  have nd:=u07.nd
  (i9 (l4 (i:=4) nd rfl (by first | exact Or.inl rfl | exact Or.inr rfl) (i7 Cq _ hr (by decide) (by rfl) (ac (c8 (pv 1)) b6) (c6 i8))) (i9 (l4 (i:=5) nd rfl (by first | exact Or.inl rfl | exact Or.inr rfl) (j5 j3 j4 (c5 (pv 4)) (EO.b (D7 E3 E2 (EO.b a9))) (fun _ _=>rfl))) (i9 (l4 (i:=6) nd rfl (by first | exact Or.inl rfl | exact Or.inr rfl) (i7 Cv _ hr (by decide) (by rfl) (ac (c8 (pv 1)) (ac (c8 (pv 2)) (ac (c8 (pv 3)) b6))) (c6 (c6 (c6 i8))))) (i9 (C7 (W6 (E9 (EO.b (i7 C07 _ hr (by decide) (by rfl) (ac (c8 (pv 5)) (ac (c8 (pv 6)) b6)) (c6 (c6 i8)))))) (k9 (m7 K3)) D0) (i9 (l4 (i:=7) nd rfl (by first | exact Or.inl rfl | exact Or.inr rfl) (i7 Cd _ hr (by decide) (by rfl) (ac (i7 CB _ hr (by decide) (by rfl) (ac (c8 (pv 2)) (ac (i7 Ca _ hr (by decide) (by rfl) (ac (c8 (pv 3)) (ac (c8 (pv 5)) b6)) (c6 (c6 i8))) b6)) (c6 (c6 i8))) (ac (i7 CB _ hr (by decide) (by rfl) (ac (c8 (pv 2)) (ac (c8 (pv 3)) b6)) (c6 (c6 i8))) b6)) (c6 (c6 i8)))) (i9 (C7 (A9 (P9 (u64 hr)) S0 (EO.b (i7 Cl _ hr (by decide) (by rfl) (ac (FO.v (a0p (caps:=[]) (idx:=[]) rfl (Z3 (by rfl) .nil (by decide +kernel) rfl (by decide +kernel) (by rfl) .nil) (N8 (c8 (pv 6))) (show List.Nodup (["_law_begin", "_law_end"]:List Str) by decide +kernel) (fun _ _ _ _=>rfl) (fun _ _ _ _=>rfl) (fun _ _ _ _ _=>N6) (fun _ _ _ _ _=>(i7 Cd _ hr (by decide) (by rfl) (ac (c8 (pv 1)) (ac (c8 (pv 0)) b6)) (c6 (c6 i8)))))) b6) (c6 i8))) (c5 (pv 7)) (w8 _)) (k9 (m7 K3)) D0) (i9 (P4 PassesOwn.never rfl (i7 C06 _ hr (by decide) (by rfl) (ac (c8 (pv 0)) (ac (c8 (pv 5)) (ac (c8 (pv 6)) b6))) (c6 (c6 (c6 i8)))) (p8 (n0 (i:=8) nd rfl (by first | exact Or.inl rfl | exact Or.inr rfl))) (i9 (a19 (i:=9) nd rfl (by first | exact Or.inl rfl | exact Or.inr rfl) (b1i (caps:=["_law_one"]) (idx:=[8]) rfl (Z3 (by rfl) (.cons rfl .nil) (by decide +kernel) rfl (by decide +kernel) (by rfl) (.cons rfl (by first | exact Or.inl rfl | exact Or.inr rfl) (by first | exact Or.inl rfl | exact Or.inr rfl) .nil)) (N8 (c8 (pv 6))) (show List.Nodup (["_law_begin", "_law_end", "_law_one"]:List Str) by decide +kernel) (fun _ _ _ _=>rfl) (fun _ _ _ _=>rfl) (fun _ _ _ _ _=>(a4Q (WO.t (W1 (W6 (E9 (EO.b (i7 Ce _ hr (by decide) (by rfl) (ac (c8 (pv 2)) (ac (c8 (pv 0)) b6)) (c6 (c6 i8)))))) (X4 (W6 (E9 (EO.b (i7 Ce _ hr (by decide) (by rfl) (ac (c8 (pv 1)) (ac (c8 (pv 2)) b6)) (c6 (c6 i8))))))))))) (fun _ _ _ _ _=>a9))) (k9 (C7 (A9 (P9 (u64 hr)) S0 (EO.b (a0V (P9 (u64 hr)) S0 (c5 (pv 9)) (EO.b (FO.v (C6 b6))) (w8 _))) (EO.b (i7 C05 _ hr (by decide) (by rfl) (ac (c8 (pv 2)) (ac (i7 Ca _ hr (by decide) (by rfl) (ac (c8 (pv 3)) (ac (c8 (pv 8)) b6)) (c6 (c6 i8))) b6)) (c6 (c6 i8)))) (w8 _)) (k9 (m7 K3)) D0)))) (i9 (l4 (i:=10) nd rfl (by first | exact Or.inl rfl | exact Or.inr rfl) (i7 C04 _ hr (by decide) (by rfl) (ac (c8 (pv 1)) (ac (c8 (pv 2)) (ac (c8 (pv 3)) b6))) (c6 (c6 (c6 i8))))) (i9 (a6I PassesOwn.never rfl (by rfl) B.zip (ac (c8 (pv 10)) (ac (c8 (pv 6)) b6)) (D2 rfl (u5 (p8 (n0 (i:=11) nd rfl (by first | exact Or.inl rfl | exact Or.inr rfl))) (u5 (p8 (n0 (i:=12) nd rfl (by first | exact Or.inl rfl | exact Or.inr rfl))) D1))) (k9 (C7 (WO.t (a1P (A9 (P9 (u64 hr)) S0 (EO.b (j5 j3 j4 (EO.b (i7 Cq _ hr (by decide) (by rfl) (ac (c8 (pv 11)) b6) (c6 i8))) (EO.b (D7 E3 E2 (EO.b a9))) (fun _ _=>rfl))) (EO.b (i7 Cd _ hr (by decide) (by rfl) (ac (j5 j3 j4 (c5 (pv 12)) (EO.b a9) (fun _ _=>rfl)) (ac (j5 j3 j4 (c5 (pv 12)) (EO.b a9) (fun _ _=>rfl)) b6)) (c6 (c6 i8)))) (w8 _)) (a3b (A9 (P9 (u64 hr)) S0 (EO.b (j5 j3 j4 (EO.b (j5 j3 j4 (c5 (pv 11)) (EO.b a9) (fun _ _=>rfl))) (EO.b a9) (fun _ _=>rfl))) (EO.b (i7 C03 _ hr (by decide) (by rfl) (ac (c8 (pv 1)) (ac (c8 (pv 4)) (ac (j5 j3 j4 (c5 (pv 12)) (EO.b a9) (fun _ _=>rfl)) b6))) (c6 (c6 (c6 i8))))) (w8 _))))) (k9 (m7 K3)) D0))) (k9 (m7 (a0V (T8 (u64 hr)) T5 (EO.b (F2 J5 K2 (by rfl) B.len K1 (bc (c5 (pv 10)) B5))) (EO.b (F2 J5 K2 (by rfl) B.len K1 (bc (c5 (pv 6)) B5))) (w8 _)))))))))))))
abbrev a2B:Stmt:=top 68
theorem u08:FnScope ["_law_script", "_law_tape", "_law_k", "_law_line", "_law_pattern", "_law_offset"] ["_law_script"] (m5 a2B):=⟨rfl,rfl,rfl,by decide +kernel,rfl,by decide +kernel,by decide +kernel⟩
set_option maxHeartbeats 4000000 in
theorem a9H {m04:DFn}{m05:DFn}{mB:DFn}{m06:DFn}{m07:DFn}(C08:Cal P w K mg base 11 "_law_right" ["_law_tape", "_law_line", "_law_pattern", "_law_offset"] m04) (C09:Cal P w K mg base 4 "_law_shares" ["_law_tape", "_law_length"] m05) (Cq:Cal P w K mg base 6 "_law_sums" ["_law_line"] mB) (C0a:Cal P w K mg base 5 "_law_exact" ["_law_tape", "_law_most"] m06) (C0b:Cal P w K mg base 1 "_law_new_tape" ["_law_script"] m07) {f:Addr}{fd:FuncData}(B:Blt mg) (F:Fun K "law" "law" a2B f fd):FnD P w K mg base 12 f fd ["_law_script"] (a3l m04 m05 mB m06 m07):=
 a8x F u08 fun cdv A outer s H E g hr=>
  have nd:=u08.nd
  (i9 (l4 (i:=1) nd rfl (by first | exact Or.inl rfl | exact Or.inr rfl) (i7 C0b _ hr (by decide) (by rfl) (ac (c8 (pv 0)) b6) (c6 i8))) (i9 (a0K PassesOwn.never rfl (by rfl) B.range a9 (p8 (n0 (i:=2) nd rfl (by first | exact Or.inl rfl | exact Or.inr rfl))) (i9 (l4 (i:=3) nd rfl (by first | exact Or.inl rfl | exact Or.inr rfl) (i7 C0a _ hr (by decide) (by rfl) (ac (c8 (pv 1)) (ac a9 b6)) (c6 (c6 i8)))) (i9 (N2 (i7 C09 _ hr (by decide) (by rfl) (ac (c8 (pv 1)) (ac (j5 j3 j4 (EO.b (i7 Cq _ hr (by decide) (by rfl) (ac (c8 (pv 3)) b6) (c6 i8))) (EO.b (D7 E3 E2 (EO.b a9))) (fun _ _=>rfl)) b6)) (c6 (c6 i8))) (D2 rfl (u5 (p8 (n0 (i:=4) nd rfl (by first | exact Or.inl rfl | exact Or.inr rfl))) (u5 (p8 (n0 (i:=5) nd rfl (by first | exact Or.inl rfl | exact Or.inr rfl))) D1)))) (k9 (C7 (W6 (E9 (EO.b (i7 C08 _ hr (by decide) (by rfl) (ac (c8 (pv 1)) (ac (c8 (pv 3)) (ac (c8 (pv 4)) (ac (c8 (pv 5)) b6)))) (c6 (c6 (c6 (c6 i8)))))))) (k9 (m7 K3)) D0))))) (k9 (m7 K3))))
end
abbrev whole:DFn:=(a3l (a4Y (a5q t7 (a3L (a0n v4) (G2 (v8 v4)) (M2 (v8 v4)) (N0 (v8 v4)) (a0y (v8 v4))) (a2H (v8 v4)) (N0 (v8 v4)) J0) (a1N (G2 (v8 v4)) (a1B W0 (a1Z (G2 (v8 v4)) (M2 (v8 v4)) (N0 (v8 v4)) (a0y (v8 v4)))) J0) (N0 (v8 v4)) (a2q (a1O B4 (a1R B4) (a1T B4) (L4 A3) (a1G (a0X (L4 A3)) (a11 (Q4 (P0 (G7 A3)))) (a10 (L4 A3))) (a1Y (Y2 (L4 A3) (a0c (X7 R0) (W4 (Q0 L9)) (S3 (Q4 (P0 (G7 A3)))))))) (a2G (a5j (a4z (P0 (G7 A3))) (Q4 (P0 (G7 A3))) (a0X (L4 A3)) (X7 R0) B4 (Y2 (L4 A3) (a0c (X7 R0) (W4 (Q0 L9)) (S3 (Q4 (P0 (G7 A3))))))) B4 (Y2 (L4 A3) (a0c (X7 R0) (W4 (Q0 L9)) (S3 (Q4 (P0 (G7 A3)))))))) (a5i (N0 (v8 v4)) t7 (a13 (N0 (v8 v4)) (M2 (v8 v4)) (a0k (G2 (v8 v4))))) (G2 (v8 v4)) t7 (a4O t7 (M2 (v8 v4)) (G2 (v8 v4)) N5) (a0k (G2 (v8 v4))) (a3q (N0 (v8 v4)) (G2 (v8 v4)) t7 (M2 (v8 v4)) (a0k (G2 (v8 v4))) (a13 (N0 (v8 v4)) (M2 (v8 v4)) (a0k (G2 (v8 v4))))) (a2V t7) (a1O B4 (a1R B4) (a1T B4) (L4 A3) (a1G (a0X (L4 A3)) (a11 (Q4 (P0 (G7 A3)))) (a10 (L4 A3))) (a1Y (Y2 (L4 A3) (a0c (X7 R0) (W4 (Q0 L9)) (S3 (Q4 (P0 (G7 A3))))))))) (a4g (M2 (v8 v4)) N5) (a1N (G2 (v8 v4)) (a1B W0 (a1Z (G2 (v8 v4)) (M2 (v8 v4)) (N0 (v8 v4)) (a0y (v8 v4)))) J0) (a4N N5 (a4y (a0n v4) (G2 (v8 v4)) (M2 (v8 v4)) (a1o N5) N5) (a2P (a0n v4) (G2 (v8 v4)) (M2 (v8 v4)) N5 (a1o N5) (a3t N5))) W9)
set_option maxHeartbeats 4000000 in
theorem all_mk {l:PySem.W.OpenLaw}{w:World}{K:PySem.W.Frag}{h:Heap}{mg:Str→Option Value}{fa:Addr}(X:K.In h) (G:h.Ns mainGlobals mg) (hfa:mg "law" = some (.ref fa)) {f1 f2 f3 f4 f5 f6 f7 f8 f9 f10 f11 f12 f13 f14 f15 f16 f17 f18 f19 f20 f21 f22 f23 f24 f25 f26 f27 f28 f29 f30 f31 f32 f33 f34 f35 f36 f37 f38 f39 f40 f41 f42 f43 f44 f45 f46 f47 f48 f49 f50 f51 f52 f53 f54 f55 f56 f57 f58:Addr}{d1 d2 d3 d4 d5 d6 d7 d8 d9 d10 d11 d12 d13 d14 d15 d16 d17 d18 d19 d20 d21 d22 d23 d24 d25 d26 d27 d28 d29 d30 d31 d32 d33 d34 d35 d36 d37 d38 d39 d40 d41 d42 d43 d44 d45 d46 d47 d48 d49 d50 d51 d52 d53 d54 d55 d56 d57 d58:FuncData}{t_MOST_MARKS_1:Tok}
  (g1:GF K mg "_law_new_tape" a5o f1 d1)
  (g2:GF K mg "_law_draw" a3N f2 d2)
  (g3:GF K mg "_law_start" a4V f3 d3)
  (g4:GF K mg "_law_divisor" a2p f4 d4)
  (g5:GF K mg "_law_low" a2R f5 d5)
  (g6:GF K mg "_law_product" a3d f6 d6)
  (g7:GF K mg "_law_spot" a4o f7 d7)
  (g8:GF K mg "_law_plus" a4R f8 d8)
  (g9:GF K mg "_law_closed" a35 f9 d9)
  (g10:GF K mg "_law_menu" a4W f10 d10)
  (g11:GF K mg "_law_open" a49 f11 d11)
  (g12:GF K mg "_law_exact" a2z f12 d12)
  (g13:GF K mg "_law_shares" a24 f13 d13)
  (g14:GF K mg "_law_pairs" a2D f14 d14)
  (g15:GF K mg "_law_xy" a4P f15 d15)
  (g16:GF K mg "_law_minus" a2Z f16 d16)
  (g17:GF K mg "_law_square" a2E f17 d17)
  (g18:GF K mg "_law_root" a4C f18 d18)
  (g19:GF K mg "_law_size" a2J f19 d19)
  (g20:GF K mg "_law_sums" a3Y f20 d20)
  (g21:GF K mg "above_root" a2Q f21 d21)
  (g22:GF K mg "root_below" a5r f22 d22)
  (g23:GF K mg "root" a4w f23 d23)
  (g24:GF K mg "divisor_of_two" a4J f24 d24)
  (g25:GF K mg "divisor" a2s f25 d25)
  (g26:GF K mg "lowest" a3k f26 d26)
  (g27:GF K mg "fraction" a40 f27 d27)
  (g28:GF K mg "squared" a2S f28 d28)
  (g29:GF K mg "neighbours" a2C f29 d29)
  (g30:GF K mg "pieces" a4Z f30 d30)
  (g31:GF K mg "lengths" a5n f31 d31)
  (g32:GF K mg "plus" a4v f32 d32)
  (g33:GF K mg "stations" a4T f33 d33)
  (g34:GF K mg "line_length" a3J f34 d34)
  (g35:GF K mg "sum_of" a2A f35 d35)
  (g36:GF K mg "less" a2n f36 d36)
  (g37:GF K mg "times" a2L f37 d37)
  (g38:GF K mg "first_begin" a3j f38 d38)
  (g39:GF K mg "is_below" a38 f39 d39)
  (g40:GF K mg "greater_of" a5m f40 d40)
  (g41:GF K mg "lesser_of" a3u f41 d41)
  (g42:GF K mg "mark_lengths" a4H f42 d42)
  (g43:GF K mg "_law_below" a32 f43 d43)
  (g44:GF K mg "_law_asked" a3g f44 d44)
  (g45:GF K mg "between" a5p f45 d45)
  (g46:GF K mg "place_at" a28 f46 d46)
  (g47:GF K mg "part_of" a4M f47 d47)
  (g48:GF K mg "marks_of" a4q f48 d48)
  (g49:GF K mg "_law_apart" a3A f49 d49)
  (g50:GF K mg "_law_sum" a4p f50 d50)
  (g51:GF K mg "_law_rest" a26 f51 d51)
  (g52:GF K mg "_law_filled" a3O f52 d52)
  (g53:GF K mg "_law_is_marked" a2r f53 d53)
  (g54:GF K mg "_law_between" a37 f54 d54)
  (g55:GF K mg "_law_over" a3v f55 d55)
  (g56:GF K mg "_law_at" a2K f56 d56)
  (g57:GF K mg "_law_right" a3M f57 d57)
  (g58:GF K mg "law" a2B f58 d58)
  (g_MOST_MARKS:PySem.W.nsIn K mainGlobals "MOST_MARKS" = some (some (.int 200 t_MOST_MARKS_1)))
  (B:Blt mg) :
  ∃ fd:FuncData,(∀ (s:Shared) (v:Value),BindsTo s fd ⟨[v],[]⟩ [("_law_script",v)])∧∀ base:Heap,K.In base→base.Ns mainGlobals mg→FnOk l.prog w K mg base CX0 12 fa fd ["_law_script"] (spD K 1 whole):=by
 have e:=hfa.symm.trans g58.m
 cases e
 refine⟨d58,b0b g58.F fun _ _ _ _ _ _ _ _=>.of_eq rfl,fun base _ _=>?_⟩
 have CY:Con K mg "MOST_MARKS" (.int 200):=⟨_,PySem.W.mg_of X G g_MOST_MARKS,(b5O _ _)⟩
 have C0b:=b4y (P:=l.prog) (w:=w) (base:=base) B g1
 have Cb:=a9x (P:=l.prog) (w:=w) (base:=base) B g2
 have Cr:=b26 Cb B g3
 have Cn:=a9p (P:=l.prog) (w:=w) (base:=base) B g4
 have Cg:=a8R Cn B g5
 have Cc:=b36 Cg B g6
 have Ci:=b30 Cn B g7
 have Ca:=b4R Cg B g8
 have CD:=a9q Ci Ca Cc Cr Cb B g9
 have CC:=b4h Cb B g10
 have CF:=b3A Ci Ca Cc Cb Cr CC B g11
 have C0a:=b19 Cb CD CF B g12
 have C09:=b5o Cc Cb B g13
 have Cs:=a8T (P:=l.prog) (w:=w) (base:=base) B g14
 have Cm:=a80 Cg B g15
 have Cd:=b2M Cg B g16
 have CG:=b2J Ca Cc Cd Cm B g17
 have Cy:=b0g (P:=l.prog) (w:=w) (base:=base) B g18
 have CH:=b1b Cy CG B g19
 have Cq:=a92 Ca CH Cs B g20
 have CJ:=b0a (P:=l.prog) (w:=w) (base:=base) B g21
 have Cz:=b1w CJ B g22
 have CM:=b2h Cz B g23
 have Co:=b2b (P:=l.prog) (w:=w) (base:=base) B g24
 have CK:=b0l Co B g25
 have Ct:=b3x CK B g26
 have Cj:=b3E Ct B g27
 have CN:=b3J Cj B g28
 have CL:=a86 (P:=l.prog) (w:=w) (base:=base) B g29
 have Cu:=a9O CL B g30
 have CP:=a9W Cu CM CN B g31
 have Ch:=b5f Co B g32
 have Ck:=b4M Ch CP B g33
 have CW:=b17 Ck B g34
 have CS:=b1y Ch B g35
 have Cp:=b3D Ch B g36
 have CQ:=a9n Cj B g37
 have CV:=b44 Cp CQ CS B g38
 have Cf:=b1k (P:=l.prog) (w:=w) (base:=base) B g39
 have CU:=b2y Cf B g40
 have CT:=b3w Cf B g41
 have Cv:=b2j Cf CT CU Ch CV CW CY B g42
 have Ce:=b2B (P:=l.prog) (w:=w) (base:=base) B g43
 have C06:=b2U Ce Cc Ca Cb B g44
 have CZ:=b3H Ct B g45
 have CA:=a9t CZ Cj Cp Cu Cf Ck B g46
 have C00:=b1Y CA Cf Ck B g47
 have C04:=b3M Cv C00 B g48
 have C07:=a95 Ce B g49
 have Cl:=b2s Ca B g50
 have Cw:=b1j Cd Cc Cl B g51
 have CB:=a9d Cd Ca Ce Cc Cl Cw B g52
 have C05:=b20 Cd Ce Cw B g53
 have C01:=b3P Ci Ca Cc Cd Cm B g54
 have C02:=b0r Cg B g55
 have C03:=b4S Ce C01 C02 Cd Cs B g56
 have C08:=b3G C03 Cq Cd C04 C05 Ca Ce C06 Cl CB C07 Cv B g57
 exact a9H C08 C09 Cq C0a C0b B g58.F
end T

open PySem PySem.W PyProof.Rows
set_option maxRecDepth 100000 in
set_option maxHeartbeats 0 in
theorem PySem.Challenge.cw_widelines_k45_whole_marks_share_by_share_holds : PySem.Challenge.rw_widelines_k45_whole_marks_share_by_share.Holds := by
 w_on; o_law; k_head; (case hw=>w_witness2)
 k_fill
 refine DL.walkD (l:=PySem.Challenge.rw_widelines_k45_whole_marks_share_by_share) (m:=T.whole) (k:=12) rfl rfl ⟨rfl,by decide,by decide,rfl⟩ (fun w h Y=>PySem.W.kIn_of Y) ?F T.math
 case F=>
  intro w mg fa h KX G hmg
  refine' T.all_mk KX G hmg (DL.gf_mk KX G ?_ ?_ ?_ ?_) (DL.gf_mk KX G ?_ ?_ ?_ ?_) (DL.gf_mk KX G ?_ ?_ ?_ ?_) (DL.gf_mk KX G ?_ ?_ ?_ ?_) (DL.gf_mk KX G ?_ ?_ ?_ ?_) (DL.gf_mk KX G ?_ ?_ ?_ ?_) (DL.gf_mk KX G ?_ ?_ ?_ ?_) (DL.gf_mk KX G ?_ ?_ ?_ ?_) (DL.gf_mk KX G ?_ ?_ ?_ ?_) (DL.gf_mk KX G ?_ ?_ ?_ ?_) (DL.gf_mk KX G ?_ ?_ ?_ ?_) (DL.gf_mk KX G ?_ ?_ ?_ ?_) (DL.gf_mk KX G ?_ ?_ ?_ ?_) (DL.gf_mk KX G ?_ ?_ ?_ ?_) (DL.gf_mk KX G ?_ ?_ ?_ ?_) (DL.gf_mk KX G ?_ ?_ ?_ ?_) (DL.gf_mk KX G ?_ ?_ ?_ ?_) (DL.gf_mk KX G ?_ ?_ ?_ ?_) (DL.gf_mk KX G ?_ ?_ ?_ ?_) (DL.gf_mk KX G ?_ ?_ ?_ ?_) (DL.gf_mk KX G ?_ ?_ ?_ ?_) (DL.gf_mk KX G ?_ ?_ ?_ ?_) (DL.gf_mk KX G ?_ ?_ ?_ ?_) (DL.gf_mk KX G ?_ ?_ ?_ ?_) (DL.gf_mk KX G ?_ ?_ ?_ ?_) (DL.gf_mk KX G ?_ ?_ ?_ ?_) (DL.gf_mk KX G ?_ ?_ ?_ ?_) (DL.gf_mk KX G ?_ ?_ ?_ ?_) (DL.gf_mk KX G ?_ ?_ ?_ ?_) (DL.gf_mk KX G ?_ ?_ ?_ ?_) (DL.gf_mk KX G ?_ ?_ ?_ ?_) (DL.gf_mk KX G ?_ ?_ ?_ ?_) (DL.gf_mk KX G ?_ ?_ ?_ ?_) (DL.gf_mk KX G ?_ ?_ ?_ ?_) (DL.gf_mk KX G ?_ ?_ ?_ ?_) (DL.gf_mk KX G ?_ ?_ ?_ ?_) (DL.gf_mk KX G ?_ ?_ ?_ ?_) (DL.gf_mk KX G ?_ ?_ ?_ ?_) (DL.gf_mk KX G ?_ ?_ ?_ ?_) (DL.gf_mk KX G ?_ ?_ ?_ ?_) (DL.gf_mk KX G ?_ ?_ ?_ ?_) (DL.gf_mk KX G ?_ ?_ ?_ ?_) (DL.gf_mk KX G ?_ ?_ ?_ ?_) (DL.gf_mk KX G ?_ ?_ ?_ ?_) (DL.gf_mk KX G ?_ ?_ ?_ ?_) (DL.gf_mk KX G ?_ ?_ ?_ ?_) (DL.gf_mk KX G ?_ ?_ ?_ ?_) (DL.gf_mk KX G ?_ ?_ ?_ ?_) (DL.gf_mk KX G ?_ ?_ ?_ ?_) (DL.gf_mk KX G ?_ ?_ ?_ ?_) (DL.gf_mk KX G ?_ ?_ ?_ ?_) (DL.gf_mk KX G ?_ ?_ ?_ ?_) (DL.gf_mk KX G ?_ ?_ ?_ ?_) (DL.gf_mk KX G ?_ ?_ ?_ ?_) (DL.gf_mk KX G ?_ ?_ ?_ ?_) (DL.gf_mk KX G ?_ ?_ ?_ ?_) (DL.gf_mk KX G ?_ ?_ ?_ ?_) (DL.gf_mk KX G ?_ ?_ ?_ ?_) ?_ (DL.blt_mk KX G ?_ ?_ ?_ ?_ ?_ ?_ ?_ ?_ ?_ ?_ ?_ ?_ ?_ ?_ ?_ ?_ ?_ ?_ ?_)
  all_goals try k_is
