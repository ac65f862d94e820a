import PyProof.Rows.All
import Wide.All
import OpenK.AllK
import Wide.FinOn
import Lean
import PyProof.EqAt
import PyProof.EqKinds
import PyProof.TupleCall
import PySem.Challenge.RW_widelines_k31_papers_of_two_judged
inductive PySem.W.Fast|tw11804748469184337954|tw12697422688282173686|tw2930290137187668907|tw8557117464997647985|tw8079663397268068571|tw11574465451034421579|tw12148594035047677803|tw3508083885100003722|tw840399996153347350|tw18264650267527726596|tw6146312793631653751|tw17212752397352934900|tw5207216843673420734|tw4825161970620062965|tw14777266286433660937|tw5621993264762861019|tw6823185515324967841|tw6648809676880231405|tw10424541204615839679|tw14314374845435134078|tw8576597053338821828|tw17405595428108185378|tw14566785021831772036|tw6618227642940399106|tw13121373393849411209|tw6200381210745839776|tw5879995188607059479|tw7223643014925038|tw14423445896218031529|tw14720608656036533938|tw441351849076172802|tw11982048816450891162|tw11602129069022521875|tw4426872922416992451|tw4349846641743493177|tw6159844339530438031|tw11719436227742819346|tw12911061416786726903|tw2725107211225894290|tw16450807621745830903|tw8192585152482371191|tw13528375025816236802|tw13066888754616456303|tw17420641627026819548|tw10668838462607265745|tw2363916674907929703|tw3017390651474285254|tw9747834949590257652|tw8507206494891621178|tw4576977592482862642|tw5783598492829674203|tw2319526277165400813|tw1218885664122283964|tw13188925097830359481|tw12469704436534991619|tw14158867477513797071|tw16670577672383743518|tw17478677787888263103|tw7972778273738644937|tw7464935870535297726|tw97418900738879795|tw14220082492400670758|tw5028095026617760373|tw16621924145056403282|tw7683414080295019499|tw4845093583988182571|tw17759059270962598345|tw13154696100270921060|tw10940171093703387307|tw13063305059101831163|tw956967103047435383|tw11524581489727257814|tw4365554532610201670|tw14874474286450321854|tw4595839554427277436|tw1859476806999119714|tw3907225567058989163|tw13821272392082698281|tw4987925543565073666|tw17912768398109755795|tw18379754604518909749|tw15315575277520880456|tw15847819805940678541|tw17309638380763830292|tw10750357043339679317|tw5810326714618039668|tw1536988184956405117|tw37966627783589088|tw10516210933679480063|tw1610592412651589297
local macro_rules | `(tactic| omega) => `(tactic| first | with_reducible assumption | decide | omega +splitMinMax)
theorem PySem.W.Fast.te12697422688282173686 : True := True.intro
set_option Elab.async false
set_option linter.all false
set_option maxRecDepth 100000
set_option bootstrap.genMatcherCode false
set_option genSizeOf false
set_option autoImplicit true
set_option relaxedAutoImplicit true
set_option maxHeartbeats 4000000
noncomputable section
section
set_option compiler.extract_closed false
set_option hygiene false in
local macro_rules | `(tactic|simp! [$a,*])=>`(tactic|simp[Wk,Wl,a7,a8,a9,d6,d9,dB,dC,dL,dV,f9,i7,i8,i9,j4,j5,j6,j7,j8,j9,k6,l5,l7,l8,n8,n9,o6,o8,o9,one,p9,r8,t6,u4,u6,u7,u9,v7,v8,w4,$a,*])
set_option hygiene false in
local macro_rules | `(tactic|simp! [])=>`(tactic|simp[Wk,Wl,a7,a8,a9,d6,d9,dB,dC,dL,dV,f9,i7,i8,i9,j4,j5,j6,j7,j8,j9,k6,l5,l7,l8,n8,n9,o6,o8,o9,one,p9,r8,t6,u4,u6,u7,u9,v7,v8,w4])
set_option hygiene false in
local macro_rules | `(tactic|simp! only [$a,*])=>`(tactic|simp[F6,G7,G9,U7,W0,Wk,Wl,a7,a8,a9,d6,d9,dB,dC,dJ,dL,dV,f9,fg,i7,i8,i9,j4,j5,j7,j8,j9,jb,k6,k9,kS,l5,n8,one,u7,u9,v7,$a,*])
set_option hygiene false in
local macro_rules | `(tactic|simp! only [])=>`(tactic|simp[F6,G7,G9,U7,W0,Wk,Wl,a7,a8,a9,d6,d9,dB,dC,dJ,dL,dV,f9,fg,i7,i8,i9,j4,j5,j7,j8,j9,jb,k6,k9,kS,l5,n8,one,u7,u9,v7])
local macro_rules | `(∅)=>`(by omega)
local macro_rules | `(#v[$a,*])=>`(List.toArray [$a,*])
local macro_rules | `(#[])=>`(by decide) | `(#[$a,*])=>`(⟨$a,*⟩)
set_option hygiene false in
local macro_rules | `('a')=>`(by first | exact Or.inl rfl | exact Or.inr rfl) | `('b')=>`(.tup (Os.map c7)) | `('c')=>`(.tup (Ss.map c7)) | `('d')=>`(model prog w) | `('e')=>`(d8 rfl rfl rfl) | `('f')=>`(model X.prog X.w) | `('g')=>`(by simp) | `('h')=>`(by decide +kernel) | `('i')=>`(by rfl) | `('j')=>`(.ref C) | `('k')=>`(B2 X N' scope cl C s0 H0 ex) | `('l')=>`(by grind) | `('m')=>`(.tup ds) | `('n')=>`(i9 (one j6) (a7 (dL 0) a8)) | `('o')=>`(a7 (dV 0) a8) | `('p')=>`(.ListComp elt [#[tg,iter,ifs,0]] scope pos) | `('q')=>`(((sIx items.size 0 lo:Nat):Int) == 0&&(1:Int) == 1&&(sIx items.size items.size hi - sIx items.size 0 lo) == items.size) | `('r')=>`(K.map pt) | `('s')=>`(dL 1) | `('t')=>`(i8 (dC (.bl false))) | `('u')=>`(.int (i:Int)) | `('v')=>`(.v (.int (u3 (b9 a b u)))) | `('w')=>`(PySem.W.fnOf n n (aI st) (Q9 st) (D4 st) .none kV doc pm an cdv ct) | `('x')=>`(backTo pos (starEach es X.env))
def gV:=@PySem.wpAny_bind
def iR:=@if_pos
def iU:=@if_neg
def td:=@PySem.wpAny_pure
def tx:=@Nat.le_refl
def xo:=@List.mem_cons
def xu:=@Option.bind_some
def Pz:=@List.mem_cons_of_mem
def PB:=@PySem.Heap.lt_size
def PD:=@List.mem_cons_self
def PF:=@PySem.Heap.get?_push_of_some
def PH:=@List.length_map
def PJ:=@Nat.le_trans
def PL:=@Bool.false_ne_true
def PM:=@List.map_cons
def PN:=@Rat.mul_nonneg
def PQ:=@List.mem_append
def PR:=@Rat.mul_pos
def PU:=@decide_eq_true
def PV:=@List.mem_singleton
def PX:=@List.length_cons
def PY:=@decide_eq_false
def PZ:=@PySem.wpAny_field
def Qa:=@Prod.mk.injEq
def Qb:=@Nat.lt_of_lt_of_le
def Qc:=@List.size_toArray
def Qd:=@Ne.symm
def Qe:=@Bool.and_eq_true
def Qf:=@List.getElem?_eq_getElem
def Qg:=@PySem.wpAny_mono
def Qh:=@List.mem_map
def Qi:=@Option.some.inj
def Qj:=@List.not_mem_nil
def Qk:=@or_false
def Ql:=@Nat.ne_of_lt
def Qm:=@Prod.ext
def Qn:=@List.length_drop
def Qo:=@List.length_append
def Qp:=@Bool.not_eq_true
def Qq:=@PySem.Heap.get?_push_size
def Qr:=@List.getElem?_eq_some_iff
def Qs:=@if_true
def Qt:=@Option.some.injEq
def Qu:=@List.mem_append_right
def Qv:=@PySem.W.mg_none_of
def Qw:=@Rat.intCast_mul
def Qx:=@Nat.zero_le
def Qy:=@List.getElem?_map
def Qz:=@Nat.lt_of_le_of_lt
def QA:=@Rat.mul_eq_zero
def QB:=@List.append_nil
def QC:=@List.all_eq_true
def QD:=@PySem.wpAny_loadPart_at
def QE:=@List.nodup_cons
def QF:=@PySem.wpAny_call_entry
def QG:=@Rat.div_def
def QH:=@List.mem_append_left
def QI:=@Nat.ne_of_gt
def QJ:=@PySem.F.slot_zip_next
def QK:=@Nat.lt_irrefl
def QL:=@PySem.Heap.get?_update_other
def QM:=@Bool.and_self
def QN:=@Nat.mod_lt
def QO:=@Rat.le_of_lt
def QP:=@PySem.wpAny_holding
def QQ:=@PySem.wpAny_newObj_type
def QR:=@PySem.sizeLine_eq
def QS:=@List.length_take
def QT:=@Int.toNat_natCast
def QU:=@if_false
def QV:=@PySem.wpAny_callSpecial?_slot
def QW:=@List.nil_append
def QX:=@Rat.le_refl
def QY:=@PySem.wpAny_rule
def QZ:=@PyProof.Rows.slot_tuple_getitem
def Ra:=@List.set_cons_succ
def Rb:=@of_decide_eq_true
def Rf:=@Bool.true_and
def Rg:=@PySem.wpAny_seqItems
def Rh:=@Nat.le_of_lt
def Ri:=@PySem.Heap.get?_update_self
def Rj:=@List.map_nil
def Rk:=@decide_eq_true_eq
def Rl:=@List.getElem_mem
def Rm:=@Rat.zero_mul
def Rn:=@PySem.wpAny_truthy_bool
def Ro:=@Bool.false_and
def Rp:=@List.getElem?_append_right
def Rq:=@List.getElem?_append_left
def Rr:=@List.mem_of_getElem?
def Rt:=@Nat.add_comm
def Ru:=@List.getElem?_of_mem
def Rv:=@PySem.W.looks_findIn
def Rw:=@List.pairwise_cons
def Ry:=@Nat.zero_add
def RB:=@Rat.not_le
def RC:=@Bool.eq_iff_iff
def RD:=@PySem.wpAny_Call_Name_kw
def RE:=@PySem.wpAny_typeOf
def RF:=@List.reverse_cons
def RG:=@List.length_singleton
def RH:=@PySem.Heap.size_push
def RI:=@Option.bind_eq_some_iff
def RJ:=@List.set_cons_zero
def RK:=@PySem.wpAny_setField_rec
def RL:=@Bool.false_eq_true
def RM:=@PySem.wpAny_attempt
def RN:=@List.length_nil
def RO:=@Rat.divInt_eq_div
def RP:=@Rat.intCast_sub
def RQ:=@Rat.not_lt
def RR:=@Rat.mul_zero
def RS:=@List.mem_range
def RT:=@List.filterMap_cons
def RU:=@List.getElem?_set_ne
def RV:=@PySem.wpAny_Name
def RW:=@PySem.wpAny_standAt
def RX:=@PySem.wpAny_passesOwn
def RY:=@List.of_mem_zip
def RZ:=@List.replicate_succ
def Sa:=@List.foldl_cons
def Sb:=@PySem.W.kia_one
def Sd:=@Rat.one_mul
def Se:=@List.all_cons
def Sf:=@Nat.mod_eq_of_lt
def Sg:=@and_true
def Sh:=@true_and
def Si:=@PySem.PassesOwn.never
def Sj:=@List.getElem?_set_self
def Sk:=@PySem.wpAny_execs_nil
def Sm:=@PyProof.Rows.callWith_type1
def Sn:=@PyProof.Rows.slicePart_none
def So:=@List.append_assoc
def Sr:=@PySem.SeqAt.canLay_of_shaped
def Su:=@PySem.wpAny_setField
def Sv:=@PySem.F.entry_zip_next
def Sw:=@PySem.F.args_zip_next_1
def Sx:=@Array.getElem?_eq_getElem
def Sy:=@PySem.F.slot_zip_iter
def SA:=@List.getElem?_zip_eq_some
def SD:=@Int.le_refl
def SE:=@List.any_cons
def SG:=@Rat.lt_irrefl
def SH:=@List.take_append_drop
def SI:=@Classical.byContradiction
def SJ:=@Rat.inv_pos
def SK:=@PySem.wpAny_loadName_local
def SM:=@PySem.wpAny_call
def SN:=@PySem.codeAny_mono
def SQ:=@PySem.mem_of_lookup
def SR:=@List.flatten_cons
def SS:=@Nat.le_succ
def SU:=@List.getElem?_cons_succ
def SV:=@PySem.wpAny_pyIter_tuple
def SW:=@Nat.sub_zero
def SX:=@Nat.min_le_left
def SY:=@PySem.Obj.data_mapFields
def Ta:=@PySem.wpAny_onRaise
def Tb:=@Nat.min_eq_left
def Tc:=@PySem.W.mg_of
def Td:=@PySem.W.looks_subIn
def Te:=@Bool.beq_eq_decide_eq
def Tf:=@Rat.intCast_eq_zero_iff
def Tg:=@Int.natCast_mul
def Ti:=@Int.mul_comm
def Tj:=@decide_eq_true_iff
def Tn:=@Rat.le_total
def Tp:=@List.mem_of_mem_drop
def Tq:=@List.mem_reverse
def Tr:=@List.getLast?_cons_cons
def Ts:=@Nat.mul_le_mul
def Tt:=@List.map_append
def Tu:=@List.getElem?_drop
def Tv:=@Nat.mod_self
def Tw:=@Nat.mod_add_mod
def Tx:=@Rat.mul_assoc
def Tz:=@List.flatMap_cons
def TB:=@Int.zero_add
def TC:=@List.mem_filter
def TF:=@Array.length_toList
def TH:=@PySem.wpAny_execs_cons
def TJ:=@PySem.wpAny_bindName
def TK:=@List.getElem?_take_of_lt
def TL:=@PySem.wpAny_sequenceKey
def TM:=@PyProof.Rows.entry_tuple_getitem
def TN:=@PyProof.Rows.args_tuple_getitem
def TQ:=@Nat.le_of_not_lt
def TR:=@Nat.le_of_eq
def TU:=@Option.map_eq_some_iff
def TV:=@List.nodup_nil
def TX:=@List.drop_zero
def TY:=@PySem.F.slot_tuple_iterator_next
def TZ:=@PySem.Obj.isFreed_of_fields
def Ua:=@List.forIn_cons
def Ub:=@List.forIn_nil
def Ud:=@PySem.wpAny_letGo
def Ue:=@PySem.wpAny_isInstance
def Ug:=@PySem.isSubtype_stop
def Uh:=@PySem.F.plain_extend_loop
def Ui:=@PySem.wpAny_updateSeq
def Uj:=@List.mem_iff_getElem?
def Uk:=@List.length_zipWith
def Ul:=@List.zipWith_cons_cons
def Um:=@PySem.codeAny_call_builtin
def Uo:=@PySem.F.attr_ValueError
def Uq:=@PySem.wpAny_loadPart
def Ur:=@Int.fmod_eq_emod_of_nonneg
def Us:=@Nat.pow_le_pow_right
def Ut:=@Nat.gcd_comm
def Uu:=@Rat.div_mul_cancel
def Uv:=@Int.ofNat_dvd
def Uw:=@Int.eq_ofNat_of_zero_le
def Ux:=@Rat.intCast_neg
def Uy:=@List.mem_of_mem_take
def Uz:=@Rat.zero_add
def UA:=@Bool.and_true
def UB:=@List.length_zip
def UC:=@List.length_pos_of_mem
def UD:=@Rat.mul_inv_cancel
def UE:=@Rat.mul_one
def UG:=@List.mem_flatMap
def UH:=@List.length_pos_iff
def UI:=@List.getElem?_eq_none
def UJ:=@beq_eq_false_iff_ne
def UK:=@PySem.Heap.get?_none_of_le
def UL:=@PySem.W.callWith_K
def UM:=@PySem.noFill_tuple_add
def UN:=@PySem.F.slot_tuple_add
def UO:=@PySem.F.entry_tuple_add
def UP:=@PySem.F.args_tuple_add_2
def UQ:=@PySem.Heap.IsSliceOf.new
def UR:=@Nat.mul_comm
def US:=@Option.map_some
def UT:=@List.cons_append
def UU:=@List.Sublist.refl
def UW:=@List.ext_getElem?
def UX:=@PySem.wpAny_pyIter_list
def UY:=@List.lookup_cons
def UZ:=@List.zipIdx_cons
def Va:=@PySem.wpAny_updateSeq_pair
def Vb:=@PySem.codeAny_builtin
def Vc:=@List.nodup_append
def Vd:=@Nat.min_eq_right
def Ve:=@PySem.wpAny_pyIter_slot
def Vf:=@PySem.F.entry_zip_iter
def Vg:=@PySem.F.args_zip_iter_1
def Vh:=@List.pairwise_map
def Vi:=@List.getElem?_zipWith
def Vj:=@PySem.F.typeOf_object_class
def Vk:=@PySem.Code.quiet_builtin
def Vl:=@PySem.wpAny_isSubtype_exc
def Vm:=@List.set_set
def Vn:=@Int.gcd_dvd_right
def Vo:=@Int.natAbs_mul
def Vp:=@Nat.pow_succ
def Vq:=@Rat.mul_pos_iff_of_pos_left
def Vr:=@Int.lt_or_le
def Vs:=@Rat.intCast_add
def Vt:=@List.dropWhile_subset
def Vu:=@List.pairwise_append
def Vv:=@of_decide_eq_false
def Vw:=@List.pairwise_iff_getElem
def Vx:=@List.all_nil
def Vy:=@Bool.and_false
def Vz:=@List.map_drop
def VA:=@Int.fdiv_eq_ediv_of_nonneg
def VB:=@decide_eq_decide
def VC:=@PySem.W.cellsFrom_some
def VD:=@Option.isSome_iff_exists
def VE:=@List.length_replicate
def VF:=@List.drop_eq_getElem_cons
def VG:=@List.drop_eq_nil_of_le
def VH:=@List.eq_nil_iff_forall_not_mem
def VI:=@PyProof.Rows.eq_dataH
def VJ:=@List.range_succ_eq_map
def VL:=@List.getElem?_cons_zero
def VM:=@PySem.F.entry_tuple_iterator_next
def VN:=@PySem.F.args_tuple_iterator_next_1
def VO:=@PySem.F.entry_extend_loop
def VP:=@Array.getElem?_eq_none
def VQ:=@PyProof.Rows.zipApart_new
def VR:=@List.zipWith_nil_left
def VS:=@List.eq_nil_of_length_eq_zero
def VT:=@List.zipWith_nil_right
def VU:=@PySem.plainObj_wpAny_Assign_Attribute
def VV:=@Array.getElem?_eq_some_iff
def VW:=@Int.gcd_pos_of_ne_zero_right
def VX:=@Nat.div_eq_of_eq_mul_right
def VY:=@Nat.div_le_iff_le_mul_add_pred
def VZ:=@Int.mul_le_mul_of_nonneg_left
def Wa:=@List.takeWhile_append_dropWhile
def Wb:=@List.pairwise_singleton
def Wc:=@Rat.mul_le_mul_of_nonneg_right
def We:=@List.pairwise_reverse
def Wf:=@List.getLast?_eq_some_iff
def Wg:=@List.take_of_length_le
def Wh:=@Int.natAbs_ediv_le_natAbs
def Wi:=@decide_eq_false_iff_not
def Wj:=@Int.mul_le_mul_of_nonneg_right
abbrev vQ_:=PySem.Value→PySem.Shared→Prop
abbrev vF_:=PySem.W.Frag
abbrev vP_:=List (PySem.Addr × PySem.Obj)
abbrev vA_:=Option PySem.Addr
abbrev vL_:=List PySem.Addr
abbrev vV_:=List PySem.Value
abbrev vG_:=PySem.Str→Option PySem.Value
abbrev vR_:=Array PySem.Value
abbrev vB_:=PySem.Addr→Prop
abbrev vS_:=Array (Option PySem.Value)
def gB_ {P:Prop}(h:∀G:Prop,(P->G)->G):P:=h P id
variable {k n i j t' m:Nat}{s s':PySem.Shared}{A:PySem.Around}{pins:vP_}{es ifs elts:List PySem.Expr}{x c qual name c':PySem.Str}{prog:PySem.Program}{h base h':PySem.Heap}{fd:PySem.FuncData}{e tg iter elt:PySem.Expr}{fa od fa' an:vA_}{scope:PySem.Scope}{E Q:vQ_}{cl:List (PySem.Str × PySem.Addr)}{idx:List Nat}{N:vB_}{body:List PySem.Stmt}{mg:vG_}{XP:(PySem.Str->Option PySem.Value)->PySem.Heap->Prop}{u cdv oc:PySem.Value}{us its:vV_}{p2 pos' p1:PySem.Pos}{cs N' caps ns loose cs':List PySem.Str}{items vs:vR_}{G:Prop}{is:List Int}{YP:PySem.World->PySem.Heap->Prop}{env:PySem.Env}{dx C':PySem.Addr}{outer:List PySem.Env}{kw:List (PySem.Str × PySem.Value)}{osl:vS_}{cd:PySem.ClassData}{g':Array PySem.GenState}{ch fp:vL_}{col:Option Bool}
namespace L2
open PySem PySem.Spec PyProof.Rows
abbrev N3:=Sum Int Str
def tF:N3->Value->Bool
 |.inl k,v=>Value.isInt k v
 |.inr x,v=>Value.isStrOf x v
def GA (w:World):N3->Int
 |.inl k=>hashInt k
 |.inr x=>hashStr w x
def aU:∀{k:N3}{v:Value},tF k v=true->(∃i t,k=Sum.inl i/\v=Value.int i t)\/(∃x t,k=Sum.inr x/\v=Value.str x t)
 |.inl i,v,h=>by
  obtain⟨t,e⟩:=Value.isInt_shape (k:=i) (v:=v) h;exact .inl #[i,t,rfl,e]
 |.inr x,v,h=>by
  obtain⟨t,e⟩:=Value.isStrOf_shape (x:=x) (v:=v) h;exact .inr #[x,t,rfl,e]
def Em (a b:Int):decide ((Sum.inl a:N3)=Sum.inl b)=(a == b):=by
 by_cases e:a=b
 .subst e;simp
 .have h:¬ (Sum.inl a:N3)=Sum.inl b:=fun q=>e (Sum.inl.inj q)
  rw[PY h];exact(UJ.mpr e).symm
def MO (a b:Str):decide ((Sum.inr a:N3)=Sum.inr b)=decide (a=b):=by
 by_cases e:a=b
 .subst e;simp
 .have h:¬ (Sum.inr a:N3)=Sum.inr b:=fun q=>e (Sum.inr.inj q)
  rw[PY h,PY e]
def Hn (a:Int) (b:Str):decide ((Sum.inl a:N3)=Sum.inr b)=false:=PY (fun q=>nomatch q)
def LB (a:Str) (b:Int):decide ((Sum.inr a:N3)=Sum.inl b)=false:=PY (fun q=>nomatch q)
def pZ (prog:Program) (w:World):PySem.KeyKind prog w N3 where
 is:=tF
 hash:=GA w
 inj:=fun v a b Y U=>by
  rcases aU Y with ⟨i,t,rfl,rfl⟩ | ⟨x,t,rfl,rfl⟩
  .rcases aU U with ⟨j,u,rfl,e⟩ | ⟨y,u,rfl,e⟩
   .injection e with e1 _;rw[e1]
   .exact nomatch e
  .rcases aU U with ⟨j,u,rfl,e⟩ | ⟨y,u,rfl,e⟩
   .exact nomatch e
   .injection e with e1 _;rw[e1]
 byValue:=fun k v h=>by
  rcases aU h with ⟨i,t,rfl,rfl⟩ | ⟨x,t,rfl,rfl⟩ <;> rfl
 pyHash:=fun J h=>by
  rcases aU J with ⟨i,t,rfl,rfl⟩ | ⟨x,t,rfl,rfl⟩
  .exact wpAny_pyHash_int h
  .exact wpAny_pyHash_str h
 eqBool:=fun Z J h=>by
  rcases aU Z with ⟨i,t,rfl,rfl⟩ | ⟨x,t,rfl,rfl⟩
  .rcases aU J with ⟨j,u,rfl,rfl⟩ | ⟨y,u,rfl,rfl⟩
   .rw[Em] at h;exact wpAny_eqBool_int h
   .rw[Hn] at h;exact SeqAt.EqAt.int_str i t y u _ _ _ _ h
  .rcases aU J with ⟨j,u,rfl,rfl⟩ | ⟨y,u,rfl,rfl⟩
   .rw[LB] at h;exact SeqAt.EqAt.str_int x t j u _ _ _ _ h
   .rw[MO] at h;exact wpAny_eqBool_str h
 «strs»:=fun k x t v h=>by
  rcases aU h with ⟨i,u,rfl,e⟩ | ⟨y,u,rfl,e⟩
  .exact nomatch e
  .injection e with e1 _;subst e1;cases v <;> rfl
inductive V where
 | non | bl (b:Bool) | int (i:Int) | str (x:Str) | byt (b:Array UInt8) | flt (b:UInt64) | ref (a:Addr) | ty (n:String)
 deriving DecidableEq
variable {xs ys:List V}{f':Int->Int->V}
def RelV:V->Value->Prop
 |.non,u=>u=Value.none
 |.bl b,u=>u=Value.bool b
 |.int i,u=>∃t,u=Value.int i t
 |.str x,u=>∃t,u=Value.str x t
 |.byt b,u=>∃t,u=Value.bytes b t
 |.flt b,u=>∃t,u=Value.float b t
 |.ref a,u=>u=Value.ref a
 |.ty n,u=>u=Value.type n
abbrev Vals:List V->List Value->Prop:=Paired RelV
theorem Vals.length (r:Vals xs us):xs.length=us.length:=Paired.length r
theorem Vals.get:∀{xs:List V}{us:vV_}{i:Nat}{x:V},Vals xs us->xs[i]? = some x->∃u,us[i]? = some u/\RelV x u
 |_,_,_,_,.nil,e=>by simp at e
 |_,_,0,_,.cons r _,e=>by simp at e;subst e;exact#[_,rfl,r]
 |_,_,i+1,x,.cons _ t,e=>by
  obtain⟨u,h1,h2⟩:=Vals.get (i:=i) (x:=x) t (by simpa using e);exact#[u,by simpa using h1,h2]
theorem Vals.set {x:V}(r:RelV x u):∀{xs:List V}{us:vV_}(i:Nat),Vals xs us->Vals (xs.set i x) (us.set i u)
 |_,_,_,.nil=>.nil
 |_,_,0,.cons _ t=>.cons r t
 |_,_,i+1,.cons q t=>.cons q (Vals.set r i t)
def Vals.append:∀{xs ys:List V}{us ws:vV_},Vals xs us->Vals ys ws->Vals (xs++ys) (us++ws):=by
 intro xs ys us ws h s;induction h with
 |nil=>exact s
 |cons r t J=>exact .cons r J
theorem Vals.take:∀{xs:List V}{us:vV_}(n:Nat),Vals xs us->Vals (xs.take n) (us.take n)
 |_,_,0,_=>.nil
 |_,_,_+1,.nil=>.nil
 |_,_,n+1,.cons r t=>.cons r (Vals.take n t)
theorem Vals.drop:∀{xs:List V}{us:vV_}(n:Nat),Vals xs us->Vals (xs.drop n) (us.drop n)
 |_,_,0,r=>r
 |_,_,_+1,.nil=>.nil
 |_,_,n+1,.cons _ t=>Vals.drop n t
def fT:Option V->Option Value->Prop
 |some v,some u=>RelV v u
 |none,none=>True
 |_,_=>False
def KV {κ:Type}:List (κ × V)->List (κ × Value)->Prop:=Paired fun (p:κ × V) (q:κ × Value)=>p.1=q.1/\RelV p.2 q.2
def kV:N3->V
 |.inl i=>.int i
 |.inr x=>.str x
inductive HO where
 | lst (xs:List V)
 | tup (xs:List V)
 | dK (kvs:List (N3 × V)) | dT (kvs:List (List N3 × V))
 | set (S:Int->Bool) (n:Nat)
 | ins (C dx:Addr) (fs:List (Str × V))
 | own (x:Addr)
 | xd (fs:List (Str × V))
 | met (f x:Addr)
 | rng (lo hi:Int)
 | frz (o:Obj) (u:HO)
 | tbl (ps:vR_)
 | ext (φ:Heap->Prop)
abbrev Hp:=Addr->Option HO
variable {H H' H1:Hp}
def o7 (H:Hp) (a:Addr) (o:HO):Hp:=fun b=>if b=a then some o else H b
def D1 {o:HO}:o7 H a o a=some o:=by unfold o7;rw[iR rfl]
def u5 {a b:Addr}{o:HO}(h:b≠a):o7 H a o b=H b:=by unfold o7;rw[iU h]
def L9 {a b:Addr}{o:HO}(h:H a=some o) (h':H b=none):a≠b:=by
 intro e;subst e;rw[h] at h';cases h'
section
variable (P:Program) (w:World)
def ObjOk (H:Hp) (h:Heap) (a:Addr):HO->Prop
 |.lst xs=>xs.length<=sizeLine/\∃(its:vV_) (n:Nat),Vals xs its/\h.get? a=some { cls:=.type "list",data:=.seq its.toArray n }
 |.tup xs=>xs.length<=sizeLine/\∃its:List Value,Vals xs its/\IsTup h a its.toArray
 |.dK kvs=>kvs.length<=sizeLine/\(a == sysModules)=false/\∃vs,KV kvs vs/\h.DictOf (pZ P w) a vs
 |.dT kvs=>kvs.length<=sizeLine/\(a == sysModules)=false/\∃xs:List (List N3 × Addr × Value),
   Paired (fun (p:List N3 × V) (q:List N3 × Addr × Value)=>p.1=q.1/\H q.2.1=some (.tup (p.1.map kV))/\RelV p.2 q.2.2) kvs xs /\
   ∃o es ep,h.get? a=some o/\o.ExactDict/\o.data = .dict es ep/\es.toList=xs.map (entryOfKey (tupleKind (pZ P w)))/\(xs.map (·.1)).Nodup
 |.set S n=>h.SetOf (intKind P w) a S n
 |.ins C dx fs=>H dx=some (.own a)/\fs.length<=1000/\dx≠a/\h.get? a=some (PySem.W.instObj C dx) /\
   ∃mA,h.Ns1 dx mA/\(∀f,fT (fs.lookup f) (mA f))/\PySem.Within mA (fs.map (·.1))
 |.own _=>∃o,h.get? a=some o
 |.xd fs=>∃mA,h.Ns1 a mA/\∀f,fT (fs.lookup f) (mA f)
 |.rng lo hi=>∃t u v,h.get? a=some { cls:=.type "range",data:=.fields #v[.int lo t,.int hi u,.int 1 v] }
 |.frz o u=>h.get? a=some o/\ObjOk H h a u
 |.tbl ps=>h.get? a=some { cls:=.none,data:=.fields ps }
 |.met f x=>h.get? a=some (PySem.W.methodObj (.ref f) (.ref x))
 |.ext φ=>φ h/\(∃o,h.get? a=some o)/\∀h1 h2:Heap,φ h1->(∀o,h1.get? a=some o->h2.get? a=some o)->φ h2
def HOk (H:Hp) (h:Heap):Prop:=∀a o,H a=some o->ObjOk P w H h a o
end
section
variable {P:Program}{w:World}{a:Addr}{o:HO}
theorem ObjOk.lt (x:ObjOk P w H h a o):a<h.objs.size:=by
 cases o with
 |lst xs=>obtain⟨_,_,_,_,e⟩:=x;exact PB e
 |tup xs=>obtain⟨_,_,_,p⟩:=x;exact p.lt
 |dK J=>obtain⟨_,_,_,_,o,_,_,e,_⟩:=x;exact PB e
 |dT J=>obtain⟨_,_,_,_,o,_,_,e,_⟩:=x;exact PB e
 |set S n=>obtain⟨o,_,_,_,e,_⟩:=x;exact PB e
 |ins C dx fs=>obtain⟨_,_,_,e,_⟩:=x;exact PB e
 |own y=>obtain⟨_,e⟩:=x;exact PB e
 |xd fs=>obtain⟨_,⟨_,_,_,e,_⟩,_⟩:=x;exact PB e
 |rng lo hi=>obtain⟨_,_,_,e⟩:=x;exact PB e
 |frz U u=>obtain⟨e,_⟩:=x;exact PB e
 |tbl ps=>exact PB (show h.get? a=some _ from x)
 |met f y=>exact PB (show h.get? a=some _ from x)
 |ext φ=>obtain⟨_,⟨_,e⟩,_⟩:=x;exact PB e
def Paired.mapP {α β:Type}{F G:α->β->Prop}:∀{l₁:List α}{l₂:List β},Paired F l₁ l₂->(∀a b,F a b->G a b)->Paired G l₁ l₂:=by
 intro l₁ l₂ h f;induction h with
 |nil=>exact .nil
 |cons r t J=>exact .cons (f _ _ r) J
def ObjOk.stay (x:ObjOk P w H h a o) (k:∀b u,(b=a\/H b=some (.own a))->h.get? b=some u->h'.get? b=some u)
  (ho:∀b,H b=some (.own a)->H' b=some (.own a)) (ht:∀b xs,H b=some (.tup xs)->H' b=some (.tup xs)):ObjOk P w H' h' a o:=by
 induction o with
 |lst xs=>obtain⟨z,its,n,r,e⟩:=x;exact#[z,its,n,r,k _ _ (.inl rfl) e]
 |tup xs=>obtain⟨z,its,r,J,e,c⟩:=x;exact#[z,its,r,J,k _ _ (.inl rfl) e,c]
 |dK Y=>obtain⟨z,y,vs,r,J,es,U,e,c⟩:=x;exact#[z,y,vs,r,J,es,U,k _ _ (.inl rfl) e,c]
 |dT Y=>
  obtain⟨z,y,xs,r,J,es,U,e,c⟩:=x;exact#[z,y,xs,Paired.mapP r fun p q z=>#[z.1,ht _ _ z.2.1,z.2.2],J,es,U,k _ _ (.inl rfl) e,c]
 |set S n=>obtain⟨J,es,U,t,e,c⟩:=x;exact#[J,es,U,t,k _ _ (.inl rfl) e,c]
 |ins C dx fs=>
  obtain⟨d,z,Z,e,mA,⟨od,es,U,e2,c⟩,r⟩:=x;exact#[ho _ d,z,Z,k _ _ (.inl rfl) e,mA,#[od,es,U,k _ _ (.inr d) e2,c],r]
 |own y=>obtain⟨J,e⟩:=x;exact#[J,k _ _ (.inl rfl) e]
 |xd fs=>obtain⟨mA,⟨od,es,U,e,c⟩,r⟩:=x;exact#[mA,#[od,es,U,k _ _ (.inl rfl) e,c],r]
 |rng lo hi=>obtain⟨t,u,v,e⟩:=x;exact#[t,u,v,k _ _ (.inl rfl) e]
 |frz J u ih=>obtain⟨e,q⟩:=x;exact#[k _ _ (.inl rfl) e,ih q]
 |tbl ps=>
  have e:h.get? a=some { cls:=.none,data:=.fields ps }:=x;show h'.get? a=some { cls:=.none,data:=.fields ps };exact k a _ (.inl rfl) e
 |met f y=>
  have e:h.get? a=some (PySem.W.methodObj (.ref f) (.ref y)):=x;show h'.get? a=some (PySem.W.methodObj (.ref f) (.ref y));exact k a _ (.inl rfl) e
 |ext φ=>obtain⟨p,⟨o,e⟩,st⟩:=x;exact#[st _ _ p fun o q=>k _ _ (.inl rfl) q,#[o,k _ _ (.inl rfl) e],st]
theorem HOk.lt (x:HOk P w H h) (e:H a=some o):a<h.objs.size:=(x a o e).lt
def HOk.fresh (x:HOk P w H h) (e:h.objs.size<=a):H a=none:=by
 cases q:H a with
 |none=>rfl
 |some u=>exact absurd (Qb (x.lt q) e) (QK _)
def HOk.kept (x:HOk P w H h) (k:∀b u,h.get? b=some u->h'.get? b=some u):HOk P w H h':=fun a o e=>
 (x a o e).stay (fun b u _ q=>k b u q) (fun _ q=>q) fun _ _ q=>q
def HOk.laid (x:HOk P w H h) (k:∀b u,h.get? b=some u->h'.get? b=some u) (Z:h.objs.size<=a) (J:ObjOk P w (o7 H a o) h' a o):HOk P w (o7 H a o) h':=fun b u e=>by
 have Y:=x.fresh Z;by_cases U:b=a
 .subst U;rw[D1] at e;cases e;exact J
 .rw[u5 U] at e;exact(x b u e).stay (fun c v _ q=>k c v q) (fun c q=>by rw[u5 (L9 q Y)];exact q) fun c xs q=>by rw[u5 (L9 q Y)];exact q
end
def Rd (H:Hp) (a:Addr) (u:HO):Prop:=H a=some u\/∃o,H a=some (.frz o u)
def Rd.ok {w:World}{u:HO}(r:Rd H a u) (x:HOk P w H h):ObjOk P w H h a u:=by
 rcases r with r | ⟨o,r⟩
 .exact x a u r
 .obtain⟨_,q⟩:=x a _ r;exact q
def mS:Option HO->Prop
 |some (.lst _)=>True
 |some (.dK _)=>True
 |some (.dT _)=>True
 |some (.set _ _)=>True
 |some (.ins _ _ _)=>True
 |some (.ext _)=>True
 |_=>False
section
variable {P:Program}{w:World}{x e:Addr}{o':HO}
def HOk.write (ok:HOk P w H h) (mu:mS (H x)) (he:e=x\/H e=some (.own x)) (k:∀b u,b≠e->h.get? b=some u->h'.get? b=some u) (heo:∃u,h'.get? e=some u)
  (new:ObjOk P w (o7 H x o') h' x o'):HOk P w (o7 H x o') h':=fun b u q=>by
 have U:∀c y,H c=some (.own y)->c≠x:=fun c y r z=>by subst z;rw[r] at mu;exact mu
 have Y:∀c xs,H c=some (.tup xs)->c≠x:=fun c xs r z=>by subst z;rw[r] at mu;exact mu
 by_cases Z:b=x
 .subst Z;rw[D1] at q;cases q;exact new
 .rw[u5 Z] at q;by_cases J:b=e
  .have q':H b=some (.own x):=by
    rcases he with z | z
    .exact absurd (J.trans z) Z
    .rw[J];exact z
   rw[q] at q';cases q';obtain⟨v,hv⟩:=heo;exact#[v,by rw[J];exact hv]
  .refine(ok b u q).stay (fun c v hc r=>k c v ?_ r) (fun c r=>by rw[u5 (U c b r)];exact r) fun c xs r=>by rw[u5 (Y c xs r)];exact r
   rcases hc with rfl | hc
   .exact J
   .rintro rfl;rcases he with z | z
    .exact U c b hc z
    .rw[hc] at z;cases z;exact Z rfl
end
structure Un (fs ex:vL_) (H H':Hp) (h h':Heap):Prop where
 keep:∀b o,h.get? b=some o->H b=none->b ∉ fs->b ∉ ex->h'.get? b=some o
 slot:∀b o,h.get? b=some o->H b=none->b∈fs->b ∉ ex->∃sl,h'.get? b=some { o with slots:=sl }
 free:∀b o,h.get? b=some o->H b=none->b ∉ ex->H' b=none
 there:∀b o,h.get? b=some o->b ∉ ex->∃o',h'.get? b=some o'
 tups:∀b xs,H b=some (.tup xs)->H' b=some (.tup xs)
 frzs:∀b o u,H b=some (.frz o u)->H' b=some (.frz o u)
 tbls:∀b ps,H b=some (.tbl ps)->∃more,H' b=some (.tbl (ps++more))
section
variable {fs fs' ex ex':vL_}{H2:Hp}{h1 h2:Heap}{a x e:Addr}{o:HO}
def Un.any (u:Un fs ex H H1 h h1) {b:Addr}{ob:Obj}(q:h.get? b=some ob) (n:H b=none) (J:b ∉ ex):∃sl,h1.get? b=some { ob with slots:=sl }:=by
 by_cases U:b∈fs
 .exact u.slot b ob q n U J
 .exact#[ob.slots,u.keep b ob q n U J]
def Un.kept (k:∀b u,h.get? b=some u->h'.get? b=some u):Un fs ex H H h h':=
 #[fun b J q _ _ _=>k b J q,fun b J q _ _ _=>#[J.slots,k b J q],fun _ _ _ n _=>n,fun b J q _=>#[J,k b J q],fun _ _ q=>q,fun _ _ _ q=>q,fun _ ps q=>#[#v[],by rw[q];simp]]
def Un.refl:Un fs ex H H h h:=Un.kept fun _ _ q=>q
def Un.laid (k:∀b u,h.get? b=some u->h'.get? b=some u) (U:h.objs.size<=a) (J:H a=none):Un fs ex H (o7 H a o) h h' where
 keep:=fun b u q _ _ _=>k b u q
 slot:=fun b u q _ _ _=>#[u.slots,k b u q]
 free:=fun b u q n _=>by rw[u5 (Ql (Qb (PB q) U))];exact n
 there:=fun b u q _=>#[u,k b u q]
 tups:=fun b xs q=>by rw[u5 (L9 q J)];exact q
 frzs:=fun b u xs q=>by rw[u5 (L9 q J)];exact q
 tbls:=fun b ps q=>#[#v[],by rw[u5 (L9 q J),q];simp]
def Un.write (U:mS (H x)) (he:e=x\/H e=some (.own x)) (k:∀b u,b≠e->h.get? b=some u->h'.get? b=some u) (Z:∃u,h'.get? e=some u):Un fs ex H (o7 H x o) h h':=by
 have hx:∀b,H b=none->b≠x:=fun b n z=>by subst z;rw[n] at U;exact U
 have hb:∀b,H b=none->b≠e:=fun b n z=>by
  subst z;rcases he with r | r
  .exact hx b n r
  .rw[n] at r;cases r
 have Y:∀b u,H b=some u->¬ mS (some u)->b≠x:=fun b u q nm z=>by subst z;rw[q] at U;exact nm U
 refine#[fun b u q n _ _=>k b u (hb b n) q,fun b u q n _ _=>#[u.slots,k b u (hb b n) q],fun b u q n _=>by rw[u5 (hx b n)];exact n,fun b u q _=>?_,
  fun b xs q=>by rw[u5 (Y b _ q fun z=>z)];exact q,fun b u xs q=>by rw[u5 (Y b _ q fun z=>z)];exact q,fun b ps q=>#[#v[],by rw[u5 (Y b _ q fun z=>z),q];simp]]
 by_cases J:b=e
 .subst J;exact Z
 .exact#[u,k b u J q]
end
def gF (h:Heap) (H:Hp):List Addr:=(List.range h.objs.size).filter fun a=>(H a).isSome
def bI (h:Heap) (H:Hp):Heap:=PySem.W.hideAll h (gF h H)
def JN (h:Heap) (H:Hp):(bI h H).objs.size=h.objs.size:=PySem.W.hideAll_size _ _
def FP {b:Addr}{o:Obj}(e:h.get? b=some o) (n:H b=none):(bI h H).get? b=some o:=
 PySem.W.hideAll_get _ e fun J=>by
  have q:(H b).isSome=true:=(TC.mp J).2;rw[n] at q;simp at q
def Ou {b:Addr}{o:Obj}(e:(bI h H).get? b=some o):h.get? b=some o/\H b=none:=by
 have J:h.get? b=some o:=PySem.W.of_hideAll (gF h H) e;refine#[J,?_];cases q:H b with
 |none=>rfl
 |some x=>
  have U:b∈gF h H:=TC.mpr #[RS.mpr (PB J),by simp[q]];have z:(bI h H).get? b=none:=PySem.W.hideAll_none (gF h H) U;rw[z] at e;cases e
def IY (g h:Heap) (L:Addr):List (Addr × Obj):=(List.range h.objs.size).filterMap fun a=>if a=L\/(g.get? a).isSome=true then none else (h.get? a).map fun o=>(a,o)
def rest (g h:Heap) (L d:Addr):List (Addr × Obj):=(IY g h L).filter fun p=>decide (p.1≠d)
structure Mod (K:vF_) (mg:vG_) (base:Heap):Prop where
 kin:K.In base
 glob:base.Ns mainGlobals mg
 blt:∃mb,base.Ns builtinsNs mb/\∀x:Str,x ≠ "__name__" -> mb x=bootBuiltins x
 nolimit:base.NoLimit
structure Cx where
 prog:Program
 w:World
 K:PySem.W.Frag
 mg:Str->Option Value
 base:Heap
 A:Around
 N:List Str
 s₀:Shared
 H₀:Hp
 env:Env
 outer:List Env
 stack:List Env
 ex:List Addr
 fn:Str->Bool
 calm:Bool
 pn:List (Addr × Obj)
 xe:Value->Shared->Prop
variable {X:Cx}
def M9 (l:List Env):List Addr:=l.filterMap (·.frame)
abbrev Cx.fs (X:Cx):List Addr:=M9 X.outer
def rQ (J:Scope) (x:Str):Prop:=J.names.lookup x=some .local\/J.names.lookup x=some .cell\/J.names.lookup x=some .free
def bU (J:Scope) (x:Str):Prop:=J.names.lookup x=some .local\/J.names.lookup x=some .cell
def Oi (env:Env) (h:Heap) (m:vG_) (x:Str) (u:Value):Prop:=
 (env.kindOf x=some .local/\m x=some u)\/((env.kindOf x=some .cell\/env.kindOf x=some .free)/\∃c,env.cells.lookup x=some c/\h.IsCell c (some u))
structure Cx.Ok (X:Cx):Prop where
 mod:Mod X.K X.mg X.base
 kind:X.env.scope.kind = .function
 glob:X.env.globals=mainGlobals
 blt:X.env.builtins=builtinsNs
 above:X.s₀.heap.objs.size<=X.env.locals
 inj:∀x y c,X.env.cells.lookup x=some c->X.env.cells.lookup y=some c->x=y
 has:∀x,(X.env.kindOf x=some .cell\/X.env.kindOf x=some .free)->∃c,X.env.cells.lookup x=some c
 cab:∀x c,X.fn x=true->X.env.cells.lookup x=some c->X.s₀.heap.objs.size<=c
 hd:X.calm=true->X.A.handled=none
 frames:X.A.frames=some X.stack
 stk:X.stack=X.outer\/(X.stack=X.env::X.outer/\X.env.frame=some X.env.locals)
 exf:∀b∈X.ex,b≠X.env.locals/\∀x c,X.env.cells.lookup x=some c->c≠b
 bs:∀b o,X.base.get? b=some o->X.s₀.heap.get? b=some o/\X.H₀ b=none
 bsz:X.base.objs.size<=X.s₀.heap.objs.size
 noex:∀b o,X.base.get? b=some o->b ∉ X.ex
 exfs:∀b∈X.ex,b ∉ X.fs
 funs:X.s₀.heap.FunFrames X.base X.outer
 frf:∀b∈X.fs,X.H₀ b=none
structure Inv (X:Cx) (pins:vP_) (σ:List (Option V)) (H:Hp) (s:Shared):Prop where
 ok:X.Ok
 os:s.os=X.s₀.os
 bare:AllBare s.gens
 base:Un X.fs X.ex X.H₀ H X.s₀.heap s.heap
 loc:∃m,s.heap.Ns X.env.locals m/\∀(i:Nat) (x:Str) (v:V),X.N[i]? = some x->σ[i]? = some (some v)->rQ X.env.scope x->∃u,RelV v u/\Oi X.env s.heap m x u
 cell:∀x c,X.env.cells.lookup x=some c->∃v,s.heap.IsCell c v
 free:H X.env.locals=none
 freeC:∀x c,X.env.cells.lookup x=some c->H c=none
 pin:∀p∈X.pn++pins,s.heap.get? p.1=some p.2/\H p.1=none/\p.1≠X.env.locals/\p.1 ∉ X.fs/\∀v,p.2.data ≠ .cell v
 hok:HOk X.prog X.w H s.heap
 len:σ.length=X.N.length
section
variable {σ:List (Option V)}
def Cx.Ok.nofr (U:X.Ok) {b:Addr}{o:Obj}(e:X.base.get? b=some o):b ∉ X.fs:=fun J=>by
 have:=(U.funs.mem J).1;rw[e] at this;cases this
theorem Inv.bs (I:Inv X pins σ H s):∀b o,X.base.get? b=some o->s.heap.get? b=some o/\H b=none:=fun b o e=>
 #[I.base.keep b o (I.ok.bs b o e).1 (I.ok.bs b o e).2 (I.ok.nofr e) (I.ok.noex b o e),I.base.free b o (I.ok.bs b o e).1 (I.ok.bs b o e).2 (I.ok.noex b o e)]
def Inv.bk (I:Inv X pins σ H s):∀b o,X.base.get? b=some o->s.heap.get? b=some o:=fun b o e=>(I.bs b o e).1
theorem Inv.mod (I:Inv X pins σ H s):Mod X.K X.mg X.base:=I.ok.mod
def Inv.kIn (I:Inv X pins σ H s):X.K.In s.heap:=I.ok.mod.kin.keeps I.bk
theorem Inv.nolimit (I:Inv X pins σ H s):s.heap.NoLimit:=I.ok.mod.nolimit.keeps I.bk
theorem Inv.lt (I:Inv X pins σ H s):X.env.locals<s.heap.objs.size:=let ⟨_,hn,_⟩:=I.loc;hn.lt
def Inv.sz (I:Inv X pins σ H s):X.s₀.heap.objs.size<=s.heap.objs.size:=PJ I.ok.above (Rh I.lt)
def Inv.nofs (I:Inv X pins σ H s) (h:s.heap.objs.size<=a):a ∉ X.fs:=fun J=>by
 obtain⟨_,o,U,_⟩:=I.ok.funs.mem J;exact absurd (Qb (PB U) (PJ I.sz h)) (QK _)
def Inv.cne (I:Inv X pins σ H s):∀x c,X.env.cells.lookup x=some c->c≠X.env.locals:=fun x c e z=>by
 obtain⟨v,o,Z,Y⟩:=I.cell x c e;obtain⟨m,⟨o',es,ep,U,J,_⟩,_⟩:=I.loc;rw[z,U] at Z;cases Z;rw[J] at Y;cases Y
theorem Inv.funs (I:Inv X pins σ H s):s.heap.FunFrames X.base X.outer:=by
 have U:∀(l:List Env),(∀b∈M9 l,b∈X.fs)->X.s₀.heap.FunFrames X.base l->s.heap.FunFrames X.base l:=by
  intro l;induction l with
  |nil=>intro _ _;trivial
  |cons env r ih=>
   intro Z hl;obtain⟨hk,⟨L,o,Y,hn,ho,hd⟩,hr⟩:=hl;have hL:L∈X.fs:=Z L (by unfold M9;rw[RT,Y];exact PD);obtain⟨sl,e⟩:=I.base.slot L o ho (I.ok.frf L hL) hL fun z=>I.ok.exfs L z hL
   exact#[hk,#[L,_,Y,hn,e,hd],ih (fun b J=>Z b (by unfold M9;rw[RT,Y];exact Pz _ J)) hr]
 exact U X.outer (fun _ J=>J) I.ok.funs
theorem Inv.stack (I:Inv X pins σ H s):s.heap.FunFrames X.base X.stack:=by
 rcases I.ok.stk with e | ⟨e,hf⟩
 .rw[e];exact I.funs
 .rw[e];obtain⟨m,J,_⟩:=I.loc;refine .cons (by rw[I.ok.kind];decide) hf J ?_ I.funs;exact UK (PJ I.ok.bsz I.ok.above)
def Inv.stkSub (I:Inv X pins σ H s):∀b∈M9 X.stack,b∈X.env.locals::X.fs:=fun b J=>by
 rcases I.ok.stk with e | ⟨e,hf⟩
 .rw[e] at J;exact Pz _ J
 .rw[e] at J;unfold M9 at J;rw[RT,hf] at J;exact J
def Inv.stkFree (I:Inv X pins σ H s):∀b∈M9 X.stack,H b=none:=fun b J=>by
 rcases xo.mp (I.stkSub b J) with e | J
 .rw[e];exact I.free
 .obtain⟨_,o,U,_⟩:=I.ok.funs.mem J;exact I.base.free b o U (I.ok.frf b J) fun z=>I.ok.exfs b z J
def Inv.step {g':Array GenState}{t':Nat}{ch:vL_}(I:Inv X pins σ H s)
  (Z:∀b∈ch,(b∈X.ex\/X.s₀.heap.objs.size<=b)/\b≠X.env.locals/\(∀x c,X.env.cells.lookup x=some c->c≠b)/\∀p∈X.pn++pins,p.1≠b)
  (keep:∀b o,b≠X.env.locals->b ∉ X.fs->b ∉ ch->s.heap.get? b=some o->H b=none->h'.get? b=some o)
  (slot:∀b o,b≠X.env.locals->b∈X.fs->b ∉ ch->s.heap.get? b=some o->H b=none->∃sl,h'.get? b=some { o with slots:=sl }) (free:∀b o,b ∉ ch->s.heap.get? b=some o->H b=none->H' b=none)
  (there:∀b o,b ∉ ch->s.heap.get? b=some o->∃o',h'.get? b=some o')
  (tups:∀b xs,H b=some (.tup xs)->H' b=some (.tup xs)) (frzs:∀b o u,H b=some (.frz o u)->H' b=some (.frz o u)) (tbls:∀b ps,H b=some (.tbl ps)->∃more,H' b=some (.tbl (ps++more)))
  (ns:∀m,s.heap.Ns X.env.locals m->h'.Ns X.env.locals m) (hok:HOk X.prog X.w H' h') (hg:AllBare g') :
  Inv X pins σ H' { s with heap:=h',gens:=g',drawn:=d',toks:=t' }:=by
 have kT:∀b o,X.s₀.heap.get? b=some o->b≠X.env.locals:=fun b o e=>Ql (Qb (PB e) I.ok.above)
 have neC:∀b o,X.s₀.heap.get? b=some o->b ∉ X.ex->b ∉ ch:=fun b o e J hb=>by
  rcases(Z b hb).1 with z | z
  .exact J z
  .exact absurd (Qb (PB e) z) (QK _)
 have Y:∀x c,X.env.cells.lookup x=some c->∀v,s.heap.IsCell c v->h'.IsCell c v:=fun x c e v hQ__=>by
  obtain⟨o,ho,hd⟩:=hQ__;have U:c ∉ ch:=fun z=>(Z c z).2.2.1 x c e rfl
  by_cases hc:c∈X.fs
  .obtain⟨sl,q⟩:=slot c o (I.cne x c e) hc U ho (I.freeC x c e);exact#[_,q,hd]
  .exact#[o,keep c o (I.cne x c e) hc U ho (I.freeC x c e),hd]
 refine#[I.ok,I.os,hg,#[fun b o e n hb J=>?_,fun b o e n hb J=>?_,fun b o e n J=>?_,fun b o e J=>?_,fun b xs e=>tups b xs (I.base.tups b xs e),fun b o xs e=>frzs b o xs (I.base.frzs b o xs e),fun b ps e=>?_],?_,fun x c e=>?_,?_,fun x c e=>?_,fun p hp=>?_,hok,I.len]
 .exact keep b o (kT b o e) hb (neC b o e J) (I.base.keep b o e n hb J) (I.base.free b o e n J)
 .obtain⟨sl,e1⟩:=I.base.slot b o e n hb J;obtain⟨sl',e2⟩:=slot b _ (kT b o e) hb (neC b o e J) e1 (I.base.free b o e n J);exact#[sl',e2]
 .obtain⟨o',e1⟩:=I.base.there b o e J;exact free b o' (neC b o e J) e1 (I.base.free b o e n J)
 .obtain⟨o',e1⟩:=I.base.there b o e J;exact there b o' (neC b o e J) e1
 .obtain⟨m1,e1⟩:=I.base.tbls b ps e;obtain⟨m2,e2⟩:=tbls b _ e1;exact#[m1++m2,by rw[e2,Array.append_assoc]]
 .obtain⟨m,hn,hl⟩:=I.loc;refine#[m,ns m hn,fun i x v e1 e2 e3=>?_];obtain⟨u,r,l⟩:=hl i x v e1 e2 e3;refine#[u,r,?_];rcases l with l | ⟨k,c,e,z⟩
  .exact .inl l
  .exact .inr #[k,c,e,Y x c e _ z]
 .obtain⟨v,z⟩:=I.cell x c e;exact#[v,Y x c e v z]
 .obtain⟨m,⟨o,_,_,ho,_⟩,_⟩:=I.loc;exact free _ o (fun z=>(Z _ z).2.1 rfl) ho I.free
 .obtain⟨v,o,ho,hd⟩:=I.cell x c e;exact free c o (fun z=>(Z c z).2.2.1 x c e rfl) ho (I.freeC x c e)
 .obtain⟨e,n,ne,nf,d⟩:=I.pin p hp;have U:p.1 ∉ ch:=fun z=>(Z p.1 z).2.2.2 p hp rfl
  exact#[keep p.1 p.2 ne nf U e n,free p.1 p.2 U e n,ne,nf,d]
def Inv.un {t':Nat}(I:Inv X pins σ H s) (u:Un X.fs [] H H' s.heap h') (Z:HOk X.prog X.w H' h'):Inv X pins σ H' { s with heap:=h',toks:=t' }:=by
 refine gB_ fun G_ g_=>?_
 obtain⟨m,⟨o,es,ep,ho,r⟩,_⟩:=id I.loc;obtain⟨sl,hL⟩:=u.any ho I.free 'g';apply g_;exact I.step (g':=s.gens) (d':=s.drawn) (ch:=[]) (fun _ z=>nomatch z) (fun b o _ U _ e n=>u.keep b o e n U 'g') (fun b o _ U _ e n=>u.slot b o e n U 'g') (fun b o _ e n=>u.free b o e n 'g') (fun b o _ e=>u.there b o e 'g') u.tups u.frzs u.tbls (fun m' hm=>by
  obtain⟨o',es',Y,J,r'⟩:=hm;rw[ho] at J;cases J;exact#[_,es',Y,hL,r']) Z I.bare
def Inv.call {t':Nat}(I:Inv X pins σ H s) (u:Un (M9 X.stack) ch H H' s.heap h') (hok:HOk X.prog X.w H' h') (hg:AllBare g')
  (U:∀b∈ch,(b∈X.ex\/X.s₀.heap.objs.size<=b)/\b≠X.env.locals/\(∀x c,X.env.cells.lookup x=some c->c≠b)/\∀p∈X.pn++pins,p.1≠b) :
  Inv X pins σ H' { s with heap:=h',gens:=g',drawn:=d',toks:=t' }:=by
 refine gB_ fun G_ g_=>?_
 obtain⟨m,⟨o,es,ep,ho,r⟩,_⟩:=id I.loc;obtain⟨sl,hL⟩:=u.any ho I.free fun z=>(U _ z).2.1 rfl
 apply g_;exact I.step (ch:=ch) U (fun b o hL hb J e n=>u.keep b o e n (fun z=>(xo.mp (I.stkSub b z)).elim hL hb) J) (fun b o _ _ J e n=>u.any e n J) (fun b o J e n=>u.free b o e n J) (fun b o J e=>u.there b o e J) u.tups u.frzs u.tbls (fun m' hm=>by
  obtain⟨o',es',Z,Y,r'⟩:=hm;rw[ho] at Y;cases Y;exact#[_,es',Z,hL,r']) hok hg
def Inv.turned {t':Nat}{it:Addr}(I:Inv X pins σ H s) (k:∀b o,b≠it->s.heap.get? b=some o->h'.get? b=some o) (hn:H it=none) (hL:it≠X.env.locals)
  (h1:it∈X.ex\/X.s₀.heap.objs.size<=it) (h2:∀x c,X.env.cells.lookup x=some c->c≠it) (Z:∀p∈X.pn++pins,p.1≠it):Inv X pins σ H { s with heap:=h',toks:=t' }:=by
 have U:∀b u,H b=some u->b≠it:=fun b u e z=>by rw[z,hn] at e;cases e
 refine I.step (g':=s.gens) (d':=s.drawn) (ch:=[it]) (fun b Y=>?_) (fun b o _ _ J e _=>k b o (fun z=>J (by simp[z])) e) (fun b o _ _ J e _=>#[o.slots,k b o (fun z=>J (by simp[z])) e]) (fun _ _ _ _ n=>n)
  (fun b o J e=>#[o,k b o (fun z=>J (by simp[z])) e]) (fun _ _ e=>e) (fun _ _ _ e=>e) (fun b ps e=>#[#v[],by rw[e];simp]) (fun m hm=>?_) (fun b u e=>?_) I.bare
 .have e:b=it:=by simpa using Y
  subst e;exact#[h1,hL,h2,Z]
 .obtain⟨o,es,ep,ho,r⟩:=hm;exact#[o,es,ep,k _ o (Qd hL) ho,r]
 .refine(I.hok b u e).stay (fun c v J q=>k c v ?_ q) (fun _ q=>q) fun _ _ q=>q
  rcases J with z | z
  .rw[z];exact U b u e
  .exact U c _ z
def Inv.tok (I:Inv X pins σ H s) (t:Nat):Inv X pins σ H { s with toks:=t }:=I.un (h':=s.heap) (t':=t) Un.refl I.hok
theorem Inv.kept {t':Nat}(I:Inv X pins σ H s) (k:∀b u,s.heap.get? b=some u->h'.get? b=some u):Inv X pins σ H { s with heap:=h',toks:=t' }:=I.un (Un.kept k) (I.hok.kept k)
theorem Inv.laid {o:HO}{t':Nat}(I:Inv X pins σ H s) (k:∀b u,s.heap.get? b=some u->h'.get? b=some u) (U:s.heap.objs.size<=a) (J:ObjOk X.prog X.w (o7 H a o) h' a o) :
  Inv X pins σ (o7 H a o) { s with heap:=h',toks:=t' }:=I.un (Un.laid k U (I.hok.fresh U)) (I.hok.laid k U J)
theorem Inv.write {x e:Addr}{o:HO}{t':Nat}(I:Inv X pins σ H s) (Z:mS (H x)) (Y:e=x\/H e=some (.own x)) (k:∀b u,b≠e->s.heap.get? b=some u->h'.get? b=some u) (J:∃u,h'.get? e=some u)
  (U:ObjOk X.prog X.w (o7 H x o) h' x o):Inv X pins σ (o7 H x o) { s with heap:=h',toks:=t' }:=I.un (Un.write Z Y k J) (I.hok.write Z Y k J U)
def Inv.weak {σ':List (Option V)}(I:Inv X pins σ H s) (Z:σ'.length=σ.length) (w:∀(i:Nat) v,σ'[i]? = some (some v)->σ[i]? = some (some v)):Inv X pins σ' H s:=
 #[I.ok,I.os,I.bare,I.base,let ⟨m,hn,hl'⟩:=I.loc;#[m,hn,fun i x v U J Y=>hl' i x v U (w i v J) Y],I.cell,I.free,I.freeC,I.pin,I.hok,Z.trans I.len]
def Inv.pins_of {pins':vP_}(I:Inv X pins σ H s) (h:∀p∈pins',s.heap.get? p.1=some p.2/\H p.1=none/\p.1≠X.env.locals/\p.1 ∉ X.fs/\∀v,p.2.data ≠ .cell v):Inv X pins' σ H s:=
 #[I.ok,I.os,I.bare,I.base,I.loc,I.cell,I.free,I.freeC,fun p J=>(PQ.mp J).elim (fun z=>I.pin p (QH _ z)) (h p),I.hok,I.len]
def nZ {N:List Str}(J:N.Nodup) (a:N[i]? = some x) (b:N[j]? = some x):i=j:=by
 obtain⟨h1,Y⟩:=Qr.mp a;obtain⟨h2,U⟩:=Qr.mp b;exact(List.getElem_inj J).mp (Y.trans U.symm)
def Oj {A:Around}{E:vQ_}{i:Nat}{x:Str}{v:V}{u:Value}{Q:Unit->Shared->Prop}(I:Inv X pins σ H s) (hN:X.N.Nodup) (hi:X.N[i]? = some x) (hx:bU X.env.scope x) (r:RelV v u)
  (h:∀s',Inv X pins (σ.set i (some v)) H s'->(∃a,Heap.SameBut a s.heap s'.heap/\(a=X.env.locals\/X.env.cells.lookup x=some a))->Q () s') (hf:X.fn x=true\/X.env.scope.names.lookup x=some .local:=by first | exact .inl rfl | exact .inr rfl | assumption):wpAny M A (storeName X.env x u) Q E s:=by
 obtain⟨m,hn,hl⟩:=id I.loc;have hcls:(X.env.scope.kind == .class||(X.env.scope.kind == .module&&X.env.locals != X.env.globals))=false:=by rw[I.ok.kind];rfl
 have hiσ:i<σ.length:=by rw[I.len];exact(Qr.mp hi).1
 have cne:=I.cne;have U:∀{a:Addr}{h':Heap},(∃o,s.heap.get? a=some o/\H a=none)->Heap.SameBut a s.heap h'->HOk X.prog X.w H h':=fun {a h'} ha J b ob e=>by
  obtain⟨_,_,hfree⟩:=ha;refine(I.hok b ob e).stay (fun c w' Z q=>(J.2 c ?_).trans q) (fun _ q=>q) fun _ _ q=>q
  rintro rfl;rcases Z with rfl | Z
  .rw[hfree] at e;cases e
  .rw[hfree] at Z;cases Z
 rcases hx with hk | hk
 .refine wpAny_storeName_local hk hn (fun h' hn' J=>?_) hcls;obtain⟨oL,_,_,hoL,_⟩:=id hn;refine h _ #[I.ok,I.os,I.bare,#[fun b o e n hb hx=>?_,fun b o e n hb hx=>?_,I.base.free,fun b o e hx=>?_,I.base.tups,I.base.frzs,I.base.tbls],#[_,hn',fun j y v' Y e2 e3=>?_],fun y c e=>?_,I.free,I.freeC,fun p hp=>?_,U #[oL,hoL,I.free] J,by simpa using I.len] #[_,J,.inl rfl]
  .exact(J.2 b (Ql (Qb (PB e) I.ok.above))).trans (I.base.keep b o e n hb hx)
  .obtain⟨sl,Y⟩:=I.base.slot b o e n hb hx;exact#[sl,(J.2 b (Ql (Qb (PB e) I.ok.above))).trans Y]
  .obtain⟨o',Y⟩:=I.base.there b o e hx;exact#[o',(J.2 b (Ql (Qb (PB e) I.ok.above))).trans Y]
  .by_cases hj:j=i
   .subst hj;rw[hi] at Y;cases Y;rw[Sj hiσ] at e2;cases e2;exact#[u,r,.inl #[hk,by simp]]
   .rw[RU (Qd hj)] at e2;obtain⟨u',r',q⟩:=hl j y v' Y e2 e3;refine#[u',r',?_];rcases q with ⟨k,e⟩ | ⟨k,c,e,z⟩
    .refine .inl #[k,?_];have:y≠x:=fun e=>hj (nZ hN Y (e▸hi))
     simp[this,e]
    .exact .inr #[k,c,e,z.sameBut J (cne y c e)]
  .obtain⟨w',z⟩:=I.cell y c e;exact#[w',z.sameBut J (cne y c e)]
  .obtain⟨e,n,ne,nf,d⟩:=I.pin p hp;exact#[(J.2 p.1 ne).trans e,n,ne,nf,d]
 .have hfn:X.fn x=true:=by
   rcases hf with z | z
   .exact z
   .rw[z] at hk;cases hk
  obtain⟨c,Z⟩:=I.ok.has x (.inl hk);obtain⟨w',z⟩:=I.cell x c Z;refine wpAny_storeName_cell I.ok.kind hk Z z (fun h' hc' J=>?_);obtain⟨oc,hoc,hocd⟩:=id z;refine h { s with heap:=h' } #[I.ok,I.os,I.bare,#[fun b o e n hb hx=>?_,fun b o e n hb hx=>?_,I.base.free,fun b o e hx=>?_,I.base.tups,I.base.frzs,I.base.tbls],#[m,hn.sameBut J (Qd (cne x c Z)),fun j y v' Y e2 e3=>?_],fun y c' e=>?_,I.free,I.freeC,fun p hp=>?_,U #[oc,hoc,I.freeC x c Z] J,by simpa using I.len] #[c,J,.inr Z]
  .exact(J.2 b (Ql (Qb (PB e) (I.ok.cab x c hfn Z)))).trans (I.base.keep b o e n hb hx)
  .obtain⟨sl,Y⟩:=I.base.slot b o e n hb hx;exact#[sl,(J.2 b (Ql (Qb (PB e) (I.ok.cab x c hfn Z)))).trans Y]
  .obtain⟨o',Y⟩:=I.base.there b o e hx;exact#[o',(J.2 b (Ql (Qb (PB e) (I.ok.cab x c hfn Z)))).trans Y]
  .by_cases hj:j=i
   .subst hj;rw[hi] at Y;cases Y;rw[Sj hiσ] at e2;cases e2;exact#[u,r,.inr #[.inl hk,c,Z,hc']]
   .rw[RU (Qd hj)] at e2;obtain⟨u',r',q⟩:=hl j y v' Y e2 e3;refine#[u',r',?_];rcases q with q | ⟨k,c',e,z'⟩
    .exact .inl q
    .refine .inr #[k,c',e,z'.sameBut J ?_];rintro rfl;exact hj (nZ hN Y (I.ok.inj _ _ _ e Z▸hi))
  .by_cases hcc:c'=c
   .subst hcc;exact#[_,hc']
   .obtain⟨w2,z2⟩:=I.cell y c' e;exact#[w2,z2.sameBut J hcc]
  .obtain⟨e,n,ne,nf,d⟩:=I.pin p hp;refine#[(J.2 p.1 ?_).trans e,n,ne,nf,d];intro q;rw[q,hoc] at e;have q':oc=p.2:=Qi e;exact d w' (by rw[<-q'];exact hocd)
def gE {A:Around}{E:vQ_}{i:Nat}{x:Str}{v:V}{u:Value}{Q:Unit->Shared->Prop}(I:Inv X pins σ H s) (J:X.N.Nodup) (hi:X.N[i]? = some x) (Y:bU X.env.scope x) (r:RelV v u)
  (h:∀s',Inv X pins (σ.set i (some v)) H s'->Q () s') (Z:X.fn x=true\/X.env.scope.names.lookup x=some .local:=by first | exact .inl rfl | exact .inr rfl | assumption):wpAny M A (storeName X.env x u) Q E s:=
 Oj I J hi Y r (fun s' U _=>h s' U) Z
def Inv.call' (I:Inv X pins σ H s) (Z:s'.os=s.os) (u:Un (M9 X.stack) ch H H' s.heap s'.heap) (U:HOk X.prog X.w H' s'.heap) (Y:AllBare s'.gens)
  (J:∀b∈ch,(b∈X.ex\/X.s₀.heap.objs.size<=b)/\b≠X.env.locals/\(∀x c,X.env.cells.lookup x=some c->c≠b)/\∀p∈X.pn++pins,p.1≠b):Inv X pins σ H' s':=by
 obtain⟨h',g',d',t',o'⟩:=s';have e:o'=s.os:=Z;subst e;exact I.call (g':=g') (t':=t') (d':=d') u U Y J
end
abbrev XK:=Value->Option Addr->Hp->Prop
abbrev St:=List (Option V)
variable {σ:St}
abbrev VK:=V->Hp->Prop
variable {r:List V->Hp->VK->Prop}
abbrev TE:=St->Hp->VK->Prop
variable {te:TE}
abbrev TT:=St->Hp->(Bool->Hp->Prop)->Prop
variable {tc:TT}
abbrev TA:=St->Hp->(List V->Hp->Prop)->Prop
variable {ta:TA}
structure Ends where
 nx:St->Hp->Prop
 rt:VK
 bk:St->Hp->Prop:=fun _ _=>False
 ct:St->Hp->Prop:=fun _ _=>False
abbrev TS:=Ends->St->Hp->Prop
variable {tb:TS}
def EP (X:Cx) (pins:vP_) (σ:St) (Q:VK) (u:Value) (s':Shared):Prop:=∃v H',Inv X pins σ H' s'/\RelV v u/\Q v H'
def TP (X:Cx) (pins:vP_) (σ:St) (Q:Bool->Hp->Prop) (b:Bool) (s':Shared):Prop:=∃H',Inv X pins σ H' s'/\Q b H'
def AP (X:Cx) (pins:vP_) (σ:St) (Q:List V->Hp->Prop) (us:vV_) (s':Shared):Prop:=∃vs H',Inv X pins σ H' s'/\Vals vs us/\Q vs H'
def SP (X:Cx) (pins:vP_) (D:Ends) (f:Flow) (s':Shared):Prop:=
 match f with
 |.next=>∃σ' H',Inv X pins σ' H' s'/\D.nx σ' H'
 |.brk=>∃σ' H',Inv X pins σ' H' s'/\D.bk σ' H'
 |.cont=>∃σ' H',Inv X pins σ' H' s'/\D.ct σ' H'
 |.ret u=>∃v σ' H',Inv X pins σ' H' s'/\RelV v u/\D.rt v H'
def PE (X:Cx) (e:Expr) (t:TE):Prop:=
 ∀(pins:vP_) (s:Shared) (σ:St) (H:Hp) (Q:VK),Inv X pins σ H s->t σ H Q->wpAny 'f' X.A (eval e X.env) (EP X pins σ Q) X.xe s
def PT (X:Cx) (e:Expr) (t:TT):Prop:=
 ∀(pins:vP_) (s:Shared) (σ:St) (H:Hp) (Q:Bool->Hp->Prop),Inv X pins σ H s->t σ H Q->wpAny 'f' X.A (isTrue e X.env (eval e X.env)) (TP X pins σ Q) X.xe s
def PW (X:Cx) (e:Expr) (t:TT):Prop:=
 ∀(whole:Sem Value) (pins:vP_) (s:Shared) (σ:St) (H:Hp) (Q:Bool->Hp->Prop),Inv X pins σ H s->t σ H Q->wpAny 'f' X.A (isTrue e X.env whole) (TP X pins σ Q) X.xe s
def PW.pt {t:TT}(h:PW X e t):PT X e t:=h _
def PA (X:Cx) (es:List Expr) (t:TA):Prop:=
 ∀(pos:Pos) (pins:vP_) (s:Shared) (σ:St) (H:Hp) (Q:List V->Hp->Prop),Inv X pins σ H s->t σ H Q->wpAny 'f' X.A (spliced 'x') (AP X pins σ Q) X.xe s
def PS (X:Cx) (st:Stmt) (t:TS):Prop:=
 ∀(pins:vP_) (s:Shared) (σ:St) (H:Hp) (D:Ends),Inv X pins σ H s->t D σ H->wpAny 'f' X.A (exec st X.env) (SP X pins D) X.xe s
def PSs (X:Cx) (st:List Stmt) (t:TS):Prop:=
 ∀(pins:vP_) (s:Shared) (σ:St) (H:Hp) (D:Ends),Inv X pins σ H s->t D σ H->wpAny 'f' X.A (execs st X.env) (SP X pins D) X.xe s
def v3 {α:Type}{t:Sem α}{Q Q':α->Shared->Prop}(h:wpAny M A t Q E s) (J:∀a s,Q a s->Q' a s):wpAny M A t Q' E s:=Qg h J fun _ _ x=>x
section
def bq (i:Nat):TE:=fun σ H Q=>∃v,σ[i]? = some (some v)/\Q v H
def tC (v:V):TE:=fun _ H Q=>Q v H
def JI {i:Nat}{x:Str}{pos:Pos}(hN:X.N[i]? = some x) (hv:rQ X.env.scope x) (Z:(x == ("__debug__" : Str))=false:=by decide) (hcd:(x == ("__classdict__" : Str))=false:=by decide):PE X (.Name x pos) (bq i):=by
 intro pins s σ H Q I h;refine gB_ fun G_ g_=>?_
 obtain⟨v,e,h⟩:=h;obtain⟨m,hn,hl⟩:=I.loc;obtain⟨u,r,l⟩:=hl i x v hN e hv;have Y:EP X pins σ Q u s:=#[v,H,I,r,h]
 apply g_;rcases l with ⟨U,hm⟩ | ⟨U,c,hc,J⟩
 .exact RV (SK I.ok.kind U hn hm Y) Z
 .rcases U with U | U
  .exact RV (wpAny_loadName_cell I.ok.kind U hc J Y) Z
  .exact RV (wpAny_loadName_free I.ok.kind U hc J Y hcd) Z
def cY {i j pos}:PE X (.Constant (.int i) j pos) (tC (.int i)):=fun _ _ _ H _ I h=>wpAny_Constant_int #[.int i,H,I.tok _,#[_,rfl],h]
def Oz {b j pos}:PE X (.Constant (.bool b) j pos) (tC (.bl b)):=fun _ _ _ H _ I h=>Constant_bool #[.bl b,H,I,rfl,h]
def MX {j pos}:PE X (.Constant .none j pos) (tC .non):=fun _ _ _ H _ I h=>Constant_none #[.non,H,I,rfl,h]
def DC {x j pos}:PE X (.Constant (.str x) j pos) (tC (.str x)):=fun _ _ _ H _ I h=>Calls.Constant_str #[.str x,H,I.tok _,#[_,rfl],h]
def Gl (X:Cx) (x:Str):Prop:=X.env.kindOf x=some .globalImplicit
def iK {E:vQ_}{pins:vP_}{s:Shared}{H:Hp}{x:Str}{u:Value}{pos:Pos}{Q:vQ_}(I:Inv X pins σ H s) (U:Gl X x) (J:X.mg x=some u) (h:Q u s)
  (Y:(x == ("__debug__" : Str))=false:=by decide):wpAny 'f' X.A (eval (.Name x pos) X.env) Q E s:=
 Calls.Name_function_global I.ok.kind U (Calls.loadGlobal_global (by rw[I.ok.glob];exact I.mod.glob.keeps I.bk) J h) Y
def cH {E:vQ_}{pins:vP_}{s:Shared}{H:Hp}{x:Str}{u:Value}{pos:Pos}{Q:vQ_}(I:Inv X pins σ H s) (Y:Gl X x) (U:X.mg x=none) (J:bootBuiltins x=some u) (h:Q u s)
  (hn:x ≠ "__name__" := by decide) (Z:(x == ("__debug__" : Str))=false:=by decide):wpAny 'f' X.A (eval (.Name x pos) X.env) Q E s:=by
 obtain⟨mb,h1,h2⟩:=I.mod.blt;exact Calls.Name_function_global I.ok.kind Y (Calls.loadGlobal_builtin (by rw[I.ok.glob];exact I.mod.glob.keeps I.bk) U (by rw[I.ok.blt];exact h1.keeps I.bk) ((h2 x hn).trans J) h) Z
def zr {x:Str}{v:V}{u:Value}{pos:Pos}(U:Gl X x) (J:X.mg x=some u) (r:RelV v u) (Y:(x == ("__debug__" : Str))=false:=by decide):PE X (.Name x pos) (tC v):=
 fun _ _ _ H _ I h=>iK I U J #[v,H,I,r,h] Y
def tD {x:Str}{v:V}{u:Value}{pos:Pos}(Y:Gl X x) (U:X.mg x=none) (J:bootBuiltins x=some u) (r:RelV v u) (hn:x ≠ "__name__" := by decide) (Z:(x == ("__debug__" : Str))=false:=by decide):PE X (.Name x pos) (tC v):=
 fun _ _ _ H _ I h=>cH I Y U J #[v,H,I,r,h] hn Z
variable {a b:Expr}{ta tb:TE}{pos:Pos}
variable {tA tB':TT}{rest:List Expr}
def CA (t u:TT):TT:=fun σ H Q=>t σ H fun c H1=>if c=true then u σ H1 Q else Q false H1
def LF (t u:TT):TT:=fun σ H Q=>t σ H fun c H1=>if c=true then Q true H1 else u σ H1 Q
def Iu (t:TT):TT:=fun σ H Q=>t σ H fun c H1=>Q (!c) H1
def JY (J:PT X a tA):PW X (.BoolOp .And [a] pos) tA:=by
 intro U pins s σ H Q I h;refine isTrue_and (v3 (J pins s σ H Q I h) fun c s1 e=>?_);cases c with
 |true=>exact isTrue_and_nil e
 |false=>exact e
def Fy (J:PT X a tA):PW X (.BoolOp .Or [a] pos) tA:=by
 intro U pins s σ H Q I h;refine isTrue_or (v3 (J pins s σ H Q I h) fun c s1 e=>?_);cases c with
 |false=>exact isTrue_or_nil e
 |true=>exact e
def GQ (ha:PT X a tA) (Z:PW X (.BoolOp .And (b::rest) pos) tB'):PW X (.BoolOp .And (a::b::rest) pos) (CA tA tB'):=by
 intro Y pins s σ H Q I h;refine isTrue_and (v3 (ha pins s σ H _ I h) fun c s1 ⟨H1,U,J⟩=>?_);cases c with
 |true=>exact Z Y pins s1 σ H1 Q U J
 |false=>exact#[H1,U,J]
def IK (ha:PT X a tA) (Z:PW X (.BoolOp .Or (b::rest) pos) tB'):PW X (.BoolOp .Or (a::b::rest) pos) (LF tA tB'):=by
 intro Y pins s σ H Q I h;refine isTrue_or (v3 (ha pins s σ H _ I h) fun c s1 ⟨H1,U,J⟩=>?_);cases c with
 |true=>exact#[H1,U,J]
 |false=>exact Z Y pins s1 σ H1 Q U J
def Nl (J:PT X a tA):PT X (.UnaryOp .Not a pos) (Iu tA):=by
 intro pins s σ H Q I h;exact isTrue_not (J pins s σ H (fun c H1=>Q (!c) H1) I h)
def DW (ta tb:TE):TE:=fun σ H Q=>ta σ H fun x H1=>∃c,x = .bl c/\if c=true then tb σ H1 Q else Q (.bl false) H1
def HK (ta tb:TE):TE:=fun σ H Q=>ta σ H fun x H1=>∃c,x = .bl c/\if c=true then Q (.bl true) H1 else tb σ H1 Q
def Ia (ta:TE):TE:=fun σ H Q=>ta σ H fun x H1=>∃c,x = .bl c/\Q (.bl (!c)) H1
def JJ {op} {t:TE}(h:PE X a t):PE X (.BoolOp op [a] pos) t:=fun pins s σ H Q I J=>BoolOp_one (h pins s σ H Q I J)
def Ke (ha:PE X a ta) (Z:PE X (.BoolOp .And (b::rest) pos) tb):PE X (.BoolOp .And (a::b::rest) pos) (DW ta tb):=by
 intro pins s σ H Q I h;refine BoolOp_and (v3 (ha pins s σ H _ I h) fun v s1 ⟨x,H1,U,Y,J⟩=>?_);obtain⟨c,rfl,J⟩:=J;cases Y;refine Rn ?_;cases c with
 |true=>exact Z pins s1 σ H1 Q U J
 |false=>exact#[.bl false,H1,U,rfl,J]
def NM (ha:PE X a ta) (Z:PE X (.BoolOp .Or (b::rest) pos) tb):PE X (.BoolOp .Or (a::b::rest) pos) (HK ta tb):=by
 intro pins s σ H Q I h;refine BoolOp_or (v3 (ha pins s σ H _ I h) fun v s1 ⟨x,H1,U,Y,J⟩=>?_);obtain⟨c,rfl,J⟩:=J;cases Y;refine Rn ?_;cases c with
 |false=>exact Z pins s1 σ H1 Q U J
 |true=>exact#[.bl true,H1,U,rfl,J]
def Dx (Y:PE X a ta):PE X (.UnaryOp .Not a pos) (Ia ta):=by
 intro pins s σ H Q I h;refine UnaryOp_ (v3 (Y pins s σ H _ I h) fun v s1 ⟨x,H1,Z,U,J⟩=>?_);obtain⟨c,rfl,J⟩:=J;cases U;exact not_of (Rn #[.bl (!c),H1,Z,rfl,J])
def DP (t:TT) (ta tb:TE):TE:=fun σ H Q=>t σ H fun c H1=>if c=true then ta σ H1 Q else tb σ H1 Q
def Mu {c:Expr}(Z:PT X c tA) (ha:PE X a ta) (Y:PE X b tb):PE X (.IfExp c a b pos) (DP tA ta tb):=by
 intro pins s σ H Q I h;refine wpAny_IfExp (v3 (Z pins s σ H _ I h) fun d s1 ⟨H1,U,J⟩=>?_);cases d with
 |true=>exact ha pins s1 σ H1 Q U J
 |false=>exact Y pins s1 σ H1 Q U J
end
def SqL (K:vF_) (H:Hp) (a:Addr) (xs:List V):Prop:=
 Rd H a (.lst xs) \/
  ∃(o:Obj) (its:vR_) (n:Nat),K.lookup a=some o/\o.cls = .type "list" /\ o.dict=none/\o.data = .seq its n/\its.size<=sizeLine/\Vals xs its.toList
def SqT (K:vF_) (H:Hp) (a:Addr) (xs:List V):Prop:=
 Rd H a (.tup xs) \/
  ∃(o:Obj) (its:vR_) (n:Nat),K.lookup a=some o/\o.cls = .type "tuple" /\ o.data = .seq its n/\its.size<=sizeLine/\Vals xs its.toList
def JB:Value->Option V
 |.none=>some .non
 |.bool b=>some (.bl b)
 |.int i _=>some (.int i)
 |.str x _=>some (.str x)
 |.bytes b _=>some (.byt b)
 |.float b _=>some (.flt b)
 |.ref a=>some (.ref a)
 |.type n=>some (.ty n)
 |_=>none
def RelV.abs {x:V}(r:RelV x u):JB u=some x:=by
 cases x with
 |non=>cases r;rfl
 |bl _=>cases r;rfl
 |int _=>obtain⟨t,rfl⟩:=r;rfl
 |str _=>obtain⟨t,rfl⟩:=r;rfl
 |byt _=>obtain⟨t,rfl⟩:=r;rfl
 |flt _=>obtain⟨t,rfl⟩:=r;rfl
 |ref _=>cases r;rfl
 |ty _=>cases r;rfl
def RelV.inj {x y:V}(r:RelV x u) (q:RelV y u):x=y:=Qi (r.abs.symm.trans q.abs)
theorem Vals.inj:∀{xs ys:List V}{us:vV_},Vals xs us->Vals ys us->xs=ys:=by
 intro xs ys us h;induction h generalizing ys with
 |nil=>
  intro h2;cases h2;rfl
 |cons r t J=>
  intro h2;cases h2 with
  |cons r' t'=>rw[r.inj r',J t']
section
variable {a:Addr}
def SqL.of {K:vF_}(h:H a=some (.lst xs)):SqL K H a xs:=.inl (.inl h)
def SqT.of {K:vF_}(h:H a=some (.tup xs)):SqT K H a xs:=.inl (.inl h)
def Inv.list (I:Inv X pins σ H s) (h:SqL X.K H a xs):∃its:List Value,Vals xs its/\PlainL s.heap a its.toArray/\xs.length<=sizeLine:=by
 rcases h with h | ⟨o,its,n,hk,hc,hd,hs,hz,r⟩
 .obtain⟨z,its,n,r,e⟩:=h.ok I.hok;exact#[its,r,#[_,n,e,rfl,rfl,rfl],z]
 .refine#[its.toList,r,#[o,n,I.kIn a o hk,hc,hd,by simpa using hs],?_];have e:=r.length;simp only[TF] at e;omega
def Inv.tuple (I:Inv X pins σ H s) (h:SqT X.K H a xs):∃its:List Value,Vals xs its/\IsTup s.heap a its.toArray/\xs.length<=sizeLine:=by
 rcases h with h | ⟨o,its,n,hk,hc,hs,hz,r⟩
 .obtain⟨z,its,r,p⟩:=h.ok I.hok;exact#[its,r,p,z]
 .refine#[its.toList,r,#[o,I.kIn a o hk,hc,n,by simpa using hs],?_];have e:=r.length;simp only[TF] at e;omega
def Inv.list_inj (I:Inv X pins σ H s) (h:SqL X.K H a xs) (h':SqL X.K H a ys):xs=ys:=by
 refine gB_ fun G_ Z=>?_
 obtain⟨its,r,⟨o,n,e,_,_,d⟩,_⟩:=I.list h;obtain⟨J,r',⟨o',n',Y,_,_,U⟩,_⟩:=I.list h';rw[e] at Y;cases Y;rw[d] at U;apply Z;injection U with d1 _;have:its=J:=by simpa using congrArg Array.toList d1
 subst this;exact r.inj r'
def Inv.tuple_inj (I:Inv X pins σ H s) (h:SqT X.K H a xs) (h':SqT X.K H a ys):xs=ys:=by
 refine gB_ fun G_ Z=>?_
 obtain⟨its,r,⟨o,e,_,n,d⟩,_⟩:=I.tuple h;obtain⟨J,r',⟨o',Y,_,n',U⟩,_⟩:=I.tuple h';rw[e] at Y;cases Y;rw[d] at U;apply Z;injection U with d1 _;have:its=J:=by simpa using congrArg Array.toList d1
 subst this;exact r.inj r'
end
abbrev Cx.wish (X:Cx) (E:vQ_):Cx:={ X with xe:=E }
abbrev Cx.nox (X:Cx):Cx:=X.wish fun _ _=>False
theorem Cx.Ok.wish (J:X.Ok) (E:vQ_):(X.wish E).Ok:=
 #[J.mod,J.kind,J.glob,J.blt,J.above,J.inj,J.has,J.cab,J.hd,J.frames,J.stk,J.exf,J.bs,J.bsz,J.noex,J.exfs,J.funs,J.frf]
def Cx.Ok.unwish (J:(X.wish E).Ok):X.Ok:=
 #[J.mod,J.kind,J.glob,J.blt,J.above,J.inj,J.has,J.cab,J.hd,J.frames,J.stk,J.exf,J.bs,J.bsz,J.noex,J.exfs,J.funs,J.frf]
theorem Inv.wish (I:Inv X pins σ H s) (E:vQ_):Inv (X.wish E) pins σ H s:=#[I.ok.wish E,I.os,I.bare,I.base,I.loc,I.cell,I.free,I.freeC,I.pin,I.hok,I.len]
theorem Inv.unwish (I:Inv (X.wish E) pins σ H s):Inv X pins σ H s:=#[I.ok.unwish,I.os,I.bare,I.base,I.loc,I.cell,I.free,I.freeC,I.pin,I.hok,I.len]
theorem SP.unwish {D:Ends}(h:SP (X.wish E) pins D f s'):SP X pins D f s':=by
 cases f with
 |next=>obtain⟨σ',H',I,q⟩:=h;exact#[σ',H',I.unwish,q]
 |brk=>obtain⟨σ',H',I,q⟩:=h;exact#[σ',H',I.unwish,q]
 |cont=>obtain⟨σ',H',I,q⟩:=h;exact#[σ',H',I.unwish,q]
 |ret u=>obtain⟨v,σ',H',I,r,q⟩:=h;exact#[v,σ',H',I.unwish,r,q]
theorem PSs.nox {st:List Stmt}{t:TS}(h:PSs X.nox st t):PSs X st t:=fun pins s σ H D I J=>
 Qg (h pins s σ H D (I.wish _) J) (fun _ _ q=>q.unwish) fun _ _ z=>False.elim z
section
variable {st:Stmt}{rest:List Stmt}{t u:TS}{pos:Pos}
def OM:TS:=fun D σ H=>D.nx σ H
def Iq (t u:TS):TS:=fun D σ H=>t { D with nx:=u D } σ H
def Kc:PSs X [] OM:=fun _ _ σ H _ I h=>Sk #[σ,H,I,h]
def IJ (h1:PS X st t) (h2:PSs X rest u):PSs X (st::rest) (Iq t u):=by
 intro pins s σ H D I h;refine TH (v3 (h1 pins s σ H { D with nx:=u D } I h) fun f s1 q=>?_);cases f with
 |next=>
  obtain⟨σ',H',J,q⟩:=q;exact h2 pins s1 σ' H' D J q
 |ret v=>exact q
 |brk=>exact q
 |cont=>exact q
def ER (h1:PS X st t):PSs X [st] t:=by
 intro pins s σ H D I h;refine TH (v3 (h1 pins s σ H D I h) fun f s1 q=>?_);cases f with
 |next=>exact Sk q
 |ret v=>exact q
 |brk=>exact q
 |cont=>exact q
def Inv.quiet (I:Inv X pins σ H s):interactive X.env=false:=by simp[interactive,I.ok.kind]
def Ln (te:TE):TS:=fun D σ H=>te σ H fun _ H1=>D.nx σ H1
def Hl (U:PE X e te) (Z:swapsWith e none pos.line X.env=pure false:=by rfl):PS X (.Expr e pos) (Ln te):=by
 intro pins s σ H D I h;exact wpAny_Expr_any (v3 (U pins s σ H _ I h) fun v s1 ⟨x,H1,Y,r1,J⟩=>#[σ,H1,Y,J]) I.quiet Z
def Jx (te:TE):TS:=fun D σ H=>te σ H D.rt
def wI (Y:PE X e te):PS X (.Return (some e) pos) (Jx te):=by
 intro pins s σ H D I h;exact wpAny_Return_some (v3 (Y pins s σ H _ I h) fun v s1 ⟨x,H1,Z,U,J⟩=>#[x,σ,H1,Z,U,J])
def Lu (c:TT) (t u:TS):TS:=fun D σ H=>c σ H fun b H1=>if b=true then t D σ H1 else u D σ H1
def yM {c:Expr}{a b:List Stmt}(Z:PT X c tc) (ha:PSs X a t) (Y:PSs X b u):PS X (.If c a b pos) (Lu tc t u):=by
 intro pins s σ H D I h;refine wpAny_If (v3 (Z pins s σ H _ I h) fun d s1 ⟨H1,U,J⟩=>?_);cases d with
 |true=>exact ha pins s1 σ H1 D U J
 |false=>exact Y pins s1 σ H1 D U J
end
abbrev TG:=V->St->Hp->(St->Hp->Prop)->Prop
abbrev aM:=List V->St->Hp->(St->Hp->Prop)->Prop
def PG (X:Cx) (J:Expr) (t:TG):Prop:=
 ∀(pins:vP_) (s:Shared) (σ:St) (H:Hp) (v:V) (u:Value) (Q:St->Hp->Prop),Inv X pins σ H s->RelV v u->t v σ H Q ->
  wpAny 'f' X.A (assign J X.env u) (fun _ s'=>∃σ' H',Inv X pins σ' H' s'/\Q σ' H') X.xe s
def cQ (X:Cx) (J:List Expr) (t:aM):Prop:=
 ∀(pins:vP_) (s:Shared) (σ:St) (H:Hp) (vs:List V) (us:vV_) (Q:St->Hp->Prop),Inv X pins σ H s->Vals vs us->t vs σ H Q ->
  wpAny 'f' X.A (assignInOrder ((assignEach J X.env).map (·.2)) us) (fun _ s'=>∃σ' H',Inv X pins σ' H' s'/\Q σ' H') X.xe s
abbrev rG:=V->V->V->Hp->(Hp->Prop)->Prop
def zf (X:Cx) (t:rG):Prop:=
 ∀(pins:vP_) (s:Shared) (σ:St) (H:Hp) (o i v:V) (ov iv u:Value) (Q:Hp->Prop),Inv X pins σ H s->RelV o ov->RelV i iv->RelV v u->t o i v H Q ->
  wpAny 'f' X.A (setItem ov iv u) (fun _ s'=>∃H',Inv X pins σ H' s'/\Q H') X.xe s
section
variable {pos:Pos}
def X0 (i:Nat):TG:=fun v σ H Q=>Q (σ.set i (some v)) H
def S7 {i:Nat}{x:Str}(U:X.N.Nodup) (hi:X.N[i]? = some x) (J:bU X.env.scope x) (Z:X.fn x=true\/X.env.scope.names.lookup x=some .local:=by first | exact .inl rfl | exact .inr rfl | assumption):PG X (.Name x pos) (X0 i):=by
 intro pins s σ H v u Q I r h;exact wpAny_assign_Name (gE I U hi J r (fun s' Y=>#[_,H,Y,h]) Z)
def qR:aM:=fun vs σ H Q=>vs=[]/\Q σ H
def hZ (t:TG) (u:aM):aM:=fun vs σ H Q=>∃v r,vs=v::r/\t v σ H fun σ' H'=>u r σ' H' Q
def pP:cQ X [] qR:=by
 intro pins s σ H vs us Q I r h;obtain⟨e,h⟩:=h;subst e;cases r;exact assignInOrder_nil #[σ,H,I,h]
def jj {e:Expr}{es:List Expr}{t:TG}{u:aM}(h1:PG X e t) (h2:cQ X es u)
  (Z:(assignEach (e::es) X.env).map (·.2)=assign e X.env::(assignEach es X.env).map (·.2):=by rfl):cQ X (e::es) (hZ t u):=by
 intro pins s σ H vs us Q I r h;obtain⟨v,vr,Y,h⟩:=h;subst Y;cases r with
 |cons r rr=>
  rw[Z];refine assignInOrder_cons (v3 (h1 pins s σ H _ _ _ I r h) fun _ s1 ⟨σ1,H1,U,J⟩=>?_);exact h2 pins s1 σ1 H1 _ _ Q U rr J
def qM (K:vF_) (n:Nat) (t:aM):TG:=fun v σ H Q=>∃a xs,v = .ref a/\SqT K H a xs/\xs.length=n/\t xs σ H Q
def nV {es:List Expr}{k:Nat}{t:aM}{n:Nat}(hc:X.calm=true) (h:cQ X es t)
  (hn:(assignEach es X.env).length=n:=by rfl) (U:(assignEach es X.env).findIdx? (·.1)=none:=by rfl):PG X (.Tuple es k pos) (qM X.K n t):=by
 intro pins s σ H v u Q I r J;obtain⟨a,xs,e1,Z,hl,J⟩:=J;subst e1;cases r;obtain⟨its,Y,ht,hz⟩:=I.tuple Z;refine assign_Tuple_tuple (I.ok.hd hc) ht (by simp[hn,<-hl,Y.length]) U fun h' hx=>?_
 have I1:Inv X pins σ H { s with heap:=h' }:=I.kept (t':=s.toks) fun b o e=>hx b o (Ql (PB e)) e
 exact h pins _ σ H xs _ Q I1 (by simpa using Y) J
def Fe (to U:TE) (t:rG):TG:=fun v σ H Q=>to σ H fun o H1=>U σ H1 fun i H2=>t o i v H2 fun J=>Q σ J
def JZ {o i:Expr}{to J:TE}{t:rG}(ho:PE X o to) (hi:PE X i J) (hs:zf X t)
  (Z:∀v,assign (.Subscript o i pos) X.env v=(do
   let ov <-holding [v] (eval o X.env)
   let iv <-holding [v,ov] (eval i X.env)
   standAt pos
   holding [v,ov,iv] (setItem ov iv v)
   release [v,ov,iv] []):=by intro _;rfl):PG X (.Subscript o i pos) (Fe to J t):=by
 intro pins s σ H v u Q I r h;rw[Z];refine gV (QP (v3 (ho pins s σ H _ I h) fun ov s1 ⟨x,H1,I1,r1,U⟩=>?_));refine gV (QP (v3 (hi pins s1 σ H1 _ I1 U) fun iv s2 ⟨y,H2,Y,r2,q2⟩=>?_));refine gV (RW (gV (QP (v3 (hs pins s2 σ H2 x y v ov iv u _ Y r1 r2 r q2) fun _ s3 ⟨H3,I3,q3⟩=>?_))));exact wpAny_release #[σ,H3,I3,q3]
def ia (te:TE) (g:TG):TS:=fun D σ H=>te σ H fun x H1=>g x σ H1 D.nx
def tK {tg e:Expr}{te:TE}{g:TG}(he:PE X e te) (U:PG X tg g) (Z:swapsWithSole [tg] e pos.line X.env=pure false:=by rfl) (J:swappedStores [tg] e X.env=pure none:=by rfl)
  (h1:(assignEach [tg] X.env).map (·.2)=[assign tg X.env]:=by rfl):PS X (.Assign [tg] e pos) (ia te g):=by
 intro pins s σ H D I h;refine wpAny_Assign_stores (v3 (he pins s σ H _ I h) fun v s1 ⟨x,H1,I1,Y,q1⟩=>?_) Z J;rw[h1];exact v3 (U pins s1 σ H1 x v _ I1 Y q1) fun _ s2 q=>q
def zi {i:Nat}{x:Str}{e:Expr}{te:TE}{pos':Pos}(hN:X.N.Nodup) (hi:X.N[i]? = some x) (hx:bU X.env.scope x) (he:PE X e te) (Y:swapsWith e (some (.Name x pos')) pos.line X.env=pure false:=by rfl) (hf:X.fn x=true\/X.env.scope.names.lookup x=some .local:=by first | exact .inl rfl | exact .inr rfl | assumption) :
  PS X (.Assign [.Name x pos'] e pos) (ia te (X0 i)):=by
 intro pins s σ H D I h;refine wpAny_Assign_Name (v3 (he pins s σ H _ I h) fun v s1 ⟨y,H1,I1,U,Z⟩=>?_) Y;exact gE I1 hN hi hx U (fun s2 J=>#[_,H1,J,Z]) hf
def Gs (i j:Nat) (ta:TA):TS:=fun D σ H=>ta σ H fun vs H1=>∃v w,vs=[v,w]/\D.nx ((σ.set i (some v)).set j (some w)) H1
def Gu {i j:Nat}{x y:Str}{a b:Expr}{ta:TA}{px py pt:Pos}{kt k2 pt2} (hc:X.calm=true) (hN:X.N.Nodup) (hi:X.N[i]? = some x) (hj:X.N[j]? = some y) (Y:i≠j)
  (hx:X.env.scope.names.lookup x=some .local) (Z:X.env.scope.names.lookup y=some .local) (ha:PA X [a,b] ta)
  (hw:swappedStores [.Tuple [.Name x px,.Name y py] kt pt] (.Tuple [a,b] k2 pt2) X.env=pure (some [x,y]))
  (hs:swapsWithSole [.Tuple [.Name x px,.Name y py] kt pt] (.Tuple [a,b] k2 pt2) pos.line X.env=pure false:=by rfl) :
  PS X (.Assign [.Tuple [.Name x px,.Name y py] kt pt] (.Tuple [a,b] k2 pt2) pos) (Gs i j ta):=by
 intro pins s σ H D I h;rw[exec_Assign_arm];refine gV (RW ?_);rw[hs];refine gV (td ?_);rw[iU #[]];refine gV (Tuple_ (v3 (ha _ pins s σ H _ I h) fun us s1 ⟨vs,H1,I1,r1,J⟩=>?_));obtain⟨v,w,e1,J⟩:=J;subst e1;obtain⟨u1,u2,rfl,rv,rw'⟩:∃u1 u2,us=[u1,u2]/\RelV v u1/\RelV w u2:=by
  cases r1 with
  |cons p q=>
   cases q with
   |cons p' q'=>
    cases q';exact#[_,_,rfl,p,p']
 refine QQ ?_ (by show 2<=sizeLine;decide);have I2:Inv X pins σ H1 { s1 with heap:=s1.heap.push { cls:=.type "tuple",data:=.seq [u1,u2].toArray } }:=I1.kept (t':=s1.toks) fun b o e=>PF _ e
 rw[hw];refine gV (td ?_);show wpAny 'f' X.A (do rule "assign.swapped-stores";let items <-unpackItems (.ref s1.heap.objs.size) 2 none;assignInOrder [fun v=>bindName X.env y v,fun v=>bindName X.env x v] items.reverse;pure Flow.next) _ _ _;refine gV (QY (gV (unpackItems_tuple (items:=#v[u1,u2]) (I.ok.hd hc) (IsTup.new s1.heap _) fun h' U=>?_)));have I3:=I2.kept (h':=h') (t':=s1.toks) fun b o e=>U b o (Ql (PB e)) e
 show wpAny _ _ (assignInOrder [fun v=>bindName X.env y v,fun v=>bindName X.env x v] [u2,u1] >>= fun _=>pure Flow.next) _ _ _;refine gV (assignInOrder_cons (TJ (gE I3 hN hj (.inl Z) rw' (fun s2 I4=>?_) (.inr Z))));refine assignInOrder_cons (TJ (gE I4 hN hi (.inl hx) rv (fun s3 I5=>assignInOrder_nil (td ?_)) (.inr hx)));rw[List.set_comm _ _ (Qd Y)] at I5;exact#[_,H1,I5,J]
end
section
variable {pos:Pos}
def MH (c:TT) (tb:TS):TS:=fun D σ H=>∃W:Nat->St->Hp->Prop,(∃m,W m σ H)/\∀m σ H,W m σ H ->
 c σ H fun b H1=>if b=true then ∃N:St->Hp->Prop,(∀σ' H',N σ' H'->∃m',m'<m/\W m' σ' H')/\tb { D with nx:=N,ct:=N,bk:=D.nx } σ H1 else D.nx σ H1
def Mc {c:Expr}(hp:PassesOwn 'f' X.A X.env X.xe) (hc:PT X c tc) (hb:PSs X body tb):PS X (.While c body [] pos) (MH tc tb):=by
 intro pins s σ H D I h;obtain⟨W,⟨m0,w0⟩,J⟩:=h;refine wpAny_While (codeAny_whileLoop (fun n s'=>∃σ' H',Inv X pins σ' H' s'/\W n σ' H') ?_ m0 #[σ,H,I,w0]);rintro n s1 ⟨σ1,H1,I1,w1⟩;refine RX hp (v3 (hc pins s1 σ1 H1 _ I1 (J n σ1 H1 w1)) fun b s2 ⟨H2,I2,Y⟩=>?_);cases b with
 |true=>
  obtain⟨N,hN,Y⟩:=Y;rw[iR rfl];refine RX hp (v3 (hb pins s2 σ1 H2 _ I2 Y) fun f s3 Z=>?_);cases f with
  |next=>
   obtain⟨σ3,U,I3,n3⟩:=Z;obtain⟨m',hm,w3⟩:=hN σ3 U n3;exact#[m',hm,σ3,U,I3,w3]
  |cont=>
   obtain⟨σ3,U,I3,n3⟩:=Z;obtain⟨m',hm,w3⟩:=hN σ3 U n3;exact#[m',hm,σ3,U,I3,w3]
  |brk=>exact Z
  |ret v=>exact Z
 |false=>
  rw[iU PL];exact Sk #[σ1,H2,I2,Y]
end
structure It where
 go:Nat->Hp->Prop
 yld:Nat->Hp->V->Hp->Prop
 stop:Nat->Hp->Prop
def R6 (X:Cx) (pins:vP_) (H:Hp) (b:Addr):Prop:=
 H b=none/\b≠X.env.locals/\b ∉ X.fs/\(b∈X.ex\/X.s₀.heap.objs.size<=b)/\(∀x c,X.env.cells.lookup x=some c->c≠b)/\∀p∈X.pn++pins,p.1≠b
def Inv.fpOk {b:Addr}(I:Inv X pins σ H s) (J:s.heap.objs.size<=b) (U:H' b=none):R6 X pins H' b:=by
 refine#[U,QI (Qb I.lt J),I.nofs J,.inr (PJ I.sz J),fun x c e z=>?_,fun p Y z=>?_]
 .obtain⟨v,q⟩:=I.cell x c e;exact absurd (Qb q.lt (by rw[z];exact J)) (QK _)
 .exact absurd (Qb (PB (I.pin p Y).1) (by rw[z];exact J)) (QK _)
structure Turn (P:Program) (w:World) (K:vF_) (tg:Expr) (J:It) (fp:vL_) (it:Addr) (tn:Nat->Heap->Prop):Prop where
 mem:it∈fp
 obj:∀i h,tn i h->∀b∈fp,∃o,h.get? b=some o/\∀v,o.data ≠ .cell v
 keep:∀i h h',tn i h->(∀b∈fp,∀o,h.get? b=some o->h'.get? b=some o)->tn i h'
 item:∀(X:Cx),X.prog=P->X.w=w->X.K=K->X.calm=true->∀(i:Nat) (pins:vP_) (s:Shared) (σ:St) (H:Hp) (E:vQ_),Inv X pins σ H s->(∀b∈fp,R6 X pins H b)->tn i s.heap->J.go i H ->
  wpAny (model P w) X.A (pyNext (.ref it)) (fun r s1=>∃u,r=some u /\
   wpAny (model P w) X.A (letOwnedTupleGo tg (.ref it) u) (fun _ s2=>∃x H',Inv X pins σ H' s2/\RelV x u/\J.yld i H x H'/\tn (i+1) s2.heap/\∀b∈fp,H' b=none) E s1) E s
 done:∀(X:Cx),X.prog=P->X.w=w->X.K=K->X.calm=true->∀(i:Nat) (pins:vP_) (s:Shared) (σ:St) (H:Hp) (E:vQ_),Inv X pins σ H s->(∀b∈fp,R6 X pins H b)->tn i s.heap->J.stop i H ->
  wpAny (model P w) X.A (pyNext (.ref it)) (fun r s1=>r=none/\Inv X pins σ H s1) E s
 self:∀(A:Around) (i:Nat) (s:Shared) (Q:vQ_) (E:vQ_),tn i s.heap->Q (.ref it) s->wpAny (model P w) A (pyIter (.ref it)) Q E s
abbrev TI:=St->Hp->(It->Hp->Prop)->Prop
def zU (X:Cx) (pins:vP_) (σ:St) (tg:Expr) (R:It->Hp->Prop) (U:Value) (s2:Shared):Prop:=
 ∃(it:Addr) (fp:vL_) (tn:Nat->Heap->Prop) (J:It) (H':Hp),U = .ref it/\Inv X pins σ H' s2/\Turn X.prog X.w X.K tg J fp it tn/\tn 0 s2.heap/\(∀b∈fp,R6 X pins H' b)/\R J H'
def PI (X:Cx) (tg iter:Expr) (wi:TI):Prop:=
 ∀(pins:vP_) (s:Shared) (σ:St) (H:Hp) (R:It->Hp->Prop),Inv X pins σ H s->wi σ H R ->
  wpAny 'f' X.A (eval iter X.env) (fun v s1=>wpAny 'f' X.A (pyIter v) (zU X pins σ tg R) X.xe s1) X.xe s
def qK {it:Addr}{o:Obj}{n:String}{Q:Unit->Shared->Prop}(ho:s.heap.get? it=some o) (U:o.cls = .type n) (Y:o.data = .fields vs)
    (Z:["enumerate", "zip", "dict_itemiterator", "dict_reverseitemiterator", "odict_iterator", "itertools.zip_longest", "itertools.pairwise"].contains n=false) (J:Q () s):wpAny M A (letOwnedTupleGo tg (.ref it) u) Q E s:=by
  unfold letOwnedTupleGo;cases tg <;> first
    | exact td J
    | (cases u <;> first
        | exact td J
        | (refine gV (wpAny_load ho ?_)
           rw[U,Y];show wpAny M A (if (["enumerate", "zip", "dict_itemiterator", "dict_reverseitemiterator", "odict_iterator", "itertools.zip_longest", "itertools.pairwise"].contains n&&vs[0]? == some (rawInt _))=true then _ else _) Q E s;rw[iU (by intro h;rw[Z,Ro] at h;cases h)];exact td J))
def iB (K:vF_) (a:Addr):It:=
 #[fun i H=>∃xs x,SqL K H a xs/\xs[i]? = some x,fun i H x H'=>H'=H/\∀xs,SqL K H a xs->xs[i]? = some x,fun i H=>∃xs,SqL K H a xs/\xs.length<=i]
def iq (K:vF_) (a:Addr):It:=
 #[fun i H=>∃xs x,SqT K H a xs/\xs[i]? = some x,fun i H x H'=>H'=H/\∀xs,SqT K H a xs->xs[i]? = some x,fun i H=>∃xs,SqT K H a xs/\xs.length<=i]
def eF (lo:Int) (n:Nat):It:=#[fun i _=>i<n,fun i H x H'=>H'=H/\x = .int (lo+i),fun i _=>n<=i]
def Pr {w:World}{K:vF_}(a it:Addr):Turn P w K tg (iB K a) [it] it (fun i h=>h.IsListIter it a i) where
 mem:=by simp
 obj:=fun i h st b J=>by
  have e:b=it:=by simpa using J
  subst e;obtain⟨o,e,c,d⟩:=st;exact#[o,e,fun v z=>by rw[d] at z;cases z]
 keep:=fun i h h' st k=>st.at fun o e=>k it 'g' o e
 item:=by
  intro X hP hw hK hc i pins s σ H E I Z st hg;subst hP hw hK;obtain⟨xs,x,Y,hx⟩:=hg;obtain⟨its,rv,p,hz⟩:=I.list Y;obtain⟨u,hu,ru⟩:=rv.get hx;obtain⟨f0,f1,f2,f3,f4,f5⟩:=Z it 'g';refine wpAny_pyNext_list_item st p.isList (x:=u) (by simpa using hu) fun h' U sb=>?_
  have I1:Inv X pins σ H { s with heap:=h' }:=I.turned (t':=s.toks) (fun b o J e=>(sb.2 b J).trans e) f0 f1 f3 f4 f5;obtain⟨o,e,c,d⟩:=id U;exact#[u,rfl,qK (s:={ s with heap:=h' }) e c d #[] #[x,H,I1,ru,#[rfl,fun ys hy=>by rw[I.list_inj hy Y];exact hx],U,fun b J=>(Z b J).1]]
 done:=by
  intro X hP hw hK hc i pins s σ H E I Z st hg;subst hP hw hK;obtain⟨xs,Y,hx⟩:=hg;obtain⟨its,rv,p,hz⟩:=I.list Y;obtain⟨f0,f1,f2,f3,f4,f5⟩:=Z it 'g';have hl:=rv.length;exact wpAny_pyNext_list_end (I.ok.hd hc) st p.isList (by simp;omega) fun h' eb=>#[rfl,I.turned (t':=s.toks) (fun b o J e=>eb b o J e) f0 f1 f3 f4 f5]
 self:=fun _ _ _ _ _ st h=>wpAny_pyIter_listiter st h
def FW {w:World}{K:vF_}(a it:Addr):Turn P w K tg (iq K a) [it] it (fun i h=>h.IsTupleIter it a i) where
 mem:=by simp
 obj:=fun i h st b J=>by
  have e:b=it:=by simpa using J
  subst e;obtain⟨o,e,c,d⟩:=st;exact#[o,e,fun v z=>by rw[d] at z;cases z]
 keep:=fun i h h' st k=>st.at fun o e=>k it 'g' o e
 item:=by
  intro X hP hw hK hc i pins s σ H E I Z st hg;subst hP hw hK;obtain⟨xs,x,Y,hx⟩:=hg;obtain⟨its,rv,p,hz⟩:=I.tuple Y;obtain⟨u,hu,ru⟩:=rv.get hx;obtain⟨f0,f1,f2,f3,f4,f5⟩:=Z it 'g';refine wpAny_pyNext_tuple_item st (show s.heap.IsTuple a its.toArray from p) (x:=u) (by simpa using hu) fun h' U sb=>?_
  have I1:Inv X pins σ H { s with heap:=h' }:=I.turned (t':=s.toks) (fun b o J e=>(sb.2 b J).trans e) f0 f1 f3 f4 f5;obtain⟨o,e,c,d⟩:=id U;exact#[u,rfl,qK (s:={ s with heap:=h' }) e c d #[] #[x,H,I1,ru,#[rfl,fun ys hy=>by rw[I.tuple_inj hy Y];exact hx],U,fun b J=>(Z b J).1]]
 done:=by
  intro X hP hw hK hc i pins s σ H E I Z st hg;subst hP hw hK;obtain⟨xs,Y,hx⟩:=hg;obtain⟨its,rv,p,hz⟩:=I.tuple Y;obtain⟨f0,f1,f2,f3,f4,f5⟩:=Z it 'g';have hl:=rv.length;exact wpAny_pyNext_tuple_end (I.ok.hd hc) st (show s.heap.IsTuple a its.toArray from p) (by simp;omega) fun h' eb=>#[rfl,I.turned (t':=s.toks) (fun b o J e=>eb b o J e) f0 f1 f3 f4 f5]
 self:=fun _ _ _ _ _ st h=>wpAny_pyIter_tupleiter st h
def Nr {w:World}{K:vF_}(it:Addr) (lo:Int) (n:Nat):Turn P w K tg (eF lo n) [it] it (fun i h=>IsRangeIter h it (lo+(i:Nat)*1) ((n:Int) - (i:Nat)) 1) where
 mem:=by simp
 obj:=fun i h st b J=>by
  have e:b=it:=by simpa using J
  subst e;exact#[_,st,fun v z=>by
   have z':Data.fields _=Data.cell v:=z;cases z']
 keep:=fun i h h' st k=>k it 'g' _ st
 item:=by
  intro X hP Z hK hc i pins s σ H E I Y st hg;subst hP Z hK;obtain⟨f0,f1,f2,f3,f4,f5⟩:=Y it 'g';have W:=Walks.range (prog:=X.prog) (w:=X.w) (I.ok.hd hc) it lo 1 n;refine W.item i s _ _ hg st fun v h' tk hv U kk=>?_
  obtain⟨t,rfl⟩:=hv;have I1:Inv X pins σ H { s with heap:=h',toks:=tk }:=I.turned (fun b o J e=>kk b o (by simpa using J) e) f0 f1 f3 f4 f5;refine#[_,rfl,qK (s:={ s with heap:=h',toks:=tk }) (n := "range_iterator") U rfl rfl #[] #[.int (lo+i),H,I1,#[t,?_],#[rfl,rfl],U,fun b J=>(Y b J).1]];rw[Int.mul_one]
 done:=by
  intro X hP Z hK hc i pins s σ H E I Y st hg;subst hP Z hK;obtain⟨f0,f1,f2,f3,f4,f5⟩:=Y it 'g';exact wpAny_pyNext_range_end (I.ok.hd hc) st (by have:n<=i:=hg;omega) fun h' eb=>#[rfl,I.turned (t':=s.toks) (fun b o J e=>eb b o J e) f0 f1 f3 f4 f5]
 self:=fun _ _ _ _ _ st h=>wpAny_pyIter_rangeiter st h
def IG {R:It->Hp->Prop}{lo hi:Int}{t u v:Tok}{J:Nat}(I:Inv X pins σ H s) (h1:-(2 ^ 62)<=lo) (h2:lo<2 ^ 62) (h3:-(2 ^ 62)<=hi) (h4:hi<2 ^ 62)
  (q:R (eF lo (hi - lo).toNat) H):wpAny 'f' X.A (pyIter (.ref s.heap.objs.size)) (zU X pins σ tg R) E { s with heap:=s.heap.push { cls:=.type "range",data:=.fields #v[.int lo t,.int hi u,.int 1 v] },toks:=J }:=by
 refine wpAny_pyIter_range (IsRange.new ..) (small_one h1 h2 h3 h4) ?_;have U:Inv X pins σ H { s with heap:=s.heap.push { cls:=.type "range",data:=.fields #v[.int lo t,.int hi u,.int 1 v] },toks:=J }:=I.kept fun b o e=>PF _ e
 refine#[(s.heap.push { cls:=.type "range",data:=.fields #v[.int lo t,.int hi u,.int 1 v] }).objs.size,[(s.heap.push { cls:=.type "range",data:=.fields #v[.int lo t,.int hi u,.int 1 v] }).objs.size],_,_,H,rfl,
  U.kept (t':=J) fun b o e=>PF _ e,Nr _ lo (hi - lo).toNat,?_,fun b Y=>?_,q]
 .have e1:lo+((0:Nat):Int)*1=lo:=by simp
  have Z:(((hi - lo).toNat:Nat):Int) - ((0:Nat):Int)=Builtin.Range.rangeSize lo hi 1:=by rw[rangeSize_one];split <;> omega
  show IsRangeIter _ _ (lo+((0:Nat):Int)*1) ((((hi - lo).toNat:Nat):Int) - ((0:Nat):Int)) 1;rw[e1,Z];exact Qq _ rfl
 .have e:b=(s.heap.push { cls:=.type "range",data:=.fields #v[.int lo t,.int hi u,.int 1 v] }).objs.size:=by simpa using Y
  subst e;exact U.fpOk (tx _) (U.hok.fresh (tx _))
def GS (ta:TA):TI:=fun σ H R=>ta σ H fun vs H1=>∃j:Int,vs=[.int j] /\ -(2 ^ 62)<=j/\j<2 ^ 62/\R (eF 0 j.toNat) H1
def Bg {ta:TA}{p pos:Pos}(U:Gl X "range") (hm:X.mg "range" = none) (Y:PA X [a] ta) (hs:starEach [a] X.env=[(false,eval a X.env)]:=by rfl):PI X tg (.Call (.Name "range" p) [a] [] pos) (GS ta):=by
 intro pins s σ H R I h;refine Call_ (cH I U hm boot_range (Sm (v3 (Y pos pins s σ H _ I h) fun us s1 ⟨vs,H1,Z,r1,J⟩=>?_) hs rfl));obtain⟨j,e,J,q2,q⟩:=J;subst e;cases r1 with
 |cons r rr=>
  cases rr;obtain⟨t,rfl⟩:=r;exact call_range_1 (IG Z ∅ ∅ J q2 (by simpa using q))
def Ei (wi:TI) (g:TG) (tb:TS):TS:=fun D σ H=>wi σ H fun J H1=>∃W:Nat->Nat->St->Hp->Prop,(∃m,W 0 m σ H1)/\∀i m σ H,W i m σ H ->
 (J.stop i H/\D.nx σ H)\/(J.go i H/\∃N:St->Hp->Prop,(∀σ' H',N σ' H'->∃m',m'<m/\W (i+1) m' σ' H')/\∀x H',J.yld i H x H'->g x σ H' fun σ2 H2=>tb { D with nx:=N,ct:=N,bk:=D.nx } σ2 H2)
def iQ (fp:vL_) (h:Heap):List (Addr × Obj):=fp.filterMap fun b=>(h.get? b).map fun o=>(b,o)
def iE {b:Addr}{o:Obj}(J:b∈fp) (e:h.get? b=some o):(b,o)∈iQ fp h:=List.mem_filterMap.mpr #[b,J,by rw[e];rfl]
def ME (Y:p∈iQ fp h):p.1∈fp/\h.get? p.1=some p.2:=by
 obtain⟨b,J,e⟩:=List.mem_filterMap.mp Y;cases q:h.get? b with
 |none=>rw[q] at e;cases e
 |some o=>
  rw[q] at e;have U:(b,o)=p:=Qi e;subst U;exact#[J,q]
def Inv.pinned (I:Inv X pins σ H s) (hf:∀b∈fp,R6 X pins H b) (ho:∀b∈fp,∃o,s.heap.get? b=some o/\∀v,o.data ≠ .cell v):Inv X (pins++iQ fp s.heap) σ H s:=
 I.pins_of fun p hp=>(PQ.mp hp).elim (fun z=>I.pin p (Qu _ z)) fun z=>by
  obtain⟨J,e⟩:=ME z;obtain⟨Y,f1,Z,_⟩:=hf p.1 J;obtain⟨o,U,d⟩:=ho p.1 J;rw[e] at U;cases U;exact#[e,Y,f1,Z,d]
def Inv.unpinned {J:vP_}(I:Inv X (pins++J) σ H s):Inv X pins σ H s:=I.pins_of fun p U=>I.pin p (Qu _ (QH _ U))
def mf {iter:Expr}{body:List Stmt}{g:TG}{tb:TS}{pos:Pos}(hp:PassesOwn 'f' X.A X.env X.xe) (hc:X.calm=true) (hi:PI X tg iter wi) (hg:PG X tg g) (U:PSs X body tb)
  (hs:∀x,foldedSetIterable iter X.env x=pure x:=by intro _;rfl):PS X (.For tg iter body [] pos) (Ei wi g tb):=by
 intro pins s σ H D I h;refine wpAny_For (v3 (hi pins s σ H _ I h) fun v s1 h1=>v3 h1 fun itv s2 h2=>?_) hs;refine gB_ fun G_ g_=>?_
 obtain⟨it,fp,tn,J,H2,e,I2,T,st2,f2,W,⟨m0,w0⟩,turn⟩:=h2;apply g_;subst e;have stat:∀{H':Hp},(∀b∈fp,H' b=none)->∀b∈fp,R6 X pins H' b:=fun hn b U=>#[hn b U,(f2 b U).2]
 refine codeAny_forLoop_any (fun n s'=>∃i σ' H',Inv X pins σ' H' s'/\tn i s'.heap/\(∀b∈fp,H' b=none)/\W i n σ' H') ?_ m0 #[0,σ,H2,I2,st2,fun b U=>(f2 b U).1,w0];rintro n s3 ⟨i,σ3,H3,I3,st3,fr3,w3⟩;rcases turn i n σ3 H3 w3 with ⟨stop,qn⟩ | ⟨go,N,hN,step⟩
 .refine RX hp (v3 (T.done X rfl rfl rfl hc i pins s3 σ3 H3 X.xe I3 (stat fr3) st3 stop) fun r s4 ⟨hr,I4⟩=>?_);subst hr;exact Sk #[σ3,H3,I4,qn]
 .refine RX hp (v3 (T.item X rfl rfl rfl hc i pins s3 σ3 H3 X.xe I3 (stat fr3) st3 go) fun r s4 ⟨u,hr,h4⟩=>?_);subst hr;refine RX hp (v3 h4 fun _ s5 ⟨x,H5,I5,r5,y5,st5,fr5⟩=>?_);have I5':=I5.pinned (stat fr5) (T.obj _ _ st5);refine RX hp (v3 (hg _ s5 σ3 H5 x u _ I5' r5 (step x H5 y5)) fun _ s6 ⟨σ6,H6,I6,q6⟩=>?_);refine RX hp (v3 (U _ s6 σ6 H6 _ I6 q6) fun f s7 q7=>?_);have again:∀{σ7:St}{Y:Hp},Inv X (pins++iQ fp s5.heap) σ7 Y s7->N σ7 Y->∃m,m<n/\∃i σ' H',Inv X pins σ' H' s7/\tn i s7.heap/\(∀b∈fp,H' b=none)/\W i m σ' H':=fun {σ7 Y} Z n7=>by
   obtain⟨m',hm,w7⟩:=hN σ7 Y n7;refine#[m',hm,i+1,σ7,Y,Z.unpinned,T.keep _ _ _ st5 fun b U o e=>(Z.pin (b,o) (Qu _ (Qu _ (iE U e)))).1,fun b U=>?_,w7];obtain⟨o,e,d⟩:=T.obj _ _ st5 b U;exact(Z.pin (b,o) (Qu _ (Qu _ (iE U e)))).2.1
  cases f with
  |next=>obtain⟨σ7,Y,Z,n7⟩:=q7;exact again Z n7
  |cont=>obtain⟨σ7,Y,Z,n7⟩:=q7;exact again Z n7
  |brk=>obtain⟨σ7,Y,Z,q7⟩:=q7;exact#[σ7,Y,Z.unpinned,q7]
  |ret v=>obtain⟨x7,σ7,Y,Z,r7,q7⟩:=q7;exact#[x7,σ7,Y,Z.unpinned,r7,q7]
def FX {K:vF_}{xs:List V}{g:TG}{tb:TS}{D:Ends}{H:Hp}(J:Nat->St->Hp->Prop) (h0:J 0 σ H) (hl:∀i σ H,i<=xs.length->J i σ H->SqL K H a xs)
  (Y:∀i x σ H,xs[i]? = some x->J i σ H->g x σ H fun σ2 H2=>tb { D with nx:=J (i+1),ct:=J (i+1),bk:=D.nx } σ2 H2) (Z:∀σ H,J xs.length σ H->D.nx σ H) :
  ∃W:Nat->Nat->St->Hp->Prop,(∃m,W 0 m σ H)/\∀i m σ H,W i m σ H ->
   ((iB K a).stop i H/\D.nx σ H)\/((iB K a).go i H/\∃N:St->Hp->Prop,(∀σ' H',N σ' H'->∃m',m'<m/\W (i+1) m' σ' H')/\∀x H',(iB K a).yld i H x H'->g x σ H' fun σ2 H2=>tb { D with nx:=N,ct:=N,bk:=D.nx } σ2 H2):=by
 refine#[fun i m σ H=>m=xs.length - i/\i<=xs.length/\J i σ H,#[xs.length,by simp,Qx _,h0],?_];rintro i m σ H ⟨rfl,hi,p⟩;have q:=hl i σ H hi p;by_cases U:i<xs.length
 .refine .inr #[#[xs,xs[i],q,by simp[U]],J (i+1),fun σ' H' p'=>#[xs.length - (i+1),by omega,rfl,U,p'],fun x H' y=>?_];obtain⟨e,y⟩:=y;subst e;exact Y i x σ _ (y xs q) p
 .have e:i=xs.length:=by omega
  subst e;exact .inl #[#[xs,q,tx _],Z σ H p]
def fE {K:vF_}{xs:List V}{g:TG}{tb:TS}{D:Ends}{H:Hp}(J:Nat->St->Hp->Prop) (h0:J 0 σ H) (hl:∀i σ H,i<=xs.length->J i σ H->SqT K H a xs)
  (Y:∀i x σ H,xs[i]? = some x->J i σ H->g x σ H fun σ2 H2=>tb { D with nx:=J (i+1),ct:=J (i+1),bk:=D.nx } σ2 H2) (Z:∀σ H,J xs.length σ H->D.nx σ H) :
  ∃W:Nat->Nat->St->Hp->Prop,(∃m,W 0 m σ H)/\∀i m σ H,W i m σ H ->
   ((iq K a).stop i H/\D.nx σ H)\/((iq K a).go i H/\∃N:St->Hp->Prop,(∀σ' H',N σ' H'->∃m',m'<m/\W (i+1) m' σ' H')/\∀x H',(iq K a).yld i H x H'->g x σ H' fun σ2 H2=>tb { D with nx:=N,ct:=N,bk:=D.nx } σ2 H2):=by
 refine#[fun i m σ H=>m=xs.length - i/\i<=xs.length/\J i σ H,#[xs.length,by simp,Qx _,h0],?_];rintro i m σ H ⟨rfl,hi,p⟩;have q:=hl i σ H hi p;by_cases U:i<xs.length
 .refine .inr #[#[xs,xs[i],q,by simp[U]],J (i+1),fun σ' H' p'=>#[xs.length - (i+1),by omega,rfl,U,p'],fun x H' y=>?_];obtain⟨e,y⟩:=y;subst e;exact Y i x σ _ (y xs q) p
 .have e:i=xs.length:=by omega
  subst e;exact .inl #[#[xs,q,tx _],Z σ H p]
def Jj {lo:Int}{n:Nat}{g:TG}{tb:TS}{D:Ends}{H:Hp}(U:Nat->St->Hp->Prop) (Y:U 0 σ H)
  (hs:∀i σ H,i<n->U i σ H->g (.int (lo+i)) σ H fun σ2 H2=>tb { D with nx:=U (i+1),ct:=U (i+1),bk:=D.nx } σ2 H2) (Z:∀σ H,U n σ H->D.nx σ H) :
  ∃W:Nat->Nat->St->Hp->Prop,(∃m,W 0 m σ H)/\∀i m σ H,W i m σ H ->
   ((eF lo n).stop i H/\D.nx σ H)\/((eF lo n).go i H/\∃N:St->Hp->Prop,(∀σ' H',N σ' H'->∃m',m'<m/\W (i+1) m' σ' H')/\∀x H',(eF lo n).yld i H x H'->g x σ H' fun σ2 H2=>tb { D with nx:=N,ct:=N,bk:=D.nx } σ2 H2):=by
 refine#[fun i m σ H=>m=n - i/\i<=n/\U i σ H,#[n,by simp,Qx _,Y],?_];rintro i m σ H ⟨rfl,hi,p⟩;by_cases J:i<n
 .refine .inr #[J,U (i+1),fun σ' H' p'=>#[n - (i+1),by omega,rfl,J,p'],fun x H' y=>?_];obtain⟨e,y⟩:=y;subst e y;exact hs i σ _ J p
 .have e:i=n:=by omega
  subst e;exact .inl #[tx _,Z σ H p]
abbrev R2:=V->V->Hp->VK->Prop
variable {r':R2}
def OpR (X:Cx) (f:Value->Value->Sem Value) (r:R2):Prop:=
 ∀(pins:vP_) (s:Shared) (σ:St) (H:Hp) (x y:V) (v u:Value) (Q:VK),Inv X pins σ H s->RelV x v->RelV y u->r x y H Q ->
  wpAny 'f' X.A (f v u) (EP X pins σ Q) X.xe s
def jO (X:Cx) (f:Value->Sem Value) (r:V->Hp->VK->Prop):Prop:=
 ∀(pins:vP_) (s:Shared) (σ:St) (H:Hp) (x:V) (v:Value) (Q:VK),Inv X pins σ H s->RelV x v->r x H Q ->
  wpAny 'f' X.A (f v) (EP X pins σ Q) X.xe s
def CallR (X:Cx) (f:Value) (r:List V->Hp->VK->Prop):Prop:=
 ∀(pins:vP_) (s:Shared) (σ:St) (H:Hp) (xs:List V) (us:vV_) (Q:VK),Inv X pins σ H s->Vals xs us->r xs H Q ->
  wpAny 'f' X.A (call f us) (EP X pins σ Q) X.xe s
def EE (X:Cx) (r:V->Hp->(Bool->Hp->Prop)->Prop):Prop:=
 ∀(pins:vP_) (s:Shared) (σ:St) (H:Hp) (x:V) (v:Value) (Q:Bool->Hp->Prop),Inv X pins σ H s->RelV x v->r x H Q ->
  wpAny 'f' X.A (truthy v) (TP X pins σ Q) X.xe s
def gI (r:R2) (ta tb:TE):TE:=fun σ H Q=>ta σ H fun x H1=>tb σ H1 fun y H2=>r x y H2 Q
def Ha (r:V->Hp->VK->Prop) (ta:TE):TE:=fun σ H Q=>ta σ H fun x H1=>r x H1 Q
def rI (C:Int->Int->Prop) (g:Int->Int->V):R2:=fun x y H Q=>∃i j,x = .int i/\y = .int j/\C i j/\Q (g i j) H
def X4 (g:Int->Int->V):R2:=fun x y H Q=>∃i j,x = .int i/\y = .int j/\Q (g i j) H
def rU (g:Int->V):V->Hp->VK->Prop:=fun x H Q=>∃i,x = .int i/\Q (g i) H
section
variable {a b c:Expr}{ta tb tc:TE}{pos:Pos}
def oZ (ha:PE X a ta) (J:PE X b tb) {R:V->V->Hp->Prop}(I:Inv X pins σ H s)
  (h:ta σ H fun x H1=>tb σ H1 fun y H2=>R x y H2) {f:Value->Value->Sem Value}
  (hf:∀v u s2 x y H2,Inv X pins σ H2 s2->RelV x v->RelV y u->R x y H2->wpAny 'f' X.A (f v u) Q X.xe s2) :
  wpAny 'f' X.A (eval a X.env) (fun v s₁=>wpAny 'f' X.A (eval b X.env) (fun u s₂=>wpAny 'f' X.A (f v u) Q X.xe s₂) X.xe s₁) X.xe s:=by
 refine v3 (ha pins s σ H _ I h) fun v s1 ⟨x,H1,I1,Y,q1⟩=>?_
 refine v3 (J pins s1 σ H1 _ I1 q1) fun u s2 ⟨y,H2,U,Z,q2⟩=>?_
 exact hf v u s2 x y H2 U Y Z q2
def mM {J:Operator}{r:R2}(ho:OpR X (binaryOp J) r) (ha:PE X a ta) (U:PE X b tb):PE X (.BinOp a J b pos) (gI r ta tb):=by
 intro pins s σ H Q I h;exact wpAny_BinOp (oZ ha U I h fun v u s2 x y H2 Y Z ry q=>ho pins s2 σ H2 x y v u Q Y Z ry q)
def Es {J:UnaryOp}{r:V->Hp->VK->Prop}(ho:jO X (unaryOp J) r) (Z:PE X a ta):PE X (.UnaryOp J a pos) (Ha r ta):=by
 intro pins s σ H Q I h;exact UnaryOp_ (v3 (Z pins s σ H _ I h) fun v s1 ⟨x,H1,I1,Y,U⟩=>ho pins s1 σ H1 x v Q I1 Y U)
def mj {C:Int->Int->Prop}{g:Int->Int->Int}
  (J:∀(i j:Int) (t u:Tok) (s:Shared) (Q:vQ_) (E:vQ_),C i j->Q (.int (g i j) s.toks) { s with toks:=s.toks+1 }->wpAny 'f' X.A (f (.int i t) (.int j u)) Q E s) :
  OpR X f (rI C fun i j=>.int (g i j)):=by
 intro pins s σ H x y v u Q I U ry h;refine gB_ fun G_ Z=>?_
 obtain⟨i,j,rfl,rfl,Y,q⟩:=h;obtain⟨t,rfl⟩:=U;obtain⟨t',rfl⟩:=ry;apply Z;exact J i j t t' s _ _ Y #[.int (g i j),H,I.tok _,#[_,rfl],q]
def Aq {g:Int->Int->Int}
  (J:∀(i j:Int) (t u:Tok) (s:Shared) (Q:vQ_) (E:vQ_),Q (.int (g i j) s.toks) { s with toks:=s.toks+1 }->wpAny 'f' X.A (f (.int i t) (.int j u)) Q E s) :
  OpR X f (X4 fun i j=>.int (g i j)):=by
 intro pins s σ H x y v u Q I U Z h;refine gB_ fun G_ Y=>?_
 obtain⟨i,j,rfl,rfl,q⟩:=h;obtain⟨t,rfl⟩:=U;obtain⟨t',rfl⟩:=Z;apply Y;exact J i j t t' s _ _ #[.int (g i j),H,I.tok _,#[_,rfl],q]
def lu {f:Value->Value->Sem Value}{g:Int->Int->Bool}
  (J:∀(i j:Int) (t u:Tok) (s:Shared) (Q:vQ_) (E:vQ_),Q (.bool (g i j)) s->wpAny 'f' X.A (f (.int i t) (.int j u)) Q E s) :
  OpR X f (X4 fun i j=>.bl (g i j)):=by
 intro pins s σ H x y v u Q I U Z h;refine gB_ fun G_ Y=>?_
 obtain⟨i,j,rfl,rfl,q⟩:=h;obtain⟨t,rfl⟩:=U;obtain⟨t',rfl⟩:=Z;apply Y;exact J i j t t' s _ _ #[.bl (g i j),H,I,rfl,q]
def uC (i j:Int):Prop:=0<=j/\j<=1000000/\i.natAbs<2 ^ 64
def op_add:OpR X (binaryOp .Add) (X4 fun i j=>.int (i+j)):=Aq fun _ _ _ _ _ _ _ q=>add_int q
def NY:OpR X (binaryOp .Sub) (X4 fun i j=>.int (i - j)):=Aq fun _ _ _ _ _ _ _ q=>sub_int q
def IL:OpR X (binaryOp .Mod) (rI (fun _ j=>j≠0) fun i j=>.int (i.fmod j)):=mj fun _ _ _ _ _ _ _ J q=>mod_int' J q
def Dg:OpR X (binaryOp .Pow) (rI uC fun i j=>.int (i ^ j.toNat)):=mj fun _ _ _ _ _ _ _ J q=>pow_int_small J.1 J.2.1 J.2.2 q
def Mt {g:Int->Int}
  (J:∀(i:Int) (t:Tok) (s:Shared) (Q:vQ_) (E:vQ_),Q (.int (g i) s.toks) { s with toks:=s.toks+1 }->wpAny 'f' X.A (f (.int i t)) Q E s) :
  jO X f (rU fun i=>.int (g i)):=by
 intro pins s σ H x v Q I U h;obtain⟨i,rfl,q⟩:=h;obtain⟨t,rfl⟩:=U;exact J i t s _ _ #[.int (g i),H,I.tok _,#[_,rfl],q]
def Fw:jO X (unaryOp .USub) (rU fun i=>.int (-i)):=Mt fun _ _ _ _ _ q=>neg_int q
end
def xH:V->V->Bool
 |.non,.non=>true | .non,.int _=>true | .int _,.non=>true | .non,.bl _=>true | .bl _,.non=>true | .non,.str _=>true | .str _,.non=>true
 |.int _,.int _=>true | .bl _,.bl _=>true | .str _,.str _=>true | .byt _,.byt _=>true
 |.int _,.str _=>true | .str _,.int _=>true | .bl _,.str _=>true | .str _,.bl _=>true
 |_,_=>false
def pK:R2:=fun x y H Q=>xH x y=true/\Q (.bl (decide (x=y))) H
def pT:R2:=fun x y H Q=>xH x y=true/\Q (.bl (!decide (x=y))) H
def BU {i j:Int}:decide (V.int i=V.int j)=(i == j):=by
 rw[RC];simp
def yf {i j:Bool}:decide (V.bl i=V.bl j)=(i == j):=by
 rw[RC];simp
def zQ {i j:Str}:decide (V.str i=V.str j)=(i == j):=by
 rw[RC];simp
def uU {i j:Array UInt8}:decide (V.byt i=V.byt j)=(i.toList == j.toList):=by
 rw[RC];cases i;cases j;simp
section
variable {a b c:Expr}{ta tb tc:TE}{pos:Pos}
def F3 {Q:VK}{k k':Bool}(I:Inv X pins σ H s) (q:Q (.bl k) H) (e:k=k'):EP X pins σ Q (.bool k') s:=by
 subst e;exact#[.bl k,H,I,rfl,q]
def op_eq:OpR X (compareOp .Eq) pK:=by
 intro pins s σ H x y v u Q I Y J h;obtain⟨U,q⟩:=h;cases x with
 |non=>
  cases Y;cases y with
  |non=>cases J;exact PySem.EqNone.eq_none_none (F3 I q 'g')
  |bl j=>cases J;exact PySem.EqNone.eq_none_bool (F3 I q 'g')
  |int j=>obtain⟨t',rfl⟩:=J;exact PySem.EqNone.eq_none_int (F3 I q 'g')
  |str j=>obtain⟨t',rfl⟩:=J;exact PySem.EqNone.eq_none_str (F3 I q 'g')
  |_=>exact absurd (show false=true from U) PL
 |bl i=>
  cases Y;cases y with
  |non=>cases J;exact PySem.EqNone.eq_bool_none (F3 I q 'g')
  |bl j=>cases J;exact eq_bool (F3 I q yf)
  |str j=>obtain⟨t',rfl⟩:=J;exact PySem.EqMixed.eq_bool_str (F3 I q 'g')
  |_=>exact absurd (show false=true from U) PL
 |int i=>
  obtain⟨t,rfl⟩:=Y;cases y with
  |non=>cases J;exact PySem.EqNone.eq_int_none (F3 I q 'g')
  |int j=>obtain⟨t',rfl⟩:=J;exact eq_int (F3 I q BU)
  |str j=>obtain⟨t',rfl⟩:=J;exact PySem.EqMixed.eq_int_str (F3 I q 'g')
  |_=>exact absurd (show false=true from U) PL
 |str i=>
  obtain⟨t,rfl⟩:=Y;cases y with
  |non=>cases J;exact PySem.EqNone.eq_str_none (F3 I q 'g')
  |bl j=>cases J;exact PySem.EqMixed.eq_str_bool (F3 I q 'g')
  |int j=>obtain⟨t',rfl⟩:=J;exact PySem.EqMixed.eq_str_int (F3 I q 'g')
  |str j=>obtain⟨t',rfl⟩:=J;exact eq_str (F3 I q zQ)
  |_=>exact absurd (show false=true from U) PL
 |byt i=>
  obtain⟨t,rfl⟩:=Y;cases y with
  |byt j=>obtain⟨t',rfl⟩:=J;exact PySem.W.eq_bytes (F3 I q uU)
  |_=>exact absurd (show false=true from U) PL
 |_=>cases y <;> exact absurd (show false=true from U) PL
def op_ne:OpR X (compareOp .NotEq) pT:=by
 intro pins s σ H x y v u Q I Y J h;obtain⟨U,q⟩:=h;cases x with
 |non=>
  cases Y;cases y with
  |non=>cases J;exact PySem.EqNone.ne_none_none (F3 I q 'g')
  |bl j=>cases J;exact PySem.EqNone.ne_none_bool (F3 I q 'g')
  |int j=>obtain⟨t',rfl⟩:=J;exact PySem.EqNone.ne_none_int (F3 I q 'g')
  |str j=>obtain⟨t',rfl⟩:=J;exact PySem.EqNone.ne_none_str (F3 I q 'g')
  |_=>exact absurd (show false=true from U) PL
 |bl i=>
  cases Y;cases y with
  |non=>cases J;exact PySem.EqNone.ne_bool_none (F3 I q 'g')
  |bl j=>cases J;exact ne_bool (F3 I q (congrArg not yf))
  |str j=>obtain⟨t',rfl⟩:=J;exact PySem.EqMixed.ne_bool_str (F3 I q 'g')
  |_=>exact absurd (show false=true from U) PL
 |int i=>
  obtain⟨t,rfl⟩:=Y;cases y with
  |non=>cases J;exact PySem.EqNone.ne_int_none (F3 I q 'g')
  |int j=>obtain⟨t',rfl⟩:=J;exact ne_int (F3 I q (congrArg not BU))
  |str j=>obtain⟨t',rfl⟩:=J;exact PySem.EqMixed.ne_int_str (F3 I q 'g')
  |_=>exact absurd (show false=true from U) PL
 |str i=>
  obtain⟨t,rfl⟩:=Y;cases y with
  |non=>cases J;exact PySem.EqNone.ne_str_none (F3 I q 'g')
  |bl j=>cases J;exact PySem.EqMixed.ne_str_bool (F3 I q 'g')
  |int j=>obtain⟨t',rfl⟩:=J;exact PySem.EqMixed.ne_str_int (F3 I q 'g')
  |str j=>obtain⟨t',rfl⟩:=J;exact ne_str (F3 I q (congrArg not zQ))
  |_=>exact absurd (show false=true from U) PL
 |byt i=>
  obtain⟨t,rfl⟩:=Y;cases y with
  |byt j=>obtain⟨t',rfl⟩:=J;exact PySem.W.ne_bytes (F3 I q (congrArg not uU))
  |_=>exact absurd (show false=true from U) PL
 |_=>cases y <;> exact absurd (show false=true from U) PL
def mJ:OpR X (compareOp .Lt) (X4 fun i j=>.bl (decide (i<j))):=lu fun _ _ _ _ _ _ _ q=>lt_int q
def qA:OpR X (compareOp .LtE) (X4 fun i j=>.bl (decide (i<=j))):=lu fun _ _ _ _ _ _ _ q=>le_int q
def NP:OpR X (compareOp .Gt) (X4 fun i j=>.bl (decide (j<i))):=lu fun _ _ _ _ _ _ _ q=>gt_int q
def yq:OpR X (compareOp .GtE) (X4 fun i j=>.bl (decide (j<=i))):=lu fun _ _ _ _ _ _ _ q=>ge_int q
def Fn:OpR X (compareOp .Is) (fun x y H Q=>y = .non/\Q (.bl (decide (x = .non))) H):=by
 intro pins s σ H x y v u Q I J U h;obtain⟨rfl,q⟩:=h;cases U;refine is_none_gen (F3 I q ?_);cases x <;> first
  | (cases J;rfl)
  | (obtain⟨t,rfl⟩:=J;rfl)
def HB:OpR X (compareOp .IsNot) (fun x y H Q=>y = .non/\Q (.bl (!decide (x = .non))) H):=by
 intro pins s σ H x y v u Q I J U h;obtain⟨rfl,q⟩:=h;cases U;refine isnot_none_gen (F3 I q ?_);cases x <;> first
  | (cases J;rfl)
  | (obtain⟨t,rfl⟩:=J;rfl)
def OpR.or {r:R2}(h:OpR X f r) (h':OpR X f r'):OpR X f (fun x y H Q=>r x y H Q\/r' x y H Q):=by
 intro pins s σ H x y v u Q I J U q;rcases q with q | q
 .exact h pins s σ H x y v u Q I J U q
 .exact h' pins s σ H x y v u Q I J U q
def eH (b:Expr) {J:CmpOp}(h:J ≠ .In:=by decide) (h2:J ≠ .NotIn:=by decide):behindInMarks J b=false:=by
 have Y:(J == CmpOp.In)=false:=by cases J <;> first | rfl | exact absurd rfl h
 have U:(J == CmpOp.NotIn)=false:=by cases J <;> first | rfl | exact absurd rfl h2
 cases b <;> simp[behindInMarks,Y,U]
def xm {J:CmpOp}{r:R2}(ho:OpR X (compareOp J) r) (ha:PE X a ta) (U:PE X b tb) (hm:behindInMarks J b=false):PE X (.Compare a [J] [b] pos) (gI r ta tb):=by
 intro pins s σ H Q I h;exact wpAny_Compare1 (oZ ha U I h fun v u s2 x y H2 Y Z ry q=>ho pins s2 σ H2 x y v u Q Y Z ry q) hm
def tj (t:TE):TT:=fun σ H Q=>t σ H fun x H'=>∃k,x = .bl k/\Q k H'
def uG {J:CmpOp}{r:R2}(ho:OpR X (compareOp J) r) (ha:PE X a ta) (Y:PE X b tb) (hm:behindInMarks J b=false):PT X (.Compare a [J] [b] pos) (tj (gI r ta tb)):=by
 intro pins s σ H Q I h;refine wpAny_isTrue_Compare1 (v3 (ha pins s σ H _ I h) fun v s1 ⟨x,H1,I1,r1,U⟩=>v3 (Y pins s1 σ H1 _ I1 U) fun u s2 ⟨y,H2,I2,r2,q2⟩=>
  v3 (ho pins s2 σ H2 x y v u _ I2 r1 r2 q2) fun c s3 ⟨z,H3,I3,Z,k,e,q3⟩=>?_) hm
 subst e;cases Z;exact Rn #[H3,I3,q3]
def oy (r r':R2) (ta tb tc:TE):TE:=fun σ H Q=>ta σ H fun x H1=>tb σ H1 fun y H2=>r x y H2 fun z J=>∃k,z = .bl k /\
 (if k=true then tc σ J fun U Y=>r' y U Y Q else Q (.bl false) J)
def IA {U J:CmpOp}{r r':R2}(ho:OpR X (compareOp U) r) (Y:OpR X (compareOp J) r') (ha:PE X a ta) (hb:PE X b tb) (hc:PE X c tc)
  (hm:lastMarks [U,J] [b,c]=false:=by with_unfolding_all rfl):PE X (.Compare a [U,J] [b,c] pos) (oy r r' ta tb tc):=by
 intro pins s σ H Q I h;refine Compare_chain (v3 (ha pins s σ H _ I h) fun v s1 ⟨x,H1,I1,r1,q1⟩=>chain_link (v3 (hb pins s1 σ H1 _ I1 q1) fun u s2 ⟨y,H2,I2,Z,q2⟩=>
  v3 (ho pins s2 σ H2 x y v u _ I2 r1 Z q2) fun d s3 ⟨z,H3,I3,r3,k,e,q3⟩=>?_)) hm
 subst e;cases r3;refine Rn ?_;cases k with
 |false=>exact ite_ff #[.bl false,H3,I3,rfl,q3]
 |true=>exact ite_tt (chain_last (v3 (hc pins s3 σ H3 _ I3 q3) fun w' s4 ⟨z',H4,I4,r4,q4⟩=>Y pins s4 σ H4 y z' u w' Q I4 Z r4 q4))
def IT {U J:CmpOp}{r r':R2}(ho:OpR X (compareOp U) r) (Y:OpR X (compareOp J) r') (ha:PE X a ta) (hb:PE X b tb) (hc:PE X c tc)
  (hm:lastMarks [U,J] [b,c]=false:=by with_unfolding_all rfl):PT X (.Compare a [U,J] [b,c] pos) (tj (oy r r' ta tb tc)):=by
 intro pins s σ H Q I h;refine isTrue_chain (v3 (ha pins s σ H _ I h) fun v s1 ⟨x,H1,I1,r1,q1⟩=>test_link (v3 (hb pins s1 σ H1 _ I1 q1) fun u s2 ⟨y,H2,I2,Z,q2⟩=>
  v3 (ho pins s2 σ H2 x y v u _ I2 r1 Z q2) fun d s3 ⟨z,H3,I3,r3,k,e,q3⟩=>?_)) hm
 subst e;cases r3;refine Rn ?_;cases k with
 |false=>
  obtain⟨k',e',q'⟩:=q3;cases e';exact ite_ff #[H3,I3,q']
 |true=>
  refine ite_tt (test_last (v3 (hc pins s3 σ H3 _ I3 q3) fun w' s4 ⟨z',H4,I4,r4,q4⟩=>v3 (Y pins s4 σ H4 y z' u w' _ I4 Z r4 q4) fun d' s5 ⟨z2,H5,I5,r5,k2,e2,q5⟩=>?_));subst e2;cases r5;exact Rn #[H5,I5,q5]
def Bu (K:vF_) (x:V) (H:Hp) (k:Bool):Prop:=
 match x with
 |.non=>k=false
 |.bl b=>k=b
 |.int i=>k=(i != 0)
 |.str y=>y.length<=sizeLine/\k=((y.length:Int) != 0)
 |.byt y=>y.size<=sizeLine/\k=((y.size:Int) != 0)
 |.ref p=>(∃xs,SqL K H p xs/\k = !xs.isEmpty)\/(∃xs,SqT K H p xs/\k = !xs.isEmpty)\/∃kvs,H p=some (.dK kvs)/\k = !kvs.isEmpty
 |_=>False
def Ej {κ:Type}{J:List (κ × V)}{vs:List (κ × Value)}(r:KV J vs):(!vs.isEmpty) = !J.isEmpty:=by
 cases r <;> rfl
def Cj (r:Vals xs its):(!its.toArray.isEmpty) = !xs.isEmpty:=by
 cases r <;> simp
def fN:(sizeLine:Nat)<2 ^ 63:=by rw[QR];decide
def HM:EE X (fun x H Q=>∃k,Bu X.K x H k/\Q k H):=by
 intro pins s σ H x v Q I Z h;obtain⟨k,e,q⟩:=h;have hl:=fN;have hs:sizeLine=16777216:=QR;cases x with
 |non=>
  cases Z;have J:k=false:=e;subst J;exact truthy_none #[H,I,q]
 |bl b=>
  cases Z;have J:k=b:=e;subst J;exact Rn #[H,I,q]
 |int i=>
  obtain⟨t,rfl⟩:=Z;have J:k=(i != 0):=e;subst J;exact PySem.P.truthy_int #[H,I,q]
 |str y=>
  obtain⟨t,rfl⟩:=Z;obtain⟨hy,J⟩:y.length<=sizeLine/\k=((y.length:Int) != 0):=e;subst J;exact PySem.P.truthy_str ∅ #[H,I.tok _,q]
 |byt y=>
  obtain⟨t,rfl⟩:=Z;obtain⟨hy,J⟩:y.size<=sizeLine/\k=((y.size:Int) != 0):=e;subst J;exact PySem.W.truthy_bytes ∅ #[H,I.tok _,q]
 |ref p=>
  cases Z;have J:(∃xs,SqL X.K H p xs/\k = !xs.isEmpty)\/(∃xs,SqT X.K H p xs/\k = !xs.isEmpty)\/∃U,H p=some (.dK U)/\k = !U.isEmpty:=e;rcases J with ⟨xs,hx,J⟩ | ⟨xs,hx,J⟩ | ⟨U,hx,J⟩
  .subst J;obtain⟨its,r,pl,hz⟩:=I.list hx;have Y:=r.length;exact wpAny_truthy_list pl.isList (by simp only[Qc];omega) #[H,I.tok _,by rw[Cj r];exact q]
  .subst J;obtain⟨its,r,pl,hz⟩:=I.tuple hx;have Y:=r.length;exact truthy_tuple pl (by simp only[Qc];omega) #[H,I.tok _,by rw[Cj r];exact q]
  .subst J;obtain⟨hz,hS,vs,r,m⟩:U.length<=sizeLine/\(p == sysModules)=false/\∃vs,KV U vs/\s.heap.DictOf (pZ X.prog X.w) p vs:=I.hok p _ hx;have Y:U.length=vs.length:=Paired.length r;exact wpAny_truthy_dict hS m ∅ #[H,I.tok _,by rw[Ej r];exact q]
 |_=>exact(show False from e).elim
def Ds (Z:PE X a ta) (Y:∀whole,isTrue a X.env whole=(do let v <-whole;standAt a.pos;holding [v] (truthy v))) :
  PT X a (fun σ H Q=>ta σ H fun x H'=>∃k,Bu X.K x H' k/\Q k H'):=by
 intro pins s σ H Q I h;exact isTrue_plain (v3 (Z pins s σ H _ I h) fun v s1 ⟨x,H1,I1,U,J⟩=>HM pins s1 σ H1 x v Q I1 U J) (Y _)
def OI:OpR X (binaryOp .Add) (fun x y H Q=>∃i j,x = .str i/\y = .str j/\i.length+j.length<=sizeLine/\Q (.str (i++j)) H):=by
 intro pins s σ H x y v u Q I J Y h;refine gB_ fun G_ U=>?_
 obtain⟨i,j,rfl,rfl,Z,q⟩:=h;obtain⟨t,rfl⟩:=J;obtain⟨t',rfl⟩:=Y;apply U;exact add_str (fun t' tk=>#[.str (i++j),H,I.tok _,#[_,rfl],q]) Z
def X6 {x:V}(r:Vals [x] us):∃u,us=[u]/\RelV x u:=by
 cases r with
 |cons J U=>cases U;exact#[_,rfl,J]
def qz {x y:V}(r:Vals [x,y] us):∃u w',us=[u,w']/\RelV x u/\RelV y w':=by
 cases r with
 |cons J Z=>
  cases Z with
  |cons Y U=>cases U;exact#[_,_,rfl,J,Y]
def Jr:CallR X (.builtin "abs") (fun xs H Q=>∃i,xs=[.int i]/\Q (.int (if i<0 then -i else i)) H):=by
 intro pins s σ H xs us Q I r h;obtain⟨i,rfl,q⟩:=h;obtain⟨u,rfl,t,rfl⟩:=X6 r;exact call_abs_int fun u J=>#[.int (if i<0 then -i else i),H,I.tok _,#[_,rfl],q]
def Mb:CallR X (.type "int") (fun xs H Q=>(∃i,xs=[.int i]/\Q (.int i) H)\/∃k,xs=[.bl k]/\Q (.int (if k then 1 else 0)) H):=by
 intro pins s σ H xs us Q I r h;rcases h with ⟨i,rfl,q⟩ | ⟨k,rfl,q⟩
 .obtain⟨u,rfl,t,rfl⟩:=X6 r;exact call_int_int #[.int i,H,I,#[_,rfl],q]
 .obtain⟨u,rfl,J⟩:=X6 r;cases J;exact call_int_bool #[.int (if k then 1 else 0),H,I.tok _,#[_,rfl],q]
def CK:CallR X (.type "str") (fun xs H Q=>∃i,xs=[.int i]/\i.natAbs.log2<1920/\Q (.str (toString i)) H):=by
 intro pins s σ H xs us Q I r h;obtain⟨i,rfl,J,q⟩:=h;obtain⟨u,rfl,t,rfl⟩:=X6 r;exact PySem.P.str_of_int J #[.str _,H,I.tok _,#[_,rfl],q]
end
section
variable {a C:Addr}{fs:List (Str × V)}{f:Str}{v:V}
def EB {w:World}{f:Str}{pos:Pos}(J:attributeBase e f env (eval e env)=eval e env)
  (h:wpAny 'd' A (eval e env) (fun o s₁=>wpAny 'd' A (getAttr o f true) Q E s₁) E s):wpAny 'd' A (eval (.Attribute e f pos) env) Q E s:=
 Attribute_any_ h (by rw[arm_eval_Attribute,J])
end
structure Room (k:Nat) (A:Around):Prop where
 hd:A.handled=none
 dp:A.depth+3*k+5<recursionLimit
 un:A.units+16*k+200<cLine
 gd:A.guards=some []
def Room.mono (r:Room k A) (h:j<=k):Room j A:=#[r.hd,by have:=r.dp;omega,by have:=r.un;omega,r.gd]
theorem Room.deeper (r:Room (k+1) A) (env:Env):Room k (A.deeper env):=
 #[r.hd,by have:=r.dp;show A.depth+1+3*k+5<_;omega,by have:=r.un;show A.units+3+16*k+200<_;omega,r.gd]
def JW :(A.under (.builtin "type.__call__" #[.ref C::us,kw])).depth=A.depth+1:=by
 first | rfl | simp[Around.under,Code.weight,Code.isCreation,Code.isGuard,Code.isCaller,Code.frames,Code.isFrame,guardIds]
def CL :(A.under (.builtin "type.__call__" #[.ref C::us,kw])).units=A.units+1:=by
 first | rfl | simp[Around.under,Code.cUnits,Code.frames,Code.isFrame]
def Room.make (r:Room (k+1) A) (C:Addr) (us:vV_) (kw:List (Str × Value)):Room k (A.under (.builtin "type.__call__" #[.ref C::us,kw])):=
 #[r.hd,by have:=r.dp;rw[JW];omega,by have:=r.un;rw[CL];omega,by have:=r.gd;simp[Around.under,Code.guards,Code.isGuard,guardIds,pushGuards,this]]
theorem Room.depth (r:Room k A):A.depth<recursionLimit:=by have:=r.dp;omega
def sG:TA:=fun _ H Q=>Q [] H
def qq (ta:TE) (J:TA):TA:=fun σ H Q=>ta σ H fun x H1=>J σ H1 fun xs H2=>Q (x::xs) H2
section
variable {t:TA}{pos:Pos}
def V3:PA X [] sG:=fun _ _ _ _ H Q I h=>Calls.spliced_nil #[[],H,I,.nil,h]
def P1 (Z:PE X e te) (Y:PA X es t) (hs:starEach (e::es) X.env=(false,eval e X.env)::starEach es X.env:=by rfl):PA X (e::es) (qq te t):=by
 intro pos pins s σ H Q I h;rw[hs];show wpAny _ _ (spliced ((false,eval e X.env)::backTo pos (starEach es X.env))) _ _ s;refine Calls.spliced_cons (v3 (Z pins s σ H _ I h) fun u s1 ⟨x,H1,I1,r1,J⟩=>?_);exact v3 (Y pos pins s1 σ H1 _ I1 J) fun us s2 ⟨xs,H2,U,r2,q2⟩=>#[x::xs,H2,U,.cons r1 r2,q2]
def CM (t:TA):TE:=fun σ H Q=>t σ H fun xs H1=>xs.length<=sizeLine/\∀p,H1 p=none->Q (.ref p) (o7 H1 p (.tup xs))
def Ie (t:TA):TE:=fun σ H Q=>t σ H fun xs H1=>xs.length<=sizeLine/\∀p,H1 p=none->Q (.ref p) (o7 H1 p (.lst xs))
def tL {x1} (h:PA X es t):PE X (.Tuple es x1 pos) (CM t):=by
 intro pins s σ H Q I U;refine wpAny_Tuple_spliced (v3 (h pos pins s σ H _ I U) fun us s1 ⟨xs,H1,J,r,z,q⟩=>#[by rw[<-r.length];exact z,?_]);have Y:H1 s1.heap.objs.size=none:=J.hok.fresh (tx _);refine#[.ref s1.heap.objs.size,o7 H1 s1.heap.objs.size (.tup xs),J.laid (t':=s1.toks) (fun b u e=>PF _ e) (tx _) ?_,rfl,q _ Y];exact#[z,us,r,#[_,Qq _ rfl,rfl,_,rfl]]
def nj (h:PA X es t):PE X (.List es pos) (Ie t):=by
 intro pins s σ H Q I U;refine wpAny_List_spliced (v3 (h pos pins s σ H _ I U) fun us s1 ⟨xs,H1,J,r,z,q⟩=>#[by rw[<-r.length];exact z,?_]);have Y:H1 s1.heap.objs.size=none:=J.hok.fresh (tx _);refine#[.ref s1.heap.objs.size,o7 H1 s1.heap.objs.size (.lst xs),J.laid (t':=s1.toks) (fun b u e=>PF _ e) (tx _) ?_,rfl,q _ Y];exact#[z,us,0,r,Qq _ rfl]
end
abbrev Sp:=List V->Hp->VK->XK->Prop
variable {sp:Sp}
abbrev V4:=List Env->Hp->Shared->XK->Value->Shared->Prop
variable {CX:V4}
structure Env0 (P:Program) (w:World) (K:vF_) (mg:vG_) (base:Heap) (A:Around) (outer:List Env) (s:Shared) (H:Hp):Prop where
 frames:A.frames=some outer
 mod:Mod K mg base
 bs:∀b o,base.get? b=some o->s.heap.get? b=some o/\H b=none
 bsz:base.objs.size<=s.heap.objs.size
 funs:s.heap.FunFrames base outer
 frf:∀b∈M9 outer,H b=none
 hok:HOk P w H s.heap
 bare:AllBare s.gens
def CE (outer:List Env) (P:Program) (w:World) (H:Hp) (s:Shared) (Q:VK) (u:Value) (s':Shared):Prop:=
 ∃v H',s'.os=s.os/\AllBare s'.gens/\Un (M9 outer) [] H H' s.heap s'.heap/\HOk P w H' s'.heap/\RelV v u/\Q v H'
def CR (CX:V4) (outer:List Env) (P:Program) (w:World) (H:Hp) (s:Shared) (Q:VK) (E:XK) (r:Result) (s':Shared):Prop:=
 match r with
 |.ok (.ret u)=>CE outer P w H s Q u s'
 |.ok _=>False
 |.error e=>CX outer H s E e s'
structure FnOk (P:Program) (w:World) (K:vF_) (mg:vG_) (base:Heap) (CX:V4) (k:Nat) (f:Addr) (fd:FuncData) (ps:List Str) (sp:Sp):Prop where
 len:∀vs H Q E,sp vs H Q E->vs.length=ps.length
 run:∀(A:Around) (outer:List Env) (s:Shared) (H:Hp) (args:Args) (us:vV_) (vs:List V) (Q:VK) (E:XK),Room k A->Env0 P w K mg base A outer s H->BindsTo s fd args (ps.zip us)->Vals vs us->sp vs H Q E ->
  codeAny (model P w) A (.call (.ref f) args) (CR CX outer P w H s Q E) s
def Inv.env0 (I:Inv X pins σ H s):Env0 X.prog X.w X.K X.mg X.base X.A X.stack s H:=
 #[I.ok.frames,I.ok.mod,I.bs,PJ I.ok.bsz I.sz,I.stack,I.stkFree,I.hok,I.bare]
def Inv.after {Q:VK}(I:Inv X pins σ H s) (h:CE X.stack X.prog X.w H s Q u s'):EP X pins σ Q u s':=by
 refine gB_ fun G_ g_=>?_
 obtain⟨v,H',os,J,un,U,r,q⟩:=h;obtain⟨Z,g,d,t,Y⟩:=s';obtain rfl:Y=s.os:=os;apply g_;exact#[v,H',I.call (h':=Z) (g':=g) (d':=d) (t':=t) (ch:=[]) un U J (fun b z=>absurd z 'g'),r,q]
def vh (sp:Sp) (dvs:List V) (E:XK) (t:TA):TE:=fun σ H Q=>t σ H fun vs H1=>sp (vs++dvs) H1 Q E
def Binds (K:vF_) (fd:FuncData) (ps:List Str) (ds:vV_):Prop:=
 ∀(s:Shared) (us:vV_),K.In s.heap->(us++ds).length=ps.length->BindsTo s fd #[us,[]] (ps.zip (us++ds))
def Binds.all {K:vF_}{ps:List Str}(h:∀us:List Value,us.length=ps.length->bindArgs fd #[us,[]]=pure (ps.zip us)):Binds K fd ps []:=fun s us _ J=>by
 rw[QB] at J ⊢;exact .of_eq (h us J)
def pz (CX:V4) (X:Cx) (E:XK):Prop:=∀(pins:vP_) (σ:St) (H:Hp) (s:Shared) (e:Value) (s':Shared),Inv X pins σ H s->CX X.stack H s E e s'->X.xe e s'
section
variable {f C:Addr}{ps:List Str}{dvs:List V}{ds:vV_}{E:XK}{m:Str}{p pos apos:Pos}{o:Expr}{ta:TE}{t:TA}
def LM {Q:VK}{vs:List V}(F:FnOk X.prog X.w X.K X.mg X.base CX k f fd ps sp) (Z:Room k X.A) (Y:Binds X.K fd ps ds) (hd:Vals dvs ds) (hx:pz CX X E)
  (I:Inv X pins σ H s) (r:Vals vs us) (h:sp (vs++dvs) H Q E):wpAny 'f' X.A (call (.ref f) us) (EP X pins σ Q) X.xe s:=by
 have U:Vals (vs++dvs) (us++ds):=r.append hd;have hl:(us++ds).length=ps.length:=by rw[<-U.length];exact F.len _ _ _ _ h
 refine SM (SN (F.run X.A X.stack s H #[us,[]] (us++ds) (vs++dvs) Q E Z I.env0 (Y s us I.kIn hl) U h) fun r s' J=>?_);cases r with
 |error e=>exact hx pins σ H s e s' I J
 |ok fl=>
  cases fl with
  |ret u=>exact I.after J
  |next=>exact False.elim J
  |brk=>exact False.elim J
  |cont=>exact False.elim J
def FD (F:FnOk X.prog X.w X.K X.mg X.base CX k f fd ps sp) (hr:Room k X.A) (hg:Gl X x) (hm:X.mg x=some (.ref f)) (hk:PySem.W.keepIn X.K (.ref f)=true) (Z:Binds X.K fd ps ds) (hd:Vals dvs ds) (hx:pz CX X E)
  (ha:PA X (e::es) t) (U:(x == ("__debug__" : Str))=false:=by decide) (he:starEach (e::es) X.env=(false,eval e X.env)::starEach es X.env:=by rfl) (J:'x'.any (·.1)=false:=by rfl) :
  PE X (.Call (.Name x p) (e::es) [] pos) (vh sp dvs E t):=by
 intro pins s σ H Q I h;refine RD (iK I hg hm ?_ U);refine UL (h₀:=X.base) I.ok.mod.kin hk (v3 (ha pos pins s σ H _ I h) fun us s1 ⟨vs,H1,Y,r,q⟩=>#[Y.kIn,?_]) he J;exact LM F hr Z hd hx Y r q
end
structure FnScope (N P:List Str) (sc:Scope):Prop where
 kind:sc.kind = .function
 co:sc.isCoroutine=false
 gen:sc.isGenerator=false
 nd:N.Nodup
 pre:N.take P.length=P
 par:∀x∈P,sc.names.lookup x=some .local\/sc.names.lookup x=some .cell
 nofree:∀y∈sc.names,y.2 ≠ .free
theorem Cn {J:Str->Option NameKind}:∀{binds:List (Str × Value)}{m:vG_},(∀v,(x,v) ∉ binds)->bindL J binds m x=m x
 |[],_,_=>rfl
 |(n,v)::r,m,h=>by
  unfold bindL;rw[Cn fun w U=>h w (Pz _ U)];split
  .have:x≠n:=by rintro rfl;exact h v PD
   simp[this]
  .rfl
theorem yJ {J:Str->Option NameKind}:∀{binds:List (Str × Value)}{m:vG_},(∀v,(x,v) ∉ binds)->bindC J binds m x=m x
 |[],_,_=>rfl
 |(n,v)::r,m,h=>by
  unfold bindC;rw[yJ fun w U=>h w (Pz _ U)];split
  .rfl
  .have:x≠n:=by rintro rfl;exact h v PD
   simp[this]
theorem iI {J:Str->Option NameKind}{v:Value}:∀{P:List Str}{vs:vV_}{i:Nat}{m:vG_},P.Nodup->P[i]? = some x->vs[i]? = some v->J x=some .local ->
  bindL J (P.zip vs) m x=some v
 |[],_,_,_,_,h,_,_=>by simp at h
 |_::_,[],_,_,_,_,h,_=>by simp at h
 |p::P,w::vs,0,m,nd,h1,h2,hk=>by
  simp at h1 h2;subst h1;subst h2;show bindL J ((p,w)::P.zip vs) m p=_;unfold bindL;rw[Cn fun v U=>(QE.mp nd).1 (RY U).1,iR hk];simp
 |p::P,w::vs,i+1,m,nd,h1,h2,hk=>by
  show bindL J ((p,w)::P.zip vs) m x=_;unfold bindL;exact iI (i:=i) (QE.mp nd).2 (by simpa using h1) (by simpa using h2) hk
theorem yS {J:Str->Option NameKind}{v:Value}:∀{P:List Str}{vs:vV_}{i:Nat}{m:vG_},P.Nodup->P[i]? = some x->vs[i]? = some v->J x≠some .local ->
  bindC J (P.zip vs) m x=some v
 |[],_,_,_,_,h,_,_=>by simp at h
 |_::_,[],_,_,_,_,h,_=>by simp at h
 |p::P,w::vs,0,m,nd,h1,h2,hk=>by
  simp at h1 h2;subst h1;subst h2;show bindC J ((p,w)::P.zip vs) m p=_;unfold bindC;rw[yJ fun v U=>(QE.mp nd).1 (RY U).1,iU hk];simp
 |p::P,w::vs,i+1,m,nd,h1,h2,hk=>by
  show bindC J ((p,w)::P.zip vs) m x=_;unfold bindC;exact yS (i:=i) (QE.mp nd).2 (by simpa using h1) (by simpa using h2) hk
def start (N:List Str) (vs:List V):St:=vs.map some++List.replicate (N.length - vs.length) none
def S4 (CX:V4) (P:Program) (w:World) (K:vF_) (mg:vG_) (base:Heap) (N:List Str) (qual:Str) (scope:Scope) (f:Addr) (cd:Value) (A:Around) (outer:List Env) (s:Shared) (H:Hp) (E:XK):Cx where
 prog:=P
 w:=w
 K:=K
 mg:=mg
 base:=base
 A:=A.deeper (envOfC qual scope s.heap.objs.size f cd)
 N:=N
 s₀:=s
 H₀:=H
 env:=envOfC qual scope s.heap.objs.size f cd
 outer:=outer
 stack:=envOfC qual scope s.heap.objs.size f cd::outer
 ex:=[]
 calm:=true
 fn:=fun _=>true
 pn:=[]
 xe:=fun e s'=>wpAny (model P w) (A.deeper (envOfC qual scope s.heap.objs.size f cd)) (leaving (envOfC qual scope s.heap.objs.size f cd) e) (fun _ J=>CX outer H s E e J) (fun U J=>CX outer H s E U J) s'
def va {J:Scope}(h:J.names.lookup x=some .cell):∃c,(cellsFrom n J.names []).lookup x=some c:=by
 have q:=VC J.names n [] (.inl h);exact VD.mp q
def FQ {w:World}{K:vF_}{N ps:List Str}{cd:Value}{s1:Shared}{E:XK}{vs:List V}
  (S:FnScope N ps scope) (hd:A.handled=none) (J:Env0 P w K mg base A outer s H) (hl:vs.length=ps.length) (r:Vals vs us)
  (x:InCallC s s.heap.objs.size (bindL (envOfC qual scope s.heap.objs.size f cd).kindOf (ps.zip us) fun _=>none) (cellsFrom (s.heap.objs.size+1) scope.names []) (bindC (envOfC qual scope s.heap.objs.size f cd).kindOf (ps.zip us) fun _=>none) s1) :
  Inv (S4 CX P w K mg base N qual scope f cd A outer s H E) [] (start N vs) H s1:=by
 have hpl:ps.length<=N.length:=by have:=congrArg List.length S.pre;rw[QS] at this;omega
 obtain⟨h1,tk,rfl,hk⟩:=x.done;have Y:∀b:Addr,b ∉ (S4 CX P w K mg base N qual scope f cd A outer s H E).ex:=fun b z=>absurd (show b∈([]:vL_) from z) 'g'
 refine#[#[J.mod,S.kind,rfl,rfl,tx _,fun y z c h1 h2=>?_,fun y U=>?_,fun y c _ h=>?_,fun _=>hd,Around.frames_deeper J.frames,.inr #[rfl,rfl],fun b z=>absurd z (Y b),J.bs,J.bsz,fun b _ _=>Y b,fun b z=>absurd z (Y b),J.funs,J.frf],
  rfl,J.bare,Un.kept hk,#[_,x.toInCall.ns,fun i y v h1 h2 h3=>?_],fun y c h=>#[_,x.cell y c h],J.hok.fresh (tx _),fun y c h=>?_,fun p hp=>absurd (show p∈([]:vP_) from hp) 'g',J.hok.kept hk,?_]
 .exact name_of_addr x.apart (SQ h1) (SQ h2)
 .have U:scope.names.lookup y=some .cell\/scope.names.lookup y=some .free:=U;rcases U with U | U
  .exact va U
  .exact absurd rfl (S.nofree _ (SQ U))
 .exact Rh (x.above y c (SQ h))
 .have hi:i<vs.length:=by
   unfold start at h2;by_cases hi:i<vs.length
   .exact hi
   .rw[Rp (by simpa using hi)] at h2;rw[List.getElem?_replicate] at h2;split at h2 <;> cases h2
  have ha:vs[i]? = some v:=by
   unfold start at h2;rw[Rq (by simpa using hi),Qy] at h2;cases e:vs[i]? with
   |none=>rw[e] at h2;cases h2
   |some a=>rw[e] at h2;cases h2;rfl
  obtain⟨u,hu,rv⟩:=r.get ha;have hp:ps[i]? = some y:=by
   rw[<-S.pre,TK ∅];exact h1
  have Z:ps.Nodup:=by rw[<-S.pre];exact S.nd.sublist (List.take_sublist _ _)
  refine#[u,rv,?_];rcases S.par y (Rr hp) with k | k
  .exact .inl #[k,iI Z hp hu k]
  .obtain⟨c,e⟩:=va (n:=s.heap.objs.size+1) k;refine .inr #[.inl k,c,e,?_];have q:=x.cell y c e;rw[yS Z hp hu (by show scope.names.lookup y≠_;rw[k];decide)] at q;exact q
 .exact J.hok.fresh (Rh (x.above y c (SQ h)))
 .unfold start;show _=N.length;rw[Qo,PH,VE];omega
def zO {CX:V4}{w:World}{K:vF_}{mg:vG_}{base:Heap}{k:Nat}{name qual:Str}{body:List Stmt}{scope:Scope}{dV kV doc pm cdv ct oc:Value}{an od:vA_}
  {osl:vS_}{N ps:List Str}{sp:Sp}(lk:K.lookup f=some #[oc,od,.func (PySem.W.fnOf name qual params body scope dV kV doc pm an cdv ct),osl]) (hcd:PySem.W.codeIn K cdv qual=true) (S:FnScope N ps scope)
  (len:∀vs H Q E,sp vs H Q E->vs.length=ps.length)
  (U:∀(A:Around) (outer:List Env) (s:Shared) (H:Hp) (vs:List V) (Q:VK) (E:XK),Room k (A.deeper (envOfC qual scope s.heap.objs.size f cdv))->sp vs H Q E ->
   ∃t,PSs (S4 CX P w K mg base N qual scope f cdv A outer s H E) body t/\t { nx:=fun _ H'=>Q .non H',rt:=Q } (start N vs) H) :
  FnOk P w K mg base CX (k+1) f (PySem.W.fnOf name qual params body scope dV kV doc pm an cdv ct) ps sp:=by
 refine#[len,fun A outer s H args us vs Q E hr e0 hb r hsp=>?_];have hl:=len _ _ _ _ hsp;have KX:K.In s.heap:=e0.mod.kin.keeps fun b o e=>(e0.bs b o e).1
 have lim:s.heap.NoLimit:=e0.mod.nolimit.keeps fun b o e=>(e0.bs b o e).1
 have Y:∀y∈ps.zip us,scope.names.lookup y.1=some .local\/(scope.names.lookup y.1=some .cell/\((cellsFrom (s.heap.objs.size+1) scope.names []).lookup y.1).isSome=true):=fun ⟨n,v⟩ hy=>by
  rcases S.par n (RY hy).1 with q | q
  .exact .inl q
  .exact .inr #[q,VC _ _ _ (.inl q)]
 refine codeAny_call_function hr.depth (KX _ _ lk) rfl S.co S.gen rfl (PySem.W.codeRec_of KX hcd) (hb _ _ _ _ ?_);refine wpAny_newFunctionEnv_cells S.kind Y fun env he s1 x=>?_
 subst he;refine#[lim.keeps x.toInCall.keep,codeAny_func ?_];obtain⟨t,ht,hq⟩:=U A outer s H vs Q E (hr.deeper _) hsp;have I:Inv (S4 CX P w K mg base N qual scope f cdv A outer s H E) [] (start N vs) H s1:=FQ S hr.hd e0 hl r x;refine Qg (ht [] s1 (start N vs) H _ I hq) (fun fl s' Z=>?_) fun e s' Z=>Z
 have fin:∀{σ':St}{H':Hp}{v:V}{u:Value},Inv (S4 CX P w K mg base N qual scope f cdv A outer s H E) [] σ' H' s'->RelV v u->Q v H'->CE outer P w H s Q u s':=
  fun {σ' H' v u} J rv q=>#[v,H',J.os,J.bare,J.base,J.hok,rv,q]
 cases fl with
 |ret u=>
  obtain⟨v,σ',H',J,rv,q⟩:=Z;exact fin J rv q
 |next=>
  obtain⟨σ',H',J,q⟩:=Z;exact fin (v:=V.non) (u:=Value.none) J rfl q
 |brk=>
  obtain⟨_,_,_,q⟩:=Z;exact False.elim q
 |cont=>
  obtain⟨_,_,_,q⟩:=Z;exact False.elim q
section
variable {p pos:Pos}{t:TA}{id T:String}
def fu (r:List V->Hp->VK->Prop) (t:TA):TE:=fun σ H Q=>t σ H fun vs H1=>r vs H1 Q
def hU (hc:CallR X (.builtin id) r) (Y:Gl X x) (hm:X.mg x=none) (hv:bootBuiltins x=some (.builtin id)) (ha:PA X (e::es) t) (hn:x ≠ "__name__" := by decide) (U:(x == ("__debug__" : Str))=false:=by decide)
  (he:starEach (e::es) X.env=(false,eval e X.env)::starEach es X.env:=by rfl) (J:'x'.any (·.1)=false:=by rfl):PE X (.Call (.Name x p) (e::es) [] pos) (fu r t):=by
 intro pins s σ H Q I h;refine RD (cH I Y hm hv ?_ hn U);exact PyProof.Rows.callWith_builtin1 (v3 (ha pos pins s σ H _ I h) fun us s1 ⟨vs,H1,I1,Z,q1⟩=>hc pins s1 σ H1 vs us Q I1 Z q1) he J
def jQ (hc:CallR X (.type T) r) (Y:Gl X x) (hm:X.mg x=none) (hv:bootBuiltins x=some (.type T)) (ha:PA X (e::es) t) (hn:x ≠ "__name__" := by decide) (U:(x == ("__debug__" : Str))=false:=by decide)
  (he:starEach (e::es) X.env=(false,eval e X.env)::starEach es X.env:=by rfl) (J:'x'.any (·.1)=false:=by rfl):PE X (.Call (.Name x p) (e::es) [] pos) (fu r t):=by
 intro pins s σ H Q I h;refine RD (cH I Y hm hv ?_ hn U);exact Sm (v3 (ha pos pins s σ H _ I h) fun us s1 ⟨vs,H1,I1,Z,q1⟩=>hc pins s1 σ H1 vs us Q I1 Z q1) he J
end
end L2
variable {xs ys:List L2.V}{f':Int->Int->L2.V}{H H' H1:L2.Hp}{X:L2.Cx}{σ:L2.St}{r:List L2.V->L2.Hp->L2.VK->Prop}{te:L2.TE}{tc:L2.TT}{ta:L2.TA}{tb:L2.TS}{r':L2.R2}{sp:L2.Sp}{CX:L2.V4}
namespace HT
open PySem PyProof.Rows
section
variable {w:World}
def cat_tup {t b:Addr}{vs J:vV_}{Q:vQ_}(ht:IsTup s.heap t vs.toArray) (hb:IsTup s.heap b J.toArray) (hv:vs≠[])
  (h1:J=[]->Q (.ref t) s) (h2:J≠[]->Q (.ref s.heap.objs.size) { s with heap:=s.heap.push { cls:=.type "tuple",data:=.seq (vs++J).toArray } })
  (hsz:vs.length+J.length<=sizeLine):wpAny 'd' A (binaryOp .Add (.ref t) (.ref b)) Q E s:=by
 refine gB_ fun G_ g_=>?_
 obtain⟨⟨cls,dd,data,sl⟩,ho,hc,n,hd⟩:=id ht;obtain⟨⟨cls2,dd2,data2,sl2⟩,U,Y,n2,Z⟩:=id hb;simp only at hc hd Y Z;apply g_;subst hc hd Y Z;have e:vs.toArray++J.toArray=(vs++J).toArray:=by simp
 by_cases hw:J=[]
 .exact concat_meets #[_,ho,rfl] #[_,U,rfl] UM seq_tuple_add UN UO (UP _ _)
   (tuple_addW1 t b vs.toArray J.toArray n n2 dd dd2 sl sl2 (by simpa using hv) (by simp[hw])) #[ho,U,h1 hw]
 .refine concat_meets #[_,ho,rfl] #[_,U,rfl] UM seq_tuple_add UN UO (UP _ _)
   (tuple_addW2 t b vs.toArray J.toArray n n2 dd dd2 sl sl2 (by simpa using hv) (by simpa using hw) (by rw[Qc,Qc];exact hsz)) #[ho,U,?_]
  rw[e];exact h2 hw
def sIx (n d:Nat):Option Int->Nat
 |none=>d
 |some v=>if v<0 then (v+(n:Int)).toNat else min v.toNat n
def sIx_none (n d:Nat):sIx n d none=d:=rfl
def sIx_nat (n d k:Nat):sIx n d (some (k:Int))=min k n:=by
 show (if (k:Int)<0 then ((k:Int)+(n:Int)).toNat else min (k:Int).toNat n)=min k n;rw[iU ∅,QT]
def LL (n d:Nat) (U:d<=n) (o:Option Int):sIx n d o<=n:=by
 cases o with
 |none=>exact U
 |some v=>
  show (if v<0 then (v+(n:Int)).toNat else min v.toNat n)<=n;by_cases J:v<0
  .rw[iR J];omega
  .rw[iU J];exact Nat.min_le_right _ _
def yo (v:Int) (n d:Nat):(if v<0 then max (v+(n:Int)) 0 else min v (n:Int))=((sIx n d (some v):Nat):Int):=by
 show (if v<0 then max (v+(n:Int)) 0 else min v (n:Int))=(((if v<0 then (v+(n:Int)).toNat else min v.toNat n):Nat):Int);by_cases J:v<0
 .simp only[iR J];omega
 .simp only[iU J];omega
def AD (lo hi:Option Int) (n:Nat):Builtin.Slice.sliceAdjust lo hi 1 (n:Int)=(((sIx n 0 lo:Nat):Int),((sIx n n hi:Nat):Int)):=by
 have h1:¬ ((1:Int)<0):=by omega
 unfold Builtin.Slice.sliceAdjust;simp only[h1,QU];refine Qm ?_ ?_
 .cases lo with
  |none=>rfl
  |some v=>exact yo v n 0
 .cases hi with
  |none=>rfl
  |some v=>exact yo v n n
def tY (i j:Nat):Builtin.Slice.slicePlaces (i:Int) (j:Int) 1=j - i:=by
 unfold Builtin.Slice.slicePlaces;have h1:(1:Int)>0:=by omega
 simp only[h1,Qs,Int.ediv_one];split <;> omega
def xF {v:Value}{o:Option Int}{Q:Option Int->Shared->Prop}(p:IsPart v o) (h:Q o s):wpAny 'd' A (Builtin.Slice.slicePartIndex v) Q E s:=by
 cases p with
 |none=>exact Sn h
 |int i t=>exact slicePart_int h
def uQ {lo hi:Option Int}{Q:Int × Int × Nat->Shared->Prop}(Z:s.heap.IsSliceOf sl vl vu .none) (pl:IsPart vl lo) (pu:IsPart vu hi)
  (h:Q (((sIx n 0 lo:Nat):Int),1,sIx n n hi - sIx n 0 lo) s):wpAny 'd' A (Builtin.Slice.sliceApplied (.ref sl) (pure (n:Int))) Q E s:=by
 obtain⟨os,J,Y,U⟩:=id Z;unfold Builtin.Slice.sliceApplied Builtin.Slice.sliceFields;refine gV (gV (PZ J U (x:=vl) rfl (gV (PZ J U (x:=vu) rfl (gV (PZ J U (x:=.none) rfl (td ?_)))))));refine gV (Sn ?_);show wpAny _ _ (if ((1:Int) == 0)=true then _ else _) _ _ s;rw[iU #[]];refine gV (xF pl (gV (xF pu (gV (td ?_)))));show wpAny _ _ (match Builtin.Slice.sliceAdjust lo hi 1 (n:Int) with | (lo,hi)=>pure (lo,(1:Int),Builtin.Slice.slicePlaces lo hi 1)) _ _ s;rw[AD lo hi n];show wpAny _ _ (pure (((sIx n 0 lo:Nat):Int),(1:Int),Builtin.Slice.slicePlaces ((sIx n 0 lo:Nat):Int) ((sIx n n hi:Nat):Int) 1)) _ _ s;rw[tY];exact td h
def JC (xs:vR_) (i k:Nat):((List.range k).filterMap fun (m:Nat)=>xs[((i:Int)+(m:Int)*1).toNat]?).toArray=((xs.toList.drop i).take k).toArray:=by
 have e:(fun (m:Nat)=>xs[((i:Int)+(m:Int)*1).toNat]?)=fun m=>xs[i+m]?:=by
  funext m;have:((i:Int)+(m:Int)*1).toNat=i+m:=by omega
  rw[this]
 rw[e];have:=pick_run xs i k;rw[List.filterMap_map] at this;have J:((fun x=>xs[x]?)∘fun x=>i+x)=fun m=>xs[i+m]?:=rfl
 rw[J] at this;rw[this]
def getItem_tuple_cut {t sl:Addr}{items:vR_}{lo hi:Option Int}{Q:vQ_}(U:IsTup s.heap t items) (hs:s.heap.IsSliceOf sl vl vu .none) (pl:IsPart vl lo) (pu:IsPart vu hi)
  (hw:¬ (sIx items.size 0 lo=0/\sIx items.size items.size hi=items.size))
  (h:Q (.ref s.heap.objs.size) { s with heap:=s.heap.push { cls:=.type "tuple",data:=.seq ((items.toList.drop (sIx items.size 0 lo)).take (sIx items.size items.size hi - sIx items.size 0 lo)).toArray } })
  (hsz:items.size<=sizeLine):wpAny 'd' A (getItem (.ref t) (.ref sl)) Q E s:=by
 have J:sizeOk (.seq ((items.toList.drop (sIx items.size 0 lo)).take (sIx items.size items.size hi - sIx items.size 0 lo)).toArray):=by
  show ((items.toList.drop (sIx items.size 0 lo)).take (sIx items.size items.size hi - sIx items.size 0 lo)).toArray.size<=sizeLine;rw[Qc,QS,Qn,TF];omega
 have hj:sIx items.size items.size hi<=items.size:=LL _ _ (tx _) hi;obtain⟨os,hos,hcs,hds⟩:=id hs;have Z:s.TypeIs (.ref sl) "slice" := #[os,hos,hcs]
 unfold getItem
 try with_reducible refine QP ?_
 first | refine gV (td ?_) | skip
 refine gV (TL U.typeIs #[] ?_);refine gV (QV (name:=Str.ofString "__getitem__") U.typeIs QZ
  (QF QZ U.typeIs TM ?_ (TN _ _)))
 show wpAny _ _ (Builtin.Tuple.tupleItemsOf (.ref t) >>= _) _ _ s;refine gV (tupleItemsOf_ U ?_);refine gV (RE Z ?_);rw[iR #[]];refine gV (uQ hs pl pu ?_);have Y:¬ ('q'=true):=by
  intro q;rw[Qe,Qe] at q;have q1:((sIx items.size 0 lo:Nat):Int)=0:=eq_of_beq q.1.1;have q2:sIx items.size items.size hi - sIx items.size 0 lo=items.size:=eq_of_beq q.2;exact hw #[by omega,by omega]
 show wpAny _ _ (if 'q'=true then _ else _) _ _ s;rw[iU Y,JC]
 first
  | exact gV (m:=Builtin.Tuple.tupleExact _) (QQ (td #[_,rfl,td h]) J)
  | exact gV (m:=Builtin.Tuple.tupleExact _) (QQ (gV (td (td #[_,rfl,td h]))) J)
  | exact gV (gV (m:=Builtin.Tuple.tupleExact _) (QQ (td (td #[_,rfl,td h])) J))
  | exact gV (gV (m:=Builtin.Tuple.tupleExact _) (QQ (td #[_,rfl,td h]) J))
end
end HT
namespace L2
open PySem PySem.Spec PyProof.Rows
abbrev TO:=St->Hp->(Option Int->Hp->Prop)->Prop
def PO (X:Cx) (e:Option Expr) (t:TO):Prop:=
 ∀(pins:vP_) (s:Shared) (σ:St) (H:Hp) (Q:Option Int->Hp->Prop),Inv X pins σ H s->t σ H Q ->
  wpAny 'f' X.A (evalPart e X.env) (fun u s'=>∃o H',Inv X pins σ H' s'/\IsPart u o/\Q o H') X.xe s
def KA:TO:=fun _ H Q=>Q none H
def Mq (t:TE):TO:=fun σ H Q=>t σ H fun x H1=>∃i,x = .int i/\Q (some i) H1
section
variable {lo hi:Option Expr}{tl th:TO}{pos:Pos}
def AU:PO X none KA:=by
 intro pins s σ H Q I h;rw[evalPart_none];exact td #[none,H,I,.none,h]
def wY (h:PE X e te):PO X (some e) (Mq te):=by
 intro pins s σ H Q I Y;rw[evalPart_some];refine v3 (h pins s σ H _ I Y) fun u s1 ⟨x,H1,Z,U,J⟩=>?_
 obtain⟨i,rfl,q⟩:=J;obtain⟨t,rfl⟩:=U;exact#[some i,H1,Z,.int i t,q]
def SlR (X:Cx) (r:V->Option Int->Option Int->Hp->VK->Prop):Prop:=
 ∀(pins:vP_) (s:Shared) (σ:St) (H:Hp) (x:V) (v vl vu:Value) (lo hi:Option Int) (sl:Addr) (Q:VK),Inv X pins σ H s->RelV x v->s.heap.IsSliceOf sl vl vu .none->IsPart vl lo->IsPart vu hi->r x lo hi H Q ->
  ∃T id,typeLookup (.type T) "__getitem__" = pure (some (.builtin id))/\s.TypeIs v T/\wpAny 'f' X.A (getItem v (.ref sl)) (EP X pins σ Q) X.xe s
def SlR.or {r r':V->Option Int->Option Int->Hp->VK->Prop}(h:SlR X r) (h':SlR X r'):SlR X (fun x lo hi H Q=>r x lo hi H Q\/r' x lo hi H Q):=by
 intro pins s σ H x v Z Y lo hi sl Q I J hs pl U q;rcases q with q | q
 .exact h pins s σ H x v Z Y lo hi sl Q I J hs pl U q
 .exact h' pins s σ H x v Z Y lo hi sl Q I J hs pl U q
def Kz (r:V->Option Int->Option Int->Hp->VK->Prop) (te:TE) (tl th:TO):TE:=fun σ H Q=>te σ H fun x H1=>tl σ H1 fun l H2=>th σ H2 fun u J=>r x l u J Q
def yX {r:V->Option Int->Option Int->Hp->VK->Prop}(hr:SlR X r) (he:PE X e te) (hl:PO X lo tl) (hu:PO X hi th):PE X (.Subscript e (.Slice lo hi none p2) pos) (Kz r te tl th):=by
 intro pins s σ H Q I h;refine Subscript_ (v3 (he pins s σ H _ I h) fun v s1 ⟨x,H1,I1,r1,q1⟩=>?_);refine wpAny_Slice (v3 (hl pins s1 σ H1 _ I1 q1) fun J s2 ⟨l,H2,I2,pl,q2⟩=>v3 (hu pins s2 σ H2 _ I2 q2) fun U s3 ⟨u,Y,I3,pu,q3⟩=>?_);rw[evalPart_none];refine td ?_;have I4:Inv X pins σ Y { s3 with heap:=s3.heap.push { cls:=.type "slice",data:=.fields #v[J,U,.none] } }:=I3.kept (t':=s3.toks) fun b ob q=>PF _ q
 obtain⟨T,id,hT,ht,Z⟩:=hr pins { s3 with heap:=s3.heap.push { cls:=.type "slice",data:=.fields #v[J,U,.none] } } σ Y x v J U l u s3.heap.objs.size Q I4 r1 (UQ ..) pl pu q3;show wpAny 'f' X.A (subscriptTail e (.Slice lo hi none p2) v (.ref s3.heap.objs.size)) (EP X pins σ Q) X.xe { s3 with heap:=s3.heap.push { cls:=.type "slice",data:=.fields #v[J,U,.none] } };exact tail_any (ops:=[.ref s3.heap.objs.size,v]) ht hT Z (by with_unfolding_all rfl)
def X5 (xs:List V) (lo hi:Option Int):List V:=(xs.drop (HT.sIx xs.length 0 lo)).take (HT.sIx xs.length xs.length hi - HT.sIx xs.length 0 lo)
def zg (xs:List V) (lo hi:Option Int):(X5 xs lo hi).length<=xs.length:=by
 unfold X5;rw[QS,Qn];omega
def EL (K:vF_):V->Option Int->Option Int->Hp->VK->Prop:=fun x lo hi H Q=>∃a xs,x = .ref a/\SqT K H a xs /\
 ¬ (HT.sIx xs.length 0 lo=0/\HT.sIx xs.length xs.length hi=xs.length)/\∀p,H p=none->Q (.ref p) (o7 H p (.tup (X5 xs lo hi)))
def OG:SlR X (EL X.K):=by
 intro pins s σ H x v vl vu lo hi sl Q I rx hs pl pu h;obtain⟨a,xs,rfl,hx,Z,q⟩:=h;cases rx;obtain⟨its,r,U,Y⟩:=I.tuple hx;have J:its.toArray.size=xs.length:=by rw[Qc];exact r.length.symm
 refine#["tuple",_,QZ.lookup,U.typeIs,?_];refine HT.getItem_tuple_cut U hs pl pu (by rw[J];exact Z) ?_ (by rw[J];exact Y);rw[J];refine#[.ref s.heap.objs.size,_,I.laid (t':=s.toks) (o:=.tup (X5 xs lo hi)) (fun b ob q=>PF _ q) (tx _) ?_,rfl,q _ (I.hok.fresh (tx _))];exact#[PJ (zg xs lo hi) Y,_,(r.drop (HT.sIx xs.length 0 lo)).take (HT.sIx xs.length xs.length hi - HT.sIx xs.length 0 lo),IsTup.new _ _]
def wJ (K:vF_):R2:=fun x y H Q=>∃a b xs ys,x = .ref a/\y = .ref b/\SqT K H a xs/\SqT K H b ys/\xs≠[]/\xs.length+ys.length<=sizeLine /\
 (ys=[]->Q (.ref a) H)/\(ys≠[]->∀p,H p=none->Q (.ref p) (o7 H p (.tup (xs++ys))))
def Vals.nil_iff (r:Vals xs us):us=[]↔xs=[]:=by
 cases r with
 |nil=>simp
 |cons _ _=>simp
def KW:OpR X (binaryOp .Add) (wJ X.K):=by
 intro pins s σ H x y v u Q I rx ry h;obtain⟨a,b,xs,ys,rfl,rfl,ha,hb,hx,Z,q1,q2⟩:=h;cases rx;cases ry;obtain⟨its,U,p1,_⟩:=I.tuple ha;obtain⟨Y,J,p2,_⟩:=I.tuple hb;refine HT.cat_tup p1 p2 (fun z=>hx (U.nil_iff.mp z)) (fun z=>#[.ref a,H,I,rfl,q1 (J.nil_iff.mp z)]) (fun z=>?_) (by rw[<-U.length,<-J.length];exact Z);refine#[.ref s.heap.objs.size,_,I.laid (t':=s.toks) (o:=.tup (xs++ys)) (fun b ob q=>PF _ q) (tx _) ?_,rfl,q2 (fun w=>z (J.nil_iff.mpr w)) _ (I.hok.fresh (tx _))];exact#[by rw[Qo];exact Z,_,U.append J,IsTup.new _ _]
end
def W6 (n:Nat) (i:Int):Option Nat:=if 0<=i then (if i<n then some i.toNat else none) else if -(n:Int)<=i then some (i+n).toNat else none
def D9 {α:Type}(xs:List α) (i:Int):Option α:=(W6 xs.length i).bind fun j=>xs[j]?
def BJ {i:Int}(h:W6 n i=some j):seqIndex? i n=some j/\j<n /\ -(n:Int)<=i/\i<n:=by
 unfold W6 at h;by_cases J:0<=i
 .rw[iR J] at h;by_cases h1:i<n
  .rw[iR h1] at h;have e:i.toNat=j:=Qi h;exact#[by rw[seqIndex_of J h1,e],by omega,by omega,h1]
  .rw[iU h1] at h;cases h
 .rw[iU J] at h;by_cases h1:-(n:Int)<=i
  .rw[iR h1] at h;have e:(i+n).toNat=j:=Qi h;exact#[by rw[seqIndex_neg ∅ h1,e],by omega,h1,by omega]
  .rw[iU h1] at h;cases h
def xM {α:Type}{xs:List α}{i:Int}{v:α}(h:D9 xs i=some v):∃j,seqIndex? i xs.length=some j/\xs[j]? = some v/\j<xs.length /\ -(xs.length:Int)<=i/\i<xs.length:=by
 unfold D9 at h;cases e:W6 xs.length i with
 |none=>rw[e] at h;cases h
 |some j=>
  rw[e] at h;obtain⟨h1,h2,U,J⟩:=BJ e;exact#[j,h1,h,h2,U,J]
def bF {α:Type}{xs:List α}{v:α}(h:xs[j]? = some v):D9 xs (j:Int)=some v:=by
 have J:j<xs.length:=(Qr.mp h).1;have e:W6 xs.length (j:Int)=some j:=by
  unfold W6;rw[iR ∅,iR ∅];simp
 unfold D9;rw[e];exact h
def vM {α:Type}(xs:List α) (v:α):D9 (xs++[v]) (-1)=some v:=by
 have J:(xs++[v]).length=xs.length+1:=by simp
 have e:W6 (xs++[v]).length (-1)=some xs.length:=by
  unfold W6;rw[J,iU #[],iR ∅];congr 1;omega
 unfold D9;rw[e];show (xs++[v])[xs.length]? = some v;simp
def Bm (b:Expr):Prop:=∀o i,subscripted b false o i=operate [o,i] (getItem o i)
def IxR (X:Cx) (r:R2):Prop:=
 ∀(value slice:Expr) (pins:vP_) (s:Shared) (σ:St) (H:Hp) (x y:V) (v u:Value) (Q:VK),Inv X pins σ H s->RelV x v->RelV y u->r x y H Q ->
  subscripted slice false v u=operate [v,u] (getItem v u)->wpAny 'f' X.A (subscriptTail value slice v u) (EP X pins σ Q) X.xe s
def IW (X:Cx) (id:String) (r:V->List V->Hp->VK->Prop):Prop:=
 ∀(pins:vP_) (s:Shared) (σ:St) (H:Hp) (x:V) (xs:List V) (v:Value) (us:vV_) (Q:VK),Inv X pins σ H s->RelV x v->Vals xs us->r x xs H Q ->
  wpAny 'f' X.A (call (.builtin id) (v::us)) (EP X pins σ Q) X.xe s
section
variable {a b:Expr}{ta tb:TE}{pos:Pos}
def IxR.or {r:R2}(h:IxR X r) (h':IxR X r'):IxR X (fun x y H Q=>r x y H Q\/r' x y H Q):=by
 intro U J pins s σ H x y v u Q I Y Z q hs;rcases q with q | q
 .exact h U J pins s σ H x y v u Q I Y Z q hs
 .exact h' U J pins s σ H x y v u Q I Y Z q hs
def zd {r:R2}(Y:IxR X r) (ha:PE X a ta) (J:PE X b tb) (hs:Bm b):PE X (.Subscript a b pos) (gI r ta tb):=by
 intro pins s σ H Q I h;exact Subscript_ (oZ ha J I h fun v u s2 x y H2 U Z ry q=>Y a b pins s2 σ H2 x y v u Q U Z ry q (hs _ _))
def oP (K:vF_):R2:=fun x y H Q=>∃p xs i v,x = .ref p/\y = .int i/\SqL K H p xs/\D9 xs i=some v/\Q v H
def oO (K:vF_):R2:=fun x y H Q=>∃p xs i v,x = .ref p/\y = .int i/\SqT K H p xs/\D9 xs i=some v/\Q v H
def ix_list:IxR X (oP X.K):=by
 intro value Z pins s σ H x y v u Q I rx ry h hs;obtain⟨p,xs,i,z,rfl,rfl,hq,he,q⟩:=h;cases rx;obtain⟨t,rfl⟩:=ry;obtain⟨its,r,pl,hz⟩:=I.list hq;obtain⟨j,h1,h2,h3,h4,h5⟩:=xM he;obtain⟨w,ew,Y⟩:=r.get h2;have hl:=r.length;have hn:=fN;have J:EP X pins σ Q w s:=#[z,H,I,Y,q]
 by_cases h0:0<=i
 .have U:i.toNat=j:=by
   rw[seqIndex_of h0 h5] at h1;exact Qi h1
  exact item_listR pl.isList h0 ∅ (by rw[U];simpa using ew) J hs
 .have U:(i+(its.toArray.size:Int)).toNat=j:=by
   rw[seqIndex_neg ∅ h4] at h1;rw[Qc,<-hl];exact Qi h1
  exact subscriptTail_builtinR (x:=w) pl.isList.typeIs slot_list_getitem.lookup
   (wpAny_getItem_list_neg (Q:=fun r s'=>r=w/\EP X pins σ Q r s') pl.isList ∅ (by rw[Qc] <;> omega) ∅ (by rw[U];simpa using ew) #[rfl,J]) hs
def MP:IxR X (oO X.K):=by
 intro Z Y pins s σ H x y v u Q I rx ry h hs;obtain⟨p,xs,i,z,rfl,rfl,hq,he,q⟩:=h;cases rx;obtain⟨t,rfl⟩:=ry;obtain⟨its,r,pl,hz⟩:=I.tuple hq;obtain⟨j,h1,h2,h3,h4,h5⟩:=xM he;obtain⟨w,ew,J⟩:=r.get h2;have hl:=r.length;have hn:=fN;have U:EP X pins σ Q w s:=#[z,H,I,J,q]
 exact subscriptTail_builtinR (x:=w) pl.typeIs slot_tuple_getitem.lookup
  (getItem_tuple (j:=j) (Q:=fun r s'=>r=w/\EP X pins σ Q r s') pl ∅ ∅ (by rw[Qc,<-hl];exact h1) (by simpa using ew) #[rfl,U]) hs
def HV (its:vV_) (n j:Nat) (u:Value):Obj.mapSeq (·.setIfInBounds j u) { cls:=.type "list",data:=.seq its.toArray n }={ cls:=.type "list",data:=.seq (its.set j u).toArray n }:=by
 simp[Obj.mapSeq]
theorem Inv.lst (I:Inv X pins σ H s) (h:H p=some (.lst xs)) :
  ∃(its:vV_) (n:Nat),Vals xs its/\s.heap.get? p=some { cls:=.type "list",data:=.seq its.toArray n }/\xs.length<=sizeLine:=by
 obtain⟨z,its,n,r,e⟩:=I.hok p _ h;exact#[its,n,r,e,z]
def Inv.lstUpd {pins:vP_}{H:Hp}{s:Shared}{xs ys:List V}{its its':vV_}{n J:Nat}(I:Inv X pins σ H s) (h:H p=some (.lst xs))
  (Z:s.heap.get? p=some { cls:=.type "list",data:=.seq its.toArray n }) (U:f { cls:=.type "list",data:=.seq its.toArray n }={ cls:=.type "list",data:=.seq its'.toArray J }) (r:Vals ys its') (hz:ys.length<=sizeLine) (t:Nat) :
  Inv X pins σ (o7 H p (.lst ys)) { s with heap:=s.heap.update p f,toks:=t }:=by
 have e:(s.heap.update p f).get? p=some { cls:=.type "list",data:=.seq its'.toArray J }:=by
  rw[Ri f Z (by rw[U] <;> rfl),U]
 refine I.write (x:=p) (e:=p) (by rw[h];trivial) (.inl rfl) (fun b u Y q=>(QL _ _ (Qd Y)).trans q) #[_,e] ?_;exact#[hz,its',J,r,e]
def GH:V->V->V->Hp->(Hp->Prop)->Prop:=fun o i v H Q=>∃p xs k j,o = .ref p/\i = .int k/\H p=some (.lst xs)/\W6 xs.length k=some j/\Q (o7 H p (.lst (xs.set j v)))
def Hw:zf X GH:=by
 intro pins s σ H o i v ov iv u Q I ro ri rv h;obtain⟨p,xs,k,j,rfl,rfl,hp,hj,q⟩:=h;cases ro;obtain⟨t,rfl⟩:=ri;obtain⟨its,n,r,U,hz⟩:=I.lst hp;obtain⟨h1,h2,h3,h4⟩:=BJ hj;have Y:=r.length;have hn:=fN;have I':Inv X pins σ (o7 H p (.lst (xs.set j v))) { s with heap:=s.heap.update p (Obj.mapSeq (·.setIfInBounds j u)) }:=
  I.lstUpd hp U (HV its n j u) (r.set rv j) (by rw[List.length_set];exact hz) s.toks
 by_cases Z:0<=k
 .have J:k.toNat=j:=by
   rw[seqIndex_of Z h4] at h1;exact Qi h1
  exact PySem.W.ki_setAt U Z ∅ (by rw[Qc,<-Y];exact h4) (by rw[J];exact#[_,I',q])
 .have J:(k+(its.toArray.size:Int)).toNat=j:=by
   rw[seqIndex_neg ∅ h3] at h1;rw[Qc,<-Y];exact Qi h1
  exact PySem.W.ki_setBack U ∅ (by rw[Qc,<-Y];exact h3) ∅ (by rw[J];exact#[_,I',q])
def MR (lo hi:Option Int) (n:Nat):(sliceBounds lo hi none n).1=((HT.sIx n 0 lo:Nat):Int)/\(sliceBounds lo hi none n).2.1=((HT.sIx n n hi:Nat):Int)/\(sliceBounds lo hi none n).2.2=1:=by
 have key:∀i:Int,(sliceBounds (some i) none none n).1=((HT.sIx n 0 (some i):Nat):Int):=fun i=>by
  simp only[sliceBounds,HT.sIx,Option.getD_none,show (1:Int)>0 by decide,Qs];by_cases h:i<0
  .simp only[h,Qs] <;> omega
  .simp only[h,QU] <;> omega
 refine#[?_,?_,rfl]
 .cases lo with
  |none=>simp[sliceBounds,HT.sIx]
  |some i=>exact key i
 .cases hi with
  |none=>simp[sliceBounds,HT.sIx]
  |some i=>exact key i
def Ju (its:vV_) (lo hi:Option Int):slicePick its.toArray lo hi none=((its.drop (HT.sIx its.length 0 lo)).take (HT.sIx its.length its.length hi - HT.sIx its.length 0 lo)).toArray:=by
 obtain⟨h1,h2,J⟩:=MR lo hi its.toArray.size;unfold slicePick;rw[h1,h2,J];simp only[sliceRange_one,pick_run,Qc] <;> rfl
def Kw (K:vF_):V->Option Int->Option Int->Hp->VK->Prop:=fun x lo hi H Q=>∃a xs,x = .ref a/\SqL K H a xs/\∀p,H p=none->Q (.ref p) (o7 H p (.lst (X5 xs lo hi)))
def wO:SlR X (Kw X.K):=by
 intro pins s σ H x v vl vu lo hi sl Q I Y hs pl Z h;obtain⟨a,xs,rfl,hx,q⟩:=h;cases Y;obtain⟨its,r,U,hz⟩:=I.list hx;have J:=r.length;refine#["list",_,slot_list_getitem.lookup,U.isList.typeIs,?_];refine wpAny_getItem_list_slice U.isList hs pl Z .none 'g' ?_ (by rw[Qc] <;> omega);rw[Ju,<-J];refine#[.ref s.heap.objs.size,_,I.laid (t':=s.toks) (o:=.lst (X5 xs lo hi)) (fun b ob q=>PF _ q) (tx _) ?_,rfl,q _ (I.hok.fresh (tx _))];exact#[PJ (zg xs lo hi) hz,_,0,(r.drop (HT.sIx xs.length 0 lo)).take (HT.sIx xs.length xs.length hi - HT.sIx xs.length 0 lo),Qq _ rfl]
def call_len_seq:CallR X (.builtin "len") (fun xs H Q=>∃p ys,xs=[.ref p]/\(SqL X.K H p ys\/SqT X.K H p ys)/\Q (.int ys.length) H):=by
 intro pins s σ H xs us Q I r h;refine gB_ fun G_ g_=>?_
 obtain⟨p,ys,rfl,U,q⟩:=h;obtain⟨u,rfl,Z⟩:=X6 r;apply g_;cases Z;have hn:=fN;rcases U with U | U
 .obtain⟨its,r',Y,hz⟩:=I.list U;have J:=r'.length;exact Calls.call_len_list Y.isList (by simp only[Qc] <;> omega) #[.int ys.length,H,I.tok _,#[s.toks+1,by rw[Qc,J]],q]
 .obtain⟨its,r',Y,hz⟩:=I.tuple U;have J:=r'.length;exact len_tuple Y (by simp only[Qc] <;> omega) #[.int ys.length,H,I.tok _,#[s.toks+1,by rw[Qc,J]],q]
def CT:CallR X (.builtin "len") (fun xs H Q=>∃z,xs=[.str z]/\z.length<=sizeLine/\Q (.int z.length) H):=by
 intro pins s σ H xs us Q I r h;obtain⟨z,rfl,U,q⟩:=h;obtain⟨u,rfl,t,rfl⟩:=X6 r;have J:=fN;exact len_str ∅ #[.int z.length,H,I.tok _,#[_,rfl],q]
def CallR.or {r':List V->Hp->VK->Prop}(h:CallR X f r) (h':CallR X f r'):CallR X f (fun xs H Q=>r xs H Q\/r' xs H Q):=by
 intro pins s σ H xs us Q I J q;rcases q with q | q
 .exact h pins s σ H xs us Q I J q
 .exact h' pins s σ H xs us Q I J q
def rX:CallR X (.type "list") (fun xs H Q=>∃p ys,xs=[.ref p]/\(SqL X.K H p ys\/SqT X.K H p ys)/\∀l,H l=none->Q (.ref l) (o7 H l (.lst ys))):=by
 intro pins s σ H xs us Q I r h;refine gB_ fun G_ g_=>?_
 obtain⟨p,ys,rfl,hq,q⟩:=h;obtain⟨u,rfl,rx⟩:=X6 r;apply g_;cases rx;have Z:∀(its:vV_),Vals ys its->ys.length<=sizeLine->∀(h':Heap) (c':Nat),(∀b o',s.heap.get? b=some o'->h'.get? b=some o') ->
   h'.get? s.heap.objs.size=some { cls:=.type "list",dict:=none,data:=.seq its.toArray c',slots:=#v[] }->EP X pins σ Q (.ref s.heap.objs.size) { s with heap:=h' }:=fun its r' Y h' c' U e=>
  #[.ref s.heap.objs.size,_,I.laid (t':=s.toks) U (tx _) (show ObjOk X.prog X.w _ h' _ (.lst ys) from #[Y,its,c',r',e]),rfl,q _ (I.hok.fresh (tx _))]
 rcases hq with hq | hq
 .obtain⟨its,r',pl,Y⟩:=I.list hq;have J:=r'.length;obtain⟨o,ho,hc,n,hd⟩:=pl.isList;exact call_list_seq p (.inl rfl) ho hc hd (fun h' c' U e=>Z its r' Y h' c' U e) (by simp only[Qc] <;> omega)
 .obtain⟨its,r',pl,Y⟩:=I.tuple hq;have J:=r'.length;obtain⟨o,ho,hc,n,hd⟩:=pl;exact call_list_seq p (.inr rfl) ho hc hd (fun h' c' U e=>Z its r' Y h' c' U e) (by simp only[Qc] <;> omega)
def ze:CallR X (.type "tuple") (fun xs H Q=>∃p ys,xs=[.ref p]/\((SqL X.K H p ys/\∀l,H l=none->Q (.ref l) (o7 H l (.tup ys)))\/(SqT X.K H p ys/\Q (.ref p) H))):=by
 intro pins s σ H xs us Q I r h;obtain⟨p,ys,rfl,h⟩:=h;obtain⟨u,rfl,rx⟩:=X6 r;cases rx;rcases h with ⟨J,q⟩ | ⟨J,q⟩
 .obtain⟨its,r',U,hz⟩:=I.list J;have Y:=r'.length;refine call_tuple_list U.isList (fun h' kp=>?_) (by simp only[Qc] <;> omega);have Z:Inv X pins σ H { s with heap:=h' }:=I.kept (t':=s.toks) kp;have I2:Inv X pins σ (o7 H h'.objs.size (.tup ys)) { s with heap:=h'.push { cls:=.type "tuple",data:=.seq its.toArray } }:=
   Z.laid (t':=s.toks) (fun b o e=>PF _ e) (tx _) (show ObjOk X.prog X.w _ _ _ (.tup ys) from #[hz,its,r',IsTup.new _ _])
  exact#[.ref h'.objs.size,_,I2,rfl,q _ (Z.hok.fresh (tx _))]
 .obtain⟨its,r',U,hz⟩:=I.tuple J;exact call_tuple_same U #[.ref p,H,I,rfl,q]
def Af (K:vF_) (T:String) (x:V) (H:Hp):Prop:=match x with
 |.str _=>T = "str"
 |.int _=>T = "int"
 |.ref p=>(T = "list" /\ ∃xs,SqL K H p xs)\/(T = "tuple" /\ ∃o,K.lookup p=some o/\o.cls = .type "tuple" /\ o.dict=none) \/
   (T = "dict" /\ ((∃kvs,H p=some (.dK kvs))\/∃kvs,H p=some (.dT kvs)))\/(T = "set" /\ ∃S n,H p=some (.set S n))
 |_=>False
def Cy {x:V}{v:Value}(I:Inv X pins σ H s) (r:RelV x v) (U:Af X.K T x H) :
  s.TypeIs v T/\∀a,v = .ref a->∃ob,s.heap.get? a=some ob/\ob.dict=none:=by
 cases x with
 |str z=>
  obtain⟨t,rfl⟩:=r;cases (show T = "str" from U);exact#[typeIs_str s z t,fun _ e=>nomatch e]
 |int i=>
  obtain⟨t,rfl⟩:=r;cases (show T = "int" from U);exact#[typeIs_int s i t,fun _ e=>nomatch e]
 |ref p=>
  cases r;rcases U with ⟨rfl,xs,hq⟩ | ⟨rfl,o,J,hc,Z⟩ | ⟨rfl,J⟩ | ⟨rfl,S,n,J⟩
  .obtain⟨its,_,pl,_⟩:=I.list hq;refine#[pl.isList.typeIs,fun a e=>?_];cases e;obtain⟨o,n,e,c,Z,_⟩:=pl;exact#[o,e,Z]
  .refine#[#[o,I.kIn p o J,hc],fun a e=>?_];cases e;exact#[o,I.kIn _ o J,Z]
  .have z:∃o,s.heap.get? p=some o/\o.ExactDict:=by
    rcases J with ⟨kvs,J⟩ | ⟨kvs,J⟩
    .obtain⟨_,_,_,_,o,_,_,e,ex,_⟩:=I.hok p _ J;exact#[o,e,ex]
    .obtain⟨_,_,_,_,o,_,_,e,ex,_⟩:=I.hok p _ J;exact#[o,e,ex]
   obtain⟨o,e,ex⟩:=z;refine#[#[o,e,ex.1],fun a Y=>?_];cases Y;exact#[o,e,ex.2.1]
  .obtain⟨o,_,_,_,e,ex,_⟩:=I.hok p _ J;refine#[#[o,e,ex.1],fun a Y=>?_];cases Y;exact#[o,e,ex.2.1]
 |_=>exact False.elim U
def Mj (K:vF_) (T:String) (r:V->List V->Hp->VK->Prop) (to:TE) (t:TA):TE:=fun σ H Q=>to σ H fun x H1=>Af K T x H1/\t σ H1 fun xs H2=>r x xs H2 Q
variable {o:Expr}{to:TE}{t:TA}{apos cpos:Pos}{T id:String}{r:V->List V->Hp->VK->Prop}
def NR (pa:PlainAttrs T) (Z:Slot T name id) (hty:typeOf (.builtin id)=pure (.type "method_descriptor")) (hm:IW X id r) (ho:PE X o to) (ha:PA X (e::es) t)
  (Y:attributeBase o name X.env (eval o X.env)=eval o X.env:=by rfl)
  (hfew:((backTo cpos (starEach (e::es) X.env)).all (fun x=>!x.1)&&(backToKw cpos (keywordEach [] X.env)).all (fun x=>x.1.isSome)
   && decide ((e::es).length+([]:List Keyword).length+(if ([]:List Keyword).isEmpty then 0 else 1)<30))=true:=by rfl)
  (U:(apos.endLine == cpos.line)=true:=by rfl) (hs:starEach (e::es) X.env=(false,eval e X.env)::starEach es X.env:=by rfl) (J:(backTo cpos (starEach es X.env)).any (·.1)=false:=by rfl) :
  PE X (.Call (.Attribute o name apos) (e::es) [] cpos) (Mj X.K T r to t):=by
 intro pins s σ H Q I h;refine wpAny_Call_method_late Y hfew U rfl (v3 (ho pins s σ H _ I h) fun v s1 ⟨x,H1,I1,r1,ty,q1⟩=>?_);obtain⟨h1,h2⟩:=Cy I1 r1 ty;refine#[T,id,pa,Z,hty,h1,h2,?_];have hA:=ha cpos pins s1 σ H1 _ I1 q1;rw[hs] at hA ⊢;refine Calls.callWith_builtin (by show (false||(backTo cpos (starEach es X.env)).any (·.1))=false;rw[J] <;> rfl) (Calls.evalArgs_plain ?_);exact v3 hA fun us s2 ⟨vs,H2,I2,r2,q2⟩=>hm pins s2 σ H2 x vs v us Q I2 r1 r2 q2
end
def Ow (X:Cx) (id:String) (r:V->List V->Hp->VK->Prop):Prop:=
 ∀(pins:vP_) (s:Shared) (σ:St) (H:Hp) (x:V) (xs:List V) (v:Value) (us:vV_) (Q:VK),Inv X pins σ H s->RelV x v->Vals xs us->r x xs H Q ->
  wpAny 'f' X.A (call (.builtin id) (v::us)) (EP X pins σ Q) X.xe s
def Vals.one:∀{x:V}{us:vV_},Vals [x] us->∃u,us=[u]/\RelV x u:=by
 intro x us h;cases h with
 |cons r t=>
  cases t;exact#[_,rfl,r]
theorem Vals.reverse (h:Vals xs us):Vals xs.reverse us.reverse:=by
 induction h with
 |nil=>exact .nil
 |cons r t J=>rw[RF,RF];exact Vals.append J (.cons r .nil)
theorem Vals.rep (h:Vals xs us):∀k:Nat,Vals (List.replicate k xs).flatten (List.replicate k us).flatten
 |0=>.nil
 |k+1=>by
  rw[RZ,RZ,SR,SR];exact Vals.append h (Vals.rep h k)
theorem uE (its:vV_):∀(k:Nat) (acc:vV_),
  List.foldl (fun x1 x2=>x1++x2) acc.toArray (List.replicate k its.toArray)=(acc++(List.replicate k its).flatten).toArray
 |0,acc=>by simp
 |k+1,acc=>by
  have e:acc.toArray++its.toArray=(acc++its).toArray:=by simp
  have J:(acc++its)++(List.replicate k its).flatten=acc++(List.replicate (k+1) its).flatten:=by
   rw[RZ,SR,So]
  rw[<-J,<-uE its k (acc++its),<-e,RZ,Sa]
section
variable {l b:Addr}{zs:List V}
def Inv.lset {its its':vV_}{n:Nat}{t':Nat}(I:Inv X pins σ H s) (Z:H l=some (.lst xs))
  (e:s.heap.get? l=some { cls:=.type "list",data:=.seq its.toArray n }) (Y:f its.toArray=its'.toArray) (U:Vals ys its') (hz:ys.length<=sizeLine) :
  Inv X pins σ (o7 H l (.lst ys)) { s with heap:=s.heap.update l (Obj.mapSeq f),toks:=t' }:=by
 have q:=PySem.IsL.update e f;rw[Y] at q;refine I.write (x:=l) (e:=l) (by rw[Z];exact trivial) (.inl rfl) (fun b' u J hu=>(QL s.heap (Obj.mapSeq f) (Qd J)).trans hu) #[_,q] ?_;exact#[hz,its',_,U,q]
def Inv.lnew {t':Nat}(I:Inv X pins σ H s) (J:Vals ys its) (hz:ys.length<=sizeLine) :
  Inv X pins σ (o7 H s.heap.objs.size (.lst ys)) { s with heap:=s.heap.push { cls:=.type "list",data:=.seq its.toArray },toks:=t' }:=
 I.laid (fun _ _ q=>PF _ q) (tx _) #[hz,its,0,J,Qq _ rfl]
theorem Inv.fresh (I:Inv X pins σ H s):H s.heap.objs.size=none:=I.hok.fresh (tx _)
def Inv.lstM (I:Inv X pins σ H s) (J:H l=some (.lst xs)):xs.length<=sizeLine/\∃(its:vV_) (n:Nat),Vals xs its/\xs.length=its.length/\s.heap.get? l=some { cls:=.type "list",data:=.seq its.toArray n }:=by
 obtain⟨z,its,n,r,e⟩:=I.hok l _ J;exact#[z,its,n,r,r.length,e]
def Hm (h:n<=sizeLine):Builtin.List.listTooLong n=false:=by
 unfold Builtin.List.listTooLong;exact PY ∅
end
def Cq:V->List V->Hp->VK->Prop:=fun x vs H Q=>∃l xs y,x = .ref l/\vs=[y]/\H l=some (.lst xs)/\xs.length<sizeLine/\Q .non (o7 H l (.lst (xs++[y])))
def Ba:Ow X "list.append" Cq:=by
 intro pins s σ H x vs v us Q I U Z h;obtain⟨l,xs,y,rfl,rfl,J,hz,q⟩:=h;cases U;obtain⟨u,rfl,Y⟩:=Z.one;obtain⟨z,its,n,r,hl,e⟩:=I.lstM J;refine call_meets F.slot_list_append #[_,e,rfl] F.entry_list_append (F.args_list_append_2 _ _) (PySem.list_append l its.toArray n u (by rw[Qc];omega)) #[e,?_];refine#[.non,_,I.lset (its':=its++[u]) J e 'g' (r.append (.cons Y .nil)) ?_,rfl,q];rw[Qo,RG];omega
def oa:R2:=fun x y H Q=>∃l b xs zs,x = .ref l/\y = .ref b/\H l=some (.lst xs)/\H b=some (.lst zs)/\xs.length+zs.length<=sizeLine/\∀p,H p=none->Q (.ref p) (o7 H p (.lst (xs++zs)))
def lM:OpR X (binaryOp .Add) oa:=by
 intro pins s σ H x y v u Q I Y ry h;obtain⟨l,b,xs,zs,rfl,rfl,hH,hB,hz,q⟩:=h;cases Y;cases ry;obtain⟨z,its,n,r,hl,e⟩:=I.lstM hH;obtain⟨z2,J,n2,r2,hl2,U⟩:=I.lstM hB;refine PySem.P.add_list e U ?_ (by rw[Qc,Qc];omega);have Z:its.toArray++J.toArray=(its++J).toArray:=by simp
 rw[Z];exact#[.ref _,_,I.lnew (t':=s.toks) (r.append r2) (by rw[Qo];omega),rfl,q _ I.fresh]
def BE:R2:=fun x y H Q=>∃l k xs,x = .ref l/\y = .int k/\H l=some (.lst xs) /\ -(2 ^ 63)<=k/\k<2 ^ 63/\xs.length*k.toNat<=sizeLine /\
 ∀p,H p=none->Q (.ref p) (o7 H p (.lst (List.replicate k.toNat xs).flatten))
def GJ {α:Type}(xs:List α) (k:Nat):(List.replicate k xs).flatten.length=k*xs.length:=by
 induction k with
 |zero=>simp
 |succ k J=>rw[RZ,SR,Qo,J,Nat.succ_mul,Rt]
def wM:OpR X (binaryOp .Mult) BE:=by
 intro pins s σ H x y v u Q I rx ry h;obtain⟨l,k,xs,rfl,rfl,hH,h1,h2,hz,q⟩:=h;cases rx;obtain⟨t,rfl⟩:=ry;obtain⟨z,its,n,r,hl,e⟩:=I.lstM hH;have hlen:its.toArray.size*k.toNat<=sizeLine:=by rw[Qc,<-hl];exact hz
 have Y:¬ its.toArray.size*k.toNat>(2 ^ 63 - 1) / 8:=by
  have:(sizeLine:Nat)<=(2 ^ 63 - 1) / 8:=by decide
  omega
 have Z:¬ (!Builtin.List.listFitsIndex k)=true:=by
  rw[fitsIndex_both h1 h2];exact PL
 have J:¬ Builtin.List.listTooLong (its.toArray.size*k.toNat)=true:=by
  rw[Hm hlen];exact PL
 have hnew:List.foldl (fun x1 x2=>x1++x2) #v[] (List.replicate (if its.toArray.isEmpty=true then 0 else k.toNat) its.toArray)=(List.replicate k.toNat its).flatten.toArray:=by
  have f0:∀m:Nat,List.foldl (fun x1 x2=>x1++x2) #v[] (List.replicate m its.toArray)=(List.replicate m its).flatten.toArray:=fun m=>by
   have:=uE its m [];rw[QW] at this;exact this
  rw[f0];cases its with
  |nil=>simp
  |cons a r'=>rw[iU 'g']
 refine wpAny_binaryOp_repeat_ref (T := "list") (U := "int") #[] #[_,e,rfl] (fun s'=>typeIs_int s' k t) noFill_list_mul F.fills_int_mul F.slot_int_rmul repeat_list F.slot_int_index.lookup
  (call_meets F.slot_int_rmul (typeIs_int s k t) F.entry_int_rmul (F.args_int_rmul_2 _ _) (int___rmul___int_list k t l its.toArray n)
   #[e,rfl,#[_,e,rfl],call_meets F.slot_list_mul #[_,e,rfl] F.entry_list_mul (F.args_list_mul_2 _ _) (AutoListH.list___mul___list_int_3 l its.toArray n k t Z Y J) #[e,?_]])
 rw[hnew];exact#[.ref _,_,I.lnew (t':=s.toks) (r.rep k.toNat) (by rw[GJ,UR];exact hz),rfl,q _ I.fresh]
end L2
namespace Att
open PySem PySem.W PySem.Calls PyProof.Rows
def DZ :∀(ns:List Int) (vs:vV_),WellAll P h vs (ns.map WData.int)->IntsAre vs ns:=by
 intro ns;induction ns with
 |nil=>
  intro vs w;rw[Rj] at w;cases w;exact .nil
 |cons n ns J=>
  intro vs w;rw[PM] at w;cases w with
  |cons a b=>
   cases a;exact .cons _ _ (J _ b)
def ON {l:OpenLaw}(hn:l.most=some n) {U:vV_}
  (J:l.row.toRowW.claim.pre args=true) (hwl:WellAll P h U args) :
  ∃a vs ns,U=[Value.ref a]/\args=[WData.list (ns.map WData.int)]/\h.get? a=some { cls:=.type "list",data:=.seq vs.toArray }/\IntsAre vs ns/\ns.length<=n:=by
 have hsh:WShape.hasAll [] args [.list .int]=true:=(pre_splitW J).1;have hc:l.pre.holds [] { args:=args }=true:=(pre_splitW J).2;refine gB_ fun G_ g_=>?_
 obtain⟨d,r,rfl,h1,h2⟩:=hasAllW_cons hsh;obtain rfl:=hasAllW_nil h2;obtain⟨xs,rfl,h3⟩:=hasW_list h1;obtain⟨ns,rfl⟩:=items_int h3;have Z:ns.length<=n:=by
  unfold OpenLaw.pre at hc;have h4:(WTm.not (.lt (.lit (.int (n:Int))) (.len (.arg 0)))).holds [] { args:=[.list (ns.map .int)] }=true:=by
   have h4:=(holds_andW hc).1;rw[hn] at h4;exact h4
  have h5:=condW_of h4 (w_not (w_lt w_lit (w_len_list (w_arg rfl))));rw[PH] at h5;refine TQ fun q=>?_
  have q':(n:Int)<((ns.length:Nat):Int):=by omega
  first
   | (rw[PU q'] at h5;exact absurd h5 #[])
   | (simp at h5;omega)
 apply g_;cases hwl with
 |cons w1 w2=>
  cases w2;cases w1 with
  |list ho Y=>exact#[_,_,ns,rfl,rfl,ho,DZ ns _ Y,Z]
def Pl (l:OpenLaw) (args:List WData):l.row.toRowW.claim.post args (.bool true) args=true:=
 postW_of (r:=l.row.toRowW) (X:=(true == true))
  (show WShape.has [] (.bool true) .bool=true by first | rfl | decide | simp[WShape.has,WShape.arms,WShape.armsAll])
  (show (WTm.eq .res (.lit (.bool true))).value [] { args:=args,res:=some (.bool true),after:=args }=some (.bool (true == true)) from w_eq_bool (w_res rfl) w_lit) rfl
def attach_call {l:OpenLaw}{n:Nat}{loose:List Str}{XP:(Str->Option Value)->Heap->Prop}{YP:World->Heap->Prop}{d:DefRec}
  (hn:l.most=some n) (hdf:d.params.defaults=[])
  (call:∀(w:World) (s₀ s₁:Shared) (mg mb:vG_) (fa:Addr) (o:Obj) (pm cd doc:Value) (a:Addr) (vs:vV_) (ns:List Int),
   Ground q loose [] XP w s₀ mg mb s₁.heap->YP w s₁.heap ->
   s₁.heap.get? fa=some o->o.data = .func (docDef d.name d.params d.body d.scope pm cd doc)->s₁.heap.CodeRec cd d.name->mg d.name=some (.ref fa) ->
   s₁.heap.get? a=some { cls:=.type "list",data:=.seq vs.toArray }->IntsAre vs ns->ns.length<=n->s₁.gens = #v[] ->
   codeAny (model l.prog w) callerA (.call (.ref fa) #[[.ref a],[]]) (fun r s'=>r = .ok (.ret (.bool true))/\OldK s₁.heap s'.heap/\s'.os=s₁.os/\AllBare s'.gens) s₁) :
  WalkO q loose XP YP l.row.toRowW d [] (fun f vs=>PySem.call f vs):=by
 intro w s₀ s₁ mg mb G Y fa o pm cd doc dV kV ho hd hcd hD hmg hg args vals as Z hlay hrd hwl hlo;obtain rfl:dV = .none:=Dflts.none hD hdf;obtain rfl:kV = .none:=Dflts.noKw hD;obtain⟨a,vs,ns,rfl,rfl,U,J,hlen⟩:=ON hn Z hwl;refine enter_call (SN (call w s₀ s₁ mg mb fa o pm cd doc a vs ns G Y ho (fd_plain hd) hcd hmg U J hlen hg) fun r s' hq=>?_);obtain⟨rfl,h2,h3,h4⟩:=hq;exact#[.inl #[.bool true,.bool true,[],rfl,fun _=>rfl,.bool true,Pl l _,fun _=>#[List.Pairwise.nil,fun _ hm=>(nomatch hm)]],h2,h3,h4]
end Att
namespace L2
open PySem PySem.Spec PyProof.Rows
theorem vn:∀{vs:vV_}{ns:List Int},IntsAre vs ns->Vals (ns.map V.int) vs
 |_,_,.nil=>.nil
 |_,_,.cons n t h=>.cons #[t,rfl] (vn h)
def pB (H:Hp):Prop:=∀b,H b=none\/∃o xs,H b=some (.frz o (.lst xs))
def Kt {w:World}{K:vF_}{mg mb:vG_}{CX:V4}{k:Nat}{fa a:Addr}{fd:FuncData}{x:Str}{sp:Sp}{J:Shared}{vs:vV_}{ns:List Int}
  (KX:K.In J.heap) (hns:J.heap.Ns mainGlobals mg) (Y:J.heap.Ns builtinsNs mb) (hbb:∀x:Str,x ≠ "__name__" -> mb x=bootBuiltins x) (hlim:J.heap.NoLimit) (hg:J.gens = #v[])
  (ha:J.heap.get? a=some { cls:=.type "list",data:=.seq vs.toArray }) (hi:IntsAre vs ns) (hl:ns.length<=sizeLine) (hr:Room k callerA)
  (F:∀base:Heap,K.In base->base.Ns mainGlobals mg->FnOk P w K mg base CX k fa fd [x] sp) (hbind:∀(s:Shared) (u:Value),BindsTo s fd #[[u],[]] [(x,u)])
  (hsp:∀H:Hp,pB H->SqL K H a (ns.map V.int)->sp [.ref a] H (fun v _=>v = .bl true) fun _ _ _=>False)
  (hCX:∀H e s',CX [] H J (fun _ _ _=>False) e s'->False) :
  codeAny (model P w) callerA (.call (.ref fa) #[[.ref a],[]]) (fun r s'=>r = .ok (.ret (.bool true))/\OldK J.heap s'.heap/\s'.os=J.os/\AllBare s'.gens) J:=by
 have rv:=vn hi;have lenV:=hi.length;have iL:∀H:Hp,pB H->SqL K H a (ns.map V.int)->HOk P w H J.heap->(∀b,H b≠none->b=a)->(H a≠none->K.lookup a=none) ->
   codeAny (model P w) callerA (.call (.ref fa) #[[.ref a],[]]) (fun r s'=>r = .ok (.ret (.bool true))/\OldK J.heap s'.heap/\s'.os=J.os/\AllBare s'.gens) J:=by
  intro H hO hS hok hA hK;have U:∀{b:Addr}{o:Obj},J.heap.get? b=some o->H b=none->(bI J.heap H).get? b=some o:=fun e n=>FP e n
  have noA:∀{b:Addr}{o:Obj}{es:Array DictEntry}{ep:Nat},J.heap.get? b=some o->o.data = .dict es ep->H b=none:=fun {b o es ep} e d=>by
   cases q:H b with
   |none=>rfl
   |some u=>
    have e':b=a:=hA b (by rw[q];simp);subst e';rw[ha] at e;cases e;have d':Data.seq vs.toArray _=Data.dict es ep:=d;cases d'
  have Z:∀{b:Addr}{m:vG_},J.heap.Ns b m->(bI J.heap H).Ns b m:=fun {b m} ⟨o,es,ep,e,d,r⟩=>#[o,es,ep,U e (noA e d),d,r]
  have hKb:K.In (bI J.heap H):=fun b o e=>U (KX b o e) (by
   cases q:H b with
   |none=>rfl
   |some u=>
    have e':b=a:=hA b (by rw[q];simp);subst e';rw[hK (by rw[q];simp)] at e;cases e)
  have hM:Mod K mg (bI J.heap H):=#[hKb,Z hns,#[mb,Z Y,hbb],let ⟨mc,h1,h2⟩:=hlim;#[mc,Z h1,h2]]
  have e0:Env0 P w K mg (bI J.heap H) callerA [] J H:=#[rfl,hM,fun b o e=>Ou e,TR (JN _ _),trivial,fun b Y=>absurd (show b∈([]:vL_) from Y) 'g',hok,.of_eq hg]
  refine SN ((F _ hKb (Z hns)).run callerA [] J H #[[.ref a],[]] [.ref a] [.ref a] _ _ hr e0 (hbind J (.ref a)) (.cons rfl .nil) (hsp H hO hS)) fun r s' h=>?_
  cases r with
  |error e=>exact(hCX H e s' h).elim
  |ok fl=>
   cases fl with
   |next=>exact False.elim h
   |brk=>exact False.elim h
   |cont=>exact False.elim h
   |ret u=>
    obtain⟨v,H',os,bare,un,hok',r',q⟩:=h;have q':v = .bl true:=q;subst q';obtain rfl:u=Value.bool true:=r';refine#[rfl,OldK.of_keep fun b o e=>?_,os,bare];cases q:H b with
    |none=>exact un.keep b o e q (by intro z;exact absurd (show b∈([]:vL_) from z) 'g') 'g'
    |some u=>
     rcases hO b with z | ⟨ob,xs,z⟩
     .rw[q] at z;cases z
     .have z2:=un.frzs b ob _ z;obtain⟨e1,_⟩:=hok b _ z;obtain⟨e2,_⟩:=hok' b _ z2;rw[e] at e1;cases e1;exact e2
 cases hk:K.lookup a with
 |some o=>
  have e:=KX a o hk;rw[ha] at e;cases e;refine iL (fun _=>none) (fun _=>.inl rfl) (.inr #[_,vs.toArray,_,hk,rfl,rfl,rfl,by rw[Qc,lenV];exact hl,by simpa using rv]) (fun b u z=>by have z':(none:Option HO)=some u:=z;cases z') (fun b z=>absurd rfl z) fun z=>absurd rfl z
 |none=>
  refine iL (fun b=>if b=a then some (.frz { cls:=.type "list",data:=.seq vs.toArray } (.lst (ns.map V.int))) else none) (fun b=>?_) (.inl (.inr #[{ cls:=.type "list",data:=.seq vs.toArray },iR rfl])) (fun b u z=>?_) (fun b z=>?_) fun _=>hk
  .by_cases Y:b=a
   .exact .inr #[_,_,iR Y]
   .exact .inl (iU Y)
  .by_cases Y:b=a
   .have z':=(iR Y).symm.trans z;cases z';subst Y;exact#[ha,by rw[PH];exact hl,vs,_,rv,ha]
   .have z':=(iU Y).symm.trans z;cases z'
  .by_cases Y:b=a
   .exact Y
   .exact absurd (iU Y) z
def walk_of {l:PySem.W.OpenLaw}{d:DefRec}{K:Params->PySem.W.Frag}{CX:World->V4}{sp:World->Sp}
  (hn:l.most=some n) (hn2:n<=sizeLine) (hdf:d.params.defaults=[]) (hr:Room k callerA)
  (hY:∀(w:World) (h:Heap),YP w h->(K w.params).In h)
  (F:∀(w:World) (mg:vG_) (fa:Addr) (h:Heap),(K w.params).In h->h.Ns mainGlobals mg->mg d.name=some (.ref fa) ->
   ∃fd:FuncData,(∀(s:Shared) (u:Value),BindsTo s fd #[[u],[]] [(x,u)]) /\
    ∀base:Heap,(K w.params).In base->base.Ns mainGlobals mg->FnOk l.prog w (K w.params) mg base (CX w) k fa fd [x] (sp w))
  (hsp:∀(w:World) (H:Hp) (a:Addr) (ns:List Int),ns.length<=n->pB H->SqL (K w.params) H a (ns.map V.int)->sp w [.ref a] H (fun v _=>v = .bl true) fun _ _ _=>False)
  (hCX:∀(w:World) (H:Hp) (s:Shared) (e:Value) (s':Shared),CX w [] H s (fun _ _ _=>False) e s'->False) :
  PySem.W.WalkO q loose XP YP l.row.toRowW d [] (fun f vs=>PySem.call f vs):=by
 refine Att.attach_call hn hdf fun w s₀ s₁ mg mb fa o pm cd doc a vs ns G Y ho hd hcd hmg Z U J hg=>?_
 have KX:=hY w _ Y;obtain⟨fd,hb,hF⟩:=F w mg fa _ KX G.T.g hmg;exact Kt KX G.T.g G.T.b G.T.builtins G.T.nolimit hg Z U (PJ J hn2) hr hF hb (fun H hO hS=>hsp w H a ns J hO hS) fun H e s'=>hCX w H s₁ e s'
def aI (s:Stmt):Arguments:=match s with
 |.FunctionDef _ a _ _ _ _ _ _ _ _=>a
 |_=>{ posonlyargs:=[],args:=[],vararg:=none,kwonlyargs:=[],kw_defaults:=[],kwarg:=none,defaults:=[] }
def Q9 (s:Stmt):List Stmt:=match s with
 |.FunctionDef _ _ b _ _ _ _ _ _ _=>b
 |_=>[]
def D4 (s:Stmt):Scope:=match s with
 |.FunctionDef _ _ _ _ _ _ sc _ _ _=>sc
 |_=>{ kind:=.function,names:=[],isGenerator:=false,isCoroutine:=false }
abbrev Y9:V4:=fun _ _ _ _ _ _=>False
abbrev E0:XK:=fun _ _ _=>False
def CG :pz Y9 X E0:=fun _ _ _ _ _ _ _ h=>h.elim
structure Fun (K:vF_) (x qual:Str) (st:Stmt) (f:Addr) (fd:FuncData):Prop where
 ex:∃(oc:Value) (od:vA_) (kV doc pm:Value) (an:vA_) (cdv ct:Value) (osl:vS_),
  fd=PySem.W.fnOf x qual (aI st) (Q9 st) (D4 st) .none kV doc pm an cdv ct/\K.lookup f=some #[oc,od,.func fd,osl]/\PySem.W.codeIn K cdv qual=true
 kp:PySem.W.keepIn K (.ref f)=true
section
variable {P:Program}{w:World}{K:vF_}
def Fun.ok {x qual:Str}{st:Stmt}{fd:FuncData}{N ps:List Str}{k:Nat}{sp:Sp}(F:Fun K x qual st f fd) (S:FnScope N ps (D4 st)) (Z:∀vs H Q E,sp vs H Q E->vs.length=ps.length)
  (J:∀(cdv:Value) (A:Around) (outer:List Env) (s:Shared) (H:Hp) (vs:List V) (Q:VK) (E:XK),Room k (A.deeper (envOfC qual (D4 st) s.heap.objs.size f cdv))->sp vs H Q E ->
   ∃t,PSs (S4 Y9 P w K mg base N qual (D4 st) f cdv A outer s H E).nox (Q9 st) t/\t { nx:=fun _ H'=>Q .non H',rt:=Q } (start N vs) H):FnOk P w K mg base Y9 (k+1) f fd ps sp:=by
 refine gB_ fun G_ g_=>?_
 obtain⟨oc,od,kV,doc,pm,an,cdv,ct,osl,rfl,lk,Y⟩:=F.ex;apply g_;refine zO lk Y S Z fun A outer s H vs Q E hr U=>?_
 obtain⟨t,h,q⟩:=J cdv A outer s H vs Q E hr U;exact#[t,h.nox,q]
def Fun.binds {st:Stmt}{ps:List Str}(F:Fun K x qual st f fd)
  (h:∀(kV doc pm:Value) (an:vA_) (cdv ct:Value) (us:vV_),us.length=ps.length->bindArgs (PySem.W.fnOf x qual (aI st) (Q9 st) (D4 st) .none kV doc pm an cdv ct) #[us,[]]=pure (ps.zip us)):Binds K fd ps []:=by
 refine gB_ fun Y J=>?_
 obtain⟨oc,od,kV,doc,pm,an,cdv,ct,osl,rfl,Z,U⟩:=F.ex;apply J;exact .all (h kV doc pm an cdv ct)
def Ni {st:Stmt}{kV doc pm ct:Value}(l:K.lookup f=some #[oc,od,.func (PySem.W.fnOf x qual (aI st) (Q9 st) (D4 st) .none kV doc pm an cdv ct),osl])
  (c:PySem.W.codeIn K cdv qual=true) (k:PySem.W.keepIn K (.ref f)=true):Fun K x qual st f (PySem.W.fnOf x qual (aI st) (Q9 st) (D4 st) .none kV doc pm an cdv ct):=#[#[oc,od,kV,doc,pm,an,cdv,ct,osl,rfl,l,c],k]
end
def NG (h:n<=1000):n<sizeLine:=Qz h #[]
def pv (i:Nat) {x:Str}{pos:Pos}(U:X.N[i]? = some x:=by rfl) (Y:rQ X.env.scope x:=by first | exact Or.inl rfl | exact Or.inr (Or.inl rfl) | exact Or.inr (Or.inr rfl)) (Z:(x == ("__debug__" : Str))=false:=by decide)
  (J:(x == ("__classdict__" : Str))=false:=by decide):PE X (.Name x pos) (bq i):=JI U Y Z J
def zj {A B:Prop}(h:B):if false=true then A else B:=by
 rw[iU PL];exact h
def Bq {A B:Prop}(h:A):if true=true then A else B:=by
 rw[iR rfl];exact h
def B2 (X:Cx) (N':List Str) (scope:Scope) (cl:List (Str × Addr)) (C:Addr) (s0:Shared) (H0:Hp) (ex:vL_):Cx:=
 { X with N:=N',env:=compEnvC scope cl C X.env,s₀:=s0,H₀:=H0,outer:=X.stack,stack:=X.stack,ex:=ex,fn:=fun _=>false,pn:=[],xe:=fun _ _=>False }
def fZ (X:Cx) (ifs:List Expr) (t:TT):Prop:=
 ∀(pins:vP_) (s:Shared) (σ:St) (H:Hp) (Q:Bool->Hp->Prop),Inv X pins σ H s->t σ H Q ->
  wpAny 'f' X.A (forIn ifs true fun c r=>if r=true then do let ok <-isTrue c X.env (eval c X.env);pure (ForInStep.yield ok) else pure (ForInStep.yield r)) (TP X pins σ Q) X.xe s
def Ex:TT:=fun _ H Q=>Q true H
def Fg :fZ X [] Ex:=fun pins s σ H Q I h=>wpAny_tests_nil #[H,I,h]
def Li {c:Expr}{t:TT}(h:PT X c t):fZ X [c] t:=fun pins s σ H Q I q=>wpAny_tests_one (h pins s σ H Q I q)
def N0 (n:Nat) (idx:List Nat) (σ:St):St:=List.replicate n none++idx.map fun i=>(σ[i]?).join
def fP (n:Nat) (idx:List Nat) (wi:TI) (g:TG) (tc:TT) (te:TE):TE:=fun σ H Q=>wi σ H fun J H1=>∀D,H1 D=none ->
 ∃W:Nat->Nat->Hp->Prop,(∃m,W 0 m (o7 H1 D (.lst [])))/\∀i m H,W i m H ->
  (J.stop i H/\Q (.ref D) H)\/(J.go i H/\∀x H',J.yld i H x H'->g x (N0 n idx σ) H' fun σ2 H2=>(σ2.length=(N0 n idx σ).length/\∀(j:Nat) (v:V),(N0 n idx σ)[j]? = some (some v)->σ2[j]? = some (some v))/\tc σ2 H2 fun b U=>
   if b=true then te σ2 U fun v Y=>∃ys,Y D=some (.lst ys)/\ys.length<sizeLine/\∃m',m'<m/\W (i+1) m' (o7 Y D (.lst (ys++[v]))) else ∃m',m'<m/\W (i+1) m' U)
structure CompOk (X:Cx) (scope:Scope) (cl:List (Str × Addr)) (N':List Str) (n:Nat) (idx:List Nat):Prop where
 clos:closureFor scope X.env=pure cl
 sub:∀x c,cl.lookup x=some c->X.env.cells.lookup x=some c
 cell:∀y∈scope.names,y.2 ≠ .cell
 kind:scope.kind = .function
 names:∀y∈scope.names,y.2 = .local->scope.names.lookup y.1=some .local
 has:∀x,((relabel scope X.env).names.lookup x=some .cell\/(relabel scope X.env).names.lookup x=some .free)->∃c,cl.lookup x=some c
 len:N'.length=n+idx.length
 cap:∀(j i:Nat) (y:Str),idx[j]? = some i->N'[n+j]? = some y->X.N[i]? = some y/\(X.env.scope.names.lookup y=some .cell\/X.env.scope.names.lookup y=some .free)/\((relabel scope X.env).names.lookup y=some .cell\/(relabel scope X.env).names.lookup y=some .free)
section
variable {pos:Pos}{wi:TI}{g:TG}
def Gw (σ:St):(N0 n idx σ).length=n+idx.length:=by simp[N0]
def Ji {v:V}(h:(N0 n idx σ)[j]? = some (some v)):∃k i,j=n+k/\idx[k]? = some i/\σ[i]? = some (some v):=by
 unfold N0 at h;by_cases J:j<n
 .rw[Rq (by simpa using J)] at h;simp[J] at h
 .rw[Rp (by simpa using TQ J)] at h;simp only[VE,Qy] at h;refine#[j - n,?_];cases e:idx[j - n]? with
  |none=>rw[e] at h;simp at h
  |some i=>
   rw[e] at h;simp only[US,Qt] at h;exact#[i,by omega,rfl,by simpa using Option.join_eq_some_iff.mp h]
def Jy (k:CompOk X scope cl N' n idx) {pins:vP_}{s2:Shared}{fp:vL_}{h4:Heap}{t4:Nat}{m:vG_}(I:Inv X pins σ H2 s2) (f:∀b∈fp,R6 X pins H2 b) (fo:∀b∈fp,b<s2.heap.objs.size)
  (hC:s2.heap.objs.size+1<=C) (ns:h4.Ns C m) (U:∀b o,s2.heap.get? b=some o->h4.get? b=some o) (hD:h4.get? s2.heap.objs.size=some { cls:=.type "list",data:=.seq ([]:vV_).toArray }) :
  Inv (B2 X N' scope cl C s2 H2 fp) [] (N0 n idx σ) (o7 H2 s2.heap.objs.size (.lst [])) { s2 with heap:=h4,toks:=t4 }:=by
 have fresh:H2 s2.heap.objs.size=none:=I.hok.fresh (tx _);have fC:H2 C=none:=I.hok.fresh ∅;have J:∀x c,(B2 X N' scope cl C s2 H2 fp).env.cells.lookup x=some c->X.env.cells.lookup x=some c:=fun x c e=>k.sub x c e
 have Z:∀x c,X.env.cells.lookup x=some c->c<s2.heap.objs.size:=fun x c e=>by
  obtain⟨v,q⟩:=I.cell x c e;exact q.lt
 have ok:(B2 X N' scope cl C s2 H2 fp).Ok:={
  mod:=I.ok.mod
  kind:=k.kind
  glob:=I.ok.glob
  blt:=I.ok.blt
  above:=by show s2.heap.objs.size<=C;omega
  inj:=fun x y c e1 e2=>I.ok.inj x y c (J x c e1) (J y c e2)
  has:=fun x h=>k.has x h
  cab:=fun x c h _=>by cases h
  hd:=I.ok.hd
  frames:=I.ok.frames
  stk:=.inl rfl
  exf:=fun b hb=>#[Ql (Qb (fo b hb) (by show s2.heap.objs.size<=C;omega)),fun x c e z=>(f b hb).2.2.2.2.1 x c (J x c e) z]
  bs:=fun b o e=>I.bs b o e
  bsz:=PJ I.ok.bsz I.sz
  noex:=fun b o e hb=>by
   rcases(f b hb).2.2.2.1 with z | z
   .exact I.ok.noex b o e z
   .exact absurd (Qb (PB e) (PJ I.ok.bsz z)) (QK _)
  exfs:=fun b hb z=>by
   rcases xo.mp (I.stkSub b z) with y | y
   .exact(f b hb).2.1 y
   .exact(f b hb).2.2.1 y
  funs:=I.stack
  frf:=I.stkFree }
 refine#[ok,rfl,I.bare,Un.laid U (tx _) fresh,#[m,ns,fun j y v e1 e2 e3=>?_],fun x c e=>?_,?_,fun x c e=>?_,fun p hp=>(by cases hp),I.hok.laid U (tx _) #[Qx _,[],_,.nil,hD],?_]
 .obtain⟨kk,i,rfl,hk,hv⟩:=Ji e2;obtain⟨hN,ok,Y⟩:=k.cap kk i y hk e1;obtain⟨c,hc⟩:=k.has y Y;obtain⟨m0,_,hl⟩:=I.loc;have hc':=k.sub y c hc;obtain⟨u,r,l⟩:=hl i y v hN hv (by rcases ok with z | z;exact .inr (.inl z);exact .inr (.inr z));refine#[u,r,.inr #[Y,c,hc,?_]];rcases l with ⟨z,_⟩ | ⟨_,c',e',q⟩
  .have z':X.env.scope.names.lookup y=some .local:=z;rcases ok with w | w <;> · rw[w] at z';cases z'
  .rw[hc'] at e';cases e';obtain⟨o,ho,hd⟩:=q;exact#[o,U _ o ho,hd]
 .obtain⟨v,q⟩:=I.cell x c (J x c e);obtain⟨o,ho,hd⟩:=q;exact#[v,o,U c o ho,hd]
 .show o7 H2 s2.heap.objs.size (.lst []) C=none;rw[u5 (QI hC)];exact fC
 .have:=Z x c (J x c e);rw[u5 (Ql this)];exact I.freeC x c (J x c e)
 .rw[Gw,<-k.len];rfl
def Il {w:World}{R:Result->Shared->Prop}{pos:Pos}{it J:Value}(I:Nat->Shared->Prop)
  (U:∀n s,I n s->wpAny 'd' A (pyNext it) (fun r s1=>match r with
   |none=>R (.ok .next) s1
   |some v=>wpAny 'd' A (letOwnedTupleGo target it v) (fun _ s1'=>wpAny 'd' A (assign target env v) (fun _ s2=>
     wpAny 'd' A (forIn ifs true fun c r=>if r=true then do let ok <-isTrue c env (eval c env);pure (ForInStep.yield ok) else pure (ForInStep.yield r)) (fun ok s3=>
      if ok=true then wpAny 'd' A (eval elt env) (fun x s4=>
       wpAny 'd' A (call (.builtin "list.append") [J,x]) (fun _ s5=>∃m,m<n/\I m s5) (notedBy 'd' A env fun e s'=>R (.error e) s') s4) (notedBy 'd' A env fun e s'=>R (.error e) s') s3
      else ∃m,m<n/\I m s3) (notedBy 'd' A env fun e s'=>R (.error e) s') s2) (notedBy 'd' A env fun e s'=>R (.error e) s') s1') (notedBy 'd' A env fun e s'=>R (.error e) s') s1) (notedBy 'd' A env fun e s'=>R (.error e) s') s)
  (n:Nat) (h:I n s) :
  codeAny 'd' A (.compLoop (.ListComp elt [#[target,iter,ifs,0]] scope pos) 0 it J env) R s:=by
 refine codeAny_loop rfl I (fun n s hI=>?_) n h;show wpAny _ A ((compTurn (.ListComp elt [#[target,iter,ifs,0]] scope pos) 0 it J env).onRaise (fun x=>do noteFrame x env;theTreesLotGoes x)) _ _ s;refine wpAny_noted ?_;rw[compTurn_list];refine gV (RW (gV (Qg (U n s hI) (fun r s₁ Z=>?_) fun _ _ h'=>h')));cases r with
 |none=>exact td Z
 |some v=>
  refine gV (Qg Z (fun _ s1' Y=>?_) fun _ _ h'=>h');refine gV (Qg Y (fun _ s₂ h₂=>gV (Qg h₂ (fun ok s₃ h₃=>?_) fun _ _ h'=>h')) fun _ _ h'=>h');cases ok with
  |false=>exact td #[rfl,h₃]
  |true=>
   exact gV (gV (Qg h₃ (fun x s₄ h₄=>gV (Qg h₄ (fun _ s₅ h₅=>td (td #[rfl,h₅])) fun _ _ h'=>h')) fun _ _ h'=>h'))
end
section
variable {pos:Pos}{wi:TI}{g:TG}
def xb {use:Option (Value->Sem Unit)}{Q':vQ_}(hc:X.calm=true) (k:CompOk X scope cl N' n idx) (hi:PI X tg iter wi)
  (hg:∀C s0 H0 ex,PG 'k' tg g) (ht:∀C s0 H0 ex,fZ 'k' ifs tc) (he:∀C s0 H0 ex,PE 'k' elt te)
  (hs:∀x,foldedSetIterable iter X.env x=pure x) {Q:VK}(I0:Inv X pins σ H s) (h:fP n idx wi g tc te σ H Q)
  (last:∀(C D:Addr) (s':Shared) (H':Hp) (m:vG_),Inv X pins σ H' s'->R6 X pins H' C->s'.heap.Ns C m->Q (.ref D) H'->compPost 'f' X.A X.xe use Q' (.ref D) C (.ok .next) s') :
  wpAny 'f' X.A (comprehension 'p' scope X.env pos2 (newList []) false (eval iter X.env) use) Q' X.xe s:=by
 refine wpAny_comprehension_free (use:=use) rfl hs k.clos k.kind k.names (v3 (hi pins s σ H _ I0 h) fun v s1 h1=>v3 h1 fun itv s2 h2=>?_);obtain⟨it,fp,tn,J,H2,e,I2,T,st2,f2,hW⟩:=h2;subst e;have fo2:∀b∈fp,b<s2.heap.objs.size:=fun b U=>by
  obtain⟨o,e,_⟩:=T.obj _ _ st2 b U;exact PB e
 obtain⟨W,⟨m0,w0⟩,turn⟩:=hW s2.heap.objs.size (I2.hok.fresh (tx _));refine QQ (wpAny_newFunctionEnv k.cell (by intro y hy;simp at hy) (fun h4 Z hsb4=>?_) k.kind)
 dsimp only at Z hsb4 ⊢
 generalize hH3:s2.heap.push { cls:=.type "list",dict:=none,data:=.seq ([]:vV_).toArray }=h3 at Z hsb4 ⊢;have Y:h3.objs.size=s2.heap.objs.size+1:=by rw[<-hH3,RH]
 have k34:∀b o,b≠h3.objs.size->h3.get? b=some o->h4.get? b=some o:=fun b o nb e=>hsb4.extBut b o nb (PF _ e)
 have keep:∀b o,s2.heap.get? b=some o->h4.get? b=some o:=fun b o e=>k34 b o (Ql (by rw[Y];exact Nat.lt_succ_of_lt (PB e))) (by rw[<-hH3];exact PF _ e)
 have hD:h4.get? s2.heap.objs.size=some { cls:=.type "list",data:=.seq ([]:vV_).toArray }:=k34 _ _ (Ql (by rw[Y];exact Nat.lt_succ_self _)) (by rw[<-hH3];exact Qq _ rfl);have I4:=Jy k I2 f2 fo2 (TR Y.symm) Z keep hD (t4:=s2.toks+([]:List (Str × Value)).length);have stat:∀{H':Hp},(∀b∈fp,H' b=none)->∀b∈fp,R6 (B2 X N' scope cl h3.objs.size s2 H2 fp) [] H' b:=fun hn b U=>
  #[hn b U,Ql (by rw[Y];exact Nat.lt_succ_of_lt (fo2 b U)),fun z=>(xo.mp (I2.stkSub b z)).elim (f2 b U).2.1 (f2 b U).2.2.1,.inl U,fun x c e=>(f2 b U).2.2.2.2.1 x c (k.sub x c e),fun p hp=>(by cases hp)]
 have fr4:∀b∈fp,o7 H2 s2.heap.objs.size (.lst []) b=none:=fun b U=>by rw[u5 (Ql (fo2 b U))];exact(f2 b U).1
 have fin:∀(s':Shared) (H':Hp),Inv (B2 X N' scope cl h3.objs.size s2 H2 fp) [] (N0 n idx σ) H' s'->Q (.ref s2.heap.objs.size) H' ->
   compPost 'f' X.A X.xe use Q' (.ref s2.heap.objs.size) h3.objs.size (.ok .next) s':=fun s' H' I' q=>by
  obtain⟨m',hn',_⟩:=I'.loc;have B:=I'.base;refine last _ _ s' H' m' ?_ (I2.fpOk (by rw[Y];exact SS _) I'.free) hn' q;refine I2.call' (s':=s') (ch:=fp) (show s'.os=s2.os from I'.os) #[fun b o e nn U hx=>B.keep b o e nn U hx,fun b o e nn U hx=>B.slot b o e nn U hx,B.free,fun b o e hx=>B.there b o e hx,B.tups,B.frzs,B.tbls] I'.hok I'.bare fun b U=>?_
  obtain⟨p1,p2,p3,p4,p5,p6⟩:=f2 b U;exact#[p4,p2,p5,p6]
 have loop:∀s4:Shared,s4={ s2 with heap:=h4,toks:=s2.toks+([]:List (Str × Value)).length } ->
   codeAny 'f' X.A (.compLoop 'p' 0 (.ref it) (.ref s2.heap.objs.size) (compEnvC scope cl h3.objs.size X.env)) (compPost 'f' X.A X.xe use Q' (.ref s2.heap.objs.size) h3.objs.size) s4:=by
  rintro s4 rfl;refine Il (fun m s'=>∃i H',Inv (B2 X N' scope cl h3.objs.size s2 H2 fp) [] (N0 n idx σ) H' s'/\tn i s'.heap/\(∀b∈fp,H' b=none)/\W i m H') ?_ m0 #[0,_,I4,T.keep _ _ _ st2 (fun b _ o e=>keep b o e),fr4,w0];rintro m s3 ⟨i,H3,I3,st3,fr3,w3⟩;rcases turn i m H3 w3 with ⟨stop,q⟩ | ⟨go,step⟩
  .refine Qg (T.done (B2 X N' scope cl h3.objs.size s2 H2 fp) rfl rfl rfl hc i [] s3 _ H3 (fun _ _=>False) I3 (stat fr3) st3 stop) (fun r s5 ⟨hr,I5⟩=>?_) fun _ _ z=>z.elim
   subst hr;exact fin s5 H3 I5 q
  .refine Qg (T.item (B2 X N' scope cl h3.objs.size s2 H2 fp) rfl rfl rfl hc i [] s3 _ H3 (fun _ _=>False) I3 (stat fr3) st3 go) (fun r s5 ⟨u,hr,h5⟩=>?_) fun _ _ z=>z.elim
   subst hr;refine Qg h5 (fun _ s6 ⟨x,H6,I6,r6,y6,st6,fr6⟩=>?_) fun _ _ z=>z.elim
   have I6':=I6.pinned (stat fr6) (T.obj _ _ st6);have again:∀{σ7:St}{H7:Hp}{s7:Shared},Inv (B2 X N' scope cl h3.objs.size s2 H2 fp) ([]++iQ fp s6.heap) σ7 H7 s7->σ7.length=(N0 n idx σ).length->(∀(j:Nat) v,(N0 n idx σ)[j]? = some (some v)->σ7[j]? = some (some v))->(∃m',m'<m/\W (i+1) m' H7) ->
     ∃m',m'<m/\∃i H',Inv (B2 X N' scope cl h3.objs.size s2 H2 fp) [] (N0 n idx σ) H' s7/\tn i s7.heap/\(∀b∈fp,H' b=none)/\W i m' H':=fun {σ7 H7 s7} I7 hl hw ⟨m',hm,w7⟩=>by
    refine#[m',hm,i+1,H7,(I7.unpinned).weak hl.symm hw,T.keep _ _ _ st6 fun b U o e=>(I7.pin (b,o) (Qu _ (Qu _ (iE U e)))).1,fun b U=>?_,w7];obtain⟨o,e,d⟩:=T.obj _ _ st6 b U;exact(I7.pin (b,o) (Qu _ (Qu _ (iE U e)))).2.1
   refine Qg (hg _ _ _ _ _ s6 _ H6 x u _ I6' r6 (step x H6 y6)) (fun _ s7 ⟨σ7,H7,I7,⟨hl,hw⟩,q7⟩=>?_) fun _ _ z=>z.elim
   refine Qg (ht _ _ _ _ _ s7 σ7 H7 _ I7 q7) (fun ok s8 ⟨H8,I8,q8⟩=>?_) fun _ _ z=>z.elim
   cases ok with
   |false=>
    rw[iU PL] at q8 ⊢;exact again I8 hl hw q8
   |true=>
    rw[iR rfl] at q8 ⊢;refine Qg (he _ _ _ _ _ s8 σ7 H8 _ I8 q8) (fun v9 s9 ⟨x9,H9,I9,r9,ys,e9,l9,q9⟩=>?_) fun _ _ z=>z.elim
    refine Qg (Ba (X:=B2 X N' scope cl h3.objs.size s2 H2 fp) _ s9 σ7 H9 (.ref s2.heap.objs.size) [x9] (.ref s2.heap.objs.size) [v9] (fun _ H'=>H'=o7 H9 s2.heap.objs.size (.lst (ys++[x9]))) I9 rfl (.cons r9 .nil) #[s2.heap.objs.size,ys,x9,rfl,rfl,e9,l9,rfl]) (fun _ s10 ⟨_,H10,I10,_,e10⟩=>?_) fun _ _ z=>z.elim
    subst e10;exact again I10 hl hw q9
 exact codeAny_compStart_list (loop _ rfl) (T.self _ 0 _ _ _ (T.keep _ _ _ st2 (fun b _ o e=>keep b o e)) (loop _ rfl))
def uY (hc:X.calm=true) (k:CompOk X scope cl N' n idx) (hi:PI X tg iter wi)
  (Y:∀C s0 H0 ex,PG 'k' tg g) (ht:∀C s0 H0 ex,fZ 'k' ifs tc) (he:∀C s0 H0 ex,PE 'k' elt te)
  (hs:∀x,foldedSetIterable iter X.env x=pure x:=by intro _;rfl):PE X 'p' (fP n idx wi g tc te):=by
 intro pins s σ H Q Z h;rw[eval_ListComp];refine xb (use:=none) (Q':=EP X pins σ Q) hc k hi Y ht he hs Z h ?_;intro C D' s' H' m IX J hn q;exact#[m,hn,fun h' U=>#[.ref D',H',IX.turned (t':=s'.toks) (it:=C) (h':=h') (fun b o nb e=>(U.2 b nb).trans e) J.1 J.2.1 J.2.2.2.1 J.2.2.2.2.1 J.2.2.2.2.2,rfl,q]]
def wd {i:Nat}{py J:Pos}(hN:X.N.Nodup) (hi':X.N[i]? = some y) (hx:bU X.env.scope y) (hc:X.calm=true) (k:CompOk X scope cl N' n idx) (hi:PI X tg iter wi)
  (hg:∀C s0 H0 ex,PG 'k' tg g) (ht:∀C s0 H0 ex,fZ 'k' ifs tc) (he:∀C s0 H0 ex,PE 'k' elt te)
  (hs:∀x,foldedSetIterable iter X.env x=pure x:=by intro _;rfl) (hsw:swapsWith 'p' (some (.Name y py)) J.line X.env=pure true:=by rfl)
  (hf:X.fn y=true\/X.env.scope.names.lookup y=some .local:=by first | exact .inl rfl | exact .inr rfl | assumption) :
  PS X (.Assign [.Name y py] 'p' J) (ia (fP n idx wi g tc te) (X0 i)):=by
 intro pins s σ H D I h;rw[exec_Assign_Name_used _ _ _ _ hsw];refine gV (RW (gV ?_));show wpAny _ X.A (do let _ <-comprehension 'p' scope X.env _ (newList []) false (eval iter X.env) (some (assign (.Name y py) X.env))) _ _ s;refine gV (Qg (xb (use:=some (assign (.Name y py) X.env)) (Q':=fun _ s'=>SP X pins D .next s') hc k hi hg ht he hs I h ?_) (fun _ s' hq=>td (td hq)) fun _ _ e=>e);intro C D' s' H' m IX U hn q;show wpAny _ X.A (assign (.Name y py) X.env (.ref D')) _ _ _;obtain⟨o,es,ep,ho,hd,hr⟩:=hn;have IP:=IX.pinned (fp:=[C]) (fun b Y=>by rw[PV.mp Y];exact U) (fun b Y=>by rw[PV.mp Y];exact#[o,ho,fun v z=>by rw[hd] at z;cases z]);refine Qg (S7 hN hi' hx hf _ s' σ H' (.ref D') (.ref D') D.nx IP rfl q) (fun _ Z ⟨σ2,H2,I2,q2⟩=>?_) fun _ _ e=>e
 have pn:=I2.pin (C,o) (Qu _ (Qu _ (iE (PV.mpr rfl) ho)));refine#[m,#[o,es,ep,pn.1,hd,hr],fun h' hsb=>#[σ2,H2,?_,q2]];have It:=I2.unpinned.turned (t':=Z.toks) (it:=C) (h':=h') (fun b o nb e=>(hsb.2 b nb).trans e) pn.2.1 U.2.1 U.2.2.2.1 U.2.2.2.2.1 U.2.2.2.2.2;exact It
end
end L2
namespace DL
open PySem PySem.Spec L2
def A7 {α β γ:Type}{o:Option (α × β)}{f:α × β->Option γ}{r:γ}(h:o.bind f=some r) (k:∀x y,o=some (x,y)->f (x,y)=some r->G):G:=by
 obtain⟨⟨x,y⟩,a,b⟩:=RI.mp h;exact k x y a b
def Y1 {α γ:Type}{o:Option α}{f:α->Option γ}{r:γ}(h:o.bind f=some r) (k:∀x,o=some x->f x=some r->G):G:=by
 obtain⟨x,a,b⟩:=RI.mp h;exact k x a b
def mapP {α β γ:Type}{o:Option (α × β)}{f:α × β->γ}{r:γ}(h:o.map f=some r) (k:∀x y,o=some (x,y)->f (x,y)=r->G):G:=by
 obtain⟨⟨x,y⟩,a,b⟩:=TU.mp h;exact k x y a b
def Q0 {α γ:Type}{o:Option α}{f:α->γ}{r:γ}(h:o.map f=some r) (k:∀x,o=some x->f x=r->G):G:=by
 obtain⟨x,a,b⟩:=TU.mp h;exact k x a b
inductive D where
 | non | bl (b:Bool) | int (i:Int) | str (x:Str) | tup (ds:List D) | lst (ds:List D)
 | feed | scr (ns:List Int) | fn (x:Str) | exc (c:Str) (ds:List D)
variable {d y:D}{p':D->D->Option D}
abbrev vD_:=List D
variable {ds:vD_}
mutual
def D.py:D->PyData
 |.non=>.none
 |.bl b=>.bool b
 |.int i=>.int i
 |.str x=>.str x
 |.tup ds=>.tuple (D.pys ds)
 |.lst ds=>.list (D.pys ds)
 |.feed=>.none
 |.scr _=>.none
 |.fn _=>.none
 |.exc _ _=>.none
def D.pys:List D->List PyData
 |[]=>[]
 |d::r=>D.py d::D.pys r
end
mutual
def D.plain:D->Bool
 |.non=>true
 |.bl _=>true
 |.int _=>true
 |.str _=>true
 |.tup ds=>D.plains ds
 |.lst ds=>D.plains ds
 |.feed=>false
 |.scr _=>false
 |.fn _=>false
 |.exc _ _=>false
def D.plains:List D->Bool
 |[]=>true
 |d::r=>D.plain d&&D.plains r
end
structure FS where
 cells:List Int
 pos:Int
 left:Int
 turn:Int
 kind:Nat
abbrev vO_:=Option FS
variable {fs':vO_}
def P6 (c:Addr) (f:FS):List V:=if f.kind=1 then [V.ref c,V.int f.pos,V.int f.left] else [V.ref c,V.int f.pos,V.int f.left,V.int f.turn]
def gy (c:Addr) (f:FS):HO:=if f.kind=0 then .dK [(Sum.inr ("cells" : Str),V.ref c),(Sum.inr ("at" : Str),V.int f.pos),(Sum.inr ("left" : Str),V.int f.left),(Sum.inr ("turn" : Str),V.int f.turn)] else .lst (P6 c f)
def mK {c:Addr}{f:FS}(h:¬ f.kind=0):gy c f = .lst (P6 c f):=iU h
def Jo {c:Addr}(h:gy c f = .tup xs):False:=by unfold gy at h;split at h <;> cases h
def ES {c:Addr}{o:Obj}{u:HO}(h:gy c f = .frz o u):False:=by unfold gy at h;split at h <;> cases h
def FeedR (N:vB_) (H:Hp):Option Addr->Option FS->Prop
 |none,none=>True
 |some a,some f=>f.cells.length<=63/\∃c,H a=some (gy c f)/\¬ N c/\H c=some (.lst (f.cells.map V.int))
 |_,_=>False
def SqF (K:vF_) (H:Hp) (a:Addr) (xs:List V):Prop:=
 (∃o,H a=some (.frz o (.lst xs))) \/
  ∃(o:Obj) (its:vR_) (n:Nat),K.lookup a=some o/\o.cls = .type "list" /\ o.dict=none/\o.data = .seq its n/\its.size<=sizeLine/\Vals xs its.toList
def SqF.sq {K:vF_}(h:SqF K H a xs):SqL K H a xs:=by
 rcases h with ⟨o,h⟩ | h
 .exact .inl (.inr #[o,h])
 .exact .inr h
def fnm:List Str:=["word", "at"]
def ExO (H:Hp) (a C:Addr) (xs:List V):Prop:=∃o,H a=some (.frz o (.own a))/\o.cls = .ref C/\(∃vs,o.data = .fields vs)/\xs.length<=2/\(xs=[]\/∃dx od,o.dict=some dx/\H dx=some (.frz od (.xd (fnm.zip xs))))
mutual
def Rep (K:vF_) (N:vB_) (fa:vA_) (H:Hp):D->V->Prop
 |.non,v=>v = .non
 |.bl b,v=>v = .bl b
 |.int i,v=>v = .int i
 |.str x,v=>v = .str x/\x.length<=sizeLine
 |.tup ds,v=>∃a xs,v = .ref a/\SqT K H a xs/\Reps K N fa H ds xs
 |.lst ds,v=>∃a xs,v = .ref a/\¬ N a/\H a=some (.lst xs)/\Reps K N fa H ds xs
 |.feed,v=>∃a,fa=some a/\v = .ref a
 |.scr ns,v=>ns.length<=63/\∃a,v = .ref a/\SqF K H a (ns.map V.int)
 |.fn x,v=>∃a,v = .ref a/\PySem.W.nsIn K mainGlobals x=some (some (.ref a))
 |.exc c ds,v=>∃a C xs,v = .ref a/\PySem.W.nsIn K mainGlobals c=some (some 'j')/\ExO H a C xs/\Reps K N fa H ds xs
def Reps (K:vF_) (N:vB_) (fa:vA_) (H:Hp):List D->List V->Prop
 |[],xs=>xs=[]
 |d::r,xs=>∃x ys,xs=x::ys/\Rep K N fa H d x/\Reps K N fa H r ys
end
def RepB (K:vF_) (N:vB_) (fa:vA_) (H:Hp):D->V->Prop
 |.lst ds,v=>∃a xs,v = .ref a/\fa≠some a/\H a=some (.lst xs)/\Reps K N fa H ds xs
 |d,v=>Rep K N fa H d v
def cx (K:vF_) (N:vB_) (fa:vA_) (H:Hp):List D->List V->Prop
 |[],xs=>xs=[]
 |d::r,xs=>∃x ys,xs=x::ys/\RepB K N fa H d x/\cx K N fa H r ys
def yU (K:vF_) (H:Hp) (a:Addr):Sum (List V) (Obj × HO)->Prop
 |.inl xs=>SqF K H a xs
 |.inr p=>H a=some (.frz p.1 p.2)
structure Car (K:vF_) (N:vB_) (fa:vA_) (H:Hp) (N':vB_) (fa':vA_) (H':Hp):Prop where
 ls:∀b xs,¬ N b->H b=some (.lst xs)->H' b=some (.lst xs)/\¬ N' b
 tp:∀b xs,SqT K H b xs->SqT K H' b xs
 fz:∀b xs,yU K H b xs->yU K H' b xs
 fe:∀a,fa=some a->fa'=some a
section
variable {K:vF_}{N':vB_}
def ExO.go (c:Car K N fa H N' fa' H') (h:ExO H a C xs):ExO H' a C xs:=by
 obtain⟨o,e,q,r,l,z⟩:=h;refine#[o,c.fz a (.inr (o,_)) e,q,r,l,z.imp id ?_];rintro⟨dx,od,y,w⟩;exact#[dx,od,y,c.fz dx (.inr (od,_)) w]
mutual
theorem Rep.go (c:Car K N fa H N' fa' H'):∀(d:D) (v:V),Rep K N fa H d v->Rep K N' fa' H' d v
 |.non,v,h=>by simpa only[Rep] using h
 |.bl b,v,h=>by simpa only[Rep] using h
 |.int i,v,h=>by simpa only[Rep] using h
 |.str x,v,h=>by simpa only[Rep] using h
 |.tup ds,v,h=>by
  simp only[Rep] at h ⊢;obtain⟨a,xs,e,q,r⟩:=h;exact#[a,xs,e,c.tp a xs q,Reps.go c ds xs r]
 |.lst ds,v,h=>by
  simp only[Rep] at h ⊢;obtain⟨a,xs,e,n,q,r⟩:=h;obtain⟨U,J⟩:=c.ls a xs n q;exact#[a,xs,e,J,U,Reps.go c ds xs r]
 |.feed,v,h=>by
  simp only[Rep] at h ⊢;obtain⟨a,e,q⟩:=h;exact#[a,c.fe a e,q]
 |.scr ns,v,h=>by
  simp only[Rep] at h ⊢;obtain⟨l,a,e,q⟩:=h;exact#[l,a,e,c.fz a (.inl _) q]
 |.fn x,v,h=>by simpa only[Rep] using h
 |.exc x ds,v,h=>by
  simp only[Rep] at h ⊢;obtain⟨a,C,xs,e,n,q,r⟩:=h;exact#[a,C,xs,e,n,q.go c,Reps.go c ds xs r]
theorem Reps.go (c:Car K N fa H N' fa' H'):∀(ds:vD_) (xs:List V),Reps K N fa H ds xs->Reps K N' fa' H' ds xs
 |[],xs,h=>by simpa only[Reps] using h
 |d::r,xs,h=>by
  simp only[Reps] at h ⊢;obtain⟨x,ys,e,h1,h2⟩:=h;exact#[x,ys,e,Rep.go c d x h1,Reps.go c r ys h2]
end
def Rep.b (J:∀a,fa=some a->N a) {v:V}(h:Rep K N fa H d v):RepB K N fa H d v:=by
 cases d with
 |lst ds=>
  simp only[Rep] at h;obtain⟨a,xs,e,n,q,r⟩:=h;exact#[a,xs,e,fun z=>n (J a z),q,r]
 |_=>simpa only[RepB] using h
def Y8 (K:vF_) (N:vB_) (fa:vA_) (H:Hp):D->V->Prop
 |.lst ds,v=>∃a xs,v = .ref a/\H a=some (.lst xs)/\Reps K N fa H ds xs
 |d,v=>Rep K N fa H d v
def Rep.o {v:V}(h:Rep K N fa H d v):Y8 K N fa H d v:=by
 cases d with
 |lst ds=>
  simp only[Rep] at h;obtain⟨a,xs,e,_,q,r⟩:=h;exact#[a,xs,e,q,r]
 |_=>simpa only[Y8] using h
def RepB.o {v:V}(h:RepB K N fa H d v):Y8 K N fa H d v:=by
 cases d with
 |lst ds=>
  obtain⟨a,xs,e,_,q,r⟩:=h;exact#[a,xs,e,q,r]
 |_=>simpa only[Y8,RepB] using h
theorem Reps.length:∀{ds:vD_}{xs:List V},Reps K N fa H ds xs->xs.length=ds.length
 |[],xs,h=>by simp only[Reps] at h;subst h;rfl
 |d::r,xs,h=>by
  simp only[Reps] at h;obtain⟨x,ys,e,h1,h2⟩:=h;subst e;simp[Reps.length h2]
theorem Reps.get:∀{ds:vD_}{xs:List V}{i:Nat}{d:D},Reps K N fa H ds xs->ds[i]? = some d->∃x,xs[i]? = some x/\Rep K N fa H d x
 |[],xs,i,d,h,e=>by simp at e
 |d::r,xs,0,d',h,e=>by
  simp only[Reps] at h;obtain⟨x,ys,J,h1,h2⟩:=h;simp at e;subst J;subst e;exact#[x,rfl,h1]
 |d::r,xs,i+1,d',h,e=>by
  simp only[Reps] at h;obtain⟨x,ys,J,h1,h2⟩:=h;subst J;obtain⟨y,U,Y⟩:=Reps.get h2 (by simpa using e);exact#[y,by simpa using U,Y]
def Reps.get':∀{ds:vD_}{xs:List V}{i:Nat}{x:V},Reps K N fa H ds xs->xs[i]? = some x->∃d,ds[i]? = some d/\Rep K N fa H d x:=fun {ds xs i x} h e=>by
 have Y:=h.length;have hi:i<xs.length:=(Qr.mp e).1;obtain⟨y,J,U⟩:=Reps.get h (Qf (show i<ds.length by omega));rw[e] at J;cases J;exact#[_,Qf (show i<ds.length by omega),U]
theorem Reps.append:∀{ds es:vD_}{xs ys:List V},Reps K N fa H ds xs->Reps K N fa H es ys->Reps K N fa H (ds++es) (xs++ys)
 |[],es,xs,ys,h,q=>by simp only[Reps] at h;subst h;simpa using q
 |d::r,es,xs,ys,h,q=>by
  simp only[Reps] at h;obtain⟨x,zs,J,h1,h2⟩:=h;subst J;simp only[UT,Reps];exact#[x,_,rfl,h1,Reps.append h2 q]
def Reps.one {x:V}(h:Rep K N fa H d x):Reps K N fa H [d] [x]:=by
 simp only[Reps];exact#[x,[],rfl,h,rfl]
def Reps.nil:Reps K N fa H [] []:=by simp only[Reps]
theorem Reps.take:∀{ds:vD_}{xs:List V}(n:Nat),Reps K N fa H ds xs->Reps K N fa H (ds.take n) (xs.take n)
 |_,_,0,_=>by simp only[List.take_zero,Reps]
 |[],xs,n+1,h=>by simp only[Reps] at h;subst h;simp only[List.take_nil,Reps]
 |d::r,xs,n+1,h=>by
  simp only[Reps] at h;obtain⟨x,zs,J,h1,h2⟩:=h;subst J;simp only[List.take_succ_cons,Reps];exact#[x,_,rfl,h1,Reps.take n h2]
theorem Reps.drop:∀{ds:vD_}{xs:List V}(n:Nat),Reps K N fa H ds xs->Reps K N fa H (ds.drop n) (xs.drop n)
 |_,_,0,h=>by simpa using h
 |[],xs,n+1,h=>by simp only[Reps] at h;subst h;simp only[List.drop_nil,Reps]
 |d::r,xs,n+1,h=>by
  simp only[Reps] at h;obtain⟨x,zs,J,h1,h2⟩:=h;subst J;simpa using Reps.drop n h2
theorem Reps.ints:∀{ns:List Int},Reps K N fa H (ns.map D.int) (ns.map V.int)
 |[]=>by simp only[Rj,Reps]
 |n::r=>by
  simp only[PM,Reps,Rep];exact#[_,_,rfl,rfl,Reps.ints]
theorem Reps.reverse:∀{ds:vD_}{xs:List V},Reps K N fa H ds xs->Reps K N fa H ds.reverse xs.reverse
 |[],xs,h=>by simp only[Reps] at h;subst h;simp only[List.reverse_nil,Reps]
 |d::r,xs,h=>by
  simp only[Reps] at h;obtain⟨x,zs,J,h1,h2⟩:=h;subst J;simp only[RF];exact Reps.append (Reps.reverse h2) (Reps.one h1)
end
inductive Sl where
 | no | v (d:D) | own (ds:vD_)
variable {sl:List Sl}{mk:List Sl->D->Option (List Sl)}
structure DS where
 sl:List Sl
 fs:Option FS
variable {s1 s2:DS}
def NN (F:vB_) (fa:vA_) (O:vL_):Addr->Prop:=fun b=>F b\/b∈O\/fa=some b
def SlR (K:vF_) (N:vB_) (fa:vA_) (H:Hp):List Sl->List (Option V)->List Addr->Prop
 |[],σ,O=>σ=[]/\O=[]
 |.no::r,σ,O=>∃v τ,σ=v::τ/\SlR K N fa H r τ O
 |.v d::r,σ,O=>∃u τ,σ=some u::τ/\Rep K N fa H d u/\SlR K N fa H r τ O
 |.own ds::r,σ,O=>∃a xs τ P,σ=some (.ref a)::τ/\O=a::P/\H a=some (.lst xs)/\Reps K N fa H ds xs/\SlR K N fa H r τ P
structure Stp (fa:vA_) (O:vL_) (H:Hp) (fa':vA_) (O':vL_) (H':Hp):Prop where
 sub:∀b∈O',b∈O\/H b=none
 fe:fa'=fa\/(fa=none/\∀a,fa'=some a->H a=none)
 same:∀b u,H b=some u->b ∉ O->fa≠some b->H' b=some u
 mon:∀b,H' b=none->H b=none
structure StE (fa:vA_) (O:vL_) (H:Hp) (fa':vA_) (O':vL_) (H':Hp):Prop where
 sub:∀b∈O',b∈O
 fe:fa'=fa\/(fa=none/\∀a,fa'=some a->H a=none)
 same:∀b u,H b=some u->fa≠some b->H' b=some u
 mon:∀b,H' b=none->H b=none
structure DI (K:vF_) (F:vB_) (H0:Hp) (fa0:vA_) (σ:St) (H:Hp) (fa:vA_) (O:vL_) (s:DS):Prop where
 nd:O.Nodup
 sl:SlR K (NN F fa O) fa H s.sl σ O
 fr:∀b∈O,H0 b=none
 st:Stp fa0 [] H0 fa [] H
 tr:∀b,F b->H0 b≠none
 ff:∀a,fa0=some a->F a
 fd:FeedR (NN F fa O) H fa s.fs
 nf:∀a,fa=some a->a ∉ O
section
variable {fa'':vA_}{O O' O'':vL_}{H'':Hp}
def StE.stp (h:StE fa O H fa' O' H'):Stp fa O H fa' O' H':=#[fun b J=>.inl (h.sub b J),h.fe,fun b u e _ n=>h.same b u e n,h.mon]
def StE.refl:StE fa O H fa O H:=#[fun _ h=>h,.inl rfl,fun _ _ e _=>e,fun _ h=>h]
theorem Stp.refl:Stp fa O H fa O H:=StE.refl.stp
theorem StE.trans (a:StE fa O H fa' O' H') (b:StE fa' O' H' fa'' O'' H''):StE fa O H fa'' O'' H'':=by
 refine#[fun c J=>a.sub c (b.sub c J),?_,fun c u e n=>?_,fun c h=>a.mon c (b.mon c h)]
 .rcases a.fe with e | ⟨e,h⟩
  .rcases b.fe with e' | ⟨e',h'⟩
   .exact .inl (e'.trans e)
   .exact .inr #[e▸e',fun c z=>a.mon c (h' c z)]
  .rcases b.fe with e' | ⟨e',h'⟩
   .exact .inr #[e,fun c z=>h c (e'▸z)]
   .exact .inr #[e,fun c z=>a.mon c (h' c z)]
 .refine b.same c u (a.same c u e n) fun z=>?_
  rcases a.fe with q | ⟨q,h⟩
  .rw[q] at z;exact n z
  .rw[h c z] at e;cases e
theorem Stp.trans (a:Stp fa O H fa' O' H') (b:Stp fa' O' H' fa'' O'' H''):Stp fa O H fa'' O'' H'':=by
 refine#[fun c J=>?_,?_,fun c u e J n=>?_,fun c h=>a.mon c (b.mon c h)]
 .rcases b.sub c J with q | q
  .exact a.sub c q
  .exact .inr (a.mon c q)
 .rcases a.fe with e | ⟨e,h⟩
  .rcases b.fe with e' | ⟨e',h'⟩
   .exact .inl (e'.trans e)
   .exact .inr #[e▸e',fun c z=>a.mon c (h' c z)]
  .rcases b.fe with e' | ⟨e',h'⟩
   .exact .inr #[e,fun c z=>h c (e'▸z)]
   .exact .inr #[e,fun c z=>a.mon c (h' c z)]
 .refine b.same c u (a.same c u e J n) (fun z=>?_) fun z=>?_
  .rcases a.sub c z with q | q
   .exact J q
   .rw[q] at e;cases e
  .rcases a.fe with q | ⟨q,h⟩
   .rw[q] at z;exact n z
   .rw[h c z] at e;cases e
def Stp.fa_keep (a:Stp fa O H fa' O' H') {x:Addr}(h:fa=some x):fa'=some x:=by
 rcases a.fe with e | ⟨e,_⟩
 .rw[e,h]
 .rw[h] at e;cases e
variable {K:vF_}{F:vB_}{H0:Hp}{fa0:vA_}{s:DS}
def FeedR.no_frz {fs:vO_}{o:Obj}{u:HO}(h:FeedR N H fa fs) (e:fa=some a) (q:H a=some (.frz o u)):False:=by
 subst e;cases fs with
 |none=>exact h
 |some f=>
  obtain⟨_,c,h1,_⟩:=h;rw[h1] at q;exact ES (Qi q)
def FeedR.no_tup {fs:vO_}(h:FeedR N H fa fs) (e:fa=some a) (z:Rd H a (.tup xs)):False:=by
 rcases z with z | ⟨o,z⟩
 .subst e;cases fs with
  |none=>exact h
  |some f=>
   obtain⟨_,c,h1,_⟩:=h;rw[h1] at z;exact Jo (Qi z)
 .exact h.no_frz e z
def FeedR.tracked {fs:vO_}(h:FeedR N H fa fs) (e:fa=some a):H a≠none:=by
 subst e;cases fs with
 |none=>exact h.elim
 |some f=>
  obtain⟨_,c,h1,_⟩:=h;rw[h1];simp
def SqT.stp' (a:Stp fa O H fa' O' H') (Z:∀x,fa=some x->∀xs,¬ Rd H x (.tup xs)) (Y:∀x∈O,∀xs,¬ Rd H x (.tup xs)) {b:Addr}(h:SqT K H b xs):SqT K H' b xs:=by
 rcases h with h | h
 .refine .inl ?_;have J:b ∉ O:=fun z=>Y b z xs h
  have U:fa≠some b:=fun z=>Z b z xs h
  rcases h with h | ⟨o,h⟩
  .exact .inl (a.same _ _ h J U)
  .exact .inr #[o,a.same _ _ h J U]
 .exact .inr h
theorem SlR.owned:∀{sl:List Sl}{N:vB_}{σ:List (Option V)}{O:vL_},SlR K N fa H sl σ O->∀b∈O,∃xs,H b=some (.lst xs)
 |[],N,σ,O,h,b,hb=>by simp only[SlR] at h;rw[h.2] at hb;cases hb
 |.no::r,N,σ,O,h,b,hb=>by
  simp only[SlR] at h;obtain⟨v,τ,_,h⟩:=h;exact SlR.owned h b hb
 |.v d::r,N,σ,O,h,b,hb=>by
  simp only[SlR] at h;obtain⟨v,τ,_,_,h⟩:=h;exact SlR.owned h b hb
 |.own ds::r,N,σ,O,h,b,hb=>by
  simp only[SlR] at h;obtain⟨a,xs,τ,P,_,rfl,e,_,h⟩:=h;rcases xo.mp hb with z | z
  .subst z;exact#[xs,e]
  .exact SlR.owned h b z
theorem DI.owned (I:DI K F H0 fa0 σ H fa O s) {b:Addr}(J:b∈O):∃xs,H b=some (.lst xs):=SlR.owned I.sl b J
def DI.trF (I:DI K F H0 fa0 σ H fa O s) {b:Addr}(J:F b):H b≠none:=fun z=>I.tr b J (I.st.mon b z)
def DI.nn_tracked (I:DI K F H0 fa0 σ H fa O s) {b:Addr}(h:NN F fa O b):H b≠none:=by
 rcases h with h | h | h
 .exact I.trF h
 .obtain⟨xs,e⟩:=I.owned h;rw[e];simp
 .exact I.fd.tracked h
def DI.nf_step (I:DI K F H0 fa0 σ H fa O s) (h:fa'=fa\/(fa=none/\∀a,fa'=some a->H a=none)):∀a,fa'=some a->a ∉ O:=fun a e m=>by
 rcases h with z | ⟨z,y⟩
 .rw[z] at e;exact I.nf a e m
 .obtain⟨xs,q⟩:=I.owned m;rw[y a e] at q;cases q
def DI.car (I:DI K F H0 fa0 σ H fa O s) (a:Stp fa O H fa' O' H'):Car K (NN F fa O) fa H (NN F fa' O') fa' H':=by
 have nt:∀x xs,H x=some (.lst xs)->∀ys,¬ Rd H x (.tup ys):=fun x xs e ys z=>by
  rcases z with z | ⟨o,z⟩ <;> · rw[e] at z;cases z
 refine#[fun b xs n q=>?_,fun b xs q=>?_,fun b xs q=>?_,fun x e=>a.fa_keep e]
 .have Y:b ∉ O:=fun z=>n (.inr (.inl z))
  have Z:fa≠some b:=fun z=>n (.inr (.inr z))
  have U:H b≠none:=by rw[q];simp
  refine#[a.same _ _ q Y Z,fun z=>?_]
  .rcases z with z | z | z
   .exact n (.inl z)
   .rcases a.sub b z with y | y
    .exact Y y
    .exact U y
   .rcases a.fe with e | ⟨e,h⟩
    .rw[e] at z;exact Z z
    .exact U (h b z)
 .refine SqT.stp' a (fun x e ys z=>?_) (fun x hx ys=>?_) q
  .exact I.fd.no_tup e z
  .obtain⟨xs,e⟩:=I.owned hx;exact nt x xs e ys
 .have J:∀o u,H b=some (.frz o u)->H' b=some (.frz o u):=fun o u q=>by
   refine a.same _ _ q (fun z=>?_) fun z=>?_
   .obtain⟨ys,e⟩:=I.owned z;rw[e] at q;cases q
   .exact I.fd.no_frz z q
  cases xs with
  |inl xs=>exact q.imp (fun ⟨o,q⟩=>#[o,J _ _ q]) id
  |inr p=>exact J _ _ q
end
structure Gh where
 F:Addr->Prop
 H0:Hp
 fa0:Option Addr
 xq:L2.St->XK
abbrev GI (K:vF_) (g:Gh):=DI K g.F g.H0 g.fa0
section
variable {K:vF_}{N':vB_}{g:Gh}{σ:L2.St}{O O':vL_}{s:DS}
theorem SlR.go (c:Car K N fa H N' fa' H'):∀{sl:List Sl}{σ:List (Option V)}{O:vL_},(∀a xs,a∈O->H a=some (.lst xs)->H' a=some (.lst xs))->SlR K N fa H sl σ O->SlR K N' fa' H' sl σ O
 |[],σ,O,_,h=>by simpa only[SlR] using h
 |.no::r,σ,O,ho,h=>by
  simp only[SlR] at h ⊢;obtain⟨v,τ,e,h⟩:=h;exact#[v,τ,e,SlR.go c ho h]
 |.v d::r,σ,O,ho,h=>by
  simp only[SlR] at h ⊢;obtain⟨u,τ,e,q,h⟩:=h;exact#[u,τ,e,Rep.go c d u q,SlR.go c ho h]
 |.own ds::r,σ,O,ho,h=>by
  simp only[SlR] at h ⊢;obtain⟨a,xs,τ,P,e,rfl,U,q,h⟩:=h;exact#[a,xs,τ,P,e,rfl,ho a xs (PD ..) U,Reps.go c ds xs q,SlR.go c (fun b ys J=>ho b ys (Pz _ J)) h]
theorem SlR.val:∀{sl:List Sl}{σ:List (Option V)}{O:vL_}{i:Nat}{d:D},SlR K N fa H sl σ O->sl[i]? = some (.v d)->∃u,σ[i]? = some (some u)/\Rep K N fa H d u
 |[],σ,O,i,d,h,e=>by simp at e
 |.no::r,σ,O,i,d,h,e=>by
  simp only[SlR] at h;obtain⟨v,τ,rfl,h⟩:=h;cases i with
  |zero=>simp at e
  |succ i=>simpa using SlR.val h (by simpa using e)
 |.v d'::r,σ,O,i,d,h,e=>by
  simp only[SlR] at h;obtain⟨u,τ,rfl,q,h⟩:=h;cases i with
  |zero=>simp at e;subst e;exact#[u,rfl,q]
  |succ i=>simpa using SlR.val h (by simpa using e)
 |.own ds::r,σ,O,i,d,h,e=>by
  simp only[SlR] at h;obtain⟨a,xs,τ,P,rfl,rfl,J,q,h⟩:=h;cases i with
  |zero=>simp at e
  |succ i=>simpa using SlR.val h (by simpa using e)
theorem SlR.own:∀{sl:List Sl}{σ:List (Option V)}{O:vL_}{i:Nat}{ds:vD_},SlR K N fa H sl σ O->sl[i]? = some (.own ds)->∃a xs,σ[i]? = some (some (.ref a))/\a∈O/\H a=some (.lst xs)/\Reps K N fa H ds xs
 |[],σ,O,i,d,h,e=>by simp at e
 |.no::r,σ,O,i,d,h,e=>by
  simp only[SlR] at h;obtain⟨v,τ,rfl,h⟩:=h;cases i with
  |zero=>simp at e
  |succ i=>simpa using SlR.own h (by simpa using e)
 |.v d'::r,σ,O,i,d,h,e=>by
  simp only[SlR] at h;obtain⟨u,τ,rfl,q,h⟩:=h;cases i with
  |zero=>simp at e
  |succ i=>simpa using SlR.own h (by simpa using e)
 |.own ds::r,σ,O,i,d,h,e=>by
  simp only[SlR] at h;obtain⟨a,xs,τ,P,rfl,rfl,U,q,h⟩:=h;cases i with
  |zero=>simp at e;subst e;exact#[a,xs,rfl,PD ..,U,q]
  |succ i=>
   obtain⟨b,ys,Z,m,J,Y⟩:=SlR.own h (by simpa using e);exact#[b,ys,by simpa using Z,Pz _ m,J,Y]
theorem SlR.len:∀{sl:List Sl}{σ:List (Option V)}{O:vL_},SlR K N fa H sl σ O->σ.length=sl.length
 |[],σ,O,h=>by simp only[SlR] at h;rw[h.1];rfl
 |.no::r,σ,O,h=>by
  simp only[SlR] at h;obtain⟨v,τ,rfl,h⟩:=h;simp[SlR.len h]
 |.v d'::r,σ,O,h=>by
  simp only[SlR] at h;obtain⟨u,τ,rfl,q,h⟩:=h;simp[SlR.len h]
 |.own ds::r,σ,O,h=>by
  simp only[SlR] at h;obtain⟨a,xs,τ,P,rfl,rfl,J,q,h⟩:=h;simp[SlR.len h]
theorem SlR.put:∀{sl:List Sl}{σ:List (Option V)}{O:vL_}(i:Nat) {d:D}{u:V},SlR K N fa H sl σ O->Rep K N fa H d u ->
  ∃P,P.Sublist O/\SlR K N fa H (sl.set i (.v d)) (σ.set i (some u)) P/\(O.Nodup->∀a,sl[i]?.isSome=true->(∃ds,sl[i]? = some (.own ds))->σ[i]? = some (some (.ref a))->a ∉ P)
 |[],σ,O,i,d,u,h,q=>by
  simp only[SlR] at h;refine#[O,UU _,?_,fun _ a z=>by simp at z];rw[h.1,h.2];simp[SlR]
 |.no::r,σ,O,i,d,u,h,q=>by
  simp only[SlR] at h;obtain⟨v,τ,rfl,h⟩:=h;cases i with
  |zero=>exact#[O,UU _,by simp only[RJ,SlR];exact#[u,τ,rfl,q,h],fun _ a _ z=>by obtain⟨ds,z⟩:=z;simp at z]
  |succ i=>
   obtain⟨P,U,h1,h2⟩:=SlR.put i h q;exact#[P,U,by simp only[Ra,SlR];exact#[v,_,rfl,h1],by simpa using h2]
 |.v d'::r,σ,O,i,d,u,h,q=>by
  simp only[SlR] at h;obtain⟨v,τ,rfl,qv,h⟩:=h;cases i with
  |zero=>exact#[O,UU _,by simp only[RJ,SlR];exact#[u,τ,rfl,q,h],fun _ a _ z=>by obtain⟨ds,z⟩:=z;simp at z]
  |succ i=>
   obtain⟨P,U,h1,h2⟩:=SlR.put i h q;exact#[P,U,by simp only[Ra,SlR];exact#[v,_,rfl,qv,h1],by simpa using h2]
 |.own ds::r,σ,O,i,d,u,h,q=>by
  simp only[SlR] at h;obtain⟨a,xs,τ,P,rfl,rfl,ha,qv,h⟩:=h;cases i with
  |zero=>
   refine#[P,List.sublist_cons_self ..,by simp only[RJ,SlR];exact#[u,τ,rfl,q,h],fun Z b _ _ e=>?_];simp at e;subst e;exact(QE.mp Z).1
  |succ i=>
   obtain⟨P',U,h1,h2⟩:=SlR.put i h q;refine#[a::P',U.cons_cons a,by simp only[Ra,SlR];exact#[a,xs,_,P',rfl,rfl,ha,qv,h1],fun Z b e1 Y e3=>?_];have J:=QE.mp Z;have n1:=h2 J.2 b (by simpa using e1) (by simpa using Y) (by simpa using e3);intro z;rcases xo.mp z with z | z
   .subst z;obtain⟨dz,Y⟩:=Y;obtain⟨b',_,e4,m,_⟩:=SlR.own h (i:=i) (by simpa using Y);rw[SU] at e3;rw[e3] at e4;cases e4;exact J.1 m
   .exact n1 z
theorem SlR.putN:∀{sl:List Sl}{σ:List (Option V)}{O:vL_}(i:Nat) {ds:vD_}{p:Addr}{xs:List V},SlR K N fa H sl σ O->i<sl.length->p ∉ O->O.Nodup->H p=some (.lst xs)->Reps K N fa H ds xs ->
  ∃P,(∀b∈P,b=p\/b∈O)/\P.Nodup/\SlR K N fa H (sl.set i (.own ds)) (σ.set i (some (.ref p))) P
 |[],σ,O,i,ds,p,xs,h,hi,hp,nd,e,q=>by simp at hi
 |.no::r,σ,O,i,ds,p,xs,h,hi,hp,nd,e,q=>by
  simp only[SlR] at h;obtain⟨v,τ,rfl,h⟩:=h;cases i with
  |zero=>exact#[p::O,fun b J=>xo.mp J,QE.mpr #[hp,nd],by simp only[RJ,SlR];exact#[p,xs,τ,O,rfl,rfl,e,q,h]]
  |succ i=>
   obtain⟨P,h1,h2,Y⟩:=SlR.putN i h (by simpa using hi) hp nd e q;exact#[P,h1,h2,by simp only[Ra,SlR];exact#[v,_,rfl,Y]]
 |.v d'::r,σ,O,i,ds,p,xs,h,hi,hp,nd,e,q=>by
  simp only[SlR] at h;obtain⟨v,τ,rfl,Z,h⟩:=h;cases i with
  |zero=>exact#[p::O,fun b J=>xo.mp J,QE.mpr #[hp,nd],by simp only[RJ,SlR];exact#[p,xs,τ,O,rfl,rfl,e,q,h]]
  |succ i=>
   obtain⟨P,h1,h2,Y⟩:=SlR.putN i h (by simpa using hi) hp nd e q;exact#[P,h1,h2,by simp only[Ra,SlR];exact#[v,_,rfl,Z,Y]]
 |.own ds'::r,σ,O,i,ds,p,xs,h,hi,hp,nd,e,q=>by
  simp only[SlR] at h;obtain⟨a,ys,τ,P,rfl,rfl,ha,Z,h⟩:=h;have U:=QE.mp nd;cases i with
  |zero=>
   refine#[p::P,fun b J=>(xo.mp J).imp id fun z=>Pz _ z,QE.mpr #[fun z=>hp (Pz _ z),U.2],?_];simp only[RJ,SlR];exact#[p,xs,τ,P,rfl,rfl,e,q,h]
  |succ i=>
   obtain⟨P',h1,h2,Y⟩:=SlR.putN i h (by simpa using hi) (fun z=>hp (Pz _ z)) U.2 e q;refine#[a::P',fun b J=>?_,QE.mpr #[fun z=>?_,h2],by simp only[Ra,SlR];exact#[a,ys,_,P',rfl,rfl,ha,Z,Y]]
   .rcases xo.mp J with z | z
    .exact .inr (by rw[z];exact PD ..)
    .exact(h1 b z).imp id fun y=>Pz _ y
   .rcases h1 a z with y | y
    .exact hp (by rw[y];exact PD ..)
    .exact U.1 y
theorem SlR.rew:∀{sl:List Sl}{σ:List (Option V)}{O:vL_}{i:Nat}{ds es:vD_}{a:Addr}{ys:List V},SlR K N fa H sl σ O->O.Nodup->(∀b∈O,N b)->sl[i]? = some (.own ds)->σ[i]? = some (some (.ref a))->H' a=some (.lst ys) ->
  Car K N fa H N fa H'->(∀b u,b≠a->H b=some u->H' b=some u)->Reps K N fa H' es ys->SlR K N fa H' (sl.set i (.own es)) σ O
 |[],σ,O,i,ds,es,a,ys,h,nd,hN,e1,e2,e3,c,k,q=>by simp at e1
 |.no::r,σ,O,i,ds,es,a,ys,h,nd,hN,e1,e2,e3,c,k,q=>by
  simp only[SlR] at h;obtain⟨v,τ,rfl,h⟩:=h;cases i with
  |zero=>simp at e1
  |succ i=>simp only[Ra,SlR];exact#[v,τ,rfl,SlR.rew h nd hN (by simpa using e1) (by simpa using e2) e3 c k q]
 |.v d'::r,σ,O,i,ds,es,a,ys,h,nd,hN,e1,e2,e3,c,k,q=>by
  simp only[SlR] at h;obtain⟨v,τ,rfl,U,h⟩:=h;cases i with
  |zero=>simp at e1
  |succ i=>simp only[Ra,SlR];exact#[v,τ,rfl,Rep.go c _ _ U,SlR.rew h nd hN (by simpa using e1) (by simpa using e2) e3 c k q]
 |.own ds'::r,σ,O,i,ds,es,a,ys,h,nd,hN,e1,e2,e3,c,k,q=>by
  simp only[SlR] at h;obtain⟨b,zs,τ,P,rfl,rfl,ha,U,h⟩:=h;have J:=QE.mp nd;cases i with
  |zero=>
   simp at e2;subst e2;simp only[RJ,SlR];exact#[b,ys,τ,P,rfl,rfl,e3,q,SlR.go c (fun x xs Y z=>k x _ (fun y=>J.1 (y▸Y)) z) h]
  |succ i=>
   have nb:b≠a:=fun z=>by
    obtain⟨a',_,Z,m,_⟩:=SlR.own h (i:=i) (by simpa using e1);rw[SU] at e2;rw[e2] at Z;cases Z;exact J.1 (z▸m)
   simp only[Ra,SlR];exact#[b,zs,τ,P,rfl,rfl,k b _ nb ha,Reps.go c _ _ U,SlR.rew h J.2 (fun x Y=>hN x (Pz _ Y)) (by simpa using e1) (by simpa using e2) e3 c k q]
theorem RepB.stp {v:V}(I:GI K g σ H fa O s) (a:StE fa O H fa' O' H') (h:RepB K (NN g.F fa O) fa H d v):RepB K (NN g.F fa' O') fa' H' d v:=by
 have c:=I.car a.stp;cases d with
 |lst ds=>
  obtain⟨x,xs,e,J,q,r⟩:=h;refine#[x,xs,e,fun z=>?_,a.same _ _ q J,Reps.go c ds xs r];rcases a.fe with y | ⟨_,y⟩
  .rw[y] at z;exact J z
  .rw[y x z] at q;cases q
 |_=>
  simp only[RepB] at h ⊢;exact Rep.go c _ _ h
def Rep.stp {v:V}(I:GI K g σ H fa O s) (a:Stp fa O H fa' O' H') (h:Rep K (NN g.F fa O) fa H d v):Rep K (NN g.F fa' O') fa' H' d v:=Rep.go (I.car a) d v h
def Reps.stp (I:GI K g σ H fa O s) (a:Stp fa O H fa' O' H') (h:Reps K (NN g.F fa O) fa H ds xs):Reps K (NN g.F fa' O') fa' H' ds xs:=Reps.go (I.car a) ds xs h
def F9 {o:HO}(h:H p=none):StE fa O H fa O (o7 H p o):=
 #[fun _ h=>h,.inl rfl,fun b u e _=>by rw[u5 (L9 e h)];exact e,fun b z=>by
  by_cases J:b=p
  .subst J;exact h
  .rw[u5 J] at z;exact z]
def FeedR.car {fs:vO_}(c:Car K N fa H N' fa H') (h:∀a,fa=some a->H' a=H a) (f:FeedR N H fa fs):FeedR N' H' fa fs:=by
 cases fa with
 |none=>cases fs <;> simpa only[FeedR] using f
 |some a=>
  cases fs with
  |none=>simpa only[FeedR] using f
  |some x=>
   simp only[FeedR] at f ⊢;obtain⟨l,b,h1,h2,J⟩:=f;obtain⟨q,n⟩:=c.ls b _ h2 J;exact#[l,b,by rw[h a rfl];exact h1,n,q]
def FeedR.same_new {fs:vO_}{o:HO}(f:FeedR N H fa fs) (h:H p=none):∀a,fa=some a->o7 H p o a=H a:=fun a e=>u5 fun z=>f.tracked e (z▸h)
def DI.new {o:HO}(I:GI K g σ H fa O s) (h:H p=none):GI K g σ (o7 H p o) fa O s:=by
 have a:StE fa O H fa O (o7 H p o):=F9 h;refine#[I.nd,SlR.go (I.car a.stp) (fun b xs J e=>?_) I.sl,I.fr,I.st.trans ((F9 (O:=[]) h).stp),I.tr,I.ff,I.fd.car (I.car a.stp) (I.fd.same_new h),I.nf];rw[u5 (L9 e h)];exact e
end
abbrev DE:=DS->Option (D × DS)
variable {fe:DE}
abbrev DT:=DS->Option (Bool × DS)
variable {fc:DT}
abbrev DA:=DS->Option (List D × DS)
variable {f fi:DA}
inductive Fl where
 | next | brk | cont | ret (d:D) | thr (c:Str) (ds:vD_)
abbrev DM:=DS->Option (Fl × DS)
structure NewL (K:vF_) (g:Gh) (σ:L2.St) (H:Hp) (fa:vA_) (O:vL_) (s:DS) (p:Addr) (xs:List V) (ds:vD_):Prop where
 gi:GI K g σ H fa O s
 ls:H p=some (.lst xs)
 sl:SlR K (fun b=>NN g.F fa O b\/b=p) fa H s.sl σ O
 fd:FeedR (fun b=>NN g.F fa O b\/b=p) H fa s.fs
 rs:Reps K (fun b=>NN g.F fa O b\/b=p) fa H ds xs
 nf:fa≠some p
section
variable (K:vF_) (g:Gh)
def liftE (f:DE):TE:=fun σ H Q=>∃fa O s d s',GI K g σ H fa O s/\f s=some (d,s') /\
 ∀v H' fa' O',StE fa O H fa' O' H'->GI K g σ H' fa' O' s'->Rep K (NN g.F fa' O') fa' H' d v->Q v H'
def liftB (f:DE):TE:=fun σ H Q=>∃fa O s d s',GI K g σ H fa O s/\f s=some (d,s') /\
 ∀v H' fa' O',StE fa O H fa' O' H'->GI K g σ H' fa' O' s'->RepB K (NN g.F fa' O') fa' H' d v->Q v H'
def liftF (f:DA):TE:=fun σ H Q=>∃fa O s ds s',GI K g σ H fa O s/\f s=some (ds,s') /\
 ∀p xs H' fa' O',StE fa O H fa' O' H'->NewL K g σ H' fa' O' s' p xs ds->H p=none->Q (.ref p) H'
def liftT (f:DT):TT:=fun σ H Q=>∃fa O s d s',GI K g σ H fa O s/\f s=some (d,s') /\
 ∀H' fa' O',StE fa O H fa' O' H'->GI K g σ H' fa' O' s'->Q d H'
def liftA (f:DA):TA:=fun σ H Q=>∃fa O s ds s',GI K g σ H fa O s/\f s=some (ds,s') /\
 ∀vs H' fa' O',StE fa O H fa' O' H'->GI K g σ H' fa' O' s'->Reps K (NN g.F fa' O') fa' H' ds vs->Q vs H'
def liftBA (f:DA):TA:=fun σ H Q=>∃fa O s ds s',GI K g σ H fa O s/\f s=some (ds,s') /\
 ∀vs H' fa' O',StE fa O H fa' O' H'->GI K g σ H' fa' O' s'->cx K (NN g.F fa' O') fa' H' ds vs->Q vs H'
def FlK (E:Ends) (fa:vA_) (O:vL_) (H:Hp) (fl:Fl) (s':DS):Prop:=
 match fl with
 |.next=>∀σ' H' fa' O',Stp fa O H fa' O' H'->GI K g σ' H' fa' O' s'->E.nx σ' H'
 |.brk=>∀σ' H' fa' O',Stp fa O H fa' O' H'->GI K g σ' H' fa' O' s'->E.bk σ' H'
 |.cont=>∀σ' H' fa' O',Stp fa O H fa' O' H'->GI K g σ' H' fa' O' s'->E.ct σ' H'
 |.ret d=>∀σ' v H' fa' O',Stp fa O H fa' O' H'->GI K g σ' H' fa' O' s'->Rep K (NN g.F fa' O') fa' H' d v->E.rt v H'
 |.thr c ds=>∀σ' C dx od xs H' fa' O',Stp fa O H fa' O' H'->GI K g σ' H' fa' O' s'->PySem.W.nsIn K mainGlobals c=some (some 'j')->H' dx=some (.frz od (.xd (fnm.zip xs)))->Reps K (NN g.F fa' O') fa' H' ds xs->g.xq σ' 'j' (some dx) H'
def liftS (f:DM):TS:=fun E σ H=>∃fa O s fl s',GI K g σ H fa O s/\f s=some (fl,s')/\FlK K g E fa O H fl s'
end
section
variable {K:vF_}{g:Gh}{σ:L2.St}
def liftE.elim {f:DE}{Q:VK}(h:liftE K g f σ H Q) (k:∀fa O s d s',GI K g σ H fa O s->f s=some (d,s')->(∀v H' fa' O',StE fa O H fa' O' H'->GI K g σ H' fa' O' s'->Rep K (NN g.F fa' O') fa' H' d v->Q v H')->G):G:=by
 refine gB_ fun U J=>?_
 obtain⟨fa,O,s,d,s',a,b,c⟩:=h;apply J;exact k fa O s d s' a b c
def liftB.elim {f:DE}{Q:VK}(h:liftB K g f σ H Q) (k:∀fa O s d s',GI K g σ H fa O s->f s=some (d,s')->(∀v H' fa' O',StE fa O H fa' O' H'->GI K g σ H' fa' O' s'->RepB K (NN g.F fa' O') fa' H' d v->Q v H')->G):G:=by
 refine gB_ fun U J=>?_
 obtain⟨fa,O,s,d,s',a,b,c⟩:=h;apply J;exact k fa O s d s' a b c
def liftF.elim {Q:VK}(h:liftF K g f σ H Q) (k:∀fa O s d s',GI K g σ H fa O s->f s=some (d,s')->(∀p xs H' fa' O',StE fa O H fa' O' H'->NewL K g σ H' fa' O' s' p xs d->H p=none->Q (.ref p) H')->G):G:=by
 refine gB_ fun U J=>?_
 obtain⟨fa,O,s,d,s',a,b,c⟩:=h;apply J;exact k fa O s d s' a b c
def liftT.elim {f:DT}{Q:Bool->Hp->Prop}(h:liftT K g f σ H Q) (k:∀fa O s d s',GI K g σ H fa O s->f s=some (d,s')->(∀H' fa' O',StE fa O H fa' O' H'->GI K g σ H' fa' O' s'->Q d H')->G):G:=by
 refine gB_ fun U J=>?_
 obtain⟨fa,O,s,d,s',a,b,c⟩:=h;apply J;exact k fa O s d s' a b c
def liftA.elim {Q:List V->Hp->Prop}(h:liftA K g f σ H Q) (k:∀fa O s d s',GI K g σ H fa O s->f s=some (d,s')->(∀vs H' fa' O',StE fa O H fa' O' H'->GI K g σ H' fa' O' s'->Reps K (NN g.F fa' O') fa' H' d vs->Q vs H')->G):G:=by
 refine gB_ fun U J=>?_
 obtain⟨fa,O,s,d,s',a,b,c⟩:=h;apply J;exact k fa O s d s' a b c
def liftBA.elim {Q:List V->Hp->Prop}(h:liftBA K g f σ H Q) (k:∀fa O s d s',GI K g σ H fa O s->f s=some (d,s')->(∀vs H' fa' O',StE fa O H fa' O' H'->GI K g σ H' fa' O' s'->cx K (NN g.F fa' O') fa' H' d vs->Q vs H')->G):G:=by
 refine gB_ fun U J=>?_
 obtain⟨fa,O,s,d,s',a,b,c⟩:=h;apply J;exact k fa O s d s' a b c
def liftS.elim {f:DM}{E:Ends}(h:liftS K g f E σ H) (k:∀fa O s d s',GI K g σ H fa O s->f s=some (d,s')->(FlK K g E fa O H d s')->G):G:=by
 refine gB_ fun U J=>?_
 obtain⟨fa,O,s,d,s',a,b,c⟩:=h;apply J;exact k fa O s d s' a b c
end
structure EO (X:Cx) (g:Gh) (e:Expr) (f:DE):Prop where
 pe:PE X e (liftE X.K g f)
structure BO (X:Cx) (g:Gh) (e:Expr) (f:DE):Prop where
 pe:PE X e (liftB X.K g f)
structure FO (X:Cx) (g:Gh) (e:Expr) (f:DA):Prop where
 pe:PE X e (liftF X.K g f)
structure TO (X:Cx) (g:Gh) (e:Expr) (f:DT):Prop where
 pe:PT X e (liftT X.K g f)
structure WO (X:Cx) (g:Gh) (e:Expr) (f:DT):Prop where
 pe:PW X e (liftT X.K g f)
structure AO (X:Cx) (g:Gh) (es:List Expr) (f:DA):Prop where
 pe:PA X es (liftA X.K g f)
structure BAO (X:Cx) (g:Gh) (es:List Expr) (f:DA):Prop where
 pe:PA X es (liftBA X.K g f)
structure SO (X:Cx) (g:Gh) (st:Stmt) (f:DM):Prop where
 pe:PS X st (liftS X.K g f)
structure SSO (X:Cx) (g:Gh) (st:List Stmt) (f:DM):Prop where
 pe:PSs X st (liftS X.K g f)
section
variable {g:Gh}{f:DE}
def ou {t t':TE}(h:PE X e t) (w:∀σ H Q,t' σ H Q->t σ H Q):PE X e t':=fun pins s σ H Q I q=>h pins s σ H Q I (w σ H Q q)
def Fc {t t':TT}(h:PT X e t) (w:∀σ H Q,t' σ H Q->t σ H Q):PT X e t':=fun pins s σ H Q I q=>h pins s σ H Q I (w σ H Q q)
def CU {t t':TT}(h:PW X e t) (w:∀σ H Q,t' σ H Q->t σ H Q):PW X e t':=fun J pins s σ H Q I q=>h J pins s σ H Q I (w σ H Q q)
def Ci {t t':TA}(h:PA X es t) (w:∀σ H Q,t' σ H Q->t σ H Q):PA X es t':=fun pos pins s σ H Q I q=>h pos pins s σ H Q I (w σ H Q q)
def HJ {st:Stmt}{t t':TS}(h:PS X st t) (w:∀E σ H,t' E σ H->t E σ H):PS X st t':=fun pins s σ H E I q=>h pins s σ H E I (w E σ H q)
def DG {st:List Stmt}{t t':TS}(h:PSs X st t) (w:∀E σ H,t' E σ H->t E σ H):PSs X st t':=fun pins s σ H E I q=>h pins s σ H E I (w E σ H q)
theorem EO.w {f:DE}{t:TE}(h:PE X e t) (w:∀σ H Q,liftE X.K g f σ H Q->t σ H Q):EO X g e f:=#[ou h w]
theorem BO.w {f:DE}{t:TE}(h:PE X e t) (w:∀σ H Q,liftB X.K g f σ H Q->t σ H Q):BO X g e f:=#[ou h w]
theorem FO.w {f:DA}{t:TE}(h:PE X e t) (w:∀σ H Q,liftF X.K g f σ H Q->t σ H Q):FO X g e f:=#[ou h w]
theorem TO.w {f:DT}{t:TT}(h:PT X e t) (w:∀σ H Q,liftT X.K g f σ H Q->t σ H Q):TO X g e f:=#[Fc h w]
theorem WO.w {f:DT}{t:TT}(h:PW X e t) (w:∀σ H Q,liftT X.K g f σ H Q->t σ H Q):WO X g e f:=#[CU h w]
theorem AO.w {f:DA}{t:TA}(h:PA X es t) (w:∀σ H Q,liftA X.K g f σ H Q->t σ H Q):AO X g es f:=#[Ci h w]
theorem BAO.w {f:DA}{t:TA}(h:PA X es t) (w:∀σ H Q,liftBA X.K g f σ H Q->t σ H Q):BAO X g es f:=#[Ci h w]
theorem SO.w {st:Stmt}{f:DM}{t:TS}(h:PS X st t) (w:∀E σ H,liftS X.K g f E σ H->t E σ H):SO X g st f:=#[HJ h w]
theorem SSO.w {st:List Stmt}{f:DM}{t:TS}(h:PSs X st t) (w:∀E σ H,liftS X.K g f E σ H->t E σ H):SSO X g st f:=#[DG h w]
theorem EO.b (h:EO X g e f):BO X g e f:=BO.w h.pe fun σ H Q ⟨fa,O,s,d,s',I,e,k⟩=>#[fa,O,s,d,s',I,e,fun v H' fa' O' a J r=>k v H' fa' O' a J (r.b fun _ z=>.inr (.inr z))]
noncomputable def l5 (f:DA):DE:=fun s=>(f s).map fun p=>(.lst p.1,p.2)
def kj {K:vF_}{O O':vL_}{s s':DS}(I:GI K g σ H fa O s) (a:StE fa O H fa' O' H') (U:GI K g σ H' fa' O' s') (e:H p=none) (J:fa'≠some p):¬ NN g.F fa' O' p:=by
 rintro(z | z | z)
 .exact I.trF z e
 .obtain⟨ys,q⟩:=I.owned (a.sub p z);rw[e] at q;cases q
 .exact J z
def FO.v {f:DA}(h:FO X g e f):EO X g e (l5 f):=EO.w h.pe fun σ H Q Y=>by
 refine Y.elim fun fa O s d s' I e k=>?_
 simp only[l5] at e;cases q:f s with
 |none=>rw[q] at e;cases e
 |some p=>
  obtain⟨ds,s1⟩:=p;rw[q] at e;simp only[US,Qt,Qa] at e;obtain⟨J,U⟩:=e;subst J;subst U;refine#[fa,O,s,ds,s1,I,q,fun p xs H' fa' O' a L J=>k _ H' fa' O' a L.gi ?_];simp only[Rep];exact#[p,xs,rfl,kj I a L.gi J L.nf,L.ls,Reps.go #[fun b ys n q=>#[q,fun z=>n (.inl z)],fun _ _ q=>q,fun _ _ q=>q,fun _ q=>q] ds xs L.rs]
end
def km {g:Gh}{K:vF_}{O:vL_}{s:DS}{o:HO}(I:GI K g σ H fa O s) (J:H p=none):Car K (NN g.F fa O) fa H (fun b=>NN g.F fa O b\/b=p) fa (o7 H p o):=by
 have c:=I.car (F9 (fa:=fa) (O:=O) (o:=o) J).stp;refine#[fun b xs n q=>?_,c.tp,c.fz,c.fe];obtain⟨Y,U⟩:=c.ls b xs n q;refine#[Y,?_];rintro(z | z)
 .exact U z
 .subst z;rw[J] at q;cases q
def df {g:Gh}{K:vF_}{O:vL_}{s:DS}(I:GI K g σ H fa O s) (J:H p=none) (r:Reps K (NN g.F fa O) fa H ds xs):NewL K g σ (o7 H p (.lst xs)) fa O s p xs ds:=
 #[I.new J,D1,SlR.go (km I J) (fun b ys _ e=>by rw[u5 (L9 e J)];exact e) I.sl,I.fd.car (km I J) (I.fd.same_new J),Reps.go (km I J) ds xs r,fun z=>I.fd.tracked z J]
def dC (d:D):DE:=fun s=>some (d,s)
def dV (i:Nat):DE:=fun s=>match s.sl[i]? with
 |some (.v d)=>some (d,s)
 |some (.own ds)=>some (.lst ds,{ s with sl:=s.sl.set i (.v (.lst ds)) })
 |_=>none
def dL (i:Nat):DE:=fun s=>match s.sl[i]? with
 |some (.v d)=>some (d,s)
 |some (.own ds)=>some (.lst ds,s)
 |_=>none
section
variable {g:Gh}
def P8 {pos:Pos}(h:PE X (.Name x pos) (bq i)):BO X g (.Name x pos) (dL i):=BO.w h fun σ H Q Y=>by
 refine Y.elim fun fa O s d s' I e k=>?_
 simp only[dL] at e;cases q:s.sl[i]? with
 |none=>rw[q] at e;cases e
 |some z=>
  rw[q] at e;cases z with
  |no=>cases e
  |v Z=>
   cases e;obtain⟨u,J,r⟩:=SlR.val I.sl q;exact#[u,J,k u H fa O StE.refl I (r.b fun _ z=>.inr (.inr z))]
  |own ds=>
   cases e;obtain⟨a,xs,J,m,U,r⟩:=SlR.own I.sl q;exact#[_,J,k _ H fa O StE.refl I #[a,xs,rfl,fun z=>I.nf a z m,U,r]]
def S6 {pos:Pos}(h:PE X (.Name x pos) (bq i)):EO X g (.Name x pos) (dV i):=EO.w h fun σ H Q hQ=>by
 refine hQ.elim fun fa O s d s' I e k=>?_
 simp only[dV] at e;cases q:s.sl[i]? with
 |none=>rw[q] at e;cases e
 |some z=>
  rw[q] at e;cases z with
  |no=>cases e
  |v d'=>
   cases e;obtain⟨u,J,r⟩:=SlR.val I.sl q;exact#[u,J,k u H fa O StE.refl I r]
  |own ds=>
   cases e;obtain⟨a,xs,J,m,e2,r⟩:=SlR.own I.sl q;have i':i<s.sl.length:=(Qr.mp q).1
   let N1:Addr->Prop:=fun b=>NN g.F fa O b/\b≠a
   have Y:Car X.K (NN g.F fa O) fa H N1 fa H:=#[fun b ys n z=>#[z,fun y=>n y.1],fun _ _ z=>z,fun _ _ z=>z,fun _ z=>z]
   have S1:=SlR.go Y (fun _ _ _ z=>z) I.sl;have R1:Rep X.K N1 fa H (.lst ds) (.ref a):=by
    simp only[Rep];exact#[a,xs,rfl,fun z=>z.2 rfl,e2,Reps.go Y ds xs r]
   obtain⟨P,hs,S2,hn⟩:=SlR.put i S1 R1;have na:a ∉ P:=hn I.nd a (by rw[q];rfl) #[ds,q] J;have eσ:σ.set i (some (V.ref a))=σ:=by
    apply UW;intro j;by_cases hj:j=i
    .subst hj;rw[J,Sj (Qr.mp J).1]
    .rw[RU (Qd hj)]
   rw[eσ] at S2;have sub:∀b∈P,b∈O:=fun b U=>hs.subset U
   have a1:StE fa O H fa P H:=#[sub,.inl rfl,fun _ _ z _=>z,fun _ z=>z]
   have Z:Car X.K N1 fa H (NN g.F fa P) fa H:=#[fun b ys n z=>#[z,fun y=>n #[by
     rcases y with y | y | y
     .exact .inl y
     .exact .inr (.inl (sub b y))
     .exact .inr (.inr y),fun w=>by
     subst w;rcases y with y | y | y
     .exact I.tr b y (I.fr b m)
     .exact na y
     .exact I.nf b y m]],fun _ _ z=>z,fun _ _ z=>z,fun _ z=>z]
   refine#[_,J,k _ H fa P a1 #[hs.nodup I.nd,SlR.go Z (fun _ _ _ z=>z) S2,fun b U=>I.fr b (sub b U),I.st,I.tr,I.ff,(I.fd.car Y fun _ _=>rfl).car Z fun _ _=>rfl,fun b z y=>I.nf b z (sub b y)] (Rep.go Z _ _ R1)]
def lj {v:V}(h:PE X e (tC v)) (r:∀K N fa H,Rep K N fa H d v):EO X g e (dC d):=EO.w h fun σ H Q U=>by
 refine U.elim fun fa O s Z s' I q k=>?_
 simp only[dC,Qt,Qa] at q;obtain⟨J,Y⟩:=q;subst J;subst Y;exact k v H fa O StE.refl I (r _ _ _ _)
def iD {i j pos}:EO X g (.Constant (.int i) j pos) (dC (.int i)):=lj cY fun _ _ _ _=>by simp only[Rep]
def T9 {i j pos}:EO X g (.Constant (.bool i) j pos) (dC (.bl i)):=lj Oz fun _ _ _ _=>by simp only[Rep]
def FC {j pos}:EO X g (.Constant .none j pos) (dC .non):=lj MX fun _ _ _ _=>by simp only[Rep]
def Iw {x j pos} (J:x.length<=sizeLine):EO X g (.Constant (.str x) j pos) (dC (.str x)):=lj DC fun _ _ _ _=>by simp only[Rep];exact#[trivial,J]
end
def J9 (K:vF_) (r:R2) (p:D->D->Option D):Prop:=
 ∀(g:Gh) (σ:L2.St) (H:Hp) (fa:vA_) (O:vL_) (s:DS) (x y:V) (d1 d2 d:D) (Q:VK),GI K g σ H fa O s->RepB K (NN g.F fa O) fa H d1 x->RepB K (NN g.F fa O) fa H d2 y->p d1 d2=some d ->
  (∀v H',StE fa O H fa O H'->GI K g σ H' fa O s->Rep K (NN g.F fa O) fa H' d v->Q v H')->r x y H Q
def zV (K:vF_) (r:V->Hp->VK->Prop) (p:D->Option D):Prop:=
 ∀(g:Gh) (σ:L2.St) (H:Hp) (fa:vA_) (O:vL_) (s:DS) (x:V) (d1 d:D) (Q:VK),GI K g σ H fa O s->RepB K (NN g.F fa O) fa H d1 x->p d1=some d ->
  (∀v H',StE fa O H fa O H'->GI K g σ H' fa O s->Rep K (NN g.F fa O) fa H' d v->Q v H')->r x H Q
def oS (K:vF_) (r:R2) (p:D->D->Option (List D)):Prop:=
 ∀(g:Gh) (σ:L2.St) (H:Hp) (fa:vA_) (O:vL_) (s:DS) (x y:V) (d1 d2:D) (ds:vD_) (Q:VK),GI K g σ H fa O s->RepB K (NN g.F fa O) fa H d1 x->RepB K (NN g.F fa O) fa H d2 y->p d1 d2=some ds ->
  (∀q xs H',StE fa O H fa O H'->NewL K g σ H' fa O s q xs ds->H q=none->Q (.ref q) H')->r x y H Q
def V9 (K:vF_) (r:List V->Hp->VK->Prop) (p:List D->Option D):Prop:=
 ∀(g:Gh) (σ:L2.St) (H:Hp) (fa:vA_) (O:vL_) (s:DS) (xs:List V) (ds:vD_) (d:D) (Q:VK),GI K g σ H fa O s->cx K (NN g.F fa O) fa H ds xs->p ds=some d ->
  (∀v H',StE fa O H fa O H'->GI K g σ H' fa O s->Rep K (NN g.F fa O) fa H' d v->Q v H')->r xs H Q
def kh (K:vF_) (r:List V->Hp->VK->Prop) (p:List D->Option (List D)):Prop:=
 ∀(g:Gh) (σ:L2.St) (H:Hp) (fa:vA_) (O:vL_) (s:DS) (xs:List V) (ds es:vD_) (Q:VK),GI K g σ H fa O s->cx K (NN g.F fa O) fa H ds xs->p ds=some es ->
  (∀q ys H',StE fa O H fa O H'->NewL K g σ H' fa O s q ys es->H q=none->Q (.ref q) H')->r xs H Q
noncomputable def a9 (p:D->D->Option D) (a b:DE):DE:=fun s=>(a s).bind fun x=>(b x.2).bind fun y=>(p x.1 y.1).map fun d=>(d,y.2)
def Q8 (p:D->D->Option (List D)) (a b:DE):DA:=fun s=>(a s).bind fun x=>(b x.2).bind fun y=>(p x.1 y.1).map fun d=>(d,y.2)
noncomputable def j4 (p:D->Option D) (a:DE):DE:=fun s=>(a s).bind fun x=>(p x.1).map fun d=>(d,x.2)
def zW {α:Type}{p:D->D->Option α}{a b:DE}{s s':DS}{d:α}(h:((a s).bind fun x=>(b x.2).bind fun y=>(p x.1 y.1).map fun d=>(d,y.2))=some (d,s')):∃x s1 y,a s=some (x,s1)/\b s1=some (y,s')/\p x y=some d:=by
 refine A7 h fun x s1 h1 h=>?_
 refine A7 h fun y s2 h2 h=>?_
 refine Q0 h fun Z U h=>?_
 simp only[Qa] at h;obtain⟨Y,J⟩:=h;subst Y;subst J;exact#[x,s1,y,h1,h2,U]
section
variable {g:Gh}{a b:Expr}{fa fb:DE}{pos:Pos}{r:R2}{p:D->D->Option D}
def jI {r:R2}{p:D->D->Option D}(hr:J9 X.K r p) (σ:L2.St) (H:Hp) (Q:VK) (h:liftE X.K g (a9 p fa fb) σ H Q):gI r (liftB X.K g fa) (liftB X.K g fb) σ H Q:=by
 refine gB_ fun G_ g_=>?_
 obtain⟨f0,O,s,d,s',I,e,k⟩:=h;obtain⟨x,s1,y,h1,h2,h3⟩:=zW e;apply g_;refine#[f0,O,s,x,s1,I,h1,fun v H1 f1 O1 a1 Z r1=>#[f1,O1,s1,y,s',Z,h2,fun u H2 J Y U I2 r2=>?_]];exact hr g σ H2 J Y s' v u x y d Q I2 (RepB.stp Z U r1) r2 h3 fun z H3 a3 I3 r3=>k z H3 J Y (a1.trans (U.trans a3)) I3 r3
def MJ {r:R2}{p:D->D->Option (List D)}(hr:oS X.K r p) (σ:L2.St) (H:Hp) (Q:VK) (h:liftF X.K g (Q8 p fa fb) σ H Q):gI r (liftB X.K g fa) (liftB X.K g fb) σ H Q:=by
 refine gB_ fun G_ g_=>?_
 obtain⟨f0,O,s,d,s',I,e,k⟩:=h;obtain⟨x,s1,y,h1,h2,h3⟩:=zW e;apply g_;refine#[f0,O,s,x,s1,I,h1,fun v H1 f1 O1 U I1 r1=>#[f1,O1,s1,y,s',I1,h2,fun u H2 Y Z J I2 r2=>?_]];exact hr g σ H2 Y Z s' v u x y d Q I2 (RepB.stp I1 J r1) r2 h3 fun q xs H3 a3 L e1=>k q xs H3 Y Z (U.trans (J.trans a3)) L (U.mon _ (J.mon _ e1))
def Jp {J:Operator}(ho:OpR X (binaryOp J) r) (Y:J9 X.K r p) (Z:BO X g a fa) (U:BO X g b fb):EO X g (.BinOp a J b pos) (a9 p fa fb):=EO.w (mM ho Z.pe U.pe) (jI Y)
def Ac {J:Operator}{p:D->D->Option (List D)}(ho:OpR X (binaryOp J) r) (Y:oS X.K r p) (Z:BO X g a fa) (U:BO X g b fb):FO X g (.BinOp a J b pos) (Q8 p fa fb):=FO.w (mM ho Z.pe U.pe) (MJ Y)
def jT {J:CmpOp}(ho:OpR X (compareOp J) r) (Z:J9 X.K r p) (ha:BO X g a fa) (U:BO X g b fb) (Y:behindInMarks J b=false):EO X g (.Compare a [J] [b] pos) (a9 p fa fb):=EO.w (xm ho ha.pe U.pe Y) (jI Z)
def Lp {r:R2}(ho:IxR X r) (U:J9 X.K r p) (Y:BO X g a fa) (J:BO X g b fb) (Z:Bm b):EO X g (.Subscript a b pos) (a9 p fa fb):=EO.w (zd ho Y.pe J.pe Z) (jI U)
def JS {J:UnaryOp}{r:V->Hp->VK->Prop}{p:D->Option D}(ho:jO X (unaryOp J) r) (hr:zV X.K r p) (ha:BO X g a fa):EO X g (.UnaryOp J a pos) (j4 p fa):=EO.w (Es ho ha.pe) fun σ H Q hQ=>by
 refine hQ.elim fun f0 O s d s' I e k=>?_
 refine A7 e fun x s1 h1 h=>?_
 refine Q0 h fun d' h3 h=>?_
 simp only[Qa] at h;obtain⟨e1,Z⟩:=h;subst e1;subst Z;exact#[f0,O,s,x,s1,I,h1,fun v H1 f1 O1 U I1 r1=>hr g σ H1 f1 O1 s1 v x d' Q I1 r1 h3 fun z H3 a3 I3 Y=>k z H3 f1 O1 (U.trans a3) I3 Y]
noncomputable def dB (f:DE):DT:=fun s=>(f s).bind fun x=>match x.1 with | .bl b=>some (b,x.2) | _=>none
def iX {f:DE}{s s':DS}{b:Bool}(h:dB f s=some (b,s')):f s=some (.bl b,s'):=by
 refine A7 h fun x s1 h1 h=>?_
 cases x with
 |bl c=>simp only[Qt,Qa] at h;rw[h1,h.1,h.2]
 |_=>cases h
def qJ {J:CmpOp}(ho:OpR X (compareOp J) r) (Y:J9 X.K r p) (ha:BO X g a fa) (U:BO X g b fb) (hm:behindInMarks J b=false):TO X g (.Compare a [J] [b] pos) (dB (a9 p fa fb)):=
 TO.w (uG ho ha.pe U.pe hm) fun σ H Q ⟨Z,O,s,d,s',I,e,k⟩=>jI Y σ H _ #[Z,O,s,.bl d,s',I,iX e,fun v H' f1 O1 a I1 r=>by
  simp only[Rep] at r;exact#[d,r,k H' f1 O1 a I1]]
def v7:D->Option Bool
 |.non=>some false
 |.bl b=>some b
 |.int i=>some (i != 0)
 |.str x=>some ((x.length:Int) != 0)
 |.tup ds=>some (!ds.isEmpty)
 |.lst ds=>some (!ds.isEmpty)
 |_=>none
noncomputable def j8 (f:DE):DT:=fun s=>(f s).bind fun x=>(v7 x.1).map fun b=>(b,x.2)
def xh {α β:Type}{xs:List α}{ys:List β}(h:xs.length=ys.length):xs.isEmpty=ys.isEmpty:=by cases xs <;> cases ys <;> simp_all
def N5 {e:Expr}{f:DE}(h:BO X g e f) (he:∀whole,isTrue e X.env whole=(do let v <-whole;standAt e.pos;holding [v] (truthy v)):=by intro _;rfl):TO X g e (j8 f):=
 TO.w (Ds h.pe he) fun σ H Q hQ=>by
  refine hQ.elim fun Y O s d s' I e k=>?_
  obtain⟨⟨x,s1⟩,h1,h.pe⟩:=RI.mp e;obtain⟨d',J,h.pe⟩:=TU.mp h.pe;simp only[Qa] at h.pe;obtain⟨e1,U⟩:=h.pe;subst e1;subst U;refine#[Y,O,s,x,s1,I,h1,fun v H' f1 O1 a Z r=>#[d',?_,k H' f1 O1 a Z]];cases x with
  |non=>simp only[RepB,Rep] at r;subst r;cases J;rfl
  |bl b=>simp only[RepB,Rep] at r;subst r;cases J;rfl
  |int i=>simp only[RepB,Rep] at r;subst r;cases J;rfl
  |str x=>simp only[RepB,Rep] at r;obtain⟨r,l⟩:=r;subst r;cases J;exact#[l,rfl]
  |tup ds=>
   simp only[RepB,Rep] at r;obtain⟨c,xs,r,q,w⟩:=r;subst r;cases J;exact .inr (.inl #[xs,q,by rw[xh w.length]])
  |lst ds=>
   obtain⟨c,xs,r,_,q,w⟩:=r;subst r;cases J;exact .inl #[xs,SqL.of q,by rw[xh w.length]]
  |feed=>cases J
  |scr _=>cases J
  |fn _=>cases J
  |exc _ _=>cases J
noncomputable def o8 (a b:DT):DT:=fun s=>(a s).bind fun x=>if x.1=true then b x.2 else some (false,x.2)
noncomputable def n9 (a b:DT):DT:=fun s=>(a s).bind fun x=>if x.1=true then some (true,x.2) else b x.2
def l8 (a:DT):DT:=fun s=>(a s).map fun x=>(!x.1,x.2)
noncomputable def u4 (a b:DE):DE:=fun s=>(dB a s).bind fun x=>if x.1=true then b x.2 else some (.bl false,x.2)
def w4 (a b:DE):DE:=fun s=>(dB a s).bind fun x=>if x.1=true then some (.bl true,x.2) else b x.2
def v8 (a:DE):DE:=fun s=>(dB a s).map fun x=>(.bl (!x.1),x.2)
variable {ta tb:DT}{rest:List Expr}
def KG (h:TO X g a ta):WO X g (.BoolOp .And [a] pos) ta:=#[JY h.pe]
def gS (h:TO X g a ta):WO X g (.BoolOp .Or [a] pos) ta:=#[Fy h.pe]
def gu (ha:TO X g a ta) (Y:WO X g (.BoolOp .And (b::rest) pos) tb):WO X g (.BoolOp .And (a::b::rest) pos) (o8 ta tb):=WO.w (GQ ha.pe Y.pe) fun σ H Q hQ=>by
 refine hQ.elim fun f0 O s d s' I e k=>?_
 refine A7 e fun x s1 h1 h=>?_
 refine#[f0,O,s,x,s1,I,h1,fun H1 f1 O1 J U=>?_];cases x with
 |true=>rw[iR rfl] at h ⊢;exact#[f1,O1,s1,d,s',U,h,fun H2 f2 O2 a2 Z=>k H2 f2 O2 (J.trans a2) Z]
 |false=>
  rw[iU PL] at h ⊢;simp only[Qt,Qa] at h;obtain⟨e1,e2⟩:=h;subst e1;subst e2;exact k H1 f1 O1 J U
def S3 (ha:TO X g a ta) (Y:WO X g (.BoolOp .Or (b::rest) pos) tb):WO X g (.BoolOp .Or (a::b::rest) pos) (n9 ta tb):=WO.w (IK ha.pe Y.pe) fun σ H Q hQ=>by
 refine hQ.elim fun f0 O s d s' I e k=>?_
 refine A7 e fun x s1 h1 h=>?_
 refine#[f0,O,s,x,s1,I,h1,fun H1 f1 O1 J U=>?_];cases x with
 |false=>rw[iU PL] at h ⊢;exact#[f1,O1,s1,d,s',U,h,fun H2 f2 O2 a2 Z=>k H2 f2 O2 (J.trans a2) Z]
 |true=>
  rw[iR rfl] at h ⊢;simp only[Qt,Qa] at h;obtain⟨e1,e2⟩:=h;subst e1;subst e2;exact k H1 f1 O1 J U
def WO.t {f:DT}(h:WO X g e f):TO X g e f:=#[h.pe.pt]
def Q6 (Y:TO X g a ta):TO X g (.UnaryOp .Not a pos) (l8 ta):=TO.w (Nl Y.pe) fun σ H Q hQ=>by
 refine hQ.elim fun Z O s d s' I e k=>?_
 refine mapP e fun x s1 h1 h=>?_
 simp only[Qa] at h;obtain⟨e1,U⟩:=h;subst e1;subst U;exact#[Z,O,s,x,s1,I,h1,fun H1 f1 O1 J I1=>k H1 f1 O1 J I1]
def iG {op} {f:DE}(h:EO X g a f):EO X g (.BoolOp op [a] pos) f:=#[JJ h.pe]
def mr (ha:EO X g a fa) (Y:EO X g (.BoolOp .And (b::rest) pos) fb):EO X g (.BoolOp .And (a::b::rest) pos) (u4 fa fb):=EO.w (Ke ha.pe Y.pe) fun σ H Q hQ=>by
 refine hQ.elim fun f0 O s d s' I e k=>?_
 refine A7 e fun x s1 h1 h=>?_
 refine#[f0,O,s,_,s1,I,iX h1,fun v H1 f1 O1 J U r=>#[x,by simpa only[Rep] using r,?_]];cases x with
 |true=>rw[iR rfl] at h ⊢;exact#[f1,O1,s1,d,s',U,h,fun v H2 f2 O2 a2 Z=>k v H2 f2 O2 (J.trans a2) Z]
 |false=>
  rw[iU PL] at h ⊢;simp only[Qt,Qa] at h;obtain⟨e1,e2⟩:=h;subst e1;subst e2;exact k _ H1 f1 O1 J U (by simp only[Rep])
def xS (ha:EO X g a fa) (Y:EO X g (.BoolOp .Or (b::rest) pos) fb):EO X g (.BoolOp .Or (a::b::rest) pos) (w4 fa fb):=EO.w (NM ha.pe Y.pe) fun σ H Q hQ=>by
 refine hQ.elim fun f0 O s d s' I e k=>?_
 refine A7 e fun x s1 h1 h=>?_
 refine#[f0,O,s,_,s1,I,iX h1,fun v H1 f1 O1 J U r=>#[x,by simpa only[Rep] using r,?_]];cases x with
 |false=>rw[iU PL] at h ⊢;exact#[f1,O1,s1,d,s',U,h,fun v H2 f2 O2 a2 Z=>k v H2 f2 O2 (J.trans a2) Z]
 |true=>
  rw[iR rfl] at h ⊢;simp only[Qt,Qa] at h;obtain⟨e1,e2⟩:=h;subst e1;subst e2;exact k _ H1 f1 O1 J U (by simp only[Rep])
def rC (Y:EO X g a fa):EO X g (.UnaryOp .Not a pos) (v8 fa):=EO.w (Dx Y.pe) fun σ H Q hQ=>by
 refine hQ.elim fun Z O s d s' I e k=>?_
 refine mapP e fun x s1 h1 h=>?_
 simp only[Qa] at h;obtain⟨e1,U⟩:=h;subst e1;subst U;exact#[Z,O,s,_,s1,I,iX h1,fun v H1 f1 O1 J I1 r=>#[x,by simpa only[Rep] using r,k _ H1 f1 O1 J I1 (by simp only[Rep])]]
noncomputable def u7 (c:DT) (a b:DE):DE:=fun s=>(c s).bind fun x=>if x.1=true then a x.2 else b x.2
def EA {c:Expr}(hc:TO X g c fc) (ha:EO X g a fa) (hb:EO X g b fb):EO X g (.IfExp c a b pos) (u7 fc fa fb):=EO.w (Mu hc.pe ha.pe hb.pe) fun σ H Q hQ=>by
 refine hQ.elim fun f0 O s d s' I e k=>?_
 refine A7 e fun x s1 h1 h=>?_
 refine#[f0,O,s,x,s1,I,h1,fun H1 f1 O1 a1 I1=>?_];cases x with
 |false=>rw[iU PL] at h ⊢;exact#[f1,O1,s1,d,s',I1,h,fun v H2 U Z Y J=>k v H2 U Z (a1.trans Y) J]
 |true=>rw[iR rfl] at h ⊢;exact#[f1,O1,s1,d,s',I1,h,fun v H2 U Z Y J=>k v H2 U Z (a1.trans Y) J]
def a8:DA:=fun s=>some ([],s)
def a7 (a:DE) (r:DA):DA:=fun s=>(a s).bind fun x=>(r x.2).map fun y=>(x.1::y.1,y.2)
def iu {a:DE}{r:DA}{s s':DS}(h:a7 a r s=some (ds,s')):∃d s1 es,a s=some (d,s1)/\r s1=some (es,s')/\ds=d::es:=by
 refine A7 h fun x s1 h1 h=>?_
 refine mapP h fun y s2 h2 h=>?_
 simp only[Qa] at h;exact#[x,s1,y,h1,by rw[h2,h.2],h.1.symm]
variable {fr:DA}
def mR:AO X g [] a8:=AO.w V3 fun σ H Q J=>by
 refine J.elim fun Y O s d s' I e k=>?_
 simp only[a8,Qt,Qa] at e;obtain⟨Z,U⟩:=e;subst Z;subst U;exact k [] H Y O StE.refl I (by simp only[Reps])
def nO (ha:EO X g a fa) (hr:AO X g es fr) (hs:starEach (a::es) X.env=(false,eval a X.env)::starEach es X.env:=by rfl):AO X g (a::es) (a7 fa fr):=AO.w (P1 ha.pe hr.pe hs) fun σ H Q hQ=>by
 refine hQ.elim fun f0 O s ds s' I e k=>?_
 obtain⟨d,s1,es,h1,h2,h3⟩:=iu e;subst h3;refine#[f0,O,s,d,s1,I,h1,fun v H1 f1 O1 Y J r1=>#[f1,O1,s1,es,s',J,h2,fun vs H2 f2 O2 U Z r2=>?_]];refine k (v::vs) H2 f2 O2 (Y.trans U) Z ?_;simp only[Reps];exact#[v,vs,rfl,Rep.stp J U.stp r1,r2]
def jh:BAO X g [] a8:=BAO.w V3 fun σ H Q J=>by
 refine J.elim fun Y O s d s' I e k=>?_
 simp only[a8,Qt,Qa] at e;obtain⟨Z,U⟩:=e;subst Z;subst U;exact k [] H Y O StE.refl I (by simp only[cx])
def LN (ha:BO X g a fa) (hr:BAO X g es fr) (hs:starEach (a::es) X.env=(false,eval a X.env)::starEach es X.env:=by rfl):BAO X g (a::es) (a7 fa fr):=BAO.w (P1 ha.pe hr.pe hs) fun σ H Q hQ=>by
 refine hQ.elim fun f0 O s ds s' I e k=>?_
 obtain⟨d,s1,es,h1,h2,h3⟩:=iu e;subst h3;refine#[f0,O,s,d,s1,I,h1,fun v H1 f1 O1 Y J r1=>#[f1,O1,s1,es,s',J,h2,fun vs H2 f2 O2 U Z r2=>?_]];exact k (v::vs) H2 f2 O2 (Y.trans U) Z #[v,vs,rfl,RepB.stp J U r1,r2]
noncomputable def i7 (f:DA):DE:=fun s=>(f s).bind fun x=>if x.1.length<=sizeLine then some (.tup x.1,x.2) else none
noncomputable def n8 (f:DA):DA:=fun s=>(f s).bind fun x=>if x.1.length<=sizeLine then some (x.1,x.2) else none
def zH {x1} (h:AO X g es fr):EO X g (.Tuple es x1 pos) (i7 fr):=EO.w (tL h.pe) fun σ H Q hQ=>by
 refine hQ.elim fun f0 O s d s' I e k=>?_
 obtain⟨⟨ds,s1⟩,h1,h.pe⟩:=RI.mp e;by_cases J:ds.length<=sizeLine
 .rw[iR J] at h.pe;simp only[Qt,Qa] at h.pe;obtain⟨e1,e2⟩:=h.pe;subst e1;subst e2;refine#[f0,O,s,ds,s1,I,h1,fun vs H1 f1 O1 a1 U Z=>#[by rw[Z.length];exact J,fun p hp=>?_]];have Y:StE f1 O1 H1 f1 O1 (o7 H1 p (.tup vs)):=F9 hp;refine k _ _ f1 O1 (a1.trans Y) (U.new hp) ?_;simp only[Rep];exact#[p,vs,rfl,SqT.of D1,Reps.stp U Y.stp Z]
 .rw[iU J] at h.pe;cases h.pe
def tZ (h:AO X g es fr):FO X g (.List es pos) (n8 fr):=FO.w (nj h.pe) fun σ H Q hQ=>by
 refine hQ.elim fun f0 O s d s' I e k=>?_
 obtain⟨⟨ds,s1⟩,h1,h.pe⟩:=RI.mp e;by_cases J:ds.length<=sizeLine
 .rw[iR J] at h.pe;simp only[Qt,Qa] at h.pe;obtain⟨e1,e2⟩:=h.pe;subst e1;subst e2;refine#[f0,O,s,ds,s1,I,h1,fun vs H1 f1 O1 Y I1 Z=>#[by rw[Z.length];exact J,fun p U=>?_]];have a2:StE f1 O1 H1 f1 O1 (o7 H1 p (.lst vs)):=F9 U;exact k p vs _ f1 O1 (Y.trans a2) (df I1 U Z) (Y.mon _ U)
 .rw[iU J] at h.pe;cases h.pe
end
section
variable {K:vF_}{g:Gh}{σ:L2.St}{O O':vL_}{s s':DS}
def NN.mono {F:vB_}{P:vL_}(h:∀b∈P,b∈O) {b:Addr}(z:NN F fa P b):NN F fa O b:=by
 rcases z with z | z | z
 .exact .inl z
 .exact .inr (.inl (h b z))
 .exact .inr (.inr z)
def xp {F:vB_}(h:∀b,NN F fa O b->N b):Car K N fa H (NN F fa O) fa H:=#[fun b xs n q=>#[q,fun z=>n (h b z)],fun _ _ q=>q,fun _ _ q=>q,fun _ q=>q]
theorem DI.put (I:GI K g σ H fa O s) (i:Nat) {v:V}(r:Rep K (NN g.F fa O) fa H d v):∃P,(∀b∈P,b∈O)/\GI K g (σ.set i (some v)) H fa P { s with sl:=s.sl.set i (.v d) }:=by
 obtain⟨P,U,S,_⟩:=SlR.put i I.sl r;have sub:∀b∈P,b∈O:=fun b J=>U.subset J
 have c:Car K (NN g.F fa O) fa H (NN g.F fa P) fa H:=xp fun b=>NN.mono sub
 exact#[P,sub,U.nodup I.nd,SlR.go c (fun _ _ _ z=>z) S,fun b J=>I.fr b (sub b J),I.st,I.tr,I.ff,I.fd.car c fun _ _=>rfl,fun b z y=>I.nf b z (sub b y)]
def gM {P:vL_}(h:∀b∈P,b∈O):StE fa O H fa P H:=#[h,.inl rfl,fun _ _ e _=>e,fun _ e=>e]
def NewL.put (L:NewL K g σ H fa O s p xs ds) (i:Nat) (hi:i<s.sl.length) (U:g.H0 p=none) (Y:p ∉ O):∃P,(∀b∈P,b=p\/b∈O)/\GI K g (σ.set i (some (.ref p))) H fa P { s with sl:=s.sl.set i (.own ds) }:=by
 obtain⟨P,h1,h2,S⟩:=SlR.putN i L.sl hi Y L.gi.nd L.ls L.rs;have c:Car K (fun b=>NN g.F fa O b\/b=p) fa H (NN g.F fa P) fa H:=xp fun b z=>by
  rcases z with z | z | z
  .exact .inl (.inl z)
  .rcases h1 b z with y | y
   .exact .inr y
   .exact .inl (.inr (.inl y))
  .exact .inl (.inr (.inr z))
 refine#[P,h1,h2,SlR.go c (fun _ _ _ z=>z) S,fun b J=>?_,L.gi.st,L.gi.tr,L.gi.ff,L.fd.car c fun _ _=>rfl,fun b z J=>?_]
 .rcases h1 b J with y | y
  .rw[y];exact U
  .exact L.gi.fr b y
 .rcases h1 b J with y | y
  .rw[y] at z;exact L.nf z
  .exact L.gi.nf b z y
theorem DI.rew (I:GI K g σ H fa O s) {es:vD_}(Y:s.sl[i]? = some (.own ds)) (Z:σ[i]? = some (some (.ref a))) (m:a∈O) (e3:H a=some (.lst xs)) (r:Reps K (NN g.F fa O) fa H es ys) :
  GI K g σ (o7 H a (.lst ys)) fa O { s with sl:=s.sl.set i (.own es) }/\Stp fa O H fa O (o7 H a (.lst ys)):=by
 have U:Stp fa O H fa O (o7 H a (.lst ys)):=#[fun b J=>.inl J,.inl rfl,fun b u e n _=>by
  rw[u5 (show b≠a from fun z=>n (by rw[z];exact m))];exact e,fun b z=>by
  by_cases J:b=a
  .subst J;rw[D1] at z;cases z
  .rw[u5 J] at z;exact z]
 have c:=I.car U;have k:∀b u,b≠a->H b=some u->o7 H a (.lst ys) b=some u:=fun b u n e=>by rw[u5 n];exact e
 refine#[#[I.nd,SlR.rew I.sl I.nd (fun b J=>.inr (.inl J)) Y Z D1 c k (Reps.go c es ys r),I.fr,?_,I.tr,I.ff,I.fd.car c fun b J=>?_,I.nf],U]
 .refine#[fun b J=>(by cases J),I.st.fe,fun b u e n f=>?_,fun b z=>I.st.mon b (U.mon b z)];refine k b u (fun z=>?_) (I.st.same b u e n f);rw[z,I.fr a m] at e;cases e
 .refine u5 fun z=>?_
  subst z;exact I.nf _ J m
end
def FlK.shift {K:vF_}{g:Gh}{E:Ends}{O O':vL_}{s:DS}(a:Stp fa O H fa' O' H') (h:FlK K g E fa O H fl s):FlK K g E fa' O' H' fl s:=by
 cases fl with
 |next=>exact fun σ' H2 Y U Z J=>h σ' H2 Y U (a.trans Z) J
 |brk=>exact fun σ' H2 Y U Z J=>h σ' H2 Y U (a.trans Z) J
 |cont=>exact fun σ' H2 Y U Z J=>h σ' H2 Y U (a.trans Z) J
 |ret d=>exact fun σ' v H2 Y U Z J=>h σ' v H2 Y U (a.trans Z) J
 |thr c ds=>exact fun σ' C dx od xs H2 Y U Z J=>h σ' C dx od xs H2 Y U (a.trans Z) J
def j9:DM:=fun s=>some (.next,s)
def u9 (b:DM) (x:Fl × DS):Option (Fl × DS):=match x.1 with
 |.next=>b x.2
 |.brk=>some (.brk,x.2)
 |.cont=>some (.cont,x.2)
 |.ret d=>some (.ret d,x.2)
 |.thr c ds=>some (.thr c ds,x.2)
noncomputable def d6 (a b:DM):DM:=fun s=>(a s).bind (u9 b)
section
variable {g:Gh}{st:Stmt}{rest:List Stmt}{pos:Pos}{a b:DM}{f:DE}
def K2:SSO X g [] j9:=SSO.w Kc fun E σ H J=>by
 refine J.elim fun fa O s fl s' I e k=>?_
 cases e;exact k σ H fa O Stp.refl I
def D5 (h:SO X g st a):SSO X g [st] a:=#[ER h.pe]
def B0 (h:SO X g st a) (U:SSO X g rest b):SSO X g (st::rest) (d6 a b):=SSO.w (IJ h.pe U.pe) fun E σ H Z=>by
 refine Z.elim fun fa O s fl s' I e k=>?_
 refine A7 e fun f1 s1 h1 h2=>?_
 refine#[fa,O,s,f1,s1,I,h1,?_];cases f1 with
 |next=>exact fun σ' H' f1 O1 J Y=>#[f1,O1,s1,fl,s',Y,h2,k.shift J]
 |brk=>cases h2;exact k
 |cont=>cases h2;exact k
 |ret d=>cases h2;exact k
 |thr c ds=>cases h2;exact k
noncomputable def i8 (f:DE):DM:=fun s=>(f s).map fun x=>(.ret x.1,x.2)
def M4 (Y:EO X g e f):SO X g (.Return (some e) pos) (i8 f):=SO.w (wI Y.pe) fun E σ H Z=>by
 refine Z.elim fun fa O s fl s' I q k=>?_
 refine mapP q fun d s1 h1 h2=>?_
 cases h2;exact#[fa,O,s,d,s1,I,h1,fun v H' f1 O1 J U r=>k σ v H' f1 O1 J.stp U r]
noncomputable def j7 (c:DT) (a b:DM):DM:=fun s=>(c s).bind fun x=>if x.1=true then a x.2 else b x.2
def L6 {c:Expr}(hc:TO X g c fc) (Z:SSO X g la a) (Y:SSO X g lb b):SO X g (.If c la lb pos) (j7 fc a b):=SO.w (yM hc.pe Z.pe Y.pe) fun E σ H hQ=>by
 refine hQ.elim fun fa O s fl s' I e k=>?_
 refine A7 e fun x s1 h1 h=>?_
 refine#[fa,O,s,x,s1,I,h1,fun H1 f1 O1 J U=>?_];cases x with
 |false=>rw[iU PL] at h ⊢;exact#[f1,O1,s1,fl,s',U,h,k.shift J.stp]
 |true=>rw[iR rfl] at h ⊢;exact#[f1,O1,s1,fl,s',U,h,k.shift J.stp]
def liftG (K:vF_) (g:Gh) (t:D->DS->Option DS):TG:=fun v σ H Q=>∃fa O s d s',GI K g σ H fa O s/\Rep K (NN g.F fa O) fa H d v/\t d s=some s'/\∀σ' H' fa' O',Stp fa O H fa' O' H'->GI K g σ' H' fa' O' s'->Q σ' H'
def liftGs (K:vF_) (g:Gh) (t:List D->DS->Option DS):aM:=fun vs σ H Q=>∃fa O s ds s',GI K g σ H fa O s/\Reps K (NN g.F fa O) fa H ds vs/\t ds s=some s'/\∀σ' H' fa' O',Stp fa O H fa' O' H'->GI K g σ' H' fa' O' s'->Q σ' H'
section
variable {K:vF_}{g:Gh}{σ:L2.St}{Q:L2.St->Hp->Prop}
def liftG.elim {t:D->DS->Option DS}{v:V}(h:liftG K g t v σ H Q) (k:∀fa O s d s',GI K g σ H fa O s->Rep K (NN g.F fa O) fa H d v->t d s=some s'->(∀σ' H' fa' O',Stp fa O H fa' O' H'->GI K g σ' H' fa' O' s'->Q σ' H')->G):G:=by
 refine gB_ fun U J=>?_
 obtain⟨fa,O,s,d,s',a,r,b,c⟩:=h;apply J;exact k fa O s d s' a r b c
def liftGs.elim {t:List D->DS->Option DS}{v:List V}(h:liftGs K g t v σ H Q) (k:∀fa O s d s',GI K g σ H fa O s->Reps K (NN g.F fa O) fa H d v->t d s=some s'->(∀σ' H' fa' O',Stp fa O H fa' O' H'->GI K g σ' H' fa' O' s'->Q σ' H')->G):G:=by
 refine gB_ fun U J=>?_
 obtain⟨fa,O,s,d,s',a,r,b,c⟩:=h;apply J;exact k fa O s d s' a r b c
end
structure GO (X:Cx) (g:Gh) (e:Expr) (t:D->DS->Option DS):Prop where
 pe:PG X e (liftG X.K g t)
structure GsO (X:Cx) (g:Gh) (es:List Expr) (t:List D->DS->Option DS):Prop where
 pe:cQ X es (liftGs X.K g t)
def f9 (i:Nat) (d:D):DS->Option DS:=fun s=>some { s with sl:=s.sl.set i (.v d) }
def Gj {t t':TG}(h:PG X e t) (w:∀v σ H Q,t' v σ H Q->t v σ H Q):PG X e t':=fun pins s σ H v u Q I r q=>h pins s σ H v u Q I r (w v σ H Q q)
def OX {t t':aM}(h:cQ X es t) (w:∀v σ H Q,t' v σ H Q->t v σ H Q):cQ X es t':=fun pins s σ H v u Q I r q=>h pins s σ H v u Q I r (w v σ H Q q)
theorem GO.w {f:D->DS->Option DS}{t:TG}(h:PG X e t) (w:∀v σ H Q,liftG X.K g f v σ H Q->t v σ H Q):GO X g e f:=#[Gj h w]
theorem GsO.w {f:List D->DS->Option DS}{t:aM}(h:cQ X es t) (w:∀v σ H Q,liftGs X.K g f v σ H Q->t v σ H Q):GsO X g es f:=#[OX h w]
def LA (h:PG X (.Name x pos) (X0 i)):GO X g (.Name x pos) (f9 i):=GO.w h fun v σ H Q U=>by
 refine U.elim fun fa O s d s' I r e k=>?_
 cases e;obtain⟨P,sub,J⟩:=I.put i r;exact k _ H fa P (gM sub).stp J
def t6:List D->DS->Option DS
 |[],s=>some s
 |_::_,_=>none
def o6 (t:D->DS->Option DS) (u:List D->DS->Option DS):List D->DS->Option DS
 |[],_=>none
 |d::r,s=>(t d s).bind (u r)
def LQ:GsO X g [] t6:=GsO.w pP fun v σ H Q J=>by
 refine J.elim fun fa O s ds s' I r e k=>?_
 cases ds with
 |nil=>cases e;simp only[Reps] at r;exact#[r,k σ H fa O Stp.refl I]
 |cons d r'=>cases e
def Jg {es:List Expr}{t:D->DS->Option DS}{u:List D->DS->Option DS}(h:GO X g e t) (Y:GsO X g es u) (hs:(assignEach (e::es) X.env).map (·.2)=assign e X.env::(assignEach es X.env).map (·.2):=by rfl):GsO X g (e::es) (o6 t u):=
 GsO.w (jj h.pe Y.pe hs) fun v σ H Q hQ=>by
  refine hQ.elim fun fa O s ds s' I r e k=>?_
  cases ds with
  |nil=>cases e
  |cons d r'=>
   refine Y1 e fun s1 h1 h2=>?_
   simp only[Reps] at r;obtain⟨x,ys,rfl,Z,ry⟩:=r;exact#[x,ys,rfl,fa,O,s,d,s1,I,Z,h1,fun σ1 H1 f1 O1 J I1=>#[f1,O1,s1,r',s',I1,Reps.stp I J ry,h2,fun σ2 H2 f2 O2 a2 U=>k σ2 H2 f2 O2 (J.trans a2) U]]
def r8 (n:Nat) (u:List D->DS->Option DS) (d:D) (s:DS):Option DS:=match d with
 |.tup ds=>if ds.length=n then u ds s else none
 |_=>none
def Gr {es:List Expr}{k:Nat}{n:Nat}{u:List D->DS->Option DS}(Z:X.calm=true) (h:GsO X g es u) (hn:(assignEach es X.env).length=n:=by rfl) (J:(assignEach es X.env).findIdx? (·.1)=none:=by rfl):GO X g (.Tuple es k pos) (r8 n u):=
 GO.w (nV Z h.pe hn J) fun v σ H Q Y=>by
  refine Y.elim fun fa O s d s' I r e k=>?_
  cases d with
  |tup ds=>
   simp only[r8] at e;by_cases U:ds.length=n
   .rw[iR U] at e;simp only[Rep] at r;obtain⟨a,xs,rfl,q,w⟩:=r;exact#[a,xs,rfl,q,by rw[w.length];exact U,fa,O,s,ds,s',I,w,e,k]
   .rw[iU U] at e;cases e
  |_=>cases e
noncomputable def j5 (f:DE) (t:D->DS->Option DS):DM:=fun s=>(f s).bind fun x=>(t x.1 x.2).map fun s'=>(.next,s')
def ur {f:DE}{t:D->DS->Option DS}(E:Ends) (σ:L2.St) (H:Hp) (h:liftS X.K g (j5 f t) E σ H):ia (liftE X.K g f) (liftG X.K g t) E σ H:=by
 refine gB_ fun G_ g_=>?_
 obtain⟨fa,O,s,fl,s',I,q,k⟩:=h;apply g_;refine A7 q fun d s1 h1 h2=>?_
 refine Q0 h2 fun s2 h3 Z=>?_
 cases Z;exact#[fa,O,s,d,s1,I,h1,fun v H1 f1 O1 J Y r=>#[f1,O1,s1,d,_,Y,r,h3,fun σ2 H2 f2 O2 a2 U=>k σ2 H2 f2 O2 (J.stp.trans a2) U]]
def Gk {tg:Expr}{t:D->DS->Option DS}(J:EO X g e f) (Y:GO X g tg t) (Z:swapsWithSole [tg] e pos.line X.env=pure false:=by rfl) (U:swappedStores [tg] e X.env=pure none:=by rfl)
  (h1:(assignEach [tg] X.env).map (·.2)=[assign tg X.env]:=by rfl):SO X g (.Assign [tg] e pos) (j5 f t):=SO.w (tK J.pe Y.pe Z U h1) ur
def rb {i:Nat}{x:Str}{pos':Pos}(hN:X.N.Nodup) (hi:X.N[i]? = some x) (hx:bU X.env.scope x) (he:EO X g e f) (hs:swapsWith e (some (.Name x pos')) pos.line X.env=pure false:=by rfl) (hf:X.fn x=true\/X.env.scope.names.lookup x=some .local:=by first | exact .inl rfl | exact .inr rfl | assumption) :
  SO X g (.Assign [.Name x pos'] e pos) (j5 f (f9 i)):=SO.w (zi hN hi hx he.pe hs hf) fun E σ H h=>by
 obtain⟨fa,O,s,d,s1,I,h1,k⟩:=ur E σ H h;refine#[fa,O,s,d,s1,I,h1,fun v H1 f1 O1 J I1 r=>?_];obtain⟨Z,O2,s2,d2,s3,U,r2,Y,k2⟩:=k v H1 f1 O1 J I1 r;cases Y;obtain⟨P,sub,I'⟩:=U.put i r2;exact k2 _ H1 Z P (gM sub).stp I'
noncomputable def E3 (i:Nat) (f:DA):DM:=fun s=>(f s).bind fun x=>if i<x.2.sl.length then some (.next,{ x.2 with sl:=x.2.sl.set i (.own x.1) }) else none
def jF {i:Nat}{x:Str}{f:DA}{pos':Pos}(hN:X.N.Nodup) (hi:X.N[i]? = some x) (hx:bU X.env.scope x) (he:FO X g e f) (hs:swapsWith e (some (.Name x pos')) pos.line X.env=pure false:=by rfl) (hf:X.fn x=true\/X.env.scope.names.lookup x=some .local:=by first | exact .inl rfl | exact .inr rfl | assumption) :
  SO X g (.Assign [.Name x pos'] e pos) (E3 i f):=SO.w (zi hN hi hx he.pe hs hf) fun E σ H hQ=>by
 refine hQ.elim fun fa O s fl s' I q k=>?_
 refine A7 q fun ds s1 h1 h2=>?_
 by_cases Y:i<s1.sl.length
 .simp only[] at h2;rw[iR Y] at h2;cases h2;refine#[fa,O,s,ds,s1,I,h1,fun p xs H1 f1 O1 J L U=>?_];have Z:p ∉ O1:=fun z=>by
   obtain⟨ys,e⟩:=I.owned (J.sub p z);rw[U] at e;cases e
  obtain⟨P,sub,I'⟩:=L.put i Y (I.st.mon p U) Z;refine k _ H1 f1 P #[fun b hb=>?_,J.fe,fun b u e _ n=>J.same b u e n,J.mon] I';rcases sub b hb with y | y
  .exact .inr (by rw[y];exact U)
  .exact .inl (J.sub b y)
 .simp only[] at h2;rw[iU Y] at h2;cases h2
noncomputable def N8 (i:Nat) (f:DE):DM:=fun s=>match s.sl[i]? with
 |some (.own _)=>(f s).bind fun x=>match x.2.sl[i]? with
  |some (.own ds)=>if ds.length<sizeLine then some (.next,{ x.2 with sl:=x.2.sl.set i (.own (ds++[x.1])) }) else none
  |_=>none
 |_=>none
def Mm {i:Nat}{x:Str}{p1 p2 Z p4:Pos}(hv:PE X (.Name x p1) (bq i)) (he:EO X g e f) (U:attributeBase (.Name x p1) ("append" : Str) X.env (eval (.Name x p1) X.env)=eval (.Name x p1) X.env:=by rfl)
  (hfew:((backTo Z (starEach [e] X.env)).all (fun x=>!x.1)&&(backToKw Z (keywordEach [] X.env)).all (fun x=>x.1.isSome)
   && decide ([e].length+([]:List Keyword).length+(if ([]:List Keyword).isEmpty then 0 else 1)<30))=true:=by rfl)
  (Y:(p2.endLine == Z.line)=true:=by rfl) (hs:starEach [e] X.env=(false,eval e X.env)::starEach [] X.env:=by rfl) (J:(backTo Z (starEach [] X.env)).any (·.1)=false:=by rfl)
  (hsw:swapsWith (.Call (.Attribute (.Name x p1) ("append" : Str) p2) [e] [] Z) none p4.line X.env=pure false:=by rfl) :
  SO X g (.Expr (.Call (.Attribute (.Name x p1) ("append" : Str) p2) [e] [] Z) p4) (N8 i f):=
 SO.w (Hl (NR PySem.F.plainAttrs_list PySem.F.slot_list_append PySem.F.type_list_append Ba hv (P1 he.pe V3 hs) U hfew Y hs J) hsw) fun E σ H hQ=>by
  refine hQ.elim fun fa O s fl s' I q k=>?_
  cases q0:s.sl[i]? with
  |none=>simp only[N8,q0] at q;cases q
  |some z=>
  cases z with
  |no=>simp only[N8,q0] at q;cases q
  |v _=>simp only[N8,q0] at q;cases q
  |own ds0=>
  simp only[N8,q0] at q;obtain⟨a,xs0,e1,m,e2,_⟩:=SlR.own I.sl q0;refine A7 q fun d s1 h1 h2=>?_
  cases q2:s1.sl[i]? with
  |none=>simp only[q2] at h2;cases h2
  |some z=>
   cases z with
   |no=>simp only[q2] at h2;cases h2
   |v _=>simp only[q2] at h2;cases h2
   |own ds=>
    simp only[q2] at h2;by_cases hl:ds.length<sizeLine
    .rw[iR hl] at h2;cases h2;refine#[_,e1,.inl #[rfl,xs0,SqL.of e2],fa,O,s,d,s1,I,h1,fun v H1 f1 O1 a1 I1 r=>?_];obtain⟨b,xs,e3,m1,e4,r1⟩:=SlR.own I1.sl q2;rw[e1] at e3;cases e3;obtain⟨I2,a2⟩:=I1.rew q2 e1 m1 e4 (Reps.append r1 (Reps.one r));exact#[a,xs,v,rfl,rfl,e4,by rw[r1.length];exact hl,k σ _ f1 O1 (a1.stp.trans a2) I2]
    .rw[iU hl] at h2;cases h2
end
noncomputable def C3 (t:D->DS->Option DS) (b:DM):List D->DS->Option (Fl × DS)
 |[],s=>some (.next,s)
 |d::r,s=>(t d s).bind fun s1=>(b s1).bind fun x=>match x.1 with
  |.next=>C3 t b r x.2
  |.cont=>C3 t b r x.2
  |.brk=>some (.next,x.2)
  |.ret v=>some (.ret v,x.2)
  |.thr c ds=>some (.thr c ds,x.2)
def Z8 (K:vF_) (g:Gh) (f1:vA_) (O1:vL_) (H1:Hp) (t:D->DS->Option DS) (b:DM) (ds:vD_) (fl:Fl) (sf:DS) (i:Nat):L2.St->Hp->Prop:=fun σ' H'=>
 ∃fa' O' s',Stp f1 O1 H1 fa' O' H'/\GI K g σ' H' fa' O' s'/\C3 t b (ds.drop i) s'=some (fl,sf)
section
variable {K:vF_}{g:Gh}{f1:vA_}{O1:vL_}{t:D->DS->Option DS}{b:DM}{fl:Fl}{sf:DS}{E:Ends}{σ':L2.St}
def Ae {α:Type}{l:List α}{d:α}(h:l[i]? = some d):l.drop i=d::l.drop (i+1):=by
 obtain⟨hi,e⟩:=Qr.mp h;rw[VF hi,e]
def iz (hk:FlK K g E f1 O1 H1 fl sf) {x:V}(hd:ds[i]? = some d) (hr:∀fa' O',Stp f1 O1 H1 fa' O' H'->Rep K (NN g.F fa' O') fa' H' d x) (h:Z8 K g f1 O1 H1 t b ds fl sf i σ' H') :
  liftG K g t x σ' H' fun σ2 H2=>liftS K g b { E with nx:=Z8 K g f1 O1 H1 t b ds fl sf (i+1),ct:=Z8 K g f1 O1 H1 t b ds fl sf (i+1),bk:=E.nx } σ2 H2:=by
 obtain⟨fa',O',s',st,I,e⟩:=h;rw[Ae hd,C3] at e;refine Y1 e fun s1 h1 h2=>?_
 refine A7 h2 fun fb s2 h3 h4=>?_
 refine#[fa',O',s',d,s1,I,hr fa' O' st,h1,fun σ2 H2 f2 O2 a2 I2=>#[f2,O2,s1,fb,s2,I2,h3,?_]];cases fb with
 |next=>exact fun σ3 H3 J Y U Z=>#[J,Y,s2,st.trans (a2.trans U),Z,h4]
 |cont=>exact fun σ3 H3 J Y U Z=>#[J,Y,s2,st.trans (a2.trans U),Z,h4]
 |brk=>cases h4;exact fun σ3 H3 J Y U Z=>hk σ3 H3 J Y (st.trans (a2.trans U)) Z
 |ret v=>cases h4;exact fun σ3 v H3 J Y U Z r=>hk σ3 v H3 J Y (st.trans (a2.trans U)) Z r
 |thr c es=>cases h4;exact fun σ3 C dx od xs H3 J Y U Z=>hk σ3 C dx od xs H3 J Y (st.trans (a2.trans U)) Z
def iV (J:FlK K g E f1 O1 H1 fl sf) (U:ds.length<=n) (h:Z8 K g f1 O1 H1 t b ds fl sf n σ' H'):E.nx σ' H':=by
 obtain⟨fa',O',s',st,I,e⟩:=h;rw[VG U,C3] at e;cases e;exact J σ' H' fa' O' st I
end
noncomputable def M1 (f:DE) (t:D->DS->Option DS) (b:DM):DM:=fun s=>(f s).bind fun x=>match x.1 with
 |.lst ds=>C3 t b ds x.2
 |.tup ds=>C3 t b ds x.2
 |_=>none
section
variable {g:Gh}{f:DE}{t:D->DS->Option DS}{b:DM}{pos:Pos}
def DR (K:vF_) (tl:TE):TI:=fun σ H R=>tl σ H fun x H1=>∃a,x = .ref a/\(((∃xs,SqL K H1 a xs)/\R (iB K a) H1)\/((∃xs,SqT K H1 a xs)/\R (iq K a) H1))
def BF (hl:PE X l tl):PI X tg l (DR X.K tl):=by
 intro pins s σ H R I h;refine v3 (hl pins s σ H _ I h) fun v s1 ⟨x,H1,J,r1,Z⟩=>?_
 obtain⟨a,e,q⟩:=Z;subst e;cases r1;rcases q with ⟨⟨xs,Y⟩,q⟩ | ⟨⟨xs,Y⟩,q⟩
 .obtain⟨its,rv,p,hz⟩:=J.list Y;refine UX p.isList ?_;refine#[s1.heap.objs.size,[s1.heap.objs.size],_,_,H1,rfl,J.kept (t':=s1.toks) fun b o e=>PF _ e,Pr a _,#[_,Qq _ rfl,rfl,rfl],fun b U=>?_,q];have e:b=s1.heap.objs.size:=by simpa using U
  subst e;exact J.fpOk (tx _) (J.hok.fresh (tx _))
 .obtain⟨its,rv,p,hz⟩:=J.tuple Y;refine SV (show s1.heap.IsTuple a its.toArray from p) ?_;refine#[s1.heap.objs.size,[s1.heap.objs.size],_,_,H1,rfl,J.kept (t':=s1.toks) fun b o e=>PF _ e,FW a _,#[_,Qq _ rfl,rfl,rfl],fun b U=>?_,q];have e:b=s1.heap.objs.size:=by simpa using U
  subst e;exact J.fpOk (tx _) (J.hok.fresh (tx _))
def rR (hp:PassesOwn 'f' X.A X.env X.xe) (hc:X.calm=true) (he:EO X g iter f) (hg:GO X g tg t) (hb:SSO X g body b) (hs:∀x,foldedSetIterable iter X.env x=pure x:=by intro _;rfl) :
  SO X g (.For tg iter body [] pos) (M1 f t b):=SO.w (mf hp hc (BF he.pe) hg.pe hb.pe hs) fun E σ H hQ=>by
 refine hQ.elim fun fa O s fl sf I q k=>?_
 refine A7 q fun d s1 h1 h2=>?_
 refine#[fa,O,s,d,s1,I,h1,fun v H1 f1 O1 a1 J r=>?_];have k1:=k.shift a1.stp;cases d with
 |lst ds=>
  simp only[Rep] at r;obtain⟨a,xs,rfl,na,q,w⟩:=r;refine#[a,rfl,.inl #[#[xs,SqL.of q],FX (xs:=xs) (Z8 X.K g f1 O1 H1 t b ds fl sf) #[f1,O1,s1,Stp.refl,J,h2] ?_ ?_ ?_]]
  .rintro i σ' H' _ ⟨fa',O',s',st,I',e⟩;exact SqL.of ((J.car st).ls a xs na q).1
  .intro i x σ' H' Z h;obtain⟨d,U,Y⟩:=Reps.get' w Z;exact iz k1 U (fun fa' O' st=>Rep.stp J st Y) h
  .intro σ' H' h;exact iV k1 (TR w.length.symm) h
 |tup ds=>
  simp only[Rep] at r;obtain⟨a,xs,rfl,q,w⟩:=r;refine#[a,rfl,.inr #[#[xs,q],fE (xs:=xs) (Z8 X.K g f1 O1 H1 t b ds fl sf) #[f1,O1,s1,Stp.refl,J,h2] ?_ ?_ ?_]]
  .rintro i σ' H' _ ⟨fa',O',s',st,I',e⟩;exact(J.car st).tp a xs q
  .intro i x σ' H' Z h;obtain⟨d,U,Y⟩:=Reps.get' w Z;exact iz k1 U (fun fa' O' st=>Rep.stp J st Y) h
  .intro σ' H' h;exact iV k1 (TR w.length.symm) h
 |_=>cases h2
def B3 (lo:Int) (n:Nat):List D:=(List.range n).map fun (i:Nat)=>D.int (lo+(i:Int))
def rK {lo:Int}(h:i<n):(B3 lo n)[i]? = some (.int (lo+(i:Int))):=by simp[B3,h]
def Y5 (lo:Int) (n:Nat):(B3 lo n).length=n:=by simp[B3]
def T8:List D->Option (List D)
 |[.int j]=>if -(2 ^ 62)<=j/\j<2 ^ 62 then some (B3 0 j.toNat) else none
 |[.int i,.int j]=>if -(2 ^ 62)<=i/\i<2 ^ 62 /\ -(2 ^ 62)<=j/\j<2 ^ 62 then some (B3 i (j - i).toNat) else none
 |_=>none
noncomputable def Y0 (f:DA) (t:D->DS->Option DS) (b:DM):DM:=fun s=>(f s).bind fun x=>(T8 x.1).bind fun ds=>C3 t b ds x.2
def ya {es:vD_}(h:T8 ds=some es) (l:ds=[a]):∃j:Int,a = .int j /\ -(2 ^ 62)<=j/\j<2 ^ 62/\es=B3 0 j.toNat:=by
 subst l;cases a with
 |int j=>
  have h:(if -(2 ^ 62)<=j/\j<2 ^ 62 then some (B3 0 j.toNat) else none)=some es:=h;by_cases J:-(2 ^ 62)<=j/\j<2 ^ 62
  .rw[iR J] at h;cases h;exact#[j,rfl,J.1,J.2,rfl]
  .rw[iU J] at h;cases h
 |_=>cases h
def oX {fa:DE}(hp:PassesOwn 'f' X.A X.env X.xe) (hc:X.calm=true) (U:Gl X "range") (hm:X.mg "range" = none) (ha:EO X g a fa) (hg:GO X g tg t) (Z:SSO X g body b)
  (J:starEach [a] X.env=[(false,eval a X.env)]:=by rfl) (hs:∀x,foldedSetIterable (.Call (.Name "range" p) [a] [] cpos) X.env x=pure x:=by intro _;rfl) :
  SO X g (.For tg (.Call (.Name "range" p) [a] [] cpos) body [] pos) (Y0 (a7 fa a8) t b):=
 SO.w (mf hp hc (Bg U hm (nO ha mR J).pe J) hg.pe Z.pe hs) fun E σ H hQ=>by
  refine hQ.elim fun fa O s fl sf I q k=>?_
  refine A7 q fun ds s1 h1 h2=>?_
  refine Y1 h2 fun es h3 h4=>?_
  obtain⟨d,s2,rs,e1,e2,Y⟩:=iu h1;cases e2;obtain⟨j,rfl,j1,j2,rfl⟩:=ya h3 Y;refine#[fa,O,s,ds,s1,I,h1,fun vs H1 f1 O1 a1 I1 r=>?_];have k1:=k.shift a1.stp;rw[Y] at r;simp only[Reps,Rep] at r;obtain⟨x,ys,rfl,rfl,rfl⟩:=r;refine#[j,rfl,j1,j2,Jj (lo:=0) (n:=j.toNat) (Z8 X.K g f1 O1 H1 t b (B3 0 j.toNat) fl sf) #[f1,O1,s1,Stp.refl,I1,h4] ?_ ?_]
  .intro i σ' H' hi h;exact iz k1 (rK hi) (fun fa' O' st=>by simp only[Rep]) h
  .intro σ' H' h;exact iV k1 (by rw[Y5];exact tx _) h
def Q1 (c:DT) (b:DM):Nat->DS->Option (Fl × DS)
 |0,_=>none
 |n+1,s=>(c s).bind fun x=>if x.1=true then (b x.2).bind fun y=>match y.1 with
   |.next=>Q1 c b n y.2
   |.cont=>Q1 c b n y.2
   |.brk=>some (.next,y.2)
   |.ret v=>some (.ret v,y.2)
   |.thr c ds=>some (.thr c ds,y.2)
  else some (.next,x.2)
open Classical in
def V6 (c:DT) (b:DM):DM:=fun s=>if h:∃n r,Q1 c b n s=some r then Q1 c b h.choose s else none
theorem qh {c:DT}{b:DM}:∀(n:Nat) {s:DS}{r:Fl × DS},Q1 c b n s=some r->Q1 c b (n+1) s=some r
 |0,s,r,h=>by cases h
 |n+1,s,r,h=>by
  rw[Q1] at h ⊢;refine A7 h fun x s1 h1 h2=>?_
  refine RI.mpr #[(x,s1),h1,?_];cases x with
  |false=>exact h2
  |true=>
   simp only[Qs] at h2 ⊢;refine A7 h2 fun y s2 U J=>?_
   refine RI.mpr #[(y,s2),U,?_];cases y with
   |next=>exact qh n J
   |cont=>exact qh n J
   |brk=>exact J
   |ret v=>exact J
   |thr c ds=>exact J
def uB {c:DT}{b:DM}(J:n<=m) {s:DS}{r:Fl × DS}(h:Q1 c b n s=some r):Q1 c b m s=some r:=by
 induction J with
 |refl=>exact h
 |step _ U=>exact qh _ U
def yF {c:DT}{b:DM}{s:DS}{r:Fl × DS}(h:Q1 c b n s=some r):V6 c b s=some r:=by
 have J:∃n r,Q1 c b n s=some r:=#[n,r,h]
 unfold V6;rw[dif_pos J];obtain⟨r',h'⟩:=J.choose_spec;have Y:=uB (Nat.le_max_left n J.choose) h;have U:=uB (Nat.le_max_right n J.choose) h';rw[Y] at U;rw[h',U]
def yK {c:DT}{b:DM}{s:DS}{r:Fl × DS}(h:V6 c b s=some r):∃n,Q1 c b n s=some r:=by
 unfold V6 at h;by_cases J:∃n r,Q1 c b n s=some r
 .rw[dif_pos J] at h;exact#[_,h]
 .rw[dif_neg J] at h;cases h
def BC {c:DT}{b:DM}{s:DS}{r:Fl × DS}(h1:c s=some (true,s1)) (h2:b s1=some (.next,s2)) (J:V6 c b s2=some r):V6 c b s=some r:=by
 obtain⟨n,h⟩:=yK J;refine yF (n:=n+1) ?_;rw[Q1,h1];simp only[xu,Qs,h2];exact h
def zJ {c:DT}{b:DM}{s:DS}(h1:c s=some (false,s1)):V6 c b s=some (.next,s1):=by
 refine yF (n:=1) ?_;rw[Q1,h1];simp
def NZ {c:Expr}(hp:PassesOwn 'f' X.A X.env X.xe) (hc:TO X g c fc) (hb:SSO X g body b):SO X g (.While c body [] pos) (V6 fc b):=SO.w (Mc hp hc.pe hb.pe) fun E σ H hQ=>by
 refine hQ.elim fun fa O s fl sf I q k=>?_
 obtain⟨n,h⟩:=yK q;refine#[fun m σ' H'=>∃fa' O' s',Stp fa O H fa' O' H'/\GI X.K g σ' H' fa' O' s'/\Q1 fc b m s'=some (fl,sf),#[n,fa,O,s,Stp.refl,I,h],?_];rintro m σ1 H1 ⟨f1,O1,s1,a1,I1,h1⟩;cases m with
 |zero=>cases h1
 |succ m=>
  rw[Q1] at h1;refine A7 h1 fun x s2 h2 h3=>?_
  refine#[f1,O1,s1,x,s2,I1,h2,fun H2 f2 O2 a2 I2=>?_];cases x with
  |false=>rw[iU PL] at h3 ⊢;cases h3;exact k σ1 H2 f2 O2 (a1.trans a2.stp) I2
  |true=>
   rw[iR rfl] at h3 ⊢;refine A7 h3 fun y s3 h4 h5=>?_
   refine#[fun σ' H'=>∃fa' O' s',Stp fa O H fa' O' H'/\GI X.K g σ' H' fa' O' s'/\Q1 fc b m s'=some (fl,sf),fun σ' H' z=>#[m,Nat.lt_succ_self m,z],f2,O2,s2,y,s3,I2,h4,?_];have J:=a1.trans a2.stp;cases y with
   |next=>exact fun σ3 H3 Y Z U I3=>#[Y,Z,s3,J.trans U,I3,h5]
   |cont=>exact fun σ3 H3 Y Z U I3=>#[Y,Z,s3,J.trans U,I3,h5]
   |brk=>cases h5;exact fun σ3 H3 Y Z U I3=>k σ3 H3 Y Z (J.trans U) I3
   |ret v=>cases h5;exact fun σ3 v H3 Y Z U I3 r=>k σ3 v H3 Y Z (J.trans U) I3 r
   |thr c es=>cases h5;exact fun σ3 C dx od xs H3 Y Z U I3=>k σ3 C dx od xs H3 Y Z (J.trans U) I3
end
abbrev c8:=List D->Option FS->Option (D × Option FS)
variable {mo:c8}
def fw (K:vF_) (n:Nat) (m:c8):Sp:=fun vs H Q _=>∃(F:vB_) (fa:vA_) (ds:vD_) (fs:vO_) (d:D) (fs':vO_),
 (∀b,F b->H b≠none)/\(∀a,fa=some a->F a)/\Reps K F fa H ds vs/\FeedR F H fa fs/\m ds fs=some (d,fs')/\ds.length=n /\
  ∀v H' fa',Stp fa [] H fa' [] H'->FeedR (fun b=>F b\/fa'=some b) H' fa' fs'->Rep K (fun b=>F b\/fa'=some b) fa' H' d v->Q v H'
abbrev jA (P:Program) (w:World) (K:vF_) (mg:vG_) (base:Heap) (k:Nat) (f:Addr) (fd:FuncData) (ps:List Str) (m:c8):Prop:=FnOk P w K mg base Y9 k f fd ps (fw K ps.length m)
noncomputable def A5 (n:Nat) (b:DM):c8:=fun ds fs=>(b #[ds.map .v++List.replicate (n - ds.length) .no,fs]).bind fun x=>match x.1 with
 |.ret d=>some (d,x.2.fs)
 |.next=>some (.non,x.2.fs)
 |_=>none
theorem tm {K:vF_}:∀n:Nat,SlR K N fa H (List.replicate n .no) (List.replicate n none) []
 |0=>by simp[SlR]
 |n+1=>by
  simp only[RZ,SlR];exact#[_,_,rfl,tm n]
theorem qV {K:vF_}:∀{ds:vD_}{vs:List V},Reps K N fa H ds vs->SlR K N fa H (ds.map .v++List.replicate n .no) (vs.map some++List.replicate n none) []
 |[],vs,h=>by simp only[Reps] at h;subst h;simpa using tm n
 |d::r,vs,h=>by
  simp only[Reps] at h;obtain⟨x,ys,rfl,h1,h2⟩:=h;simp only[PM,UT,SlR];exact#[x,_,rfl,h1,qV h2]
section
variable {P:Program}{w:World}{K:vF_}
def vk {st:Stmt}{f:Addr}{N ps:List Str}{b:DM}(F:Fun K x qual st f fd) (S:FnScope N ps (D4 st))
  (U:∀(cdv:Value) (A:Around) (outer:List Env) (s:Shared) (H:Hp) (E:XK) (g:Gh),Room k (A.deeper (PyProof.Rows.envOfC qual (D4 st) s.heap.objs.size f cdv))->SSO (S4 Y9 P w K mg base N qual (D4 st) f cdv A outer s H E).nox g (Q9 st) b) :
  jA P w K mg base (k+1) f fd ps (A5 N.length b):=by
 refine F.ok S (fun vs H Q E h=>?_) (fun cdv A outer s H vs Q E hr h=>?_)
 .obtain⟨F,fa,ds,fs,d,fs',_,_,r,_,_,hl,_⟩:=h;rw[r.length];exact hl
 refine gB_ fun G_ g_=>?_
 obtain⟨F,fa,ds,fs,d,fs',tr,ff,r,fd,e,hl,q⟩:=h;apply g_;refine#[_,(U cdv A outer s H E #[F,H,fa,fun _=>E0] hr).pe,?_];refine A7 e fun fl s' h1 h2=>?_
 have hN:∀b,NN F fa [] b->F b:=fun b z=>by
  rcases z with z | z | z
  .exact z
  .cases z
  .exact ff b z
 have c:Car K F fa H (NN F fa []) fa H:=#[fun b xs n q=>#[q,fun z=>n (hN b z)],fun _ _ q=>q,fun _ _ q=>q,fun _ q=>q]
 have el:(L2.start N vs)=vs.map some++List.replicate (N.length - ds.length) none:=by rw[L2.start,r.length]
 have I:GI K #[F,H,fa,fun _=>E0] (L2.start N vs) H fa [] #[ds.map .v++List.replicate (N.length - ds.length) .no,fs]:=by
  refine#[TV,?_,fun b hb=>(by cases hb),Stp.refl,tr,ff,fd.car c fun _ _=>rfl,fun _ _ z=>(by cases z)];rw[el];exact qV (Reps.go c ds vs r)
 have Z:∀{fa':vA_}{O':vL_}{H':Hp}{σ':L2.St}{v:V}{dd:D},Stp fa [] H fa' O' H'->GI K #[F,H,fa,fun _=>E0] σ' H' fa' O' s'->Rep K (NN F fa' O') fa' H' dd v->dd=d->s'.fs=fs'->Q v H':=by
  intro fa' O' H' σ' v dd J Y r1 e1 e2;subst e1;subst e2;have c1:Car K (NN F fa' O') fa' H' (fun b=>F b\/fa'=some b) fa' H':=#[fun b xs n q=>#[q,fun z=>n (by
   rcases z with z | z
   .exact .inl z
   .exact .inr (.inr z))],fun _ _ q=>q,fun _ _ q=>q,fun _ q=>q]
  exact q v H' fa' #[fun b hb=>(by cases hb),J.fe,J.same,J.mon] (Y.fd.car c1 fun _ _=>rfl) (Rep.go c1 _ _ r1)
 refine#[fa,[],_,fl,s',I,h1,?_];cases fl with
 |next=>
  simp only[Qt,Qa] at h2;exact fun σ' H' fa' O' J Y=>Z J Y (v:=.non) (dd:=.non) (by simp only[Rep]) h2.1 h2.2
 |ret dd=>
  simp only[Qt,Qa] at h2;exact fun σ' v H' fa' O' J Y r1=>Z J Y r1 h2.1 h2.2
 |brk=>cases h2
 |cont=>cases h2
 |thr _ _=>cases h2
end
noncomputable def d9 (m:c8) (f:DA):DE:=fun s=>(f s).bind fun x=>(m x.1 x.2.fs).map fun y=>(y.1,{ x.2 with fs:=y.2 })
section
variable {g:Gh}{f:Addr}{ps:List Str}{m:c8}{p pos:Pos}{t:DA}
def JT (hn:∀s ds s',t s=some (ds,s')->ds.length=n) (σ:L2.St) (H:Hp) (Q:VK) (h:liftE X.K g (d9 m t) σ H Q):vh (fw X.K n m) [] E0 (liftA X.K g t) σ H Q:=by
 refine gB_ fun G_ g_=>?_
 obtain⟨fa,O,s,d,s',I,q,k⟩:=h;apply g_;refine A7 q fun ds s1 h1 h2=>?_
 refine mapP h2 fun d1 fs1 h3 h4=>?_
 simp only[Qa] at h4;obtain⟨e1,e2⟩:=h4;subst e1;subst e2;refine#[fa,O,s,ds,s1,I,h1,fun vs H1 f1 O1 a1 J r=>?_];show fw X.K n m (vs++[]) H1 Q E0;rw[QB];refine#[NN g.F f1 O1,f1,ds,s1.fs,d1,fs1,fun b U=>J.nn_tracked U,fun a ha=>.inr (.inr ha),r,J.fd,h3,hn s ds s1 h1,fun v H2 Y Z fd2 r2=>?_];have a3:StE f1 O1 H1 Y O1 H2:=#[fun b U=>U,Z.fe,fun b u e n=>Z.same b u e 'g' n,Z.mon]
 have c:=J.car a3.stp;have c2:Car X.K (fun b=>NN g.F f1 O1 b\/Y=some b) Y H2 (NN g.F Y O1) Y H2:=#[fun b xs n q=>#[q,fun z=>n (by
   rcases z with z | z | z
   .exact .inl (.inl z)
   .exact .inl (.inr (.inl z))
   .exact .inr z)],fun _ _ q=>q,fun _ _ q=>q,fun _ q=>q]
 refine k v H2 Y O1 (a1.trans a3) #[J.nd,SlR.go c (fun b xs U e=>?_) J.sl,J.fr,J.st.trans #[fun b U=>(by cases U),Z.fe,fun b u e n z=>Z.same b u e n z,Z.mon],J.tr,J.ff,fd2.car c2 fun _ _=>rfl,J.nf_step a3.fe] (Rep.go c2 _ _ r2);exact a3.same b _ e fun z=>J.nf b z U
def NW (F:jA X.prog X.w X.K X.mg X.base k f fd ps m) (hr:Room k X.A) (hg:Gl X x) (hm:X.mg x=some (.ref f)) (Y:PySem.W.keepIn X.K (.ref f)=true) (hb:Binds X.K fd ps [])
  (ha:AO X g (e::es) t) (hn:∀s ds s',t s=some (ds,s')->ds.length=ps.length) (J:(x == ("__debug__" : Str))=false:=by decide) (Z:starEach (e::es) X.env=(false,eval e X.env)::starEach es X.env:=by rfl) (U:'x'.any (·.1)=false:=by rfl) :
  EO X g (.Call (.Name x p) (e::es) [] pos) (d9 m t):=EO.w (FD F hr hg hm Y hb .nil CG ha.pe J Z U) (JT hn)
def cj:∀s ds s',a8 s=some (ds,s')->ds.length=0:=fun s ds s' h=>by cases h;rfl
def O9 {r:DA}(h:∀s ds s',r s=some (ds,s')->ds.length=n):∀s ds s',a7 a r s=some (ds,s')->ds.length=n+1:=fun s ds s' q=>by
 obtain⟨d,s1,es,h1,h2,J⟩:=iu q;subst J;simp[h _ _ _ h2]
end
def oN (K:vF_) (N:vB_) (fa:vA_) (H1:Hp) (J:It) (ds:vD_):Prop:=∀N' fa' H',Car K N fa H1 N' fa' H'->(∀b u,H1 b=some u->fa≠some b->H' b=some u)->∀i:Nat,
 (∀d,ds[i]? = some d->J.go i H'/\∀x H'',J.yld i H' x H''->H''=H'/\Rep K N' fa' H' d x)/\(ds.length<=i->J.stop i H')
def liftI (K:vF_) (g:Gh) (f:DA):TI:=fun σ H R=>∃fa O s ds s',GI K g σ H fa O s/\f s=some (ds,s')/\ds.length<=sizeLine /\
 ∀J H' fa' O',StE fa O H fa' O' H'->GI K g σ H' fa' O' s'->oN K (NN g.F fa' O') fa' H' J ds->R J H'
section
variable {K:vF_}{g:Gh}{σ:L2.St}
def liftI.elim {R:It->Hp->Prop}(h:liftI K g f σ H R) (k:∀fa O s ds s',GI K g σ H fa O s->f s=some (ds,s')->ds.length<=sizeLine->(∀J H' fa' O',StE fa O H fa' O' H'->GI K g σ H' fa' O' s'->oN K (NN g.F fa' O') fa' H' J ds->R J H')->G):G:=by
 refine gB_ fun Y U=>?_
 obtain⟨fa,O,s,d,s',a,r,b,c⟩:=h;apply U;exact k fa O s d s' a r b c
end
structure IO (X:Cx) (g:Gh) (tg iter:Expr) (f:DA):Prop where
 pe:PI X tg iter (liftI X.K g f)
def M8 (f:DE):DA:=fun s=>(f s).bind fun x=>match x.1 with
 |.lst ds=>some (ds,x.2)
 |.tup ds=>some (ds,x.2)
 |_=>none
def R8 (f:DA):DA:=fun s=>(f s).bind fun x=>(T8 x.1).map fun ds=>(ds,x.2)
section
variable {g:Gh}{f:DE}
def HI {t t':TI}(h:PI X tg iter t) (w:∀σ H R,t' σ H R->t σ H R):PI X tg iter t':=fun pins s σ H R I q=>h pins s σ H R I (w σ H R q)
theorem IO.w {f:DA}{t:TI}(h:PI X tg iter t) (w:∀σ H R,liftI X.K g f σ H R->t σ H R):IO X g tg iter f:=#[HI h w]
def dN (h:EO X g iter f):IO X g tg iter (M8 f):=IO.w (BF h.pe) fun σ H R hQ=>by
 refine hQ.elim fun fa O s ds s' I e hz k=>?_
 refine A7 e fun d s1 h1 h2=>?_
 refine#[fa,O,s,d,s1,I,h1,fun v H1 f1 O1 a1 I1 r=>?_];cases d with
 |lst es=>
  cases h2;simp only[Rep] at r;obtain⟨a,xs,rfl,na,q,w⟩:=r;refine#[a,rfl,.inl #[#[xs,SqL.of q],k _ H1 f1 O1 a1 I1 fun N' fa' H' c _ i=>#[fun d hd=>?_,fun hl=>?_]]]
  .obtain⟨x,J,Z⟩:=Reps.get w hd;have U:=(c.ls a xs na q).1;refine#[#[xs,x,SqL.of U,J],fun y H'' hy=>?_];obtain⟨e1,Y⟩:=hy;have:=Y xs (SqL.of U);rw[J] at this;cases this;exact#[e1,Rep.go c d x Z]
  .exact#[xs,SqL.of (c.ls a xs na q).1,by rw[w.length];exact hl]
 |tup es=>
  cases h2;simp only[Rep] at r;obtain⟨a,xs,rfl,q,w⟩:=r;refine#[a,rfl,.inr #[#[xs,q],k _ H1 f1 O1 a1 I1 fun N' fa' H' c _ i=>#[fun d hd=>?_,fun hl=>?_]]]
  .obtain⟨x,J,Z⟩:=Reps.get w hd;have U:=c.tp a xs q;refine#[#[xs,x,U,J],fun y H'' hy=>?_];obtain⟨e1,Y⟩:=hy;have:=Y xs U;rw[J] at this;cases this;exact#[e1,Rep.go c d x Z]
  .exact#[xs,c.tp a xs q,by rw[w.length];exact hl]
 |_=>cases h2
def Kq {K:vF_}(lo:Int) (n:Nat):oN K N fa H1 (eF lo n) (B3 lo n):=fun N' fa' H' c _ i=>#[fun d J=>by
 have hi:i<n:=by have:=(Qr.mp J).1;rwa [Y5] at this
 rw[rK hi] at J;cases J;refine#[hi,fun x H'' Y=>?_];obtain⟨e1,Z⟩:=Y;subst Z;exact#[e1,by simp only[Rep]],fun U=>by rw[Y5] at U;exact U]
def kb {fa:DE}(U:Gl X "range") (hm:X.mg "range" = none) (ha:EO X g a fa) (J:starEach [a] X.env=[(false,eval a X.env)]:=by rfl) :
  IO X g tg (.Call (.Name "range" p) [a] [] cpos) (R8 (a7 fa a8)):=IO.w (Bg U hm (nO ha mR J).pe J) fun σ H R hQ=>by
 refine hQ.elim fun fa O s es s' I q hz k=>?_
 refine A7 q fun ds s1 h1 h2=>?_
 refine Q0 h2 fun es' h3 h4=>?_
 cases h4;obtain⟨d,s2,rs,e1,e2,Y⟩:=iu h1;cases e2;obtain⟨j,rfl,j1,j2,rfl⟩:=ya h3 Y;refine#[fa,O,s,ds,_,I,h1,fun vs H1 f1 O1 Z I1 r=>?_];rw[Y] at r;simp only[Reps,Rep] at r;obtain⟨x,ys,rfl,rfl,rfl⟩:=r;exact#[j,rfl,j1,j2,k _ H1 f1 O1 Z I1 (Kq 0 j.toNat)]
end
def fB (sl:List Sl) (i:Nat):Sl:=match sl[i]? with
 |some (Sl.v d)=>Sl.v d
 |_=>Sl.no
def Q5 (idx:List Nat) (sl:List Sl):List Sl:=idx.map (fB sl)
noncomputable def G1 (mk:D->Option (List Sl)) (fc:DT) (fe:DE):List D->Option FS->Option (List D × Option FS)
 |[],fs=>some ([],fs)
 |d::r,fs=>(mk d).bind fun sl=>(fc #[sl,fs]).bind fun c=>if c.1=true then (fe c.2).bind fun y=>(G1 mk fc fe r y.2.fs).map fun z=>(y.1::z.1,z.2) else G1 mk fc fe r c.2.fs
noncomputable def F5 (idx:List Nat) (fi:DA) (fc:DT) (fe:DE):DA:=fun s=>(fi s).bind fun x=>if x.1.length<=sizeLine then (G1 (fun d=>some (.v d::Q5 idx x.2.sl)) fc fe x.1 x.2.fs).map fun y=>(y.1,{ x.2 with fs:=y.2 }) else none
def FF (g:Gh) (fa:vA_) (O:vL_) (p:Addr):Addr->Prop:=fun b=>NN g.F fa O b\/b=p
structure CI (K:vF_) (g:Gh) (f1:vA_) (O1:vL_) (Hd:Hp) (p:Addr) (fa:vA_) (H:Hp) (ys:List V) (res:vD_) (fs:vO_):Prop where
 st:Stp f1 [p] Hd fa [p] H
 ls:H p=some (.lst ys)
 rs:Reps K (FF g fa O1 p) fa H res ys
 fd:FeedR (FF g fa O1 p) H fa fs
 nf:fa≠some p
section
variable {K:vF_}{g:Gh}{f1:vA_}{O1:vL_}{Hd:Hp}{p:Addr}{res:vD_}{fs:vO_}
def CI.nofa (c:CI K g f1 O1 Hd p fa H ys res fs):fa≠some p:=c.nf
def Er (U:∀xs,fa≠none->∀a,fa=some a->¬ Rd H a (.tup xs)) (J:∀a,fa=some a->∀o u,¬ H a=some (.frz o u)) (a:StE fa [] H fa' [] H'):Car K (FF g fa O1 p) fa H (FF g fa' O1 p) fa' H':=by
 refine#[fun b xs n q=>#[a.same b _ q fun z=>n (.inl (.inr (.inr z))),fun z=>?_],fun b xs q=>?_,fun b xs q=>?_,fun x e=>a.stp.fa_keep e]
 .rcases z with (z | z | z) | z
  .exact n (.inl (.inl z))
  .exact n (.inl (.inr (.inl z)))
  .rcases a.fe with e | ⟨e,h⟩
   .exact n (.inl (.inr (.inr (e▸z))))
   .rw[h b z] at q;cases q
  .exact n (.inr z)
 .refine SqT.stp' a.stp (fun x e ys=>U ys (by rw[e];simp) x e) (fun x Y=>by cases Y) q
 .cases xs with
  |inl xs=>exact q.imp (fun ⟨o,q⟩=>#[o,a.same _ _ q fun z=>J b z _ _ q]) id
  |inr p=>exact a.same _ _ q fun z=>J b z _ _ q
def KO (h:FeedR N H fa fs):∀xs,fa≠none->∀a,fa=some a->¬ Rd H a (.tup xs):=fun xs _ a e z=>h.no_tup e z
def CI.step (c:CI K g f1 O1 Hd p fa H ys res fs) (a:StE fa [] H fa' [] H') {g':Gh}{s':DS}(Y:∀b,FF g fa' O1 p b->NN g'.F fa' [] b) (I:GI K g' σ H' fa' [] s'):CI K g f1 O1 Hd p fa' H' ys res s'.fs:=by
 have U:Car K (FF g fa O1 p) fa H (FF g fa' O1 p) fa' H':=Er (KO c.fd) (fun x e o u=>c.fd.no_frz e) a;refine#[c.st.trans #[fun b J=>.inl J,a.fe,fun b u e _ n=>a.same b u e n,a.mon],a.same p _ c.ls c.nofa,Reps.go U _ _ c.rs,I.fd.car (K:=K) #[fun b xs n q=>#[q,fun z=>n (Y b z)],fun _ _ q=>q,fun _ _ q=>q,fun _ q=>q] fun _ _=>rfl,fun z=>?_];rcases a.fe with y | ⟨_,y⟩
 .rw[y] at z;exact c.nf z
 .have:=c.ls;rw[y p z] at this;cases this
def CI.app (c:CI K g f1 O1 Hd p fa H ys res fs) {v:V}(hF:∀b,FF g fa O1 p b->N b) (r:Rep K N fa H d v):CI K g f1 O1 Hd p fa (o7 H p (.lst (ys++[v]))) (ys++[v]) (res++[d]) fs:=by
 have U:Car K (FF g fa O1 p) fa H (FF g fa O1 p) fa (o7 H p (.lst (ys++[v]))):=by
  refine#[fun b xs n q=>#[by rw[u5 (fun z=>n (.inr z))];exact q,n],fun b xs q=>?_,fun b xs q=>?_,fun _ q=>q]
  .rcases q with (q | ⟨o,q⟩) | q
   .exact .inl (.inl (by rw[u5 (fun z=>by rw[z,c.ls] at q;cases q)];exact q))
   .exact .inl (.inr #[o,by rw[u5 (fun z=>by rw[z,c.ls] at q;cases q)];exact q])
   .exact .inr q
  .have Y:∀o u,H b=some (.frz o u)->o7 H p (.lst (ys++[v])) b=some (.frz o u):=fun o u q=>by rw[u5 (fun z=>by rw[z,c.ls] at q;cases q)];exact q
   cases xs with
   |inl xs=>exact q.imp (fun ⟨o,q⟩=>#[o,Y _ _ q]) id
   |inr p=>exact Y _ _ q
 have Z:Car K N fa H (FF g fa O1 p) fa H:=#[fun b xs n q=>#[q,fun z=>n (hF b z)],fun _ _ q=>q,fun _ _ q=>q,fun _ q=>q]
 refine#[c.st.trans #[fun b J=>.inl J,.inl rfl,fun b u e n _=>by rw[u5 (fun z=>n (by simp[z]))];exact e,fun b z=>?_],D1,?_,c.fd.car U fun a e=>u5 fun z=>c.nofa (z▸e),c.nf]
 .by_cases J:b=p
  .subst J;rw[D1] at z;cases z
  .rw[u5 J] at z;exact z
 .exact Reps.append (Reps.go U _ _ c.rs) (Reps.one (Rep.go U _ _ (Rep.go Z _ _ r)))
end
section
variable {g:Gh}{pos:Pos}
def cZ (X:Cx) (g:Gh) (ifs:List Expr) (f:DT):Prop:=fZ X ifs (liftT X.K g f)
def F4:DT:=fun s=>some (true,s)
def aN:cZ X g [] F4:=fun pins s σ H Q I ⟨fa,O,s0,d,s',G,e,k⟩=>Fg pins s σ H Q I (by cases e;exact k H fa O StE.refl G)
def sL {c:Expr}{f:DT}(h:TO X g c f):cZ X g [c] f:=Li h.pe
theorem yv {K:vF_}{O:vL_}(h:SlR K N fa H sl σ O):∀idx:List Nat,SlR K N fa H (Q5 idx sl) (idx.map fun i=>(σ[i]?).join) []
 |[]=>by simp[Q5,SlR]
 |i::r=>by
  have J:=yv h r;have U:∀e:sl[i]? = none\/(∃z,sl[i]? = some z/\∀d,z ≠ .v d),fB sl i = .no:=fun e=>by
   unfold fB;rcases e with e | ⟨z,e,n⟩
   .rw[e]
   .rw[e];cases z with
    |v d=>exact absurd rfl (n d)
    |no=>rfl
    |own ds=>rfl
  show SlR K N fa H (fB sl i::Q5 r sl) ((σ[i]?).join::r.map fun i=>(σ[i]?).join) [];cases e:sl[i]? with
  |none=>
   rw[U (.inl e)];simp only[SlR];exact#[_,_,rfl,J]
  |some z=>
   cases z with
   |no=>
    rw[U (.inr #[_,e,fun d z=>by cases z])];simp only[SlR];exact#[_,_,rfl,J]
   |own ds=>
    rw[U (.inr #[_,e,fun d z=>by cases z])];simp only[SlR];exact#[_,_,rfl,J]
   |v d=>
    obtain⟨u,Z,q⟩:=SlR.val h e;have Y:fB sl i = .v d:=by unfold fB;rw[e]
    rw[Y];simp only[SlR];exact#[u,_,by rw[Z];rfl,q,J]
def Hr (mk:List Sl->D->Option (List Sl)) (fi:DA) (fc:DT) (fe:DE):DA:=fun s=>(fi s).bind fun x=>if x.1.length<=sizeLine then (G1 (mk x.2.sl) fc fe x.1 x.2.fs).map fun y=>(y.1,{ x.2 with fs:=y.2 }) else none
def Cd {G:TG}(hG:∀(N:vB_) (fa:vA_) (sl:List Sl) (d:D) (sl0:List Sl) (x:V) (σ:L2.St) (H:Hp) (Q:L2.St->Hp->Prop),mk sl d=some sl0->Rep X.K N fa H d x->SlR X.K N fa H (Q5 idx sl) (idx.map fun i=>(σ[i]?).join) [] ->
  (∀σ':L2.St,(σ'.length=(N0 n idx σ).length/\∀(j:Nat) (v:V),(N0 n idx σ)[j]? = some (some v)->σ'[j]? = some (some v))->SlR X.K N fa H sl0 σ' []->Q σ' H)->G x (N0 n idx σ) H Q):∀σ H Q,liftF X.K g (Hr mk fi fc fe) σ H Q->fP n idx (liftI X.K g fi) G (fun σ H Q=>∃g',liftT X.K g' fc σ H Q) (fun σ H Q=>∃g',liftE X.K g' fe σ H Q) σ H Q:=by
 intro σ H Q ⟨fa,O,s,res,s',I,e,kk⟩;refine A7 e fun ds s1 h1 h2=>?_
 by_cases hz:ds.length<=sizeLine
 .simp only[iR hz] at h2;refine mapP h2 fun out fsf h3 h4=>?_
  simp only[Qa] at h4;obtain⟨e1,e2⟩:=h4;subst e1;subst e2;refine#[fa,O,s,ds,s1,I,h1,hz,fun J H1 f1 O1 a1 U J1 p hp=>?_];have Z:∀{fa':vA_}{H':Hp},Stp f1 [p] (o7 H1 p (.lst [])) fa' [p] H'->StE f1 O1 H1 fa' O1 H':=fun {fa' H'} a=>by
   refine#[fun _ h=>h,?_,fun b u e n=>?_,fun b z=>(F9 (fa:=f1) (O:=O1) hp).mon b (a.mon b z)]
   .rcases a.fe with e | ⟨e,h⟩
    .exact .inl e
    .exact .inr #[e,fun x z=>(F9 (fa:=f1) (O:=O1) hp).mon x (h x z)]
   .have nb:b≠p:=L9 e hp;exact a.same b u (by rw[u5 nb];exact e) (by simp[nb]) n
  have carP:∀{fa':vA_}{H':Hp},Stp f1 [p] (o7 H1 p (.lst [])) fa' [p] H'->Car X.K (NN g.F f1 O1) f1 H1 (FF g fa' O1 p) fa' H':=fun {fa' H'} a=>by
   have c:=U.car (Z a).stp;refine#[fun b xs n q=>?_,c.tp,c.fz,c.fe];obtain⟨q',n'⟩:=c.ls b xs n q;refine#[q',?_];rintro(z | z)
   .exact n' z
   .subst z;rw[hp] at q;cases q
  refine#[fun i m H'=>m=ds.length - i/\i<=ds.length/\∃fa' ys Y rest fs',CI X.K g f1 O1 (o7 H1 p (.lst [])) p fa' H' ys Y fs'/\G1 (mk s1.sl) fc fe (ds.drop i) fs'=some (rest,fsf)/\Y++rest=out/\ys.length<=i,?_,?_]
  .refine#[ds.length,by simp,Qx _,f1,[],[],out,s1.fs,#[Stp.refl,D1,Reps.nil,?_,fun z=>U.fd.tracked z hp],by simpa using h3,rfl,tx _];exact U.fd.car (km U hp) (U.fd.same_new hp)
  .rintro i m H' ⟨rfl,hil,fa',ys,Y,rest,fs',c,hd,ho,hy⟩;have Hcar:=carP c.st;obtain⟨jgo,jstop⟩:=J1 _ _ _ Hcar (fun b u e n=>(Z c.st).same b u e n) i;by_cases hlt:i<ds.length
   .have hdi:ds[i]? = some ds[i]:=Qf hlt;obtain⟨go,yl⟩:=jgo _ hdi;refine .inr #[go,fun x H'' hx=>?_];obtain⟨e1,rx⟩:=yl x H'' hx;subst e1;rw[Ae hdi,G1] at hd;refine Y1 hd fun sl0 hm hd=>?_
    refine A7 hd fun b sb h5 h6=>?_
    have hNN:∀b,NN (FF g fa' O1 p) fa' [] b->FF g fa' O1 p b:=fun b z=>by
     rcases z with z | z | z
     .exact z
     .cases z
     .exact .inl (.inr (.inr z))
    have cN:Car X.K (FF g fa' O1 p) fa' H'' (NN (FF g fa' O1 p) fa' []) fa' H'':=#[fun b xs n q=>#[q,fun z=>n (hNN b z)],fun _ _ q=>q,fun _ _ q=>q,fun _ q=>q]
    have gF:∀b,FF g fa' O1 p b->H'' b≠none:=fun b z=>by
     rcases z with (z | z | z) | z
     .exact fun w=>U.trF z ((Z c.st).mon b w)
     .obtain⟨xs,e⟩:=U.owned z;exact fun w=>by have:=(Z c.st).mon b w;rw[e] at this;cases this
     .exact c.fd.tracked z
     .rw[z,c.ls];simp
    refine hG (NN (FF g fa' O1 p) fa' []) fa' s1.sl ds[i] sl0 x σ H'' _ hm (Rep.go cN _ _ rx) (SlR.go cN (fun a xs ha=>by cases ha) (yv (SlR.go Hcar (fun a xs ha e=>(Z c.st).same a _ e fun z=>U.nf a z ha) U.sl) idx)) fun σ1 hσ hsl=>#[hσ,?_]
    have G0:GI X.K #[FF g fa' O1 p,H'',fa',fun _=>E0] σ1 H'' fa' [] #[sl0,fs']:=#[TV,hsl,fun b hb=>(by cases hb),Stp.refl,gF,fun a ha=>.inl (.inr (.inr ha)),c.fd.car cN fun _ _=>rfl,fun _ _ z=>(by cases z)]
    refine#[#[FF g fa' O1 p,H'',fa',fun _=>E0],fa',[],_,b,sb,G0,h5,fun H3 f3 O3 a3 I3=>?_];have eO:O3=[]:=VH.mpr fun z hz=>by have:=a3.sub z hz;cases this
    subst eO;have hF3:∀b,FF g f3 O1 p b->NN (FF g fa' O1 p) f3 [] b:=fun b z=>by
     rcases z with (z | z | z) | z
     .exact .inl (.inl (.inl z))
     .exact .inl (.inl (.inr (.inl z)))
     .exact .inr (.inr z)
     .exact .inl (.inr z)
    have c3:=c.step a3 hF3 I3;cases b with
    |false=>
     rw[iU PL] at h6;refine zj ?_;exact#[ds.length - (i+1),by omega,rfl,hlt,f3,ys,Y,rest,sb.fs,c3,h6,ho,Nat.le_succ_of_le hy]
    |true=>
     rw[iR rfl] at h6;refine Bq ?_;refine A7 h6 fun dd sd h7 h8=>?_
     refine mapP h8 fun rest2 fs2 h9 h10=>?_
     simp only[Qa] at h10;refine#[#[FF g fa' O1 p,H'',fa',fun _=>E0],f3,[],sb,dd,sd,I3,h7,fun v H4 f4 O4 a4 I4 r4=>?_];have eO:O4=[]:=VH.mpr fun z hz=>by have:=a4.sub z hz;cases this
     subst eO;have hF4:∀b,FF g f4 O1 p b->NN (FF g fa' O1 p) f4 [] b:=fun b z=>by
      rcases z with (z | z | z) | z
      .exact .inl (.inl (.inl z))
      .exact .inl (.inl (.inr (.inl z)))
      .exact .inr (.inr z)
      .exact .inl (.inr z)
     have c4:=c3.step a4 hF4 I4;refine#[ys,c4.ls,by omega,ds.length - (i+1),by omega,rfl,hlt,f4,ys++[v],Y++[dd],rest2,sd.fs,c4.app hF4 r4,by rw[h9,h10.2],?_,by simp;omega];rw[<-ho,<-h10.1];simp
   .refine .inl #[jstop (TQ hlt),?_];rw[VG (TQ hlt),G1] at hd;simp only[Qt,Qa] at hd;obtain⟨hd1,hd2⟩:=hd;subst hd1;subst hd2;rw[QB] at ho;subst ho;have aE:=Z c.st;have car1:=U.car aE.stp;have sameO:∀a xs,a∈O1->H1 a=some (.lst xs)->H' a=some (.lst xs):=fun a xs ha e=>aE.same a _ e fun z=>U.nf a z ha
    refine kk p ys H' fa' O1 (a1.trans aE) #[#[U.nd,SlR.go car1 sameO U.sl,U.fr,U.st.trans #[fun b hb=>(by cases hb),aE.fe,fun b u e _ n=>aE.same b u e n,aE.mon],U.tr,U.ff,?_,U.nf_step aE.fe],c.ls,SlR.go Hcar sameO U.sl,c.fd,c.rs,c.nf] (a1.mon p hp);exact c.fd.car (K:=X.K) #[fun b xs n q=>#[q,fun z=>n (.inl z)],fun _ _ q=>q,fun _ _ q=>q,fun _ q=>q] fun _ _=>rfl
 .simp only[iU hz] at h2;cases h2
def xP (k:CompOk X scope cl N' 1 idx):∀σ H Q,liftF X.K g (F5 idx fi fc fe) σ H Q->fP 1 idx (liftI X.K g fi) (X0 0) (fun σ H Q=>∃g',liftT X.K g' fc σ H Q) (fun σ H Q=>∃g',liftE X.K g' fe σ H Q) σ H Q:=
 Cd (mk:=fun sl d=>some (.v d::Q5 idx sl)) fun N fa sl d sl0 x σ H Q U Z Y kk=>by
  cases U;refine kk _ #[by simp,fun j v J=>?_] ?_
  .cases j with
   |zero=>simp[N0] at J
   |succ j=>rw[RU 'g'];exact J
  .have eb:(N0 1 idx σ).set 0 (some x)=some x::idx.map fun i=>(σ[i]?).join:=by simp[N0]
   rw[eb];simp only[SlR];exact#[x,_,rfl,Z,Y]
def bZ (Y:X.calm=true) (k:CompOk X scope cl N' 1 idx) (hi:IO X g tg iter fi) (J:∀C s0 H0 ex,PG 'k' tg (X0 0))
  (Z:∀C s0 H0 ex g',cZ 'k' g' ifs fc) (U:∀C s0 H0 ex g',EO 'k' g' elt fe) (hs:∀x,foldedSetIterable iter X.env x=pure x:=by intro _;rfl) :
  FO X g 'p' (F5 idx fi fc fe):=by
 exact FO.w (uY (tc:=fun σ H Q=>∃g',liftT X.K g' fc σ H Q) (te:=fun σ H Q=>∃g',liftE X.K g' fe σ H Q) Y k hi.pe J (fun C s0 H0 ex pins s σ H Q I ⟨g',h⟩=>Z C s0 H0 ex g' pins s σ H Q I h) (fun C s0 H0 ex pins s σ H Q I ⟨g',h⟩=>(U C s0 H0 ex g').pe pins s σ H Q I h) hs) (xP k)
end
end DL
variable {d y:DL.D}{p':DL.D->DL.D->Option DL.D}{ds:DL.vD_}{fs':DL.vO_}{sl:List DL.Sl}{mk:List DL.Sl->DL.D->Option (List DL.Sl)}{s1 s2:DL.DS}{fe:DL.DE}{fc:DL.DT}{f fi:DL.DA}{mo:DL.c8}
namespace HT2
open PySem PyProof.Rows
def cat_tup0 {w:World}{t b:Addr}{ws:vV_}(ht:IsTup s.heap t ([]:vV_).toArray) (hb:IsTup s.heap b ws.toArray)
  (h:Q (.ref b) s):wpAny 'd' A (binaryOp .Add (.ref t) (.ref b)) Q E s:=by
 refine gB_ fun G_ g_=>?_
 obtain⟨⟨cls,dd,data,sl⟩,ho,hc,n,hd⟩:=id ht;obtain⟨⟨cls2,dd2,data2,Z⟩,Y,J,n2,U⟩:=id hb;simp only at hc hd J U;apply g_;subst hc hd J U;exact concat_meets #[_,ho,rfl] #[_,Y,rfl] UM seq_tuple_add UN UO (UP _ _)
  (tuple_addW0 t b _ ws.toArray n n2 dd dd2 sl Z 'g') #[ho,Y,h]
end HT2
namespace DL
open PySem PySem.Spec L2
def F8 (i:Int):Bool:=decide (i.natAbs.log2<1000000)
def yE {i:Int}(h:F8 i=true):Builtin.Int.intBits i<=2 ^ 20:=by
 have h1:i.natAbs.log2<1000000:=Rb h;unfold Builtin.Int.intBits;split
 .exact Qx _
 .have e:(2:Nat) ^ 20=1048576:=by decide
  rw[e];omega
def S9 (j:Int):Bool:=decide (j≠0)&&decide (j.natAbs.log2<9000)
def op_mulB:OpR X (binaryOp .Mult) (rI (fun i j=>F8 i=true/\F8 j=true) fun i j=>.int (i*j)):=mj fun _ _ _ _ _ _ _ J q=>PyProof.Rows.mul_int q (IntMulOk.of_bits (yE J.1) (yE J.2))
def OU:OpR X (binaryOp .FloorDiv) (rI (fun _ j=>S9 j=true) fun i j=>.int (i.fdiv j)):=mj fun i j _ _ _ _ _ U q=>by
 have J:S9 j=true:=U;unfold S9 at J;rw[Qe] at J;exact PyProof.Rows.floordiv_int (Rb J.1) q (.inl (PyProof.noPylong_of_log2 (Rb J.2)))
def tE (K:vF_):R2:=fun x y H Q=>∃a b ys,x = .ref a/\y = .ref b/\SqT K H a []/\SqT K H b ys/\Q (.ref b) H
def op_catT0:OpR X (binaryOp .Add) (tE X.K):=by
 intro pins s σ H x y v u Q I Z ry h;obtain⟨a,b,ys,rfl,rfl,ha,Y,q⟩:=h;cases Z;cases ry;obtain⟨its,r1,ht,_⟩:=I.tuple ha;obtain⟨U,r2,J,_⟩:=I.tuple Y;cases r1;exact HT2.cat_tup0 ht J #[.ref b,H,I,rfl,q]
def Bl (K:vF_):R2:=fun x y H Q=>(X4 (fun i j=>.int (i+j)) x y H Q\/(∃i j,x = .str i/\y = .str j/\i.length+j.length<=sizeLine/\Q (.str (i++j)) H))\/((tE K x y H Q\/wJ K x y H Q)\/oa x y H Q)
def NX:OpR X (binaryOp .Add) (Bl X.K):=(op_add.or OI).or ((op_catT0.or KW).or lM)
def xX:R2:=fun x y H Q=>rI (fun i j=>F8 i=true/\F8 j=true) (fun i j=>.int (i*j)) x y H Q\/BE x y H Q
def IM:OpR X (binaryOp .Mult) xX:=op_mulB.or wM
def k6:D->D->Option D
 |.int i,.int j=>some (.int (i+j))
 |.str x,.str y=>if x.length+y.length<=sizeLine then some (.str (x++y)) else none
 |.tup xs,.tup ys=>if xs.length+ys.length<=sizeLine then some (.tup (xs++ys)) else none
 |.lst xs,.lst ys=>if xs.length+ys.length<=sizeLine then some (.lst (xs++ys)) else none
 |_,_=>none
def p9:D->D->Option D
 |.int i,.int j=>some (.int (i - j))
 |_,_=>none
def w8:D->D->Option D
 |.int i,.int j=>if F8 i&&F8 j then some (.int (i*j)) else none
 |.lst xs,.int k=>if -(2 ^ 63)<=k/\k<2 ^ 63/\xs.length*k.toNat<=sizeLine then some (.lst (List.replicate k.toNat xs).flatten) else none
 |_,_=>none
def Q3:D->D->Option D
 |.int i,.int j=>if S9 j then some (.int (i.fdiv j)) else none
 |_,_=>none
def J0:D->D->Option D
 |.int i,.int j=>if j≠0 then some (.int (i.fmod j)) else none
 |_,_=>none
def eB:D->D->Option D
 |.int i,.int j=>if 0<=j/\j<=1000000/\i.natAbs<2 ^ 64 then some (.int (i ^ j.toNat)) else none
 |_,_=>none
def o9:D->Option D
 |.int i=>some (.int (-i))
 |_=>none
def l7 (p:Int->Int->Bool):D->D->Option D
 |.int i,.int j=>some (.bl (p i j))
 |_,_=>none
def BR:D->D->Option D
 |.non,.non=>some (.bl true)
 |.feed,.non=>none
 |.scr _,.non=>none
 |.fn _,.non=>none
 |.exc _ _,.non=>none
 |_,.non=>some (.bl false)
 |_,_=>none
def pN:D->D->Option D
 |.non,.non=>some (.bl false)
 |.feed,.non=>none
 |.scr _,.non=>none
 |.fn _,.non=>none
 |.exc _ _,.non=>none
 |_,.non=>some (.bl true)
 |_,_=>none
def uP {K:vF_}(r:Reps K N fa H ds xs):xs=[]↔ds=[]:=by
 have:=r.length;cases xs <;> cases ds <;> simp_all
theorem Reps.flat {K:vF_}(r:Reps K N fa H ds xs):∀k:Nat,Reps K N fa H (List.replicate k ds).flatten (List.replicate k xs).flatten
 |0=>by simp[Reps]
 |k+1=>by
  simp only[RZ,SR];exact Reps.append r (Reps.flat r k)
section
variable {K:vF_}
def Nj:J9 K (Bl K) k6:=by
 intro g σ H fa O s x y d1 d2 d Q I Y Z e k;cases d1 with
 |int i=>
  cases d2 with
  |int j=>
   cases e;simp only[RepB,Rep] at Y Z;exact .inl (.inl #[i,j,Y,Z,k _ H StE.refl I (by simp only[Rep])])
  |_=>cases e
 |str a=>
  cases d2 with
  |str b=>
   have e:(if a.length+b.length<=sizeLine then some (D.str (a++b)) else none)=some d:=e;by_cases h:a.length+b.length<=sizeLine
   .rw[iR h] at e;cases e;simp only[RepB,Rep] at Y Z;refine .inl (.inr #[a,b,Y.1,Z.1,h,k _ H StE.refl I ?_]);simp only[Rep];exact#[trivial,by rw[strLen_append];exact h]
   .rw[iU h] at e;cases e
  |_=>cases e
 |tup as=>
  cases d2 with
  |tup bs=>
   have e:(if as.length+bs.length<=sizeLine then some (D.tup (as++bs)) else none)=some d:=e;by_cases h:as.length+bs.length<=sizeLine
   .rw[iR h] at e;cases e;simp only[RepB,Rep] at Y Z;obtain⟨a,xs,rfl,qa,U⟩:=Y;obtain⟨b,ys,rfl,qb,J⟩:=Z;by_cases hx:xs=[]
    .have ha:=(uP U).mp hx;subst hx;subst ha;refine .inr (.inl (.inl #[a,b,ys,rfl,rfl,qa,qb,k _ H StE.refl I ?_]));simp only[Rep,QW];exact#[b,ys,rfl,qb,J]
    .refine .inr (.inl (.inr #[a,b,xs,ys,rfl,rfl,qa,qb,hx,by rw[U.length,J.length];exact h,fun hy=>?_,fun hy p hp=>?_]))
     .have hb:=(uP J).mp hy;subst hy;subst hb;refine k _ H StE.refl I ?_;simp only[Rep,QB];exact#[a,xs,rfl,qa,U]
     .have a2:StE fa O H fa O (o7 H p (.tup (xs++ys))):=F9 hp;refine k _ _ a2 (I.new hp) ?_;simp only[Rep];exact#[p,_,rfl,SqT.of D1,Reps.stp I a2.stp (Reps.append U J)]
   .rw[iU h] at e;cases e
  |_=>cases e
 |lst as=>
  cases d2 with
  |lst bs=>
   have e:(if as.length+bs.length<=sizeLine then some (D.lst (as++bs)) else none)=some d:=e;by_cases h:as.length+bs.length<=sizeLine
   .rw[iR h] at e;cases e;obtain⟨a,xs,rfl,_,qa,U⟩:=Y;obtain⟨b,ys,rfl,_,qb,J⟩:=Z;refine .inr (.inr #[a,b,xs,ys,rfl,rfl,qa,qb,by rw[U.length,J.length];exact h,fun p hp=>?_]);have a2:StE fa O H fa O (o7 H p (.lst (xs++ys))):=F9 hp;have L:=df I hp (Reps.append U J);refine k _ _ a2 L.gi ?_;simp only[Rep];exact#[p,_,rfl,kj I a2 L.gi hp L.nf,D1,Reps.stp I a2.stp (Reps.append U J)]
   .rw[iU h] at e;cases e
  |_=>cases e
 |_=>cases e
def P9:D->D->Option (List D)
 |.lst xs,.lst ys=>if xs.length+ys.length<=sizeLine then some (xs++ys) else none
 |_,_=>none
def zL:oS K oa P9:=by
 intro g σ H fa O s x y d1 d2 ds Q I r1 r2 e k;cases d1 with
 |lst as=>
  cases d2 with
  |lst bs=>
   simp only[P9] at e;by_cases h:as.length+bs.length<=sizeLine
   .rw[iR h] at e;cases e;obtain⟨a,xs,rfl,_,Z,U⟩:=r1;obtain⟨b,ys,rfl,_,qb,Y⟩:=r2;refine#[a,b,xs,ys,rfl,rfl,Z,qb,by rw[U.length,Y.length];exact h,fun p J=>?_];exact k p _ _ (F9 J) (df I J (Reps.append U Y)) J
   .rw[iU h] at e;cases e
  |_=>cases e
 |_=>cases e
def rO {C:Int->Int->Prop}{f:Int->Int->D}{p:D->D->Option D}(Z:∀d1 d2 d,p d1 d2=some d->∃i j,d1 = .int i/\d2 = .int j/\C i j/\d=f i j) (Y:∀N fa H i j,Rep K N fa H (f i j) (f' i j)):J9 K (rI C f') p:=by
 intro g σ H fa O s x y d1 d2 d Q I J U e k;obtain⟨i,j,rfl,rfl,c,rfl⟩:=Z d1 d2 d e;simp only[RepB,Rep] at J U;exact#[i,j,J,U,c,k _ H StE.refl I (Y _ _ _ _ _)]
def yI {f:Int->Int->D}{p:D->D->Option D}(Z:∀d1 d2 d,p d1 d2=some d->∃i j,d1 = .int i/\d2 = .int j/\d=f i j) (Y:∀N fa H i j,Rep K N fa H (f i j) (f' i j)):J9 K (X4 f') p:=by
 intro g σ H fa O s x y d1 d2 d Q I J U e k;obtain⟨i,j,rfl,rfl,rfl⟩:=Z d1 d2 d e;simp only[RepB,Rep] at J U;exact#[i,j,J,U,k _ H StE.refl I (Y _ _ _ _ _)]
def rV (F:Int->Int->Option D):D->D->Option D
 |.int i,.int j=>F i j
 |_,_=>none
def tW {F:Int->Int->Option D}(e:rV F d1 d2=some d):∃i j,d1 = .int i/\d2 = .int j/\F i j=some d:=by
 cases d1 with
 |int i=>
  cases d2 with
  |int j=>exact#[i,j,rfl,rfl,e]
  |_=>cases e
 |_=>cases e
def qE {C:Int->Int->Prop}[∀i j,Decidable (C i j)] {f:Int->Int->D}(e:rV (fun i j=>if C i j then some (f i j) else none) d1 d2=some d):∃i j,d1 = .int i/\d2 = .int j/\C i j/\d=f i j:=by
 obtain⟨i,j,h1,h2,J⟩:=tW e;by_cases h:C i j
 .have J:(if C i j then some (f i j) else none)=some d:=J;rw[iR h] at J;exact#[i,j,h1,h2,h,(Qi J).symm]
 .have J:(if C i j then some (f i j) else none)=some d:=J;rw[iU h] at J;cases J
def Bo {f:Int->Int->D}(e:rV (fun i j=>some (f i j)) d1 d2=some d):∃i j,d1 = .int i/\d2 = .int j/\d=f i j:=by
 obtain⟨i,j,h1,h2,J⟩:=tW e;exact#[i,j,h1,h2,(Qi J).symm]
def EY:J9 K (X4 fun i j=>.int (i - j)) p9:=yI (f:=fun i j=>.int (i - j)) (fun U J d e=>Bo (f:=fun i j=>.int (i - j)) e) fun _ _ _ _ _=>by simp only[Rep]
def ft (p:Int->Int->Bool):J9 K (X4 fun i j=>.bl (p i j)) (l7 p):=yI (f:=fun i j=>.bl (p i j)) (fun U J d e=>Bo (f:=fun i j=>.bl (p i j)) e) fun _ _ _ _ _=>by simp only[Rep]
def FV:J9 K xX w8:=by
 intro g σ H fa O s x y d1 d2 d Q I Y J e k;cases d1 with
 |int i=>
  cases d2 with
  |int j=>
   have e:(if F8 i&&F8 j then some (D.int (i*j)) else none)=some d:=e;by_cases h:(F8 i&&F8 j)=true
   .rw[iR h] at e;cases e;rw[Qe] at h;simp only[RepB,Rep] at Y J;exact .inl #[i,j,Y,J,h,k _ H StE.refl I (by simp only[Rep])]
   .rw[iU h] at e;cases e
  |_=>cases e
 |lst as=>
  cases d2 with
  |int j=>
   simp only[w8] at e;by_cases h:-(2 ^ 63)<=j/\j<2 ^ 63/\as.length*j.toNat<=sizeLine
   .rw[iR h] at e;cases e;obtain⟨a,xs,rfl,_,qa,Z⟩:=Y;simp only[RepB,Rep] at J;subst J;refine .inr #[a,j,xs,rfl,rfl,qa,h.1,h.2.1,by rw[Z.length];exact h.2.2,fun p hp=>?_];have U:StE fa O H fa O (o7 H p (.lst (List.replicate j.toNat xs).flatten)):=F9 hp;have L:=df I hp (Z.flat j.toNat);refine k _ _ U L.gi ?_;simp only[Rep];exact#[p,_,rfl,kj I U L.gi hp L.nf,D1,Reps.stp I U.stp (Z.flat j.toNat)]
   .rw[iU h] at e;cases e
  |_=>cases e
 |_=>cases e
def Kn:J9 K (rI (fun _ j=>S9 j=true) fun i j=>.int (i.fdiv j)) Q3:=rO (f:=fun i j=>.int (i.fdiv j)) (fun J U d e=>qE (C:=fun _ j=>S9 j=true) (f:=fun i j=>.int (i.fdiv j)) e) fun _ _ _ _ _=>by simp only[Rep]
def Jz:J9 K (rI (fun _ j=>j≠0) fun i j=>.int (i.fmod j)) J0:=rO (f:=fun i j=>.int (i.fmod j)) (fun J U d e=>qE (C:=fun _ j=>j≠0) (f:=fun i j=>.int (i.fmod j)) e) fun _ _ _ _ _=>by simp only[Rep]
def NH:J9 K (rI uC fun i j=>.int (i ^ j.toNat)) eB:=rO (f:=fun i j=>.int (i ^ j.toNat)) (fun U J d e=>qE (C:=fun i j=>0<=j/\j<=1000000/\i.natAbs<2 ^ 64) (f:=fun i j=>.int (i ^ j.toNat)) e) fun _ _ _ _ _=>by simp only[Rep]
def Ma:zV K (rU fun i=>.int (-i)) o9:=by
 intro g σ H fa O s x U d Q I J e k;cases U with
 |int i=>cases e;simp only[RepB,Rep] at J;exact#[i,J,k _ H StE.refl I (by simp only[Rep])]
 |_=>cases e
def nW:D->Bool
 |.non=>true
 |_=>false
def xf {x:V}(r:RepB K N fa H d x):decide (x = .non)=nW d:=by
 cases d with
 |non=>simp only[RepB,Rep] at r;subst r;rfl
 |bl b=>simp only[RepB,Rep] at r;subst r;rfl
 |int i=>simp only[RepB,Rep] at r;subst r;rfl
 |str x=>simp only[RepB,Rep] at r;obtain⟨r,_⟩:=r;subst r;rfl
 |tup ds=>simp only[RepB,Rep] at r;obtain⟨a,xs,rfl,_⟩:=r;rfl
 |lst ds=>obtain⟨a,xs,rfl,_⟩:=r;rfl
 |feed=>simp only[RepB,Rep] at r;obtain⟨a,_,rfl⟩:=r;rfl
 |scr ns=>simp only[RepB,Rep] at r;obtain⟨_,a,rfl,_⟩:=r;rfl
 |fn x=>simp only[RepB,Rep] at r;obtain⟨a,rfl,_⟩:=r;rfl
 |exc c ds=>simp only[RepB,Rep] at r;obtain⟨a,C,xs,rfl,_⟩:=r;rfl
def NF:J9 K (fun x y H Q=>y = .non/\Q (.bl (decide (x = .non))) H) BR:=by
 intro g σ H fa O s x y J Y d Q I Z U e k;have h2:Y = .non:=by cases J <;> cases Y <;> first | rfl | cases e
 subst h2;simp only[RepB,Rep] at U;refine#[U,k _ H StE.refl I ?_];rw[xf Z];cases J <;> first | (cases e;simp[Rep,nW];done) | cases e
def Gx:J9 K (fun x y H Q=>y = .non/\Q (.bl (!decide (x = .non))) H) pN:=by
 intro g σ H fa O s x y J Y d Q I Z U e k;have h2:Y = .non:=by cases J <;> cases Y <;> first | rfl | cases e
 subst h2;simp only[RepB,Rep] at U;refine#[U,k _ H StE.refl I ?_];rw[xf Z];cases J <;> first | (cases e;simp[Rep,nW];done) | cases e
end
section
variable {σ:L2.St}
mutual
theorem ae (I:Inv X pins σ H s):∀(d:D) (v:V) (u:Value),Y8 X.K N fa H d v->RelV v u->d.plain=true->∃as,Reads s.heap u d.py as
 |.non,v,u,r,ru,_=>by
  simp only[Y8,Rep] at r;subst r;cases ru;simp only[D.py];exact#[[],.none]
 |.bl b,v,u,r,ru,_=>by
  simp only[Y8,Rep] at r;subst r;cases ru;simp only[D.py];exact#[[],.bool b]
 |.int i,v,u,r,ru,_=>by
  simp only[Y8,Rep] at r;subst r;obtain⟨t,rfl⟩:=ru;simp only[D.py];exact#[[],.int i t]
 |.str x,v,u,r,ru,_=>by
  simp only[Y8,Rep] at r;obtain⟨r,_⟩:=r;subst r;obtain⟨t,rfl⟩:=ru;simp only[D.py];exact#[[],.str x t]
 |.tup ds,v,u,r,ru,hp=>by
  simp only[Y8,Rep] at r;obtain⟨a,xs,rfl,q,w⟩:=r;cases ru;obtain⟨its,U,⟨o,h1,h2,n,Y⟩,_⟩:=I.tuple q;obtain⟨as,J⟩:=jY I ds xs its w U (by simpa only[D.plain] using hp);simp only[D.py];exact#[as,.tuple h1 h2 Y (by simpa using J)]
 |.lst ds,v,u,r,ru,hp=>by
  obtain⟨a,xs,rfl,q,w⟩:=r;cases ru;obtain⟨its,U,⟨o,n,h1,h2,Y,Z⟩,_⟩:=I.list (SqL.of q);obtain⟨as,J⟩:=jY I ds xs its w U (by simpa only[D.plain] using hp);simp only[D.py];exact#[_,.list h1 h2 Z (by simpa using J)]
 |.feed,v,u,r,ru,hp=>by simp only[D.plain] at hp;cases hp
 |.scr _,v,u,r,ru,hp=>by simp only[D.plain] at hp;cases hp
 |.fn _,v,u,r,ru,hp=>by simp only[D.plain] at hp;cases hp
 |.exc _ _,v,u,r,ru,hp=>by simp only[D.plain] at hp;cases hp
theorem jY (I:Inv X pins σ H s):∀(ds:vD_) (xs:List V) (us:vV_),Reps X.K N fa H ds xs->Vals xs us->D.plains ds=true->∃as,ReadsAll s.heap us (D.pys ds) as
 |[],xs,us,r,ru,_=>by
  simp only[Reps] at r;subst r;cases ru;simp only[D.pys];exact#[[],.nil]
 |d::ds,xs,us,r,ru,hp=>by
  simp only[Reps] at r;obtain⟨x,ys,rfl,U,Y⟩:=r;cases ru with
  |cons q J=>
   simp only[D.plains,Qe] at hp;obtain⟨as,h1⟩:=ae I d x _ U.o q hp.1;obtain⟨bs,h2⟩:=jY I ds ys _ Y J hp.2;simp only[D.pys];exact#[_,.cons h1 h2]
end
end
def A9 (d:D):Bool:=d.plain&&SeqAt.shaped d.py
def F7 (J U:D):Option D:=match J,U with
 |.str x,.str y=>some (.bl (decide (x=y)))
 |J,U=>if A9 J&&A9 U then some (.bl (PyData.eqv J.py U.py)) else none
def A1 (J U:D):Option D:=match J,U with
 |.str x,.str y=>some (.bl (!decide (x=y)))
 |J,U=>if A9 J&&A9 U then some (.bl (!PyData.eqv J.py U.py)) else none
def fS (K:vF_) (f:Bool->Bool):R2:=fun x y H Q=>∃N fa d1 d2,RepB K N fa H d1 x/\RepB K N fa H d2 y/\A9 d1=true/\A9 d2=true/\Q (.bl (f (PyData.eqv d1.py d2.py))) H
section
variable {K:vF_}
def Ld (hu:X.A.units+64<cLine):OpR X (compareOp .Eq) (fS X.K id):=by
 intro pins s σ H x y v u Q I Y ry h;obtain⟨N,fa,d1,d2,Z,r2,U,J,q⟩:=h;unfold A9 at U J;rw[Qe] at U J;obtain⟨as,h1⟩:=ae I d1 x v Z.o Y U.1;obtain⟨bs,h2⟩:=ae I d2 y u r2.o ry J.1;exact VI h1 h2 U.2 J.2 hu #[.bl _,H,I,rfl,q]
def Hs (hu:X.A.units+64<cLine):OpR X (compareOp .NotEq) (fS X.K not):=by
 intro pins s σ H x y v u Q I Y ry h;obtain⟨N,fa,d1,d2,Z,r2,U,J,q⟩:=h;unfold A9 at U J;rw[Qe] at U J;obtain⟨as,h1⟩:=ae I d1 x v Z.o Y U.1;obtain⟨bs,h2⟩:=ae I d2 y u r2.o ry J.1;exact PyProof.Rows.ne_dataH h1 h2 U.2 J.2 hu #[.bl _,H,I,rfl,q]
def LP (J:X.A.units+64<cLine):OpR X (compareOp .Eq) (fun x y H Q=>pK x y H Q\/fS X.K id x y H Q):=op_eq.or (Ld J)
def zY (J:X.A.units+64<cLine):OpR X (compareOp .NotEq) (fun x y H Q=>pT x y H Q\/fS X.K not x y H Q):=op_ne.or (Hs J)
def Mw {J U:D}(h:F7 J U=some d):(∃x y,J = .str x/\U = .str y/\d = .bl (decide (x=y)))\/(A9 J=true/\A9 U=true/\d = .bl (PyData.eqv J.py U.py)):=by
 unfold F7 at h;split at h
 .cases h;exact .inl #[_,_,rfl,rfl,rfl]
 .split at h
  .rename_i q;rw[Qe] at q;cases h;exact .inr #[q.1,q.2,rfl]
  .cases h
def Hq {J U:D}(h:A1 J U=some d):(∃x y,J = .str x/\U = .str y/\d = .bl (!decide (x=y)))\/(A9 J=true/\A9 U=true/\d = .bl (!PyData.eqv J.py U.py)):=by
 unfold A1 at h;split at h
 .cases h;exact .inl #[_,_,rfl,rfl,rfl]
 .split at h
  .rename_i q;rw[Qe] at q;cases h;exact .inr #[q.1,q.2,rfl]
  .cases h
def wq (x y:Str):decide (V.str x=V.str y)=decide (x=y):=by
 by_cases h:x=y
 .subst h;simp
 .rw[PY h,PY fun z=>h (V.str.inj z)]
def Na:J9 K (fun x y H Q=>pK x y H Q\/fS K id x y H Q) F7:=by
 intro g σ H fa O s x y Y Z d Q I J U e k;rcases Mw e with ⟨a,b,rfl,rfl,rfl⟩ | ⟨h1,h2,rfl⟩
 .simp only[RepB,Rep] at J U;obtain⟨rfl,_⟩:=J;obtain⟨rfl,_⟩:=U;exact .inl #[rfl,k _ H StE.refl I (by simp only[Rep,wq])]
 .exact .inr #[_,_,Y,Z,J,U,h1,h2,k _ H StE.refl I (by simp only[Rep,id])]
def Bx:J9 K (fun x y H Q=>pT x y H Q\/fS K not x y H Q) A1:=by
 intro g σ H fa O s x y Y Z d Q I J U e k;rcases Hq e with ⟨a,b,rfl,rfl,rfl⟩ | ⟨h1,h2,rfl⟩
 .simp only[RepB,Rep] at J U;obtain⟨rfl,_⟩:=J;obtain⟨rfl,_⟩:=U;exact .inl #[rfl,k _ H StE.refl I (by simp only[Rep,wq])]
 .exact .inr #[_,_,Y,Z,J,U,h1,h2,k _ H StE.refl I (by simp only[Rep])]
def d7:D->D->Option D
 |.tup ds,.int i=>D9 ds i
 |.lst ds,.int i=>D9 ds i
 |_,_=>none
abbrev Wk(i:Int):DE:=dC (.int i)
abbrev Wl(i:Nat)(j:Int):DE:=a9 d7 (dL i) (Wk j)
def BH {i:Int}(r:Reps K N fa H ds xs) (h:D9 ds i=some d):∃v,D9 xs i=some v/\Rep K N fa H d v:=by
 unfold D9 at h ⊢;rw[r.length];cases e:W6 ds.length i with
 |none=>rw[e] at h;cases h
 |some j=>
  rw[e] at h;simp only[xu] at h ⊢;exact Reps.get r h
def KC:J9 K (fun x y H Q=>oP K x y H Q\/oO K x y H Q) d7:=by
 intro g σ H fa O s x y d1 d2 d Q I U J e k;cases d1 with
 |tup ds=>
  cases d2 with
  |int i=>
   simp only[RepB,Rep] at U J;obtain⟨a,xs,rfl,q,w⟩:=U;obtain⟨v,Y,Z⟩:=BH w (show D9 ds i=some d from e);exact .inr #[a,xs,i,v,rfl,J,q,Y,k v H StE.refl I Z]
  |_=>cases e
 |lst ds=>
  cases d2 with
  |int i=>
   obtain⟨a,xs,rfl,_,q,w⟩:=U;simp only[RepB,Rep] at J;obtain⟨v,Y,Z⟩:=BH w (show D9 ds i=some d from e);exact .inl #[a,xs,i,v,rfl,J,SqL.of q,Y,k v H StE.refl I Z]
  |_=>cases e
 |_=>cases e
def IU:IxR X (fun x y H Q=>oP X.K x y H Q\/oO X.K x y H Q):=ix_list.or MP
end
noncomputable def i9 (p:List D->Option D) (f:DA):DE:=fun s=>(f s).bind fun x=>(p x.1).map fun d=>(d,x.2)
def W0 (p:List D->Option (List D)) (f:DA):DA:=fun s=>(f s).bind fun x=>(p x.1).map fun d=>(d,x.2)
section
variable {g:Gh}{p pos:Pos}{t:DA}{id T:String}{pr:List D->Option D}{pf:List D->Option (List D)}
def sI (Z:V9 X.K r pr) (σ:L2.St) (H:Hp) (Q:VK) (h:liftE X.K g (i9 pr t) σ H Q):fu r (liftBA X.K g t) σ H Q:=by
 obtain⟨f0,O,s,d,s',I,e,k⟩:=h;refine A7 e fun ds s1 h1 h=>?_
 refine Q0 h fun d' h3 h=>?_
 simp only[Qa] at h;obtain⟨e1,Y⟩:=h;subst e1;subst Y;exact#[f0,O,s,ds,s1,I,h1,fun vs H1 f1 O1 J I1 r1=>Z g σ H1 f1 O1 s1 vs ds d' Q I1 r1 h3 fun z H3 a3 I3 U=>k z H3 f1 O1 (J.trans a3) I3 U]
def zR (Y:kh X.K r pf) (σ:L2.St) (H:Hp) (Q:VK) (h:liftF X.K g (W0 pf t) σ H Q):fu r (liftBA X.K g t) σ H Q:=by
 obtain⟨Z,O,s,d,s',I,e,k⟩:=h;refine A7 e fun ds s1 h1 h=>?_
 refine Q0 h fun d' h3 h=>?_
 simp only[Qa] at h;obtain⟨e1,U⟩:=h;subst e1;subst U;exact#[Z,O,s,ds,s1,I,h1,fun vs H1 f1 O1 J I1 r1=>Y g σ H1 f1 O1 s1 vs ds d' Q I1 r1 h3 fun q ys H3 a3 L e3=>k q ys H3 f1 O1 (J.trans a3) L (J.mon _ e3)]
def jV (hc:CallR X (.builtin id) r) (hr:V9 X.K r pr) (hg:Gl X x) (hm:X.mg x=none) (Z:bootBuiltins x=some (.builtin id)) (ha:BAO X g (e::es) t) (hn:x ≠ "__name__" := by decide) (J:(x == ("__debug__" : Str))=false:=by decide)
  (Y:starEach (e::es) X.env=(false,eval e X.env)::starEach es X.env:=by rfl) (U:'x'.any (·.1)=false:=by rfl):EO X g (.Call (.Name x p) (e::es) [] pos) (i9 pr t):=
 EO.w (hU hc hg hm Z ha.pe hn J Y U) (sI hr)
def ym (hc:CallR X (.type T) r) (hr:V9 X.K r pr) (hg:Gl X x) (hm:X.mg x=none) (Z:bootBuiltins x=some (.type T)) (ha:BAO X g (e::es) t) (hn:x ≠ "__name__" := by decide) (J:(x == ("__debug__" : Str))=false:=by decide)
  (Y:starEach (e::es) X.env=(false,eval e X.env)::starEach es X.env:=by rfl) (U:'x'.any (·.1)=false:=by rfl):EO X g (.Call (.Name x p) (e::es) [] pos) (i9 pr t):=
 EO.w (jQ hc hg hm Z ha.pe hn J Y U) (sI hr)
def Ay (hc:CallR X (.type T) r) (hr:kh X.K r pf) (hg:Gl X x) (hm:X.mg x=none) (Z:bootBuiltins x=some (.type T)) (ha:BAO X g (e::es) t) (hn:x ≠ "__name__" := by decide) (J:(x == ("__debug__" : Str))=false:=by decide)
  (Y:starEach (e::es) X.env=(false,eval e X.env)::starEach es X.env:=by rfl) (U:'x'.any (·.1)=false:=by rfl):FO X g (.Call (.Name x p) (e::es) [] pos) (W0 pf t):=
 FO.w (jQ hc hg hm Z ha.pe hn J Y U) (zR hr)
end
def AY {K:vF_}(r:cx K N fa H [d] xs):∃x,xs=[x]/\RepB K N fa H d x:=by
 obtain⟨x,ys,rfl,U,J⟩:=r;simp only[cx] at J;subst J;exact#[x,rfl,U]
def one {α:Type}(p:D->Option α):List D->Option α
 |[d]=>p d
 |_=>none
def wU {α:Type}{p:D->Option α}{a:α}(h:one p ds=some a):∃d,ds=[d]/\p d=some a:=by
 cases ds with
 |nil=>cases h
 |cons d r=>
  cases r with
  |nil=>exact#[d,rfl,h]
  |cons _ _=>cases h
def j6:D->Option D
 |.tup ds=>some (.int (ds.length:Nat))
 |.lst ds=>some (.int (ds.length:Nat))
 |.str x=>some (.int (x.length:Nat))
 |_=>none
def ar:D->Option D
 |.int i=>some (.int (if i<0 then -i else i))
 |_=>none
def gL:D->Option D
 |.int i=>if i.natAbs.log2<1920/\(toString i:Str).length<=sizeLine then some (.str (toString i)) else none
 |_=>none
def Z5:D->Option D
 |.tup ds=>some 'm'
 |.lst ds=>some 'm'
 |_=>none
def iP:D->Option (List D)
 |.tup ds=>some ds
 |.lst ds=>some ds
 |_=>none
def eR:List D->Option Bool
 |[]=>some true
 |.bl b::r=>(eR r).map fun c=>b&&c
 |_::_=>none
def jC:D->Option D
 |.lst ds=>(eR ds).map .bl
 |_=>none
def di (d:D):Bool:=d.plain&&d.py.showable&&d.py.canLay0&&decide (d.py.depth<=64)&&decide (d.py.shown.length<=sizeLine)
def V5 (d:D):Option D:=if di d then some (.str d.py.shown) else none
section
variable {K:vF_}
def MG:CallR X (.builtin "len") (fun xs H Q=>(∃p ys,xs=[.ref p]/\(SqL X.K H p ys\/SqT X.K H p ys)/\Q (.int ys.length) H)\/(∃z,xs=[.str z]/\z.length<=sizeLine/\Q (.int z.length) H)):=call_len_seq.or CT
def dR {p:D->Option D}(h:∀(g:Gh) (σ:L2.St) (H:Hp) (fa:vA_) (O:vL_) (s:DS) (x:V) (d1 d:D) (Q:VK),GI K g σ H fa O s->RepB K (NN g.F fa O) fa H d1 x->p d1=some d ->
  (∀v H',StE fa O H fa O H'->GI K g σ H' fa O s->Rep K (NN g.F fa O) fa H' d v->Q v H')->r [x] H Q):V9 K r (one p):=by
 intro g σ H fa O s xs ds d Q I U e k;obtain⟨d1,rfl,Y⟩:=wU e;obtain⟨x,rfl,J⟩:=AY U;exact h g σ H fa O s x d1 d Q I J Y k
def Hh:V9 K (fun xs H Q=>(∃p ys,xs=[.ref p]/\(SqL K H p ys\/SqT K H p ys)/\Q (.int ys.length) H)\/(∃z,xs=[.str z]/\z.length<=sizeLine/\Q (.int z.length) H)) (one j6):=dR fun g σ H fa O s x J d Q I r e k=>by
 cases J with
 |tup es=>
  cases e;simp only[RepB,Rep] at r;obtain⟨a,ys,rfl,q,w⟩:=r;exact .inl #[a,ys,rfl,.inr q,k _ H StE.refl I (by rw[w.length];simp only[Rep])]
 |lst es=>
  cases e;obtain⟨a,ys,rfl,_,q,w⟩:=r;exact .inl #[a,ys,rfl,.inl (SqL.of q),k _ H StE.refl I (by rw[w.length];simp only[Rep])]
 |str z=>
  cases e;simp only[RepB,Rep] at r;obtain⟨rfl,l⟩:=r;exact .inr #[z,rfl,l,k _ H StE.refl I (by simp only[Rep])]
 |_=>cases e
def Mo:V9 K (fun xs H Q=>∃i,xs=[.int i]/\Q (.int (if i<0 then -i else i)) H) (one ar):=dR fun g σ H fa O s x J d Q I r e k=>by
 cases J with
 |int i=>
  cases e;simp only[RepB,Rep] at r;subst r;exact#[i,rfl,k _ H StE.refl I (by simp only[Rep])]
 |_=>cases e
def Ly:V9 K (fun xs H Q=>∃i,xs=[.int i]/\i.natAbs.log2<1920/\Q (.str (toString i)) H) (one gL):=dR fun g σ H fa O s x J d Q I r e k=>by
 cases J with
 |int i=>
  simp only[gL] at e;split at e
  .rename_i h;cases e;simp only[RepB,Rep] at r;subst r;exact#[i,rfl,h.1,k _ H StE.refl I (by simp only[Rep];exact#[trivial,h.2])]
  .cases e
 |_=>cases e
def zG:V9 K (fun xs H Q=>∃p ys,xs=[.ref p]/\((SqL K H p ys/\∀l,H l=none->Q (.ref l) (o7 H l (.tup ys)))\/(SqT K H p ys/\Q (.ref p) H))) (one Z5):=dR fun g σ H fa O s x Y d Q I r e k=>by
 cases Y with
 |tup es=>
  cases e;simp only[RepB,Rep] at r;obtain⟨a,ys,rfl,q,w⟩:=r;exact#[a,ys,rfl,.inr #[q,k _ H StE.refl I (by simp only[Rep];exact#[a,ys,rfl,q,w])]]
 |lst es=>
  cases e;obtain⟨a,ys,rfl,_,q,w⟩:=r;refine#[a,ys,rfl,.inl #[SqL.of q,fun p U=>?_]];have J:StE fa O H fa O (o7 H p (.tup ys)):=F9 U;refine k _ _ J (I.new U) ?_;simp only[Rep];exact#[p,ys,rfl,SqT.of D1,Reps.stp I J.stp w]
 |_=>cases e
def xn:kh K (fun xs H Q=>∃p ys,xs=[.ref p]/\(SqL K H p ys\/SqT K H p ys)/\∀l,H l=none->Q (.ref l) (o7 H l (.lst ys))) (one iP):=by
 intro g σ H fa O s xs ds es Q I rs e k;obtain⟨Z,rfl,U⟩:=wU e;obtain⟨x,rfl,r⟩:=AY rs;cases Z with
 |tup Y=>
  cases U;simp only[RepB,Rep] at r;obtain⟨a,ys,rfl,q,w⟩:=r;exact#[a,ys,rfl,.inr q,fun p J=>k p ys _ (F9 J) (df I J w) J]
 |lst Y=>
  cases U;obtain⟨a,ys,rfl,_,q,w⟩:=r;exact#[a,ys,rfl,.inl (SqL.of q),fun p J=>k p ys _ (F9 J) (df I J w) J]
 |_=>cases U
def xZ (K:vF_):List V->Hp->VK->Prop:=fun xs H Q=>∃N fa d x,xs=[x]/\RepB K N fa H d x/\di d=true/\Q (.str d.py.shown) H
def Mn (hu:X.A.units+66<cLine) (hg:X.A.guards=some []):CallR X (.builtin "repr") (xZ X.K):=by
 intro pins s σ H xs us Q I r h;refine gB_ fun G_ g_=>?_
 obtain⟨N,fa,d,x,rfl,J,ok,q⟩:=h;obtain⟨u,rfl,Y⟩:=X6 r;unfold di at ok;simp only[Qe,Rk] at ok;obtain⟨⟨⟨⟨hp,hs⟩,hl⟩,hd⟩,hz⟩:=ok;obtain⟨as,ra⟩:=ae I d x u J.o Y hp;have U:∀(h':Heap) (Z:Nat) (t:Tok),(∀b o,s.heap.get? b=some o->h'.get? b=some o)->EP X pins σ Q (.str d.py.shown t) { s with heap:=h',toks:=Z }:=fun h' Z t hk=>#[.str d.py.shown,H,I.kept hk,#[t,rfl],q]
 apply g_;cases d with
 |non=>
  simp only[RepB,Rep] at J;subst J;cases Y;exact P.repr_of_none (U s.heap _ _ fun _ _ e=>e)
 |bl b=>
  simp only[RepB,Rep] at J;subst J;cases Y;have:=U s.heap (s.toks+1) s.toks fun _ _ e=>e
  refine P.repr_of_bool ?_;cases b <;> simpa only[D.py,PyData.shown] using this
 |int i=>
  simp only[RepB,Rep] at J;subst J;obtain⟨t,rfl⟩:=Y;have:=U s.heap (s.toks+1) s.toks fun _ _ e=>e
  simp only[D.py,PyData.showable,Rk] at hs;exact P.repr_of_int hs (by simpa only[D.py,PyData.shown] using this)
 |str z=>
  simp only[RepB,Rep] at J;obtain⟨J,_⟩:=J;subst J;obtain⟨t,rfl⟩:=Y;have:=U s.heap (s.toks+1) s.toks fun _ _ e=>e
  exact P.repr_of_str (by simpa only[D.py,PyData.shown] using this) (by simpa only[D.py,PyData.shown] using hz)
 |tup ds=>
  simp only[RepB,Rep] at J;obtain⟨a,ys,rfl,_⟩:=J;cases Y;exact repr_of_reads' ra hs (PyData.noDict_hsm (PyData.hasDict_of_canLay _ hl)) hg ∅ (fun _ _ e=>e) (fun h' t Z hk=>U h' Z t hk) hz
 |lst ds=>
  obtain⟨a,ys,rfl,_⟩:=J;cases Y;exact repr_of_reads' ra hs (PyData.noDict_hsm (PyData.hasDict_of_canLay _ hl)) hg ∅ (fun _ _ e=>e) (fun h' t Z hk=>U h' Z t hk) hz
 |feed=>cases hp
 |scr _=>cases hp
 |fn _=>cases hp
 |exc _ _=>cases hp
def Ko:V9 K (xZ K) (one V5):=dR fun g σ H fa O s x J d Q I r e k=>by
 unfold V5 at e;by_cases h:di J=true
 .rw[iR h] at e;cases e;refine#[_,_,J,x,rfl,r,h,k _ H StE.refl I ?_];simp only[Rep];unfold di at h;simp only[Qe,Rk] at h;exact#[trivial,h.2]
 .rw[iU h] at e;cases e
def vw (K:vF_):List V->Hp->VK->Prop:=fun xs H Q=>∃(a:Addr) (bs:List Bool),xs=[.ref a]/\SqL K H a (bs.map V.bl)/\Q (.bl (bs.all fun b=>b)) H
theorem BA:∀{bs:List Bool}{us:vV_},Vals (bs.map V.bl) us->us=bs.map Value.bool
 |[],_,.nil=>rfl
 |b::r,_,.cons q t=>by
  cases (show _=Value.bool b from q);rw[BA t];rfl
def vA (hc:X.calm=true):CallR X (.builtin "all") (vw X.K):=by
 intro pins s σ H xs us Q I r h;obtain⟨a,bs,rfl,hq,q⟩:=h;obtain⟨u,rfl,ru⟩:=X6 r;cases ru;obtain⟨its,rv,p,_⟩:=I.list hq;have eb:=BA rv;subst eb;refine call_all_walk (UX p.isList ?_);have Y:s.heap.IsList a (bs.map Value.bool).toArray:=p.isList;have ha:a<s.heap.objs.size:=by obtain⟨o,e,_⟩:=Y;exact PB e
 refine#[s.heap.objs.size,_,_,_,_,_,fun i=>(bs[i]?).getD true,rfl,Walks.list (A:=X.A.in1) (I.ok.hd hc) s.heap.objs.size a (Ql ha) (bs.map Value.bool).toArray,#[#[_,Qq _ rfl,rfl,rfl],?_],?_,fun h' tk hk=>?_]
 .obtain⟨o,e,c⟩:=Y;exact#[o,PF _ e,c]
 .intro i v s' Q' E' hv hQ;have J:(bs.map Value.bool)[i]? = some v:=by simpa using hv
  rw[Qy] at J;cases e:bs[i]? with
  |none=>rw[e] at J;cases J
  |some b=>
   rw[e] at J;cases J;have U:Q' b s':=by simpa [e] using hQ
   exact Rn U
 .have e1:((List.range (bs.map Value.bool).toArray.size).all fun i=>(bs[i]?).getD true)=bs.all fun b=>b:=by
   rw[Qc,PH,RC,QC,QC];constructor
   .intro h b Z;obtain⟨i,hi,e⟩:=List.mem_iff_getElem.mp Z;have:=h i (RS.mpr hi);rw[Qf hi,e] at this;exact this
   .intro h i hi;rw[RS] at hi;rw[Qf hi];exact h _ (Rl hi)
  rw[e1];refine#[.bl _,H,I.kept fun b o e=>hk b o ?_ (PF _ e),rfl,q];simp only[PV];exact Ql (PB e)
theorem sU:∀{ds:vD_}{c:Bool},eR ds=some c->∃bs:List Bool,ds=bs.map D.bl/\c=bs.all fun b=>b
 |[],c,h=>by cases h;exact#[[],rfl,rfl]
 |.bl b::r,c,h=>by
  simp only[eR] at h;refine Q0 h fun c' h1 h2=>?_
  obtain⟨bs,U,J⟩:=sU h1;exact#[b::bs,by rw[U];rfl,by rw[<-h2,J];rfl]
 |.non::r,c,h=>by cases h
 |.int _::r,c,h=>by cases h
 |.str _::r,c,h=>by cases h
 |.tup _::r,c,h=>by cases h
 |.lst _::r,c,h=>by cases h
 |.feed::r,c,h=>by cases h
 |.scr _::r,c,h=>by cases h
 |.fn _::r,c,h=>by cases h
 |.exc _ _::r,c,h=>by cases h
theorem zK :∀{bs:List Bool}{xs:List V},Reps K N fa H (bs.map D.bl) xs->xs=bs.map V.bl
 |[],xs,h=>by simpa only[Rj,Reps] using h
 |b::r,xs,h=>by
  simp only[PM,Reps,Rep] at h;obtain⟨x,ys,rfl,rfl,h⟩:=h;rw[zK h];rfl
def Cm:V9 K (vw K) (one jC):=dR fun g σ H fa O s x J d Q I r e k=>by
 cases J with
 |lst es=>
  refine Q0 (show (eR es).map D.bl=some d from e) fun c h1 h2=>?_
  subst h2;obtain⟨bs,rfl,rfl⟩:=sU h1;obtain⟨a,ys,rfl,_,q,w⟩:=r;have:=zK w;subst this;exact#[a,bs,rfl,SqL.of q,k _ H StE.refl I (by simp only[Rep])]
 |_=>cases e
end
end DL
namespace DL
open PySem PySem.Spec L2
def FS.get (key:Str) (f:FS):Option D:=
 if f.kind=0 then if key = "cells" then some (.lst (f.cells.map .int)) else if key = "at" then some (.int f.pos) else if key = "left" then some (.int f.left) else if key = "turn" then some (.int f.turn) else none else none
def FS.put (key:Str) (n:Int) (f:FS):Option FS:=
 if f.kind=0 then if key = "at" then some { f with pos:=n } else if key = "left" then some { f with left:=n } else if key = "turn" then some { f with turn:=n } else none else none
def Px (i:Nat) (key:Str):DE:=fun s=>match s.sl[i]? with
 |some (.v .feed)=>s.fs.bind fun f=>(f.get key).map fun d=>(d,s)
 |_=>none
def Py (i:Nat) (key:Str) (fe:DE):DM:=fun s=>(fe s).bind fun x=>match x.2.sl[i]?,x.1 with
 |some (.v .feed),.int n=>x.2.fs.bind fun f=>(f.put key n).map fun f'=>(.next,{ x.2 with fs:=some f' })
 |_,_=>none
section
variable {g:Gh}{key:Str}{pos:Pos}
def Fb (xs:List V) (h:xs.length<=63):X5 xs none (some 63)=xs:=by
 unfold X5;have U:HT.sIx xs.length 0 none=0:=rfl;have J:HT.sIx xs.length xs.length (some 63)=xs.length:=by
  have:=HT.sIx_nat xs.length xs.length 63;rw[show ((63:Nat):Int)=63 from rfl] at this;rw[this];omega
 rw[U,J,TX,SW,List.take_length]
end
def FS.tget (n:Int) (f:FS):Option D:=
 if f.kind=0 then none else if n=0 then some (.lst (f.cells.map .int)) else if n=1 then some (.int f.pos) else if n=2 then some (.int f.left) else if n=3/\f.kind≠1 then some (.int f.turn) else none
def FS.tput (n v:Int) (f:FS):Option FS:=
 if f.kind=0 then none else if n=1 then some { f with pos:=v } else if n=2 then some { f with left:=v } else if n=3/\f.kind≠1 then some { f with turn:=v } else none
def G6 (i:Nat) (n:Int):DE:=fun s=>match s.sl[i]? with
 |some (.v .feed)=>s.fs.bind fun f=>(f.tget n).map fun d=>(d,s)
 |_=>none
def V8 (i:Nat) (n:Int) (fe:DE):DM:=fun s=>(fe s).bind fun x=>match x.2.sl[i]?,x.1 with
 |some (.v .feed),.int v=>x.2.fs.bind fun f=>(f.tput n v).map fun f'=>(.next,{ x.2 with fs:=some f' })
 |_,_=>none
def FS.tget_val {n:Int}{f:FS}(h:f.tget n=some d) (c:Addr):∃v,D9 (P6 c f) n=some v/\((v = .ref c/\d = .lst (f.cells.map .int))\/∃i,v = .int i/\d = .int i)/\f.kind≠0:=by
 unfold FS.tget at h;split at h
 .cases h
 rename_i J;unfold P6;split at h
 .rename_i e;subst e;cases h;refine#[.ref c,?_,.inl #[rfl,rfl],J];split <;> rfl
 split at h
 .rename_i e;subst e;cases h;refine#[.int f.pos,?_,.inr #[_,rfl,rfl],J];split <;> rfl
 split at h
 .rename_i e;subst e;cases h;refine#[.int f.left,?_,.inr #[_,rfl,rfl],J];split <;> rfl
 split at h
 .rename_i e;obtain⟨e,U⟩:=e;subst e;cases h;refine#[.int f.turn,?_,.inr #[_,rfl,rfl],J];rw[iU U];rfl
 .cases h
def FS.tput_val {n v:Int}{f f':FS}(h:f.tput n v=some f') (c:Addr):∃j,W6 (P6 c f).length n=some j/\(P6 c f).set j (.int v)=P6 c f'/\f'.cells=f.cells/\f.kind≠0/\f'.kind≠0:=by
 unfold FS.tput at h;split at h
 .cases h
 rename_i J;split at h
 .rename_i e;subst e;cases h;refine#[1,?_,?_,rfl,J,J]
  .unfold P6;split <;> rfl
  .by_cases z:f.kind=1
   .simp[P6,z]
   .simp[P6,z]
 split at h
 .rename_i e;subst e;cases h;refine#[2,?_,?_,rfl,J,J]
  .unfold P6;split <;> rfl
  .by_cases z:f.kind=1
   .simp[P6,z]
   .simp[P6,z]
 split at h
 .rename_i e;obtain⟨e,U⟩:=e;subst e;cases h;refine#[3,?_,?_,rfl,J,J]
  .unfold P6;rw[iU U];rfl
  .simp[P6,U]
 .cases h
section
variable {g:Gh}{n:Int}{pos:Pos}
def Lh (hv:PE X (.Name x p1) (bq i)):EO X g (.Subscript (.Name x p1) (.Constant (.int n) j p2) pos) (G6 i n):=
 EO.w (zd ix_list hv cY (fun _ _=>rfl)) fun σ H Q hQ=>by
  refine hQ.elim fun fa O s d s' I e k=>?_
  unfold G6 at e;cases q:s.sl[i]? with
  |none=>rw[q] at e;cases e
  |some z=>
   rw[q] at e;cases z with
   |no=>cases e
   |own _=>cases e
   |v dz=>
    cases dz with
    |feed=>
     refine Y1 e fun f h1 h2=>?_
     refine Q0 h2 fun d' h3 h4=>?_
     cases h4;obtain⟨u,e1,r⟩:=SlR.val I.sl q;simp only[Rep] at r;obtain⟨a,Y,rfl⟩:=r;have fd:=I.fd;rw[h1,Y] at fd;obtain⟨_,c,U,nc,Z⟩:=fd;obtain⟨v,J,hd,hk⟩:=FS.tget_val h3 c;rw[mK hk] at U;refine#[_,e1,a,_,n,v,rfl,rfl,SqL.of U,J,k v H fa O StE.refl I ?_];rcases hd with ⟨rfl,rfl⟩ | ⟨n,rfl,rfl⟩
     .simp only[Rep];exact#[c,_,rfl,by rw[Y];exact nc,Z,Reps.ints]
     .simp only[Rep]
    |_=>cases e
def EM {e:Expr}{fe:DE}(hv:PE X (.Name x p1) (bq i)) (he:EO X g e fe) (hs:swapsWithSole [.Subscript (.Name x p1) (.Constant (.int n) j p2) pos'] e pos.line X.env=pure false:=by rfl) (hw:swappedStores [.Subscript (.Name x p1) (.Constant (.int n) j p2) pos'] e X.env=pure none:=by rfl) :
  SO X g (.Assign [.Subscript (.Name x p1) (.Constant (.int n) j p2) pos'] e pos) (V8 i n fe):=
 SO.w (tK he.pe (JZ hv cY Hw) hs hw) fun E σ H hQ=>by
  refine hQ.elim fun fa O s fl s' I q k=>?_
  refine A7 q fun d s1 h1 h2=>?_
  simp only[] at h2;cases q1:s1.sl[i]? with
  |none=>rw[q1] at h2;cases h2
  |some z=>
   rw[q1] at h2;cases z with
   |no=>cases h2
   |own _=>cases h2
   |v dz=>
    cases dz with
    |feed=>
     cases d with
     |int w=>
      simp only[] at h2;refine Y1 h2 fun f h3 h4=>?_
      refine Q0 h4 fun f' h5 h6=>?_
      cases h6;refine#[fa,O,s,.int w,s1,I,h1,fun v H1 f1 O1 a1 J r=>?_];simp only[Rep] at r;subst r;obtain⟨u,e1,ru⟩:=SlR.val J.sl q1;simp only[Rep] at ru;obtain⟨a,ha,rfl⟩:=ru;have fd:=J.fd;rw[h3,ha] at fd;obtain⟨lc63,c,hc,nc,lc⟩:=fd;obtain⟨m,hix,Z,U,hk,hk'⟩:=FS.tput_val h5 c;rw[mK hk] at hc;refine#[_,e1,a,_,n,m,rfl,rfl,hc,hix,?_];rw[Z];have a2:StE f1 O1 H1 f1 O1 (o7 H1 a (.lst (P6 c f'))):=#[fun _ h=>h,.inl rfl,fun b w e nb=>by rw[u5 (fun z=>nb (by rw[z];exact ha))];exact e,fun b z=>by
       by_cases Y:b=a
       .subst Y;rw[D1] at z;cases z
       .rw[u5 Y] at z;exact z]
      have cr:=J.car a2.stp;refine k σ _ f1 O1 (a1.stp.trans a2.stp) #[J.nd,SlR.go cr (fun b xs Y e=>a2.same b _ e fun z=>J.nf b z Y) J.sl,J.fr,?_,J.tr,J.ff,?_,J.nf]
      .refine#[fun b Y=>(by cases Y),J.st.fe,fun b w e _ nb=>?_,fun b z=>J.st.mon b (a2.mon b z)];refine a2.same b w (J.st.same b w e 'g' nb) fun z=>?_
       rcases J.st.fe with y | ⟨y,y2⟩
       .rw[y] at z;exact nb z
       .rw[y2 b z] at e;cases e
      .rw[ha];refine#[by rw[U];exact lc63,c,by rw[mK hk',D1],nc,?_];rw[u5 (fun z=>nc (.inr (.inr (by rw[z])))),U];exact lc
     |_=>cases h2
    |_=>cases h2
end
structure Cal (P:Program) (w:World) (K:vF_) (mg:vG_) (base:Heap) (k:Nat) (x:Str) (ps:List Str) (m:c8):Prop where
 ex:∃(f:Addr) (fd:FuncData),jA P w K mg base k f fd ps m/\mg x=some (.ref f)/\PySem.W.keepIn K (.ref f)=true/\Binds K fd ps []
structure Blt (mg:vG_):Prop where
 len:mg "len" = none
 range:mg "range" = none
 abs:mg "abs" = none
 tuple:mg "tuple" = none
 list:mg "list" = none
 int:mg "int" = none
 bool:mg "bool" = none
 str:mg "str" = none
 repr:mg "repr" = none
 all:mg "all" = none
 isinstance:mg "isinstance" = none
 zip:mg "zip" = none
 enumerate:mg "enumerate" = none
 min:mg "min" = none
 max:mg "max" = none
 reversed:mg "reversed" = none
 any:mg "any" = none
 sum:mg "sum" = none
 sorted:mg "sorted" = none
section
variable {g:Gh}{ps:List Str}{m:c8}{p pos:Pos}{t:DA}
def Om (C:Cal X.prog X.w X.K X.mg X.base k x ps m) (k':Nat) (hr:Room k' X.A) (hk:k<=k') (hg:Gl X x)
  (ha:AO X g (e::es) t) (hn:∀s ds s',t s=some (ds,s')->ds.length=ps.length) (J:(x == ("__debug__" : Str))=false:=by decide) (he:starEach (e::es) X.env=(false,eval e X.env)::starEach es X.env:=by rfl) (U:'x'.any (·.1)=false:=by rfl) :
  EO X g (.Call (.Name x p) (e::es) [] pos) (d9 m t):=by
 obtain⟨f,fd,F,hm,Y,Z⟩:=C.ex;exact NW F (hr.mono hk) hg hm Y Z ha hn J he U
end
def OV {w:World}{K:vF_}{st:Stmt}{f:Addr}{N ps:List Str}{b:DM}(F:Fun K x x st f fd) (U:mg x=some (.ref f)) (Y:Binds K fd ps []) (S:FnScope N ps (D4 st))
  (J:∀(cdv:Value) (A:Around) (outer:List Env) (s:Shared) (H:Hp) (E:XK) (g:Gh),Room k (A.deeper (PyProof.Rows.envOfC x (D4 st) s.heap.objs.size f cdv))->SSO (S4 Y9 P w K mg base N x (D4 st) f cdv A outer s H E).nox g (Q9 st) b) :
  Cal P w K mg base (k+1) x ps (A5 N.length b):=#[f,fd,vk F S J,U,F.kp,Y]
def dq (J:Room k A):A.units+64<cLine:=by have:=J.un;omega
def Gd (J:Room k A):A.units+66<cLine:=by have:=J.un;omega
def Ov:bootBuiltins ("len" : Str)=some (.builtin "len"):=by decide +kernel
def Fu:bootBuiltins ("abs" : Str)=some (.builtin "abs"):=by decide +kernel
def Hk:bootBuiltins ("repr" : Str)=some (.builtin "repr"):=by decide +kernel
def Ax:bootBuiltins ("all" : Str)=some (.builtin "all"):=by decide +kernel
def lU:bootBuiltins ("isinstance" : Str)=some (.builtin "isinstance"):=by decide +kernel
def U2:bootBuiltins ("tuple" : Str)=some (.type "tuple"):=by decide +kernel
def kE:bootBuiltins ("list" : Str)=some (.type "list"):=by decide +kernel
def fL:bootBuiltins ("int" : Str)=some (.type "int"):=by decide +kernel
def iC:bootBuiltins ("bool" : Str)=some (.type "bool"):=by decide +kernel
def pb:bootBuiltins ("str" : Str)=some (.type "str"):=by decide +kernel
theorem jL {κ:Type}[BEq κ] [LawfulBEq κ] {β:Type}:∀{l:List (κ × β)}{x:κ}{v:β},l.lookup x=some v->(x,v)∈l
 |[],_,_,h=>by simp at h
 |(a,b)::r,x,v,h=>by
  rw[UY] at h;cases e:x == a with
  |true=>
   rw[e] at h;cases h;rw[eq_of_beq e];exact PD ..
  |false=>
   rw[e] at h;exact Pz _ (jL h)
def hasAll (J:List (Str × NameKind)) (cl:List (Str × Addr)):Bool:=J.all fun p=>!(p.2 == .cell||p.2 == .free)||(cl.lookup p.1).isSome
def AM {J:List (Str × NameKind)}(h:hasAll J cl=true):∀x,(J.lookup x=some .cell\/J.lookup x=some .free)->∃c,cl.lookup x=some c:=fun x Y=>by
 have key:∀U,J.lookup x=some U->(U == NameKind.cell||U == NameKind.free)=true->∃c,cl.lookup x=some c:=fun U e q=>by
  have m:=jL e;have z:=QC.mp h _ m;simp only[q,Bool.not_true,Bool.false_or] at z;exact VD.mp z
 rcases Y with e | e
 .exact key _ e rfl
 .exact key _ e rfl
inductive CapL (X:Cx) (scope:Scope):List Nat->List Str->Prop where
 | nil:CapL X scope [] []
 | cons {i:Nat}{y:Str}{r:List Nat}{ys:List Str}(h1:X.N[i]? = some y) (h2:X.env.scope.names.lookup y=some .cell\/X.env.scope.names.lookup y=some .free)
   (h3:(relabel scope X.env).names.lookup y=some .cell\/(relabel scope X.env).names.lookup y=some .free) (t:CapL X scope r ys):CapL X scope (i::r) (y::ys)
def CapL.len :∀{idx:List Nat}{ys:List Str},CapL X scope idx ys->ys.length=idx.length
:= by
 intro idx ys h;induction h with
 |nil=>rfl
 |cons _ _ _ t ih=>rw[PX,PX,ih]
def CapL.at :∀{idx:List Nat}{ys:List Str},CapL X scope idx ys->∀(j i:Nat) (y:Str),idx[j]? = some i->ys[j]? = some y ->
  X.N[i]? = some y/\(X.env.scope.names.lookup y=some .cell\/X.env.scope.names.lookup y=some .free)/\((relabel scope X.env).names.lookup y=some .cell\/(relabel scope X.env).names.lookup y=some .free)
:= by
 intro idx ys h;induction h with
 |nil=>intro j i y h;cases h
 |cons h1 h2 h3 t ih=>
  intro j i y e1 e2;cases j with
  |zero=>
   cases e1;cases e2;exact#[h1,h2,h3]
  |succ j=>exact ih j i y e1 e2
inductive SubL (cells:List (Str × Addr)):List (Str × Addr)->Prop where
 | nil:SubL cells []
 | cons {x:Str}{c:Addr}{r:List (Str × Addr)}(h:cells.lookup x=some c) (t:SubL cells r):SubL cells ((x,c)::r)
def SubL.mem {J:List (Str × Addr)}:∀{cl:List (Str × Addr)},SubL J cl->∀x c,(x,c)∈cl->J.lookup x=some c
:= by
 intro cl h;induction h with
 |nil=>intro x c h;cases h
 |cons e t ih=>
  intro x c h;rcases xo.mp h with z | z
  .cases z;exact e
  .exact ih x c z
def aK (J:closureFor scope X.env=pure cl) (sub:SubL X.env.cells cl) (cell:∀y∈scope.names,y.2 ≠ .cell) (kind:scope.kind = .function)
  (names:∀y∈scope.names,y.2 = .local->scope.names.lookup y.1=some .local) (Y:hasAll (relabel scope X.env).names cl=true) (U:CapL X scope idx caps):CompOk X scope cl (x::caps) 1 idx:=
 #[J,fun y c e=>sub.mem y c (jL e),cell,kind,names,AM Y,by rw[PX,U.len,Rt],fun j i y e1 Z=>U.at j i y e1 (by rw[Rt] at Z;simpa using Z)]
def u6 (i j:Nat) (f:DA):DM:=fun s=>(f s).bind fun x=>match x.1 with
 |[a,b]=>some (.next,{ x.2 with sl:=(x.2.sl.set i (.v a)).set j (.v b) })
 |_=>none
section
variable {g:Gh}
def Hz {i j:Nat}{x y:Str}{a b:Expr}{f:DA}{px py pt pos:Pos}{kt k2 pt2} (hc:X.calm=true) (hN:X.N.Nodup) (hi:X.N[i]? = some x) (hj:X.N[j]? = some y) (U:i≠j)
  (hx:X.env.scope.names.lookup x=some .local) (hy:X.env.scope.names.lookup y=some .local) (ha:AO X g [a,b] f)
  (hw:swappedStores [.Tuple [.Name x px,.Name y py] kt pt] (.Tuple [a,b] k2 pt2) X.env=pure (some [x,y]))
  (hs:swapsWithSole [.Tuple [.Name x px,.Name y py] kt pt] (.Tuple [a,b] k2 pt2) pos.line X.env=pure false:=by rfl) :
  SO X g (.Assign [.Tuple [.Name x px,.Name y py] kt pt] (.Tuple [a,b] k2 pt2) pos) (u6 i j f):=SO.w (Gu hc hN hi hj U hx hy ha.pe hw hs) fun E σ H hQ=>by
 refine hQ.elim fun fa O s fl s' I q k=>?_
 refine A7 q fun ds s1 h1 h2=>?_
 refine#[fa,O,s,ds,s1,I,h1,fun vs H1 f1 O1 a1 Z r=>?_]
 match ds,h2,r with
 |[d1,d2],h2,r=>
  simp only[Qt,Qa] at h2;obtain⟨e1,e2⟩:=h2;subst e1;subst e2;simp only[Reps] at r;obtain⟨v,ys,rfl,rv,u,zs,rfl,ru,rfl⟩:=r;refine#[v,u,rfl,?_];obtain⟨P,sub,I2⟩:=Z.put i rv;have Y:StE f1 O1 H1 f1 P H1:=gM sub;obtain⟨P3,J,I3⟩:=I2.put j (Rep.stp Z Y.stp ru);exact k _ H1 f1 P3 (a1.stp.trans (Y.stp.trans (gM J).stp)) I3
end
def walkD {l:PySem.W.OpenLaw}{d:DefRec}{K:Params->PySem.W.Frag}{m:c8}(hn:l.most=some 63) (U:d.params.defaults=[]) (Z:Room k callerA)
  (hY:∀(w:World) (h:Heap),YP w h->(K w.params).In h)
  (F:∀(w:World) (mg:vG_) (fa:Addr) (h:Heap),(K w.params).In h->h.Ns mainGlobals mg->mg d.name=some (.ref fa) ->
   ∃fd:FuncData,(∀(s:Shared) (u:Value),BindsTo s fd #[[u],[]] [("_law_script",u)])/\∀base:Heap,(K w.params).In base->base.Ns mainGlobals mg->FnOk l.prog w (K w.params) mg base Y9 k fa fd ["_law_script"] (fw (K w.params) 1 m))
  (J:∀ns:List Int,ns.length<=63->∃fs',m [.scr ns] none=some (.bl true,fs')) :
  PySem.W.WalkO q loose XP YP l.row.toRowW d [] (fun f vs=>PySem.call f vs):=
 L2.walk_of (n:=63) (k:=k) (x := "_law_script") (CX:=fun _=>Y9) (sp:=fun w=>fw (K w.params) 1 m) hn #[] U Z hY F (fun w H a ns Y hO hS=>by
  obtain⟨fs',e⟩:=J ns Y;refine#[fun _=>False,none,[.scr ns],none,.bl true,fs',fun b z=>z.elim,fun a z=>(by cases z),?_,trivial,e,rfl,fun v H' fa' _ _ r=>by simpa only[Rep] using r];simp only[Reps,Rep];refine#[_,_,rfl,#[Y,a,rfl,?_],rfl];rcases hS with (z | ⟨o,z⟩) | z
  .rcases hO a with y | ⟨o,xs,y⟩ <;> · rw[z] at y;cases y
  .exact .inl #[o,z]
  .exact .inr z) fun _ _ _ _ _ z=>z
def vJ:D->Option String
 |.non=>some "NoneType"
 |.bl _=>some "bool"
 |.int _=>some "int"
 |.str _=>some "str"
 |.tup _=>some "tuple"
 |.lst _=>some "list"
 |_=>none
def D2 (T C:String):Bool:=T == C||(T == "bool" && C == "int")
def A2 (C:String) (d:D):Option D:=(vJ d).map fun T=>.bl (D2 T C)
def gH (K:vF_) (C:String):Prop:=∀T,T = "NoneType" \/ T = "bool" \/ T = "int" \/ T = "str" \/ T = "tuple" \/ T = "list" -> PySem.W.kitOne K (.type T) (.type C)=some (D2 T C)
def lJ {K:vF_}:gH K "int" := by rintro T (rfl | rfl | rfl | rfl | rfl | rfl) <;> rfl
def kv {K:vF_}:gH K "bool" := by rintro T (rfl | rfl | rfl | rfl | rfl | rfl) <;> rfl
def xO {K:vF_}:gH K "str" := by rintro T (rfl | rfl | rfl | rfl | rfl | rfl) <;> rfl
def W8 {K:vF_}:gH K "tuple" := by rintro T (rfl | rfl | rfl | rfl | rfl | rfl) <;> rfl
def CF (K:vF_) (C:String):List V->Hp->VK->Prop:=fun xs H Q=>∃N fa d T x,xs=[x,.ty C]/\RepB K N fa H d x/\vJ d=some T/\Q (.bl (D2 T C)) H
def FN (Z:gH X.K C):CallR X (.builtin "isinstance") (CF X.K C):=by
 intro pins s σ H xs us Q I r h;obtain⟨N,fa,d,T,x,rfl,J,Y,q⟩:=h;obtain⟨u,c,rfl,ru,rc⟩:=qz r;cases (show c=Value.type C from rc);have U:∀tk,EP X pins σ Q (.bool (D2 T C)) { s with toks:=tk }:=fun tk=>#[.bl (D2 T C),H,I.tok tk,rfl,q]
 cases d with
 |non=>
  cases Y;simp only[RepB,Rep] at J;subst J;cases ru;exact Sb PySem.W.kitx_none I.kIn True.intro (Z _ (by simp)) (fun z=>nomatch z) U
 |bl b=>
  cases Y;simp only[RepB,Rep] at J;subst J;cases ru;exact Sb PySem.W.kitx_bool I.kIn True.intro (Z _ (by simp)) (fun z=>nomatch z) U
 |int i=>
  cases Y;simp only[RepB,Rep] at J;subst J;obtain⟨t,rfl⟩:=ru;exact Sb PySem.W.kitx_int I.kIn True.intro (Z _ (by simp)) (fun z=>nomatch z) U
 |str i=>
  cases Y;simp only[RepB,Rep] at J;obtain⟨J,_⟩:=J;subst J;obtain⟨t,rfl⟩:=ru;exact Sb PySem.W.kitx_str I.kIn True.intro (Z _ (by simp)) (fun z=>nomatch z) U
 |tup ds=>
  cases Y;simp only[RepB,Rep] at J;obtain⟨a,ys,rfl,sq,_⟩:=J;cases ru;obtain⟨its,_,⟨o,h1,h2,_⟩,_⟩:=I.tuple sq;exact Sb PySem.W.kitx_tuple I.kIn #[o,h1,h2] (Z _ 'g') (fun z=>nomatch z) U
 |lst ds=>
  cases Y;obtain⟨a,ys,rfl,_,sq,_⟩:=J;cases ru;obtain⟨its,_,⟨o,n,h1,h2,_⟩,_⟩:=I.list (SqL.of sq);exact Sb PySem.W.kitx_list I.kIn #[o,h1,h2] (Z _ 'g') (fun z=>nomatch z) U
 |feed=>cases Y
 |scr _=>cases Y
 |fn _=>cases Y
 |exc _ _=>cases Y
section
variable {g:Gh}{a b c:Expr}{fa fb fc:DE}{pos:Pos}
def N4 {p p2:Pos}(hk:gH X.K C) (hg:Gl X "isinstance") (hm:X.mg "isinstance" = none) (hgc:Gl X cn) (U:X.mg cn=none) (J:bootBuiltins cn=some (.type C)) (ha:BO X g a fa)
  (hn:cn ≠ "__name__" := by decide) (hd:(cn == ("__debug__" : Str))=false:=by decide) (Y:starEach [.Name cn p2] X.env=(false,eval (.Name cn p2) X.env)::starEach [] X.env:=by rfl)
  (he:starEach [a,.Name cn p2] X.env=(false,eval a X.env)::starEach [.Name cn p2] X.env:=by rfl) (Z:(backTo pos (starEach [.Name cn p2] X.env)).any (·.1)=false:=by rfl) :
  EO X g (.Call (.Name "isinstance" p) [a,.Name cn p2] [] pos) (j4 (A2 C) fa):=
 EO.w (hU (FN hk) hg hm lU (P1 ha.pe (P1 (tD (v:=.ty C) hgc U J rfl hn hd) V3 Y) he) #[] #[] he Z) fun σ H Q hQ=>by
  refine hQ.elim fun f0 O s d s' I e k=>?_
  refine A7 e fun x s1 h1 h=>?_
  refine Q0 h fun d' h3 h=>?_
  simp only[Qa] at h;obtain⟨e1,e2⟩:=h;subst e1;subst e2;refine Q0 h3 fun T h4 h5=>?_
  subst h5;exact#[f0,O,s,x,s1,I,h1,fun v H1 f1 O1 a1 I1 r1=>#[_,_,x,T,v,rfl,r1,h4,k _ H1 f1 O1 a1 I1 (by simp only[Rep])]]
def ao (p p':D->D->Option D) (fa fb fc:DE):DE:=fun s=>(fa s).bind fun x=>(fb x.2).bind fun y=>(p x.1 y.1).bind fun z=>match z with
 |.bl true=>(fc y.2).bind fun w=>(p' y.1 w.1).map fun d=>(d,w.2)
 |.bl false=>some (.bl false,y.2)
 |_=>none
def zo {r:R2}(hr:J9 X.K r p) (hr':J9 X.K r' p') (σ:L2.St) (H:Hp) (Q:VK) (h:liftE X.K g (ao p p' fa fb fc) σ H Q):oy r r' (liftB X.K g fa) (liftB X.K g fb) (liftB X.K g fc) σ H Q:=by
 refine gB_ fun G_ g_=>?_
 obtain⟨f0,O,s,d,s',I,e,k⟩:=h;apply g_;refine A7 e fun x s1 h1 e=>?_
 refine A7 e fun y s2 h2 e=>?_
 refine Y1 e fun z h3 e=>?_
 refine#[f0,O,s,x,s1,I,h1,fun v H1 f1 O1 a1 I1 r1=>#[f1,O1,s1,y,s2,I1,h2,fun u H2 U O2 Z I2 r2=>?_]];refine hr g σ H2 U O2 s2 v u x y z _ I2 (RepB.stp I1 Z r1) r2 h3 fun zz H3 Y I3 r3=>?_
 cases z with
 |bl b=>
  simp only[Rep] at r3;subst r3;refine#[b,rfl,?_];cases b with
  |false=>
   simp only[Qt,Qa] at e;obtain⟨e1,J⟩:=e;subst e1;subst J;exact zj (k _ H3 U O2 (a1.trans (Z.trans Y)) I3 (by simp only[Rep]))
  |true=>
   refine A7 e fun w s3 h4 e=>?_
   refine Q0 e fun d' h5 e=>?_
   simp only[Qa] at e;obtain⟨e1,J⟩:=e;subst e1;subst J;refine Bq #[U,O2,s2,w,s3,I3,h4,fun w' H4 f4 O4 a4 I4 r4=>?_];exact hr' g σ H4 f4 O4 s3 u w' y w d' Q I4 (RepB.stp I3 a4 (RepB.stp I2 Y r2)) r4 h5 fun q H5 a5 I5 r5=>k q H5 f4 O4 (a1.trans (Z.trans (Y.trans (a4.trans a5)))) I5 r5
 |_=>cases e
def HH {Y J:CmpOp}{r r':R2}{p p':D->D->Option D}(ho:OpR X (compareOp Y) r) (hr:J9 X.K r p) (Z:OpR X (compareOp J) r') (U:J9 X.K r' p') (ha:BO X g a fa) (hb:BO X g b fb) (hc:BO X g c fc)
  (hm:lastMarks [Y,J] [b,c]=false:=by with_unfolding_all rfl):EO X g (.Compare a [Y,J] [b,c] pos) (ao p p' fa fb fc):=EO.w (IA ho Z ha.pe hb.pe hc.pe hm) (zo hr U)
def Gy {U J:CmpOp}{r r':R2}{p p':D->D->Option D}(ho:OpR X (compareOp U) r) (hr:J9 X.K r p) (Z:OpR X (compareOp J) r') (Y:J9 X.K r' p') (ha:BO X g a fa) (hb:BO X g b fb) (hc:BO X g c fc)
  (hm:lastMarks [U,J] [b,c]=false:=by with_unfolding_all rfl):TO X g (.Compare a [U,J] [b,c] pos) (dB (ao p p' fa fb fc)):=
 TO.w (IT ho Z ha.pe hb.pe hc.pe hm) fun σ H Q ⟨f0,O,s,d,s',I,e,k⟩=>zo hr Y σ H _ #[f0,O,s,.bl d,s',I,iX e,fun v H' f1 O1 a I1 r=>by
  simp only[Rep] at r;exact#[d,r,k H' f1 O1 a I1]]
abbrev DO:=DS->Option (Option Int × DS)
def liftO (K:vF_) (g:Gh) (f:DO):L2.TO:=fun σ H Q=>∃fa O s d s',GI K g σ H fa O s/\f s=some (d,s')/\∀H' fa' O',StE fa O H fa' O' H'->GI K g σ H' fa' O' s'->Q d H'
def liftO.elim {K:vF_}{g:Gh}{σ:L2.St}{f:DO}{Q:Option Int->Hp->Prop}(h:liftO K g f σ H Q) (k:∀fa O s d s',GI K g σ H fa O s->f s=some (d,s')->(∀H' fa' O',StE fa O H fa' O' H'->GI K g σ H' fa' O' s'->Q d H')->G):G:=by
 refine gB_ fun U J=>?_
 obtain⟨fa,O,s,d,s',a,b,c⟩:=h;apply J;exact k fa O s d s' a b c
structure OO (X:Cx) (g:Gh) (e:Option Expr) (f:DO):Prop where
 pe:PO X e (liftO X.K g f)
def G7:DO:=fun s=>some (none,s)
def G9 (f:DE):DO:=fun s=>(f s).bind fun x=>match x.1 with | .int i=>some (some i,x.2) | _=>none
def Pn {e:Option Expr}{t t':L2.TO}(h:PO X e t) (w:∀σ H Q,t' σ H Q->t σ H Q):PO X e t':=fun pins s σ H Q I q=>h pins s σ H Q I (w σ H Q q)
theorem OO.w {e:Option Expr}{f:DO}{t:L2.TO}(h:PO X e t) (w:∀σ H Q,liftO X.K g f σ H Q->t σ H Q):OO X g e f:=#[Pn h w]
def Ll:OO X g none G7:=OO.w AU fun σ H Q J=>by
 refine J.elim fun U O s d s' I e k=>?_
 cases e;exact k H U O StE.refl I
def ET (h:BO X g a fa):OO X g (some a) (G9 fa):=OO.w (wY h.pe) fun σ H Q hQ=>by
 refine hQ.elim fun Y O s d s' I e k=>?_
 refine A7 e fun x s1 h1 e=>?_
 cases x with
 |int i=>
  simp only[Qt,Qa] at e;obtain⟨e1,U⟩:=e;subst e1;subst U;exact#[Y,O,s,.int i,s1,I,h1,fun v H1 f1 O1 J Z r1=>#[i,by simpa only[RepB,Rep] using r1,k H1 f1 O1 J Z]]
 |_=>cases e
def B1 (xs:vD_) (lo hi:Option Int):List D:=(xs.drop (HT.sIx xs.length 0 lo)).take (HT.sIx xs.length xs.length hi - HT.sIx xs.length 0 lo)
def qC {K:vF_}{fa:vA_}(r:Reps K N fa H ds xs) (lo hi:Option Int):Reps K N fa H (B1 ds lo hi) (X5 xs lo hi):=by
 unfold B1 X5;rw[r.length];exact(r.drop _).take _
end
end DL
namespace HT2
open PySem PyProof.Rows HT
section
variable {w:World}
def getItem_tuple_whole {t sl:Addr}{lo hi:Option Int}(U:IsTup s.heap t items) (hs:s.heap.IsSliceOf sl vl vu .none) (pl:IsPart vl lo) (pu:IsPart vu hi)
  (hw:sIx items.size 0 lo=0/\sIx items.size items.size hi=items.size) (h:Q (.ref t) s):wpAny 'd' A (getItem (.ref t) (.ref sl)) Q E s:=by
 obtain⟨os,Z,hcs,hds⟩:=id hs;have Y:s.TypeIs (.ref sl) "slice" := #[os,Z,hcs]
 unfold getItem
 try with_reducible refine QP ?_
 first | refine gV (td ?_) | skip
 refine gV (TL U.typeIs #[] ?_);refine gV (QV (name:=Str.ofString "__getitem__") U.typeIs QZ
  (QF QZ U.typeIs TM ?_ (TN _ _)))
 show wpAny _ _ (Builtin.Tuple.tupleItemsOf (.ref t) >>= _) _ _ s;refine gV (tupleItemsOf_ U ?_);refine gV (RE Y ?_);rw[iR #[]];refine gV (uQ hs pl pu ?_);have J:'q'=true:=by
  rw[hw.1,hw.2];simp
 show wpAny _ _ (if 'q'=true then _ else _) _ _ s;rw[iR J];refine gV (m:=Builtin.Tuple.tupleIsExact _) (gV (RE U.typeIs (td ?_)));rw[iR #[]]
 first
  | exact gV (QY (gV (td (td #[_,rfl,td h]))))
  | exact gV (QY (td #[_,rfl,td h]))
  | exact gV (QY (gV (td #[_,rfl,td h])))
end
end HT2
namespace DL
open PySem PySem.Spec L2
section
variable {g:Gh}{a:Expr}{fa:DE}{pos:Pos}
def FK (K:vF_):V->Option Int->Option Int->Hp->VK->Prop:=fun x lo hi H Q=>∃a xs,x = .ref a/\SqT K H a xs/\(HT.sIx xs.length 0 lo=0/\HT.sIx xs.length xs.length hi=xs.length)/\Q (.ref a) H
def Et:L2.SlR X (FK X.K):=by
 intro pins s σ H x v vl vu lo hi sl Q I Z hs pl pu h;obtain⟨a,xs,rfl,hx,Y,q⟩:=h;cases Z;obtain⟨its,r,U,hz⟩:=I.tuple hx;have J:its.toArray.size=xs.length:=by rw[Qc];exact r.length.symm
 refine#["tuple",_,QZ.lookup,U.typeIs,?_];exact HT2.getItem_tuple_whole U hs pl pu (by rw[J];exact Y) #[.ref a,H,I,rfl,q]
def LH {xs:vD_}{lo hi:Option Int}(h:HT.sIx xs.length 0 lo=0/\HT.sIx xs.length xs.length hi=xs.length):B1 xs lo hi=xs:=by
 unfold B1;rw[h.1,h.2,TX,SW,List.take_length]
noncomputable def F6 (f:DE) (lo hi:DO):DE:=fun s=>(f s).bind fun x=>(lo x.2).bind fun l=>(hi l.2).bind fun h=>match x.1 with
 |.tup ds=>some (.tup (B1 ds l.1 h.1),h.2)
 |.lst ds=>some (.lst (B1 ds l.1 h.1),h.2)
 |_=>none
def Oc {x r:D}{F:List D->List D}{t z:DS}(e:(match x with
 |.tup ds=>some (D.tup (F ds),t)
 |.lst ds=>some (D.lst (F ds),t)
 |_=>none)=some (r,z)):t=z/\((∃ds,x = .lst ds/\r = .lst (F ds))\/∃ds,x = .tup ds/\r = .tup (F ds)):=by
 cases x with
 |tup ds=>cases e;exact#[rfl,.inr #[ds,rfl,rfl]]
 |lst ds=>cases e;exact#[rfl,.inl #[ds,rfl,rfl]]
 |_=>cases e
def Dr {lo hi:Option Expr}{fl fh:DO}(ha:BO X g a fa) (hl:OO X g lo fl) (hh:OO X g hi fh):EO X g (.Subscript a (.Slice lo hi none p2) pos) (F6 fa fl fh):=
 EO.w (yX (L2.SlR.or (L2.SlR.or OG Et) wO) ha.pe hl.pe hh.pe) fun σ H Q hQ=>by
  refine hQ.elim fun f0 O s d s' I e k=>?_
  refine A7 e fun x s1 h1 e=>?_
  refine A7 e fun l s2 h2 e=>?_
  refine A7 e fun h s3 h3 e=>?_
  obtain⟨rfl,c⟩:=Oc (F:=fun ds=>B1 ds l h) e;refine#[f0,O,s,x,s1,I,h1,fun v H1 f1 O1 a1 I1 r1=>#[f1,O1,s1,l,s2,I1,h2,fun H2 f2 O2 a2 I2=>#[f2,O2,s2,h,s3,I2,h3,fun H3 J U a3 I3=>?_]]];have r3:=RepB.stp I2 a3 (RepB.stp I1 a2 r1);rcases c with ⟨ds,rfl,rfl⟩ | ⟨ds,rfl,rfl⟩
  .obtain⟨c,xs,rfl,_,q,w⟩:=r3;refine .inr #[c,xs,rfl,SqL.of q,fun p Z=>?_];have Y:StE J U H3 J U (o7 H3 p (.lst (X5 xs l h))):=F9 Z;have L:=df I3 Z (qC w l h);refine k _ _ J U (a1.trans (a2.trans (a3.trans Y))) L.gi ?_;simp only[Rep];exact#[p,_,rfl,kj I3 Y L.gi Z L.nf,D1,Reps.stp I3 Y.stp (qC w l h)]
  .simp only[RepB,Rep] at r3;obtain⟨c,xs,rfl,q,w⟩:=r3;by_cases hw:HT.sIx xs.length 0 l=0/\HT.sIx xs.length xs.length h=xs.length
   .refine .inl (.inr #[c,xs,rfl,q,hw,k _ H3 J U (a1.trans (a2.trans a3)) I3 ?_]);rw[w.length] at hw;rw[LH hw];simp only[Rep];exact#[c,xs,rfl,q,w]
   .refine .inl (.inl #[c,xs,rfl,q,hw,fun p Z=>?_]);have Y:StE J U H3 J U (o7 H3 p (.tup (X5 xs l h))):=F9 Z;refine k _ _ J U (a1.trans (a2.trans (a3.trans Y))) (I3.new Z) ?_;simp only[Rep];exact#[p,_,rfl,SqT.of D1,Reps.stp I3 Y.stp (qC w l h)]
end
end DL
namespace HT3
open PySem PyProof.Rows HT
section
variable {w:World}
def Gm (n:Nat):Builtin.Slice.sliceAdjust none none (-1) (n:Int)=((n:Int) - 1,-1):=by
 have h1:((-1:Int)<0):=by omega
 unfold Builtin.Slice.sliceAdjust;simp only[h1,Qs]
def GW (n:Nat):Builtin.Slice.slicePlaces ((n:Int) - 1) (-1) (-1)=n:=by
 unfold Builtin.Slice.slicePlaces;have h1:¬ ((-1:Int)>0):=by omega
 simp only[h1,QU];have e:-(-1:Int)=1:=rfl;rw[e,Int.ediv_one];split <;> omega
def FA {sl:Addr}{t:Tok}{Q:Int × Int × Nat->Shared->Prop}(Z:s.heap.IsSliceOf sl .none .none (.int (-1) t))
  (h:Q ((n:Int) - 1,-1,n) s):wpAny 'd' A (Builtin.Slice.sliceApplied (.ref sl) (pure (n:Int))) Q E s:=by
 obtain⟨os,J,Y,U⟩:=id Z;unfold Builtin.Slice.sliceApplied Builtin.Slice.sliceFields;refine gV (gV (PZ J U (x:=.none) rfl (gV (PZ J U (x:=.none) rfl (gV (PZ J U (x:=.int (-1) t) rfl (td ?_)))))));refine gV (slicePart_int ?_);show wpAny _ _ (if ((-1:Int) == 0)=true then _ else _) _ _ s;rw[iU #[]];refine gV (Sn (gV (Sn (gV (td ?_)))));show wpAny _ _ (match Builtin.Slice.sliceAdjust none none (-1) (n:Int) with | (lo,hi)=>pure (lo,(-1:Int),Builtin.Slice.slicePlaces lo hi (-1))) _ _ s;rw[Gm n];show wpAny _ _ (pure ((n:Int) - 1,(-1:Int),Builtin.Slice.slicePlaces ((n:Int) - 1) (-1) (-1))) _ _ s;rw[GW];exact td h
def Ey (xs:vR_):((List.range xs.size).filterMap fun (m:Nat)=>xs[(((xs.size:Int) - 1)+(m:Int)*(-1)).toNat]?).toArray=xs.toList.reverse.toArray:=by
 congr 1;have e:((List.range xs.size).filterMap fun (m:Nat)=>xs[(((xs.size:Int) - 1)+(m:Int)*(-1)).toNat]?)=((List.range xs.size).filterMap fun (m:Nat)=>xs.toList.reverse[m]?):=by
  have cg:∀(l:List Nat) (f g:Nat->Option Value),(∀m∈l,f m=g m)->l.filterMap f=l.filterMap g:=by
   intro l f g;induction l with
   |nil=>intro _;rfl
   |cons a r Y=>intro h;rw[RT,RT,h a (PD ..),Y fun m J=>h m (Pz _ J)]
  refine cg _ _ _ fun m J=>?_
  have U:m<xs.size:=RS.mp J;have:(((xs.size:Int) - 1)+(m:Int)*(-1)).toNat=xs.size - 1 - m:=by omega
  rw[this,List.getElem?_reverse (by simpa using U)];simp
 rw[e];have Z:xs.size=xs.toList.reverse.length:=by simp
 rw[Z];generalize xs.toList.reverse=l;clear e Z;induction l with
 |nil=>rfl
 |cons a r Y=>
  rw[PX,VJ,RT];simp only[VL,List.filterMap_map];congr 1
def getItem_tuple_rev {t sl:Addr}{items:vR_}{tk:Tok}{Q:vQ_}(U:IsTup s.heap t items) (hs:s.heap.IsSliceOf sl .none .none (.int (-1) tk))
  (h:Q (.ref s.heap.objs.size) { s with heap:=s.heap.push { cls:=.type "tuple",data:=.seq items.toList.reverse.toArray } })
  (hsz:items.size<=sizeLine):wpAny 'd' A (getItem (.ref t) (.ref sl)) Q E s:=by
 have J:sizeOk (.seq items.toList.reverse.toArray):=by
  show items.toList.reverse.toArray.size<=sizeLine;rw[Qc,List.length_reverse,TF];exact hsz
 obtain⟨os,hos,hcs,hds⟩:=id hs;have Z:s.TypeIs (.ref sl) "slice" := #[os,hos,hcs]
 unfold getItem
 try with_reducible refine QP ?_
 first | refine gV (td ?_) | skip
 refine gV (TL U.typeIs #[] ?_);refine gV (QV (name:=Str.ofString "__getitem__") U.typeIs QZ
  (QF QZ U.typeIs TM ?_ (TN _ _)))
 show wpAny _ _ (Builtin.Tuple.tupleItemsOf (.ref t) >>= _) _ _ s;refine gV (tupleItemsOf_ U ?_);refine gV (RE Z ?_);rw[iR #[]];refine gV (FA hs ?_);have Y:¬ ((((items.size:Int) - 1) == 0&&(-1:Int) == 1&&items.size == items.size)=true):=by
  intro q;rw[Qe,Qe] at q;exact absurd q.1.2 #[]
 show wpAny _ _ (if (((items.size:Int) - 1) == 0&&(-1:Int) == 1&&items.size == items.size)=true then _ else _) _ _ s;rw[iU Y,Ey]
 first
  | exact gV (m:=Builtin.Tuple.tupleExact _) (QQ (td #[_,rfl,td h]) J)
  | exact gV (m:=Builtin.Tuple.tupleExact _) (QQ (gV (td (td #[_,rfl,td h]))) J)
  | exact gV (gV (m:=Builtin.Tuple.tupleExact _) (QQ (td (td #[_,rfl,td h])) J))
  | exact gV (gV (m:=Builtin.Tuple.tupleExact _) (QQ (td #[_,rfl,td h]) J))
def NU {sl:Addr}{t:Tok}{Q:Int × Int × Nat->Shared->Prop}(Z:s.heap.IsSliceOf sl .none .none (.int 1 t))
  (h:Q (0,1,n) s):wpAny 'd' A (Builtin.Slice.sliceApplied (.ref sl) (pure (n:Int))) Q E s:=by
 obtain⟨os,J,Y,U⟩:=id Z;unfold Builtin.Slice.sliceApplied Builtin.Slice.sliceFields;refine gV (gV (PZ J U (x:=.none) rfl (gV (PZ J U (x:=.none) rfl (gV (PZ J U (x:=.int 1 t) rfl (td ?_)))))));refine gV (slicePart_int ?_);show wpAny _ _ (if ((1:Int) == 0)=true then _ else _) _ _ s;rw[iU #[]];refine gV (Sn (gV (Sn (gV (td ?_)))));show wpAny _ _ (match Builtin.Slice.sliceAdjust none none 1 (n:Int) with | (lo,hi)=>pure (lo,(1:Int),Builtin.Slice.slicePlaces lo hi 1)) _ _ s;rw[AD none none n];show wpAny _ _ (pure (((sIx n 0 none:Nat):Int),(1:Int),Builtin.Slice.slicePlaces ((sIx n 0 none:Nat):Int) ((sIx n n none:Nat):Int) 1)) _ _ s;rw[tY];exact td h
def getItem_tuple_one {t sl:Addr}{tk:Tok}(U:IsTup s.heap t items) (hs:s.heap.IsSliceOf sl .none .none (.int 1 tk)) (h:Q (.ref t) s):wpAny 'd' A (getItem (.ref t) (.ref sl)) Q E s:=by
 obtain⟨os,Z,hcs,hds⟩:=id hs;have Y:s.TypeIs (.ref sl) "slice" := #[os,Z,hcs]
 unfold getItem
 try with_reducible refine QP ?_
 first | refine gV (td ?_) | skip
 refine gV (TL U.typeIs #[] ?_);refine gV (QV (name:=Str.ofString "__getitem__") U.typeIs QZ
  (QF QZ U.typeIs TM ?_ (TN _ _)))
 show wpAny _ _ (Builtin.Tuple.tupleItemsOf (.ref t) >>= _) _ _ s;refine gV (tupleItemsOf_ U ?_);refine gV (RE Y ?_);rw[iR #[]];refine gV (NU hs ?_);have J:((0:Int) == 0&&(1:Int) == 1&&items.size == items.size)=true:=by simp
 show wpAny _ _ (if ((0:Int) == 0&&(1:Int) == 1&&items.size == items.size)=true then _ else _) _ _ s;rw[iR J];refine gV (m:=Builtin.Tuple.tupleIsExact _) (gV (RE U.typeIs (td ?_)));rw[iR #[]]
 first
  | exact gV (QY (gV (td (td #[_,rfl,td h]))))
  | exact gV (QY (td #[_,rfl,td h]))
  | exact gV (QY (gV (td #[_,rfl,td h])))
end
end HT3
namespace DL
open PySem PySem.Spec L2 PyProof.Rows
section
variable {g:Gh}{a st:Expr}{fa fs:DE}{pos:Pos}
def LI (K:vF_) (te J:TE):TE:=fun σ H Q=>te σ H fun x H1=>J σ H1 fun y H2=>(y = .int (-1)/\∃p xs,x = .ref p/\SqT K H2 p xs/\∀l,H2 l=none->Q (.ref l) (o7 H2 l (.tup xs.reverse)))\/(y = .int 1/\∃p xs,x = .ref p/\SqT K H2 p xs/\Q (.ref p) H2)
def ML (he:PE X a te) (hs:PE X st ts):PE X (.Subscript a (.Slice none none (some st) p2) pos) (LI X.K te ts):=by
 intro pins s σ H Q I h;refine Subscript_ (v3 (he pins s σ H _ I h) fun v s1 ⟨x,H1,I1,r1,q1⟩=>?_);refine wpAny_Slice ?_;rw[evalPart_none];refine td (td ?_);rw[evalPart_some];refine v3 (hs pins s1 σ H1 _ I1 q1) fun u s3 ⟨y,H3,I3,r3,q3⟩=>?_
 rcases q3 with ⟨rfl,p,xs,rfl,hx,q⟩ | ⟨rfl,p,xs,rfl,hx,q⟩
 case inr=>
  obtain⟨U,rfl⟩:=r3;cases r1;have J:Inv X pins σ H3 { s3 with heap:=s3.heap.push { cls:=.type "slice",data:=.fields #v[.none,.none,.int 1 U] } }:=I3.kept (t':=s3.toks) fun b ob q=>PF _ q
  obtain⟨its,r,Z,hz⟩:=J.tuple hx;show wpAny 'f' X.A (subscriptTail a (.Slice none none (some st) p2) (.ref p) (.ref s3.heap.objs.size)) (EP X pins σ Q) X.xe { s3 with heap:=s3.heap.push { cls:=.type "slice",data:=.fields #v[.none,.none,.int 1 U] } };refine tail_any (ops:=[.ref p,.ref s3.heap.objs.size]) Z.typeIs QZ.lookup ?_ (by with_unfolding_all rfl);exact HT3.getItem_tuple_one Z (UQ ..) #[.ref p,H3,J,rfl,q]
 obtain⟨U,rfl⟩:=r3;cases r1;have J:Inv X pins σ H3 { s3 with heap:=s3.heap.push { cls:=.type "slice",data:=.fields #v[.none,.none,.int (-1) U] } }:=I3.kept (t':=s3.toks) fun b ob q=>PF _ q
 obtain⟨its,r,Z,hz⟩:=J.tuple hx;have Y:its.toArray.size=xs.length:=by rw[Qc];exact r.length.symm
 show wpAny 'f' X.A (subscriptTail a (.Slice none none (some st) p2) (.ref p) (.ref s3.heap.objs.size)) (EP X pins σ Q) X.xe { s3 with heap:=s3.heap.push { cls:=.type "slice",data:=.fields #v[.none,.none,.int (-1) U] } };refine tail_any (ops:=[.ref p,.ref s3.heap.objs.size]) Z.typeIs QZ.lookup ?_ (by with_unfolding_all rfl);refine HT3.getItem_tuple_rev Z (UQ ..) ?_ (by rw[Y];exact hz);refine#[.ref (s3.heap.push { cls:=.type "slice",data:=.fields #v[.none,.none,.int (-1) U] }).objs.size,_,J.laid (t':=s3.toks) (o:=.tup xs.reverse) (fun b ob q=>PF _ q) (tx _) ?_,rfl,q _ (J.hok.fresh (tx _))];exact#[by rw[List.length_reverse];exact hz,_,r.reverse,IsTup.new _ _]
def jH (f h:DE):DE:=fun s=>(f s).bind fun x=>(h x.2).bind fun y=>match x.1,y.1 with
 |.tup ds,.int i=>if i = -1 then some (.tup ds.reverse,y.2) else if i=1 then some (.tup ds,y.2) else none
 |_,_=>none
def GG {x y r:D}{t:DS}{z:DS}(e:(match x,y with
 |.tup ds,.int i=>if i = -1 then some (D.tup ds.reverse,t) else if i=1 then some (.tup ds,t) else none
 |_,_=>none)=some (r,z)):∃ds i,x = .tup ds/\y = .int i/\t=z/\((i = -1/\r = .tup ds.reverse)\/(i=1/\r = .tup ds)):=by
 cases x with
 |tup ds=>
  cases y with
  |int i=>
   have e:(if i = -1 then some (D.tup ds.reverse,t) else if i=1 then some (.tup ds,t) else none)=some (r,z):=e;by_cases hi:i = -1
   .rw[iR hi] at e;cases e;exact#[ds,i,rfl,rfl,rfl,.inl #[hi,rfl]]
   .rw[iU hi] at e;by_cases h1:i=1
    .rw[iR h1] at e;cases e;exact#[ds,i,rfl,rfl,rfl,.inr #[h1,rfl]]
    .rw[iU h1] at e;cases e
  |_=>cases e
 |_=>cases e
def JP (ha:BO X g a fa) (hs:BO X g st fs):EO X g (.Subscript a (.Slice none none (some st) p2) pos) (jH fa fs):=EO.w (ML ha.pe hs.pe) fun σ H Q hQ=>by
 refine hQ.elim fun f0 O s d s' I e k=>?_
 refine A7 e fun x s1 h1 e=>?_
 refine A7 e fun y s2 h2 e=>?_
 obtain⟨ds,i,rfl,rfl,rfl,c⟩:=GG e;refine#[f0,O,s,_,s1,I,h1,fun v H1 f1 O1 a1 I1 r1=>#[f1,O1,s1,_,s2,I1,h2,fun u H2 J U Z Y r2=>?_]];have r3:=RepB.stp I1 Z r1;simp only[RepB,Rep] at r2 r3;subst r2;obtain⟨c',xs,rfl,q,w⟩:=r3;rcases c with ⟨rfl,rfl⟩ | ⟨rfl,rfl⟩
 .refine .inl #[rfl,c',xs,rfl,q,fun l hl=>?_];have a4:StE J U H2 J U (o7 H2 l (.tup xs.reverse)):=F9 hl;refine k _ _ J U (a1.trans (Z.trans a4)) (Y.new hl) ?_;simp only[Rep];exact#[l,_,rfl,SqT.of D1,Reps.stp Y a4.stp (Reps.reverse w)]
 .refine .inr #[rfl,c',xs,rfl,q,k _ _ J U (a1.trans Z) Y ?_];simp only[Rep];exact#[c',xs,rfl,q,w]
end
def KS {w:World}{K:vF_}{f:Addr}{ps:List Str}:jA P w K mg base k f fd ps (fun _ _=>none):=by
 refine#[fun vs H Q E h=>?_,fun A outer s H J us vs Q E _ _ _ _ h=>?_] <;> (obtain⟨F,fa,ds,fs,d,fs',_,_,_,_,e,_⟩:=h;cases e)
end DL
namespace DL
open PySem PySem.Spec L2
def noStar:Expr->Bool
 |.Starred _ _=>false
 |_=>true
def uc (h:noStar a=true):starEach (a::es) env=(false,eval a env)::starEach es env:=by
 cases a <;> first | rfl | (cases h)
section
variable {g:Gh}{a:Expr}{fa:DE}{fr:DA}
def ac (Y:EO X g a fa) (J:AO X g es fr) (U:noStar a=true:=by rfl):AO X g (a::es) (a7 fa fr):=nO Y J (uc U)
def bc (Y:BO X g a fa) (J:BAO X g es fr) (U:noStar a=true:=by rfl):BAO X g (a::es) (a7 fa fr):=LN Y J (uc U)
end
end DL
namespace DL
open PySem PySem.Spec L2 PyProof.Rows
def az (x:D) (ds:vD_):Bool:=(D.pys ds).any fun y=>PyData.eqv y x.py
def bw (f:Bool->Bool) (x c:D):Option D:=match c with
 |.lst ds=>if A9 x&&A9 (.lst ds) then some (.bl (f (az x ds))) else none
 |.tup ds=>if A9 x&&A9 'm' then some (.bl (f (az x ds))) else none
 |_=>none
def ek (x c:D):Option D:=bw id x c
def ez (x c:D):Option D:=bw not x c
def iY (K:vF_) (f:Bool->Bool):R2:=fun x y H Q=>∃N fa d1 d2 ds,RepB K N fa H d1 x/\RepB K N fa H d2 y/\(d2 = .lst ds\/d2 = .tup ds)/\A9 d1=true/\A9 d2=true/\Q (.bl (f (az d1 ds))) H
section
variable {K:vF_}
def kK {u a b:Nat}(h:u+64<cLine) (J:a+1<=64):u+1+min a b<cLine:=by
 have:min a b<=a:=SX _ _;omega
def qj (Z:X.A.units+64<cLine):OpR X (compareOp .In) (iY X.K id):=by
 intro pins s σ H x y v u Q I rx ry h;refine gB_ fun G_ g_=>?_
 obtain⟨N,fa,d1,d2,ds,r1,r2,hd,U,J,q⟩:=h;unfold A9 at U J;rw[Qe] at U J;obtain⟨as,h1⟩:=ae I d1 x v r1.o rx U.1;obtain⟨bs,h2⟩:=ae I d2 y u r2.o ry J.1;have l2:=Sr J.2;have Y:=SeqAt.depth_of_shaped J.2;apply g_;rcases hd with rfl | rfl
 .simp only[D.py,PyData.canLay0,PyData.depth] at h2 l2 Y;exact SeqAt.in_list_reads h2 h1 l2 (Sr U.2) (kK Z Y) #[.bl _,H,I,rfl,q]
 .simp only[D.py,PyData.canLay0,PyData.depth] at h2 l2 Y;exact SeqAt.in_tuple_reads h2 h1 l2 (Sr U.2) (kK Z Y) #[.bl _,H,I,rfl,q]
def Eu (Z:X.A.units+64<cLine):OpR X (compareOp .NotIn) (iY X.K not):=by
 intro pins s σ H x y v u Q I rx ry h;refine gB_ fun G_ g_=>?_
 obtain⟨N,fa,d1,d2,ds,r1,r2,hd,U,J,q⟩:=h;unfold A9 at U J;rw[Qe] at U J;obtain⟨as,h1⟩:=ae I d1 x v r1.o rx U.1;obtain⟨bs,h2⟩:=ae I d2 y u r2.o ry J.1;have l2:=Sr J.2;have Y:=SeqAt.depth_of_shaped J.2;apply g_;rcases hd with rfl | rfl
 .simp only[D.py,PyData.canLay0,PyData.depth] at h2 l2 Y;exact SeqAt.notIn_list_reads h2 h1 l2 (Sr U.2) (kK Z Y) #[.bl _,H,I,rfl,q]
 .simp only[D.py,PyData.canLay0,PyData.depth] at h2 l2 Y;exact SeqAt.notIn_tuple_reads h2 h1 l2 (Sr U.2) (kK Z Y) #[.bl _,H,I,rfl,q]
def Lz {f:Bool->Bool}{x c:D}(h:bw f x c=some d):∃ds,(c = .lst ds\/c = .tup ds)/\A9 x=true/\A9 c=true/\d = .bl (f (az x ds)):=by
 unfold bw at h;cases c with
 |lst ds=>
  simp only at h;split at h
  .rename_i q;rw[Qe] at q;cases h;exact#[ds,.inl rfl,q.1,q.2,rfl]
  .cases h
 |tup ds=>
  simp only at h;split at h
  .rename_i q;rw[Qe] at q;cases h;exact#[ds,.inr rfl,q.1,q.2,rfl]
  .cases h
 |_=>cases h
def tX (f:Bool->Bool):J9 K (iY K f) (bw f):=by
 intro g σ H fa O s x y Z d2 d Q I Y r2 e k;obtain⟨ds,hc,U,J,rfl⟩:=Lz e;exact#[_,fa,Z,d2,ds,Y,r2,hc,U,J,k _ H StE.refl I (by simp only[Rep])]
def rn:J9 K (iY K id) ek:=tX id
def Eg:J9 K (iY K not) ez:=tX not
end
end DL
namespace DL
open PySem PySem.Spec L2
def NL :OpR X (compareOp .Is) (fun x y H Q=>∃a b,x = .bl a/\y = .bl b/\Q (.bl (a == b)) H):=by
 intro pins s σ H x y v u Q I J U h;obtain⟨a,b,rfl,rfl,q⟩:=h;cases J;cases U;exact PyProof.Rows.is_bool #[.bl _,H,I,rfl,q]
def mk2 (idx:List Nat) (sl:List Sl):D->Option (List Sl)
 |.tup [a,b]=>some (.v a :: .v b::Q5 idx sl)
 |_=>none
def CJ {r:List Sl}(h:mk2 idx sl d=some r):∃a b,d = .tup [a,b]/\r = .v a :: .v b::Q5 idx sl:=by
 cases d with
 |tup ds=>
  match ds,h with
  |[a,b],h=>cases h;exact#[a,b,rfl,rfl]
 |_=>cases h
noncomputable def aA (idx:List Nat) (fi:DA) (fc:DT) (fe:DE):DA:=fun s=>(fi s).bind fun x=>if x.1.length<=sizeLine then (G1 (mk2 idx x.2.sl) fc fe x.1 x.2.fs).map fun y=>(y.1,{ x.2 with fs:=y.2 }) else none
section
variable {g:Gh}{pos:Pos}
def xy {G:TG}(k:CompOk X scope cl N' 2 idx)
  (hG:∀(a:Addr) (x y:V) (σ:L2.St) (H:Hp) (Q:L2.St->Hp->Prop),SqT X.K H a [x,y]->Q ((σ.set 0 (some x)).set 1 (some y)) H->G (.ref a) σ H Q):∀σ H Q,liftF X.K g (aA idx fi fc fe) σ H Q->fP 2 idx (liftI X.K g fi) G (fun σ H Q=>∃g',liftT X.K g' fc σ H Q) (fun σ H Q=>∃g',liftE X.K g' fe σ H Q) σ H Q:=
 Cd (mk:=mk2 idx) fun N fa sl d sl0 x σ H Q hm Z hc kk=>by
  obtain⟨da,db,rfl,rfl⟩:=CJ hm;simp only[Rep,Reps] at Z;obtain⟨ad,xs0,rfl,Y,u,ys0,rfl,ru,w,ys1,rfl,U,rfl⟩:=Z;refine hG ad u w _ _ _ Y (kk _ #[by simp,fun j v J=>?_] ?_)
  .cases j with
   |zero=>simp[N0] at J
   |succ j=>
    cases j with
    |zero=>simp[N0] at J
    |succ j=>rw[RU 'g',RU 'g'];exact J
  .have eb:((N0 2 idx σ).set 0 (some u)).set 1 (some w)=some u::some w::idx.map fun i=>(σ[i]?).join:=by simp[N0]
   rw[eb];simp only[SlR];exact#[u,_,rfl,ru,w,_,rfl,U,hc]
def Ed {G:TG}(Z:X.calm=true) (k:CompOk X scope cl N' 2 idx) (hi:IO X g tg iter fi) (U:∀C s0 H0 ex,PG 'k' tg G)
  (J:∀(a:Addr) (x y:V) (σ:L2.St) (H:Hp) (Q:L2.St->Hp->Prop),SqT X.K H a [x,y]->Q ((σ.set 0 (some x)).set 1 (some y)) H->G (.ref a) σ H Q)
  (ht:∀C s0 H0 ex g',cZ 'k' g' ifs fc) (Y:∀C s0 H0 ex g',EO 'k' g' elt fe) (hs:∀x,foldedSetIterable iter X.env x=pure x:=by intro _;rfl) :
  FO X g 'p' (aA idx fi fc fe):=by
 exact FO.w (uY (tc:=fun σ H Q=>∃g',liftT X.K g' fc σ H Q) (te:=fun σ H Q=>∃g',liftE X.K g' fe σ H Q) Z k hi.pe U (fun C s0 H0 ex pins s σ H Q I ⟨g',h⟩=>ht C s0 H0 ex g' pins s σ H Q I h) (fun C s0 H0 ex pins s σ H Q I ⟨g',h⟩=>(Y C s0 H0 ex g').pe pins s σ H Q I h) hs) (xy k J)
def BB {y:Str}(J:closureFor scope X.env=pure cl) (sub:SubL X.env.cells cl) (cell:∀y∈scope.names,y.2 ≠ .cell) (kind:scope.kind = .function)
  (names:∀y∈scope.names,y.2 = .local->scope.names.lookup y.1=some .local) (Y:hasAll (relabel scope X.env).names cl=true) (U:CapL X scope idx caps):CompOk X scope cl (x::y::caps) 2 idx:=
 #[J,fun y c e=>sub.mem y c (jL e),cell,kind,names,AM Y,by rw[PX,PX,U.len];omega,fun j i y e1 Z=>U.at j i y e1 (by
  rw[show 2+j=j+1+1 by omega] at Z;simpa using Z)]
end
def RwIt (h:Heap) (i l:Addr) (xs:vR_) (k:Nat):Prop:=(h.IsListIter i l k/\h.IsList l xs)\/(h.IsTupleIter i l k/\h.IsTuple l xs)
section
variable {i l:Addr}{xs:vR_}
def RwIt.at (x:RwIt h i l xs k) (J:∀o,h.get? i=some o->h'.get? i=some o) (U:∀o,h.get? l=some o->h'.get? l=some o):RwIt h' i l xs k:=by
 rcases x with ⟨⟨o,q,r⟩,⟨p,u,v⟩⟩ | ⟨⟨o,q,r⟩,⟨p,u,v⟩⟩
 .exact .inl #[#[o,J o q,r],#[p,U p u,v]]
 .exact .inr #[#[o,J o q,r],#[p,U p u,v]]
def RwIt.lt (x:RwIt h i l xs k):i<h.objs.size:=by
 rcases x with ⟨⟨o,q,r⟩,_⟩ | ⟨⟨o,q,r⟩,_⟩ <;> exact PB q
end
section
variable {w:World}
def nextOf_tup_item {it t:Addr}{i:Nat}{items:vR_}{x:Value}{Q:vQ_}(J:s.heap.IsTupleIter it t i) (ht:s.heap.IsTuple t items) (hx:items[i]? = some x)
  (hQ:∀h',h'.IsTupleIter it t (i+1)->Heap.SameBut it s.heap h'->Q x { s with heap:=h' }):wpAny 'd' A (Builtin.SmallTypes.nextOf (.ref it)) Q E s:=by
 refine gB_ fun G_ g_=>?_
 obtain⟨o,Y,hc,U⟩:=id J;obtain⟨ol,hol,_,nl,Z⟩:=ht;apply g_;unfold Builtin.SmallTypes.nextOf;refine gV (QV (name:=Str.ofString "__next__") J.typeIs TY (QF TY J.typeIs VM ?_ (VN _)));show wpAny _ _ (field (.ref it) 0 >>= _) _ _ s;refine gV (PZ Y U (x:=.ref t) rfl ?_);show wpAny _ _ (if (Value.ref t == Value.none)=true then _ else _) _ _ s;rw[iU (show ¬ ((Value.ref t == Value.none)=true) from PL)];show wpAny _ _ (field (.ref it) 1 >>= _) _ _ s;refine gV (PZ Y U (x:=.int i 0) rfl ?_);show wpAny _ _ (seqItems? (.ref t) >>= _) _ _ s;refine gV (Rg hol Z ?_);simp only[QT,hx];refine gV (Su Y U 'g' (td #[x,rfl,td (hQ _ ?_ (Heap.SameBut.update ..))]));exact#[_,Ri _ Y (TZ (SY U _)),(Obj.cls_mapFields ..).trans hc,by rw[SY U];simp[rawInt]]
def nextOf_tup_end {it t:Addr}{i:Nat}{items:vR_}{Q:vQ_}(hh:A.handled=none) (J:s.heap.IsTupleIter it t i) (ht:s.heap.IsTuple t items) (hx:items[i]? = none)
  (hE:∀h' e,Heap.ExtBut it s.heap h'->(∃o,h'.get? e=some o/\o.cls = .type "StopIteration")->E (.ref e) { s with heap:=h' }):wpAny 'd' A (Builtin.SmallTypes.nextOf (.ref it)) Q E s:=by
 refine gB_ fun G_ g_=>?_
 obtain⟨o,ho,hc,U⟩:=id J;obtain⟨ol,Z,_,nl,Y⟩:=ht;apply g_;unfold Builtin.SmallTypes.nextOf;refine gV (QV (name:=Str.ofString "__next__") J.typeIs TY (QF TY J.typeIs VM ?_ (VN _)));show wpAny _ _ (field (.ref it) 0 >>= _) _ _ s;refine gV (PZ ho U (x:=.ref t) rfl ?_);show wpAny _ _ (if (Value.ref t == Value.none)=true then _ else _) _ _ s;rw[iU (show ¬ ((Value.ref t == Value.none)=true) from PL)];show wpAny _ _ (field (.ref it) 1 >>= _) _ _ s;refine gV (PZ ho U (x:=.int i 0) rfl ?_);show wpAny _ _ (seqItems? (.ref t) >>= _) _ _ s;refine gV (Rg Z Y ?_);simp only[QT,hx];refine gV (QY (gV (Su ho U 'g' ?_)));show wpAny _ _ (newExc (.type "StopIteration") [] >>= _) _ _ _;refine gV ?_;simp only[newExc,newTuple];refine gV (QQ ?_ (by size_fits));refine gV (m:=firstArgMember _ _) (wpAny_of_eq (a:=Value.none) (by first | rfl | (simp only[firstArgMember];rfl)) ?_);refine QQ ?_ (by size_fits);simp only[raiseNew];refine gV (wpAny_handled ?_)
 first | rw[show A.in1.handled=none from hh] | rw[hh]
 refine gV (td (wpAny_throw ?_));exact hE _ _ (((Heap.SameBut.update ..).extBut.push _).push _) #[_,Qq _ rfl,rfl]
def gG {it l:Addr}{i:Nat}{xs:vR_}{x:Value}{Q:vQ_}(r:RwIt s.heap it l xs i) (Y:l≠it) (hx:xs[i]? = some x)
  (Z:∀h',RwIt h' it l xs (i+1)->Heap.SameBut it s.heap h'->Q x { s with heap:=h' }):wpAny 'd' A (Builtin.SmallTypes.nextOf (.ref it)) Q E s:=by
 rcases r with ⟨a,b⟩ | ⟨a,b⟩
 .exact wpAny_nextOf_list_item a b hx fun h' U J=>Z h' (.inl #[U,b.extBut J.extBut Y]) J
 .exact nextOf_tup_item a b hx fun h' U J=>Z h' (.inr #[U,b.extBut J.extBut Y]) J
def mX {it l:Addr}{i:Nat}{xs:vR_}{Q:vQ_}(U:A.handled=none) (r:RwIt s.heap it l xs i) (Y:xs[i]? = none)
  (J:∀h' e,Heap.ExtBut it s.heap h'->(∃o,h'.get? e=some o/\o.cls = .type "StopIteration")->E (.ref e) { s with heap:=h' }):wpAny 'd' A (Builtin.SmallTypes.nextOf (.ref it)) Q E s:=by
 rcases r with ⟨a,b⟩ | ⟨a,b⟩
 .exact wpAny_nextOf_list_end U a b Y J
 .exact nextOf_tup_end U a b Y J
abbrev L8 (h:Heap) (z TI TO:Addr) (f0 f1:Value):Prop:=h.get? z=some { cls:=.type "zip",dict:=none,data:=.fields #v[f0,f1,.bool false,.ref TI,.ref TO],slots:=#v[] }
variable {z TI TO i1 i2 l1 l2:Addr}{xs ys:vR_}
def AI {x y a b:Value}{Q:vQ_}(D:ZipApart z TI TO i1 i2 l1 l2)
  (hz:L8 s.heap z TI TO .none (.bool false)) (hTI:IsPair s.heap TI (.ref i1) (.ref i2)) (hTO:IsPair s.heap TO a b) (h1:RwIt s.heap i1 l1 xs k) (h2:RwIt s.heap i2 l2 ys k) (hx:xs[k]? = some x) (hy:ys[k]? = some y)
  (hQ:∀h',L8 h' z TI TO (rawInt s.heap.objs.size) (.bool false)->RwIt h' i1 l1 xs (k+1)->RwIt h' i2 l2 ys (k+1)->IsPair h' s.heap.objs.size x y ->
   (∀c o,c≠z->c≠TO->c≠i1->c≠i2->s.heap.get? c=some o->h'.get? c=some o)->IsPair h' TO x y->Q (.ref s.heap.objs.size) { s with heap:=h' }) :
  wpAny 'd' A (Builtin.«zip.__next__» #[[.ref z],[]]) (fun fin s'=>∃v,fin = .done (.ret v)/\Q v s') E s:=by
 show wpAny _ _ (field (.ref z) 2 >>= _) _ _ _;refine gV (PZ hz rfl (x:=.bool false) rfl ?_);show wpAny _ _ (field (.ref z) 3 >>= _) _ _ _;refine gV (PZ hz rfl (x:=.ref TI) rfl ?_);refine gV (Rg hTI rfl ?_);show wpAny _ _ (Builtin.SmallTypes.ownedTupleIsFree (.ref z) >>= _) _ _ _;refine gV ?_;unfold Builtin.SmallTypes.ownedTupleIsFree;refine gV (PZ hz rfl (x:=.none) rfl (td ?_));simp only[Qs];refine gV (QY ?_);refine gV (PZ hz rfl (x:=.ref TO) rfl ?_);refine gV (RK hz 'g' fun g1 z1 k1=>?_)
 replace z1:L8 g1 z TI TO .ellipsis (.bool false):=z1
 refine gV ?_;simp only[UZ,List.zipIdx_nil,Ua,Ub];refine gV (gV (Ta ?_));show wpAny _ _ (Builtin.SmallTypes.nextOf (.ref i1) >>= _) _ _ _;refine gV (gG (h1.at (fun o e=>k1.extBut _ o D.i1z e) fun o e=>k1.extBut _ o D.l1z e) D.l1i1 hx fun g2 r2 k2=>td ?_);have o2:IsPair g2 TO a b:=k2.extBut _ _ D.TOi1 (k1.extBut _ _ D.TOz hTO);refine gV (Rg o2 rfl ?_);refine gV (Va o2 fun g3 o3 k3=>?_)
 replace o3:IsPair g3 TO x b:=o3
 refine gV (Ud (td ?_));refine gV (gV (Ta ?_));show wpAny _ _ (Builtin.SmallTypes.nextOf (.ref i2) >>= _) _ _ _;refine gV (gG (h2.at (fun o e=>k3.extBut _ o D.TOi2.symm (k2.extBut _ o D.i12.symm (k1.extBut _ o D.i2z e))) fun o e=>k3.extBut _ o D.l2TO (k2.extBut _ o D.l2i1 (k1.extBut _ o D.l2z e))) D.l2i2 hy fun g4 r4 Y=>td ?_);have o4:IsPair g4 TO x b:=Y.extBut _ _ D.TOi2 o3;refine gV (Rg o4 rfl ?_);refine gV (Va o4 fun J o5 k5=>?_)
 replace o5:IsPair J TO x y:=o5
 refine gV (Ud (td (td ?_)));refine gV (Rg o5 rfl ?_);refine gV (wpAny_newTuple ?_);have sz:J.objs.size=s.heap.objs.size:=by rw[k5.1,Y.1,k3.1,k2.1,k1.1]
 have z5:L8 J z TI TO .ellipsis (.bool false):=k5.extBut _ _ D.TOz.symm (Y.extBut _ _ D.i2z.symm (k3.extBut _ _ D.TOz.symm (k2.extBut _ _ D.i1z.symm z1)));have q5:∀c o,c≠z->c≠TO->c≠i1->c≠i2->s.heap.get? c=some o->J.get? c=some o:=fun c o U c2 c3 c4 e=>
  k5.extBut _ _ c2 (Y.extBut _ _ c4 (k3.extBut _ _ c2 (k2.extBut _ _ c3 (k1.extBut _ _ U e))))
 have p1:RwIt J i1 l1 xs (k+1):=r2.at (fun o e=>k5.extBut _ o D.TOi1.symm (Y.extBut _ o D.i12 (k3.extBut _ o D.TOi1.symm e))) fun o e=>k5.extBut _ o D.l1TO (Y.extBut _ o D.l1i2 (k3.extBut _ o D.l1TO e))
 have p2:RwIt J i2 l2 ys (k+1):=r4.at (fun o e=>k5.extBut _ o D.TOi2.symm e) fun o e=>k5.extBut _ o D.l2TO e
 have zl:z<J.objs.size:=PB z5;show wpAny _ _ (Builtin.SmallTypes.ownedTupleHandOut (.ref z) (.ref J.objs.size) >>= _) _ _ _;refine gV ?_;unfold Builtin.SmallTypes.ownedTupleHandOut;have z6:L8 (J.push { cls:=.type "tuple",data:=.seq #v[x,y] }) z TI TO .ellipsis (.bool false):=PF _ z5;refine gV (RK z6 'g' fun g7 z7 k7=>?_)
 replace z7:L8 g7 z TI TO (rawInt J.objs.size) (.bool false):=z7
 refine RK z7 'g' fun g8 z8 k8=>?_
 replace z8:L8 g8 z TI TO (rawInt J.objs.size) (.bool false):=z8
 have Z:∀c o,c≠z->J.get? c=some o->g8.get? c=some o:=fun c o U e=>k8.extBut _ _ U (k7.extBut _ _ U (PF _ e))
 have t8:IsPair g8 J.objs.size x y:=k8.extBut _ _ (QI zl) (k7.extBut _ _ (QI zl) (Qq _ rfl));rw[sz] at z8 t8;refine td #[_,rfl,?_];show Q (.ref J.objs.size) _;rw[sz];exact hQ g8 z8 (p1.at (fun o e=>Z _ o D.i1z e) fun o e=>Z _ o D.l1z e) (p2.at (fun o e=>Z _ o D.i2z e) fun o e=>Z _ o D.l2z e) t8 (fun c o U c2 c3 c4 e=>Z c o U (q5 c o U c2 c3 c4 e)) (Z _ _ D.TOz o5)
def xj {a b:Value}{Q:Fin->Shared->Prop}(hh:A.handled=none) (D:ZipApart z TI TO i1 i2 l1 l2)
  (hz:L8 s.heap z TI TO .none (.bool false)) (hTI:IsPair s.heap TI (.ref i1) (.ref i2)) (hTO:IsPair s.heap TO a b) (h1:RwIt s.heap i1 l1 xs k) (h2:RwIt s.heap i2 l2 ys k) (Z:xs[k]? = none\/ys[k]? = none)
  (hE:∀h' e,(∀c o,c≠z->c≠TO->c≠i1->c≠i2->s.heap.get? c=some o->h'.get? c=some o)->(∃o,h'.get? e=some o/\o.cls = .type "StopIteration")->E (.ref e) { s with heap:=h' }) :
  wpAny 'd' A (Builtin.«zip.__next__» #[[.ref z],[]]) Q E s:=by
 show wpAny _ _ (field (.ref z) 2 >>= _) _ _ _;refine gV (PZ hz rfl (x:=.bool false) rfl ?_);show wpAny _ _ (field (.ref z) 3 >>= _) _ _ _;refine gV (PZ hz rfl (x:=.ref TI) rfl ?_);refine gV (Rg hTI rfl ?_);show wpAny _ _ (Builtin.SmallTypes.ownedTupleIsFree (.ref z) >>= _) _ _ _;refine gV ?_;unfold Builtin.SmallTypes.ownedTupleIsFree;refine gV (PZ hz rfl (x:=.none) rfl (td ?_));simp only[Qs];refine gV (QY ?_);refine gV (PZ hz rfl (x:=.ref TO) rfl ?_);refine gV (RK hz 'g' fun g1 z1 k1=>?_)
 replace z1:L8 g1 z TI TO .ellipsis (.bool false):=z1
 refine gV ?_;simp only[UZ,List.zipIdx_nil,Ua,Ub];refine gV (gV (Ta ?_));show wpAny _ _ (Builtin.SmallTypes.nextOf (.ref i1) >>= _) _ _ _;cases hx:xs[k]? with
 |none=>
  refine gV (mX hh (h1.at (fun o e=>k1.extBut _ o D.i1z e) fun o e=>k1.extBut _ o D.l1z e) hx fun g2 e k2 he=>?_);obtain⟨oe,J,U⟩:=he;have z2:L8 g2 z TI TO .ellipsis (.bool false):=k2 _ _ D.i1z.symm z1;have Y:e≠z:=fun x=>by subst x;rw[z2] at J;cases J;simp at U
  exact RK z2 'g' fun g3 _ k3=>hE g3 e (fun c o c1 _ c3 _ x=>k3.extBut _ _ c1 (k2 _ _ c3 (k1.extBut _ _ c1 x))) #[oe,k3.extBut _ _ Y J,U]
 |some x=>
  have hy:ys[k]? = none:=by
   rcases Z with h | h
   .rw[hx] at h;cases h
   .exact h
  refine gV (gG (h1.at (fun o e=>k1.extBut _ o D.i1z e) fun o e=>k1.extBut _ o D.l1z e) D.l1i1 hx fun g2 r2 k2=>td ?_);have o2:IsPair g2 TO a b:=k2.extBut _ _ D.TOi1 (k1.extBut _ _ D.TOz hTO);refine gV (Rg o2 rfl ?_);refine gV (Va o2 fun g3 o3 k3=>?_);refine gV (Ud (td ?_));refine gV (gV (Ta ?_));show wpAny _ _ (Builtin.SmallTypes.nextOf (.ref i2) >>= _) _ _ _;refine gV (mX hh (h2.at (fun o e=>k3.extBut _ o D.TOi2.symm (k2.extBut _ o D.i12.symm (k1.extBut _ o D.i2z e))) fun o e=>k3.extBut _ o D.l2TO (k2.extBut _ o D.l2i1 (k1.extBut _ o D.l2z e))) hy fun g4 e k4 he=>?_);obtain⟨oe,J,U⟩:=he;have z4:L8 g4 z TI TO .ellipsis (.bool false):=k4 _ _ D.i2z.symm (k3.extBut _ _ D.TOz.symm (k2.extBut _ _ D.i1z.symm z1));have Y:e≠z:=fun x=>by subst x;rw[z4] at J;cases J;simp at U
  exact RK z4 'g' fun g5 _ k5=>hE g5 e (fun c o c1 c2 c3 c4 x=>k5.extBut _ _ c1 (k4 _ _ c4 (k3.extBut _ _ c2 (k2.extBut _ _ c3 (k1.extBut _ _ c1 x))))) #[oe,k5.extBut _ _ Y J,U]
end
section
variable {w:World}
variable {z TI TO i1 i2 l1 l2:Addr}{xs ys:vR_}
def Fq {o:Obj}{Q:Option Obj->Shared->Prop}(J:s.heap.get? a=some o) (h:Q (some o) s):wpAny 'd' A (loadIfAlive a) Q E s:=by
 have h':Q (s.heap.get? a) s:=by rw[J];exact h
 exact fun _ _ _=>h'
def sk {T:Addr}{f:Bool}{Y:Obj}{Q:Bool->Shared->Prop}(hz:L8 s.heap z TI TO (rawInt T) (.bool f)) (Z:s.heap.get? T=some Y)
  (J:∀h',L8 h' z TI TO (rawInt T) (.bool true)->Heap.SameBut z s.heap h'->Q false { s with heap:=h' }):wpAny 'd' A (Builtin.SmallTypes.ownedTupleIsFree (.ref z)) Q E s:=by
 unfold Builtin.SmallTypes.ownedTupleIsFree;refine gV (PZ hz rfl (x:=rawInt T) rfl ?_);show wpAny _ _ (loadIfAlive ((T:Int).toNat) >>= _) _ _ _;rw[QT];refine gV (Fq Z ?_);simp only[Option.isNone_some,RL,QU];refine gV (PZ hz rfl (x:=.bool f) rfl ?_);cases f with
 |true=>
  rw[iU (show ¬ ((Value.bool true != Value.bool true)=true) from PL)];exact td (J s.heap hz (Heap.SameBut.refl _ _))
 |false=>
  rw[iR (show (Value.bool false != Value.bool true)=true from rfl)];exact gV (RK hz 'g' fun g U gk=>td (J g U gk))
def En {x y:Value}{T:Addr}{f:Bool}{oT:Obj}{Q:vQ_}(D:ZipApart z TI TO i1 i2 l1 l2)
  (hz:L8 s.heap z TI TO (rawInt T) (.bool f)) (hT:s.heap.get? T=some oT) (Z:IsPair s.heap TI (.ref i1) (.ref i2)) (h1:RwIt s.heap i1 l1 xs k) (h2:RwIt s.heap i2 l2 ys k) (hx:xs[k]? = some x) (hy:ys[k]? = some y)
  (hQ:∀h',L8 h' z TI TO (rawInt T) (.bool true)->RwIt h' i1 l1 xs (k+1)->RwIt h' i2 l2 ys (k+1)->IsPair h' s.heap.objs.size x y ->
   (∀c o,c≠z->c≠TO->c≠i1->c≠i2->s.heap.get? c=some o->h'.get? c=some o)->Q (.ref s.heap.objs.size) { s with heap:=h' }) :
  wpAny 'd' A (Builtin.«zip.__next__» #[[.ref z],[]]) (fun fin s'=>∃v,fin = .done (.ret v)/\Q v s') E s:=by
 show wpAny _ _ (field (.ref z) 2 >>= _) _ _ _;refine gV (PZ hz rfl (x:=.bool false) rfl ?_);show wpAny _ _ (field (.ref z) 3 >>= _) _ _ _;refine gV (PZ hz rfl (x:=.ref TI) rfl ?_);refine gV (Rg Z rfl ?_);show wpAny _ _ (Builtin.SmallTypes.ownedTupleIsFree (.ref z) >>= _) _ _ _;refine gV (sk hz hT fun g1 z1 k1=>?_);simp only[RL,QU];simp only[List.forIn_toArray,Ua,Ub];refine gV (gV (gV (QP ?_)));show wpAny _ _ (Builtin.SmallTypes.nextOf (.ref i1) >>= _) _ _ _;refine gV (gG (h1.at (fun o e=>k1.extBut _ o D.i1z e) fun o e=>k1.extBut _ o D.l1z e) D.l1i1 hx fun g2 r2 k2=>td ?_);refine td ?_;refine gV (gV (QP ?_));show wpAny _ _ (Builtin.SmallTypes.nextOf (.ref i2) >>= _) _ _ _;refine gV (gG (h2.at (fun o e=>k2.extBut _ o D.i12.symm (k1.extBut _ o D.i2z e)) fun o e=>k2.extBut _ o D.l2i1 (k1.extBut _ o D.l2z e)) D.l2i2 hy fun g4 r4 J=>td ?_);refine td (td ?_);show wpAny _ _ (newTuple [x,y] >>= _) _ _ _;refine gV (wpAny_newTuple (items:=[x,y]) ?_ (show 2<=sizeLine by decide));have sz:g4.objs.size=s.heap.objs.size:=by rw[J.1,k2.1,k1.1]
 have q4:∀c o,c≠z->c≠i1->c≠i2->s.heap.get? c=some o->g4.get? c=some o:=fun c o U Y c4 e=>J.extBut _ _ c4 (k2.extBut _ _ Y (k1.extBut _ _ U e))
 refine td #[_,rfl,?_];show Q (.ref g4.objs.size) _;rw[sz];refine hQ _ (PF _ (J.extBut _ _ D.i2z.symm (k2.extBut _ _ D.i1z.symm z1)))
  (r2.at (fun o e=>PF _ (J.extBut _ o D.i12 e)) fun o e=>PF _ (J.extBut _ o D.l1i2 e))
  (r4.at (fun o e=>PF _ e) fun o e=>PF _ e) ?_ fun c o U c2 Y c4 e=>PF _ (q4 c o U Y c4 e)
 rw[<-sz];exact Qq _ rfl
def Dc {T:Addr}{f:Bool}{oT:Obj}{Q:Fin->Shared->Prop}(hh:A.handled=none) (D:ZipApart z TI TO i1 i2 l1 l2)
  (hz:L8 s.heap z TI TO (rawInt T) (.bool f)) (hT:s.heap.get? T=some oT) (Z:IsPair s.heap TI (.ref i1) (.ref i2)) (h1:RwIt s.heap i1 l1 xs k) (h2:RwIt s.heap i2 l2 ys k) (J:xs[k]? = none\/ys[k]? = none)
  (hE:∀h' e,(∀c o,c≠z->c≠TO->c≠i1->c≠i2->s.heap.get? c=some o->h'.get? c=some o)->(∃o,h'.get? e=some o/\o.cls = .type "StopIteration")->E (.ref e) { s with heap:=h' }) :
  wpAny 'd' A (Builtin.«zip.__next__» #[[.ref z],[]]) Q E s:=by
 show wpAny _ _ (field (.ref z) 2 >>= _) _ _ _;refine gV (PZ hz rfl (x:=.bool false) rfl ?_);show wpAny _ _ (field (.ref z) 3 >>= _) _ _ _;refine gV (PZ hz rfl (x:=.ref TI) rfl ?_);refine gV (Rg Z rfl ?_);show wpAny _ _ (Builtin.SmallTypes.ownedTupleIsFree (.ref z) >>= _) _ _ _;refine gV (sk hz hT fun g1 z1 k1=>?_);simp only[RL,QU];simp only[List.forIn_toArray,Ua,Ub];refine gV (gV (gV (QP ?_)));show wpAny _ _ (Builtin.SmallTypes.nextOf (.ref i1) >>= _) _ _ _;cases hx:xs[k]? with
 |none=>
  refine gV (mX hh (h1.at (fun o e=>k1.extBut _ o D.i1z e) fun o e=>k1.extBut _ o D.l1z e) hx fun g2 e k2 he=>?_);exact hE g2 e (fun c o U _ Y _ x=>k2 _ _ Y (k1.extBut _ _ U x)) he
 |some x=>
  have hy:ys[k]? = none:=by
   rcases J with h | h
   .rw[hx] at h;cases h
   .exact h
  refine gV (gG (h1.at (fun o e=>k1.extBut _ o D.i1z e) fun o e=>k1.extBut _ o D.l1z e) D.l1i1 hx fun g2 r2 k2=>td ?_);refine td ?_;refine gV (gV (QP ?_));show wpAny _ _ (Builtin.SmallTypes.nextOf (.ref i2) >>= _) _ _ _;refine gV (mX hh (h2.at (fun o e=>k2.extBut _ o D.i12.symm (k1.extBut _ o D.i2z e)) fun o e=>k2.extBut _ o D.l2i1 (k1.extBut _ o D.l2z e)) hy fun g4 e k4 he=>?_);exact hE g4 e (fun c o U c2 Y c4 x=>k4 _ _ c4 (k2.extBut _ _ Y (k1.extBut _ _ U x))) he
structure ZSt (h:Heap) (z TI TO i1 i2 l1 l2 S:Addr) (xs ys:vR_) (k:Nat):Prop where
 ti:IsPair h TI (.ref i1) (.ref i2)
 r1:RwIt h i1 l1 xs k
 r2:RwIt h i2 l2 ys k
 zz:(L8 h z TI TO .none (.bool false)/\∃a b,IsPair h TO a b)\/∃(T:Addr) (f:Bool) (oT:Obj),L8 h z TI TO (rawInt T) (.bool f)/\h.get? T=some oT/\T≠z/\T≠TO/\T≠i1/\T≠i2/\T≠S
def Ih {x y:Value}{Q:Option Value->Shared->Prop}(D:ZipApart z TI TO i1 i2 l1 l2) (st:ZSt s.heap z TI TO i1 i2 l1 l2 S xs ys k) (hS:S<s.heap.objs.size) (hTO:TO<s.heap.objs.size) (hx:xs[k]? = some x) (hy:ys[k]? = some y)
  (hQ:∀h',ZSt h' z TI TO i1 i2 l1 l2 S xs ys (k+1)->IsPair h' s.heap.objs.size x y->(∀c o,c ∉ [z,TO,i1,i2]->s.heap.get? c=some o->h'.get? c=some o)->Q (some (.ref s.heap.objs.size)) { s with heap:=h' }) :
  wpAny 'd' A (pyNext (.ref z)) Q E s:=by
 obtain⟨ti,r1,r2,zz⟩:=st;have K:∀{h':Heap},(∀c o,c≠z->c≠TO->c≠i1->c≠i2->s.heap.get? c=some o->h'.get? c=some o)->∀c o,c ∉ [z,TO,i1,i2]->s.heap.get? c=some o->h'.get? c=some o:=fun k c o Y e=>by
  simp only[xo,Qj,Qk,not_or] at Y;exact k c o Y.1 Y.2.1 Y.2.2.1 Y.2.2.2 e
 unfold pyNext;rcases zz with ⟨U,a,b,ho⟩ | ⟨T,f,oT,U,hT,t1,t2,t3,t4,t5⟩
 .have Z:s.TypeIs (.ref z) "zip" := #[_,U,rfl]
  exact gV (RM (QV (name:=Str.ofString "__next__") Z QJ (QF QJ Z Sv
   (AI D U ti ho r1 r2 hx hy fun h' a1 a2 a3 a4 J _=>td (hQ h' #[J _ _ D.TIz D.TITO D.TIi1 D.TIi2 ti,a2,a3,.inr #[_,_,_,a1,a4,QI (PB U),QI hTO,QI r1.lt,QI r2.lt,QI hS]] a4 (K J))) (Sw _))))
 .have Z:s.TypeIs (.ref z) "zip" := #[_,U,rfl]
  exact gV (RM (QV (name:=Str.ofString "__next__") Z QJ (QF QJ Z Sv
   (En D U hT ti r1 r2 hx hy fun h' a1 a2 a3 a4 J=>td (hQ h' #[J _ _ D.TIz D.TITO D.TIi1 D.TIi2 ti,a2,a3,.inr #[T,true,oT,a1,J _ _ t1 t2 t3 t4 hT,t1,t2,t3,t4,t5]] a4 (K J))) (Sw _))))
def EF {Q:Option Value->Shared->Prop}(hh:A.handled=none) (D:ZipApart z TI TO i1 i2 l1 l2) (st:ZSt s.heap z TI TO i1 i2 l1 l2 S xs ys k) (U:xs[k]? = none\/ys[k]? = none)
  (hQ:∀h',(∀c o,c ∉ [z,TO,i1,i2]->s.heap.get? c=some o->h'.get? c=some o)->Q none { s with heap:=h' }):wpAny 'd' A (pyNext (.ref z)) Q E s:=by
 obtain⟨ti,r1,r2,zz⟩:=st;have K:∀{h':Heap},(∀c o,c≠z->c≠TO->c≠i1->c≠i2->s.heap.get? c=some o->h'.get? c=some o)->∀c o,c ∉ [z,TO,i1,i2]->s.heap.get? c=some o->h'.get? c=some o:=fun k c o J e=>by
  simp only[xo,Qj,Qk,not_or] at J;exact k c o J.1 J.2.1 J.2.2.1 J.2.2.2 e
 unfold pyNext;rcases zz with ⟨hz,a,b,Z⟩ | ⟨T,f,oT,hz,hT,t1,t2,t3,t4,t5⟩
 .have Y:s.TypeIs (.ref z) "zip" := #[_,hz,rfl]
  refine gV (RM (QV (name:=Str.ofString "__next__") Y QJ (QF QJ Y Sv (xj hh D hz ti Z r1 r2 U fun h' e hk he=>?_) (Sw _))));obtain⟨o,Z,J⟩:=he;refine gV (Ue (T := "StopIteration") (b:=true) #[o,Z,J] Ug ?_);exact td (hQ _ (K hk))
 .have Y:s.TypeIs (.ref z) "zip" := #[_,hz,rfl]
  refine gV (RM (QV (name:=Str.ofString "__next__") Y QJ (QF QJ Y Sv (Dc hh D hz hT ti r1 r2 U fun h' e hk he=>?_) (Sw _))));obtain⟨o,Z,J⟩:=he;refine gV (Ue (T := "StopIteration") (b:=true) #[o,Z,J] Ug ?_);exact td (hQ _ (K hk))
end
structure LW (prog:Program) (w:World) (A:Around) (I S:Addr) (wr:vL_) (n:Nat) (P:Nat->Value->Heap->Prop) (St:Nat->Heap->Prop):Prop where
 item:∀(i:Nat) (s:Shared) (Q:Option Value->Shared->Prop) (E:vQ_),i<n->St i s.heap->S<s.heap.objs.size ->
  (∀v h',P i v h'->St (i+1) h'->(∀j u,P j u s.heap->u≠v)->(∀b o,b ∉ wr->s.heap.get? b=some o->h'.get? b=some o)->Q (some v) { s with heap:=h' })->wpAny (model prog w) A (pyNext (.ref I)) Q E s
 done:∀(s:Shared) (Q:Option Value->Shared->Prop) (E:vQ_),St n s.heap->(∀h',(∀b o,b ∉ wr->s.heap.get? b=some o->h'.get? b=some o)->Q none { s with heap:=h' })->wpAny (model prog w) A (pyNext (.ref I)) Q E s
 stay:∀i h h',St i h->(∀b o,b≠S->h.get? b=some o->h'.get? b=some o)->St i h'
 pay:∀i v h h',P i v h->(∀b o,b≠S->b ∉ wr->h.get? b=some o->h'.get? b=some o)->P i v h'
 self:∀(A:Around) (s:Shared) (Q:vQ_) (E:vQ_),St 0 s.heap->Q (.ref I) s->wpAny (model prog w) A (pyIter (.ref I)) Q E s
 out:S ∉ wr
section
variable {w:World}{I S:Addr}{wr:vL_}{P:Nat->Value->Heap->Prop}{St:Nat->Heap->Prop}{R:Result->Shared->Prop}
def jB (P:Nat->Value->Heap->Prop) (h:Heap) (J:vR_) (i:Nat):Prop:=J.size=i/\(∀j v,J[j]? = some v->P j v h)/\J.toList.Nodup
abbrev cW (h:Heap) (S:Addr) (acc:vR_) (c:Nat):Prop:=h.get? S=some { cls:=.type "list",dict:=none,data:=.seq acc c,slots:=#v[] }
def Nm (W:LW prog w A.in1 I S wr n P St) (hn:n<=sizeLine) (res:Value) {h₁:Heap}
  (hR:∀h' acc c,(∀b o,b≠S->b ∉ wr->h₁.get? b=some o->h'.get? b=some o)->cW h' S acc c->jB P h' acc n->R (.ok (.ret res)) { s with heap:=h' }) :
  ∀(k i:Nat) (h:Heap) (c:Nat) (acc:vR_),n - i=k->i<=n->St i h->(∀b o,b≠S->b ∉ wr->h₁.get? b=some o->h.get? b=some o)->cW h S acc c->jB P h acc i ->
   codeAny 'd' A (.builtin "list.extend.loop" #[[.ref S,.ref I,res],[]]) R { s with heap:=h }:=by
 intro k;induction k with
 |zero=>
  intro i h c acc hk hi Z kp hS U;have e:i=n:=by omega
  subst e;refine Vb VO ?_;rw[Around.under_plainId Uh _];show wpAny _ A.in1 (pyNext (.ref I) >>= _) _ _ _;refine gV (W.done { s with heap:=h } _ _ Z fun h' Y=>?_);exact td (hR h' acc c (fun b o h1 h2 e=>Y b o h2 (kp b o h1 h2 e)) (Y S _ W.out hS) #[U.1,fun j v e=>W.pay j v h h' (U.2.1 j v e) fun b o _ h2 e=>Y b o h2 e,U.2.2])
 |succ k ih=>
  intro i h c acc hk hi Z kp hS U;have hlt:i<n:=by omega
  refine Vb VO ?_;rw[Around.under_plainId Uh _];show wpAny _ A.in1 (pyNext (.ref I) >>= _) _ _ _;refine gV (W.item i { s with heap:=h } _ _ hlt Z (PB hS) fun v h' hP hst' hne Y=>?_)
  dsimp only at Y hne ⊢
  have hS':cW h' S acc c:=Y S _ W.out hS;have up:∀b o,b≠S->h'.get? b=some o->(h'.update S (Obj.mapSeq (·.push v))).get? b=some o:=fun b o hb e=>(QL _ _ (Qd hb)).trans e
  show wpAny _ A.in1 (updateSeq S (·.push v) >>= _) _ _ _;refine gV ?_;have J:=U.1;refine Ui hS' rfl (td #[plainId_quiet Uh _,ih (i+1) _ _ (acc.push v) ∅ hlt (W.stay _ h' _ hst' up)
   (fun b o h1 h2 e=>up b o h1 (Y b o h2 (kp b o h1 h2 e))) (Ri _ hS' rfl) #[by rw[Array.size_push,J],fun j x hj=>?_,?_]]) (by rw[J];omega) (by show (acc.push v).size<=sizeLine+1;rw[Array.size_push,J];omega)
  .rw[Array.getElem?_push] at hj;split at hj
   .rename_i e;cases hj;rw[e,J];exact W.pay i v h' _ hP fun b o h1 _ e=>up b o h1 e
   .exact W.pay j x h _ (U.2.1 j x hj) fun b o h1 h2 e=>up b o h1 (Y b o h2 e)
  .rw[Array.toList_push];refine Vc.mpr #[U.2.2,by simp,fun a ha b hb=>?_];have e:b=v:=by simpa using hb
   subst e;obtain⟨j,hj⟩:=Uj.mp ha;exact hne j a (U.2.1 j a (by simpa using hj))
def Ht (W:LW prog w A.in1 I S wr n P St) (hn:n<=sizeLine) (hT:s.TypeIs (.ref I) T) (hl:(Value.type T == Value.type "list")=false) (ht:(Value.type T == Value.type "tuple")=false)
  (nl:typeLookup (.type T) "__len__" = pure none) (nh:typeLookup (.type T) "__length_hint__" = pure none) (U:St 0 s.heap) (Z:S≠I) (res:Value) (c₀:Nat) (hS:cW s.heap S #v[] c₀)
  (hR:∀h' acc c,(∀b o,b≠S->b ∉ wr->s.heap.get? b=some o->h'.get? b=some o)->cW h' S acc c->jB P h' acc n->R (.ok (.ret res)) { s with heap:=h' }) :
  wpAny 'd' A.in1 (Builtin.List.listExtendWith (.ref S) (.ref I) res)
   (fun fin s'=>match fin with | .done f=>R (.ok f) s' | .again c'=>c'.quiet=true/\codeAny 'd' A c' R s') (fun e s'=>R (.error e) s') s:=by
 have key:∀(h:Heap) (c₁:Nat),(∀b o,b≠S->s.heap.get? b=some o->h.get? b=some o)->cW h S #v[] c₁ ->
   codeAny 'd' A (.builtin "list.extend.loop" #[[.ref S,.ref I,res],[]]) R { s with heap:=h }:=fun h c₁ hk hS₁=>
  Nm (h₁:=s.heap) W hn res hR n 0 h c₁ #v[] (SW _) (Qx _) (W.stay 0 _ h U hk) (fun b o h1 _ e=>hk b o h1 e) hS₁ #[rfl,fun j v e=>by simp at e,by simp]
 unfold Builtin.List.listExtendWith;refine gV (RE hT ?_);have h1:Builtin.List.listSameRef (.ref S) (.ref I)=false:=by simp[Builtin.List.listSameRef,Z]
 simp only[h1,hl,ht,Bool.or_false,RL,QU];refine gV (W.self _ _ _ _ U ?_);refine gV (QP ?_);unfold Builtin.List.listLengthHint;refine gV (wpAny_specialOf hT nl ?_);show wpAny _ A.in1 (specialOf (Value.ref I) (Str.ofString "__length_hint__") >>= _) _ _ _;refine gV (wpAny_specialOf hT nh ?_);refine td ?_;show wpAny _ A.in1 (rule "list.extend.makes-room" >>= fun _=>Builtin.List.listTouch (.ref S) >>= fun _=>
  again (.builtin "list.extend.loop" #[[.ref S,.ref I,res],[]])) _ _ _
 refine gV (QY ?_);refine gV ?_;show wpAny _ A.in1 (updateSeq S (·.push .none) >>= fun _=>updateSeq S (·.pop)) _ _ _;refine gV (Ui hS rfl ?_);have J:=Ri (Obj.mapSeq (·.push Value.none)) hS rfl;refine Ui (hz:=by seq_fits) J rfl ?_;have Y:=Ri (Obj.mapSeq (·.pop)) J rfl;refine td #[plainId_quiet Uh _,key _ _ (fun b o hb e=>?_) Y];exact(QL _ _ (Qd hb)).trans ((QL _ _ (Qd hb)).trans e)
def HC {E:vQ_}{Q:vQ_}(W:LW prog w A.in1.in1 I s.heap.objs.size wr n P St) (hn:n<=sizeLine) (hT:s.TypeIs (.ref I) T) (hl:(Value.type T == Value.type "list")=false) (ht:(Value.type T == Value.type "tuple")=false)
  (nl:typeLookup (.type T) "__len__" = pure none) (nh:typeLookup (.type T) "__length_hint__" = pure none) (hst:St 0 s.heap)
  (hQ:∀h' acc c,(∀b o,b ∉ wr->s.heap.get? b=some o->h'.get? b=some o)->cW h' s.heap.objs.size acc c->jB P h' acc n->Q (.ref s.heap.objs.size) { s with heap:=h' }) :
  wpAny 'd' A (call (.type "list") [.ref I]) Q E s:=by
 refine callType_codes (Q₁:=fun U s₁=>U = .ref s.heap.objs.size/\s₁={ s with heap:=s.heap.push { cls:=.type "list",data:=.seq #v[] } }) PySem.F.called_list (PySem.F.typeCall_list_1 _) PySem.F.entry_list_init
  (code_list_new _ #[rfl,rfl]) fun U s₁ h₁=>?_
 obtain⟨rfl,rfl⟩:=h₁;have Z:(s.heap.push { cls:=.type "list",data:=.seq #v[] }).get? s.heap.objs.size=some { cls:=.type "list",data:=.seq #v[] }:=Qq _ rfl;obtain⟨oI,Y,hcI⟩:=id hT;have hI:I<s.heap.objs.size:=PB Y;refine#[#[_,Z,rfl],PySem.F.args_list_init_2 _ _,?_];show wpAny _ _ (do let old <-Builtin.List.listItems (.ref s.heap.objs.size);Builtin.List.listUpdate (.ref s.heap.objs.size) (fun _=>#v[]);letGo old.toList.reverse;Builtin.List.listExtendWith (.ref s.heap.objs.size) (.ref I) .none) _ _ _;refine gV ?_;unfold Builtin.List.listItems;refine gV (Rg Z rfl (td ?_));show wpAny _ _ (updateSeq s.heap.objs.size (fun _=>#v[]) >>= fun _=>letGo (#v[]:vR_).toList.reverse >>= fun _=>Builtin.List.listExtendWith (.ref s.heap.objs.size) (.ref I) .none) _ _ _;refine gV (Ui Z rfl ?_);have hS₂:=Ri (Obj.mapSeq (fun _=>(#v[]:vR_))) Z rfl;have J:∀b o,b≠s.heap.objs.size->s.heap.get? b=some o->((s.heap.push { cls:=.type "list",data:=.seq #v[] }).update s.heap.objs.size (Obj.mapSeq (fun _=>(#v[]:vR_)))).get? b=some o:=
  fun b o hb e=>(QL _ _ (Qd hb)).trans (PF _ e)
 refine gV (Ud ?_);refine Ht (A:=A.in1) W hn #[oI,J I _ (Ql hI) Y,hcI] hl ht nl nh (W.stay 0 s.heap _ hst J) (QI hI) .none _ hS₂ fun h' acc c hk hS' hG=>?_
 exact#[rfl,hQ h' acc c (fun b o h2 e=>hk b o (Ql (PB e)) h2 (J b o (Ql (PB e)) e)) hS' hG]
end
def Po:typeLookup (.type "zip") "__len__" = pure none:=by rw[typeLookup_type,builtinLookup_eq_fast];kernel_rfl
def Pb:typeLookup (.type "zip") "__length_hint__" = pure none:=by rw[typeLookup_type,builtinLookup_eq_fast];kernel_rfl
def JX {w:World}{z TI TO i1 i2 l1 l2 S:Addr}{xs ys:vR_}(hh:A.handled=none) (D:ZipApart z TI TO i1 i2 l1 l2) (hTO:TO<S) (hS:S ∉ [z,TI,TO,i1,i2,l1,l2]) (top:∀b∈[z,TO,i1,i2],b<S) :
  LW prog w A z S [z,TO,i1,i2] (min xs.size ys.size) (fun j v h=>∃a x y,v = .ref a/\S<=a/\a≠S/\xs[j]? = some x/\ys[j]? = some y/\IsPair h a x y) (fun k h=>ZSt h z TI TO i1 i2 l1 l2 S xs ys k) where
 item:=fun i s Q E hi st hs Z=>by
  have hix:i<xs.size:=Qb hi (SX ..);have Y:i<ys.size:=Qb hi (Nat.min_le_right ..);exact Ih D st hs (Nat.lt_trans hTO hs) (Sx hix) (Sx Y) fun h' a1 a2 a3=>Z _ h' #[_,_,_,rfl,Rh hs,QI hs,Sx hix,Sx Y,a2] a1 (fun j u ⟨a,x,y,e,_,_,_,_,q⟩ z=>by
   rw[e] at z;cases z;exact absurd (PB q) (QK _)) a3
 done:=fun s Q E st Z=>by
  have U:xs[min xs.size ys.size]? = none\/ys[min xs.size ys.size]? = none:=by
   rcases Nat.le_total xs.size ys.size with h | h
   .exact .inl (by rw[Tb h];exact VP (tx _))
   .exact .inr (by rw[Vd h];exact VP (tx _))
  exact EF hh D st U Z
 stay:=fun i h h' st k=>by
  simp only[xo,Qj,Qk,not_or] at hS;obtain⟨n1,n2,n3,n4,n5,n6,n7⟩:=hS;obtain⟨ti,r1,r2,zz⟩:=st;refine#[k _ _ (Qd n2) ti,r1.at (fun o e=>k _ o (Qd n4) e) (fun o e=>k _ o (Qd n6) e),r2.at (fun o e=>k _ o (Qd n5) e) (fun o e=>k _ o (Qd n7) e),?_];rcases zz with ⟨J,a,b,ho⟩ | ⟨T,f,oT,J,hT,t1,t2,t3,t4,t5⟩
  .exact .inl #[k _ _ (Qd n1) J,a,b,k _ _ (Qd n3) ho]
  .exact .inr #[T,f,oT,k _ _ (Qd n1) J,k _ _ t5 hT,t1,t2,t3,t4,t5]
 pay:=fun i v h h' p k=>by
  obtain⟨a,x,y,e,ha,na,hx,hy,q⟩:=p;refine#[a,x,y,e,ha,na,hx,hy,k _ _ na (fun hb=>?_) q];exact absurd (Qb (top a hb) ha) (QK _)
 self:=fun A s Q E st Z=>by
  have tz:s.TypeIs (.ref z) "zip":= by
   rcases st.zz with ⟨J,_⟩ | ⟨T,f,oT,J,_⟩ <;> exact#[_,J,rfl]
  refine Ve tz Sy (QF Sy tz Vf ?_ (Vg _));show wpAny _ _ (ret (.ref z)) _ _ s;exact td #[_,rfl, "zip",_,tz,QJ.lookup,Z]
 out:=fun h=>hS (by
  simp only[xo,Qj,Qk] at h ⊢;rcases h with h | h | h | h <;> simp[h])
def av (t:Bool) (l:Addr):Obj:={ cls:=.type (if t then "tuple_iterator" else "list_iterator"),data:=.fields #v[.ref l,.int 0 0] }
def RwB (t:Bool) (h:Heap) (l:Addr) (xs:vR_):Prop:=if t then h.IsTuple l xs else h.IsList l xs
section
variable {w:World}
def vY {t:Bool}{xs:vR_}{Q:vQ_}(h:RwB t s.heap l xs) (J:Q (.ref s.heap.objs.size) { s with heap:=s.heap.push (av t l) }):wpAny 'd' A (pyIter (.ref l)) Q E s:=by
 cases t with
 |true=>exact SV h J
 |false=>exact UX h J
end
abbrev mw (h:Heap) (t1:Bool) (l1:Addr):Heap:=h.push (av t1 l1)
abbrev lY (h:Heap) (t1 t2:Bool) (l1 l2:Addr):Heap:=(mw h t1 l1).push (av t2 l2)
abbrev kX (h:Heap) (t1 t2:Bool) (l1 l2:Addr):Heap:=(lY h t1 t2 l1 l2).push { cls:=.type "tuple",data:=.seq #v[.ref h.objs.size,.ref (mw h t1 l1).objs.size] }
abbrev jZ (h:Heap) (t1 t2:Bool) (l1 l2:Addr):Heap:=(kX h t1 t2 l1 l2).push { cls:=.type "tuple",data:=.seq #v[.none,.none] }
abbrev dA (h:Heap) (t1 t2:Bool) (l1 l2:Addr):Heap:=(jZ h t1 t2 l1 l2).push { cls:=.type "zip",data:=.fields #v[.none,.bool false,.bool false,.ref (lY h t1 t2 l1 l2).objs.size,.ref (kX h t1 t2 l1 l2).objs.size] }
theorem RwB.push {t:Bool}{xs:vR_}(x:RwB t h l xs) (o:Obj):RwB t (h.push o) l xs:=by
 cases t with
 |true=>exact Heap.IsTuple.push x o
 |false=>exact Heap.IsList.push x o
def DY (J U:Bool) (l1 l2:Addr) (xs ys:vR_) :
  Meets (Builtin.«zip.__new__» #[[.type "zip",.ref l1,.ref l2],[]]) (fun _ R s=>RwB J s.heap l1 xs/\RwB U s.heap l2 ys /\
   R (.ok (.ret (.ref (jZ s.heap J U l1 l2).objs.size))) { s with heap:=dA s.heap J U l1 l2 }):=
 .of_wp fun prog w A R s h=>by
  obtain⟨hp,g,d,tk,os⟩:=s;obtain⟨Y,hl2,h⟩:=h;have hsub:=sub_zip;have Z:RwB J (Shared.heap #[hp,g,d,tk,os]) l1 xs:=Y;have hL2:RwB U (Shared.heap #[hp.push (av J l1),g,d,tk,os]) l2 ys:=RwB.push hl2 _
  wp_walk using vY Z,vY hL2
  exact#[_,rfl,h]
section
variable {w:World}
def RwB.it {t:Bool}{i l:Addr}{xs:vR_}(x:RwB t h l xs) (e:h.get? i=some (av t l)):RwIt h i l xs 0:=by
 cases t with
 |true=>exact .inr #[#[_,e,rfl,rfl],x]
 |false=>exact .inl #[#[_,e,rfl,rfl],x]
def RwB.at {t:Bool}{xs:vR_}(x:RwB t h l xs) (e:∀o,h.get? l=some o->h'.get? l=some o):RwB t h' l xs:=by
 cases t with
 |true=>obtain⟨o,q,r⟩:=x;exact#[o,e o q,r]
 |false=>obtain⟨o,q,r⟩:=x;exact#[o,e o q,r]
def RwB.lt {t:Bool}{xs:vR_}(x:RwB t h l xs):l<h.objs.size:=by
 cases t with
 |true=>obtain⟨o,q,r⟩:=x;exact PB q
 |false=>obtain⟨o,q,r⟩:=x;exact PB q
def Av (h:Heap) (m:Nat) (xs ys:vR_):Prop:=∃l1 l2,ZipApart (m+4) (m+2) (m+3) m (m+1) l1 l2/\l1<m/\l2<m/\h.objs.size=m+5/\∀S,m+5<=S->ZSt h (m+4) (m+2) (m+3) m (m+1) l1 l2 S xs ys 0
def Kb (h:Heap) (m:Nat) (J U:Bool) (l1 l2:Addr):Prop:=ZipApart (m+4) (m+2) (m+3) m (m+1) l1 l2/\h.get? m=some (av J l1)/\h.get? (m+1)=some (av U l2)/\IsPair h (m+2) (.ref m) (.ref (m+1))/\L8 h (m+4) (m+2) (m+3) .none (.bool false)/\∃a b,IsPair h (m+3) a b
def tV {J U:Bool}{xs ys:vR_}{Q:vQ_}(h1:RwB J s.heap l1 xs) (h2:RwB U s.heap l2 ys)
  (h:∀h',Av h' s.heap.objs.size xs ys->(∀c o,s.heap.get? c=some o->h'.get? c=some o)->Kb h' s.heap.objs.size J U l1 l2->Q (.ref (s.heap.objs.size+4)) { s with heap:=h' }) :
  wpAny 'd' A (call (.type "zip") [.ref l1,.ref l2]) Q E s:=by
 refine callType_new PySem.F.called_zip #[] (PySem.F.typeCall_zip_2 _ _) (PySem.F.newCall_zip_2 _ _) (fun obj=>PySem.F.args_object_init_3 obj _ _) PySem.F.entry_zip_new
  (DY J U l1 l2 xs ys) #[h1,h2,?_]
 have Z:(mw s.heap J l1).objs.size=s.heap.objs.size+1:=RH ..;have z2:(lY s.heap J U l1 l2).objs.size=s.heap.objs.size+2:=by rw[RH,Z]
 have z3:(kX s.heap J U l1 l2).objs.size=s.heap.objs.size+3:=by rw[RH,z2]
 have z4:(jZ s.heap J U l1 l2).objs.size=s.heap.objs.size+4:=by rw[RH,z3]
 have z5:(dA s.heap J U l1 l2).objs.size=s.heap.objs.size+5:=by rw[RH,z4]
 have fr:∀t l,(av t l).isFreed=false:=fun t l=>rfl
 have Y:(dA s.heap J U l1 l2).get? (jZ s.heap J U l1 l2).objs.size=some _:=Qq _ rfl;have g4:(dA s.heap J U l1 l2).get? (kX s.heap J U l1 l2).objs.size=some _:=PF _ (Qq _ rfl);have g3:(dA s.heap J U l1 l2).get? (lY s.heap J U l1 l2).objs.size=some _:=PF _ (PF _ (Qq _ rfl));have g2:(dA s.heap J U l1 l2).get? (mw s.heap J l1).objs.size=some (av U l2):=PF _ (PF _ (PF _ (Qq _ (fr _ _))));have g1:(dA s.heap J U l1 l2).get? s.heap.objs.size=some (av J l1):=PF _ (PF _ (PF _ (PF _ (Qq _ (fr _ _)))));show _/\_;rw[z2,z3,z4] at Y;rw[Z,z2] at g3;rw[z3] at g4;rw[Z] at g2;rw[z4];have up:∀c o,s.heap.get? c=some o->(dA s.heap J U l1 l2).get? c=some o:=fun c o x=>
  PF _ (PF _ (PF _ (PF _ (PF _ x))))
 refine#[#[_,Y,rfl],h _ #[l1,l2,VQ h1.lt h2.lt,h1.lt,h2.lt,z5,fun S hS=>#[g3,(h1.at fun o e=>up _ o e).it g1,(h2.at fun o e=>up _ o e).it g2,.inl #[Y,_,_,g4]]] up #[VQ h1.lt h2.lt,g1,g2,g3,Y,_,_,g4]]
structure LZ (h h':Heap) (S:Addr) (xs ys:vR_) (as:vL_) (c:Nat):Prop where
 keep:∀b o,h.get? b=some o->h'.get? b=some o
 low:h.objs.size<=S
 lst:cW h' S (as.map Value.ref).toArray c
 len:as.length=min xs.size ys.size
 new:∀a∈as,h.objs.size<=a/\a≠S
 nd:as.Nodup
 at':∀(j:Nat) a,as[j]? = some a->∃x y,xs[j]? = some x/\ys[j]? = some y/\IsPair h' a x y
def Fs {P:Nat->Value->Heap->Prop}{J:vR_}(g:jB P h J n) (hp:∀j v,P j v h->∃a,v = .ref a):∃as:List Addr,J=(as.map Value.ref).toArray:=by
 have:∀l:List Value,(∀v∈l,∃a,v=Value.ref a)->∃as:List Addr,l=as.map Value.ref:=by
  intro l;induction l with
  |nil=>exact fun _=>#[[],rfl]
  |cons v r Y=>
   intro U;obtain⟨a,e⟩:=U v (.head _);obtain⟨as,e'⟩:=Y fun u hu=>U u (.tail _ hu)
   exact#[a::as,by rw[e,e'];rfl]
 obtain⟨as,e⟩:=this J.toList fun v U=>by
  obtain⟨j,Z⟩:=Uj.mp U;exact hp j v (g.2.1 j v (by simpa using Z))
 exact#[as,by rw[<-e,Array.toArray_toList]]
def Dh {m:Nat}{h₀:Heap}{xs ys:vR_}{Q:vQ_}(hh:A.handled=none) (Z:Av s.heap m xs ys) (k₀:∀c o,h₀.get? c=some o->s.heap.get? c=some o) (hm:h₀.objs.size=m) (hn:xs.size<=sizeLine)
  (hQ:∀S h' as c,LZ h₀ h' S xs ys as c->Q (.ref S) { s with heap:=h' }):wpAny 'd' A (call (.type "list") [.ref (m+4)]) Q E s:=by
 obtain⟨l1,l2,D,b1,b2,sz,st⟩:=Z;have J:=st s.heap.objs.size ∅;have tz:s.TypeIs (.ref (m+4)) "zip":= by
  rcases J.zz with ⟨hz,_⟩ | ⟨T,f,oT,hz,_⟩ <;> exact#[_,hz,rfl]
 refine HC (T := "zip") (JX (A:=A.in1.in1) hh D (show (m+3:Nat)<s.heap.objs.size by omega) (by
  simp only[xo,Qj,Qk,not_or];have ms:m<=s.heap.objs.size:=by omega
  exact#[show (s.heap.objs.size:Nat)≠m+4 by omega,show (s.heap.objs.size:Nat)≠m+2 by omega,show (s.heap.objs.size:Nat)≠m+3 by omega,show (s.heap.objs.size:Nat)≠m by omega,show (s.heap.objs.size:Nat)≠m+1 by omega,
   QI (Qb b1 ms),QI (Qb b2 ms)]) (by
  simp only[xo,Qj,Qk];intro b U;have Y:∀j,j<=4->m+j<s.heap.objs.size:=fun j _=>by omega
  rcases U with e | e | e | e
  .rw[e];exact Y 4 ∅
  .rw[e];exact Y 3 ∅
  .rw[e];exact Y 0 ∅
  .rw[e];exact Y 1 ∅)) (PJ (SX ..) hn) tz #[] #[] Po Pb J fun h' acc c k l g=>?_
 obtain⟨as,ea⟩:=Fs g fun j v ⟨a,_,_,e,_⟩=>#[a,e]
 subst ea;refine hQ _ h' as c #[fun b o e=>k b o (fun U=>?_) (k₀ b o e),by omega,l,by simpa using g.1,fun a ha=>?_,?_,fun j a e=>?_]
 .have hl:b<m:=hm▸PB e;simp only[xo,Qj,Qk] at U;have up:∀j:Nat,¬ (m+j<m):=fun j=>by omega
  rcases U with e | e | e | e
  .exact up 4 (e▸hl)
  .exact up 3 (e▸hl)
  .exact up 0 (e▸hl)
  .exact up 1 (e▸hl)
 .obtain⟨j,hj⟩:=Uj.mp ha;obtain⟨a',x,y,e,q1,q2,_⟩:=g.2.1 j (.ref a) (by simp[hj]);cases e;exact#[PJ (show (h₀.objs.size:Nat)<=s.heap.objs.size by omega) q1,q2]
 .have nd:=g.2.2;simp only[List.toList_toArray] at nd;exact(Vh.mp nd).imp fun h e=>h (by rw[e])
 .obtain⟨a',x,y,e',q1,q2,q3,q4,q5⟩:=g.2.1 j (.ref a) (by simp[e]);cases e';exact#[x,y,q3,q4,q5]
end
def V2 (H:Hp):List (Addr × List V)->Hp
 |[]=>H
 |(a,p)::r=>o7 (V2 H r) a (.tup p)
theorem js:∀{ps:List (Addr × List V)}{b:Addr},(∀q∈ps,q.1≠b)->V2 H ps b=H b
 |[],b,h=>rfl
 |(a,p)::r,b,h=>by
  show o7 (V2 H r) a (.tup p) b=H b;rw[u5 (Qd (h _ (.head _)))];exact js fun q J=>h q (.tail _ J)
theorem yn:∀{ps:List (Addr × List V)}{b:Addr}{u:HO},V2 H ps b=some u->(∃p,(b,p)∈ps/\u = .tup p)\/H b=some u
 |[],b,u,h=>.inr h
 |(a,p)::r,b,u,h=>by
  replace h:o7 (V2 H r) a (.tup p) b=some u:=h
  by_cases J:b=a
  .subst J;rw[D1] at h;cases h;exact .inl #[p,.head _,rfl]
  .rw[u5 J] at h;rcases yn h with ⟨p',q,e⟩ | e
   .exact .inl #[p',.tail _ q,e]
   .exact .inr e
theorem Be:∀{ps:List (Addr × List V)}{b:Addr}{p:List V},(ps.map (·.1)).Nodup->(b,p)∈ps->V2 H ps b=some (.tup p)
 |(a,p')::r,b,p,nd,h=>by
  show o7 (V2 H r) a (.tup p') b=_;rcases xo.mp h with e | h
  .cases e;exact D1
  .have J:=QE.mp nd;have U:b≠a:=fun e=>J.1 (e▸Qh.mpr #[(b,p),h,rfl])
   rw[u5 U];exact Be J.2 h
def IQ {fs ex:vL_}(k:∀b u,h.get? b=some u->h'.get? b=some u) (U:∀b,b<h.objs.size->H' b=H b) (J:∀b u,H b=some u->H' b=some u):Un fs ex H H' h h' where
 keep:=fun b u q _ _ _=>k b u q
 slot:=fun b u q _ _ _=>#[u.slots,k b u q]
 free:=fun b u q n _=>by rw[U b (PB q)];exact n
 there:=fun b u q _=>#[u,k b u q]
 tups:=fun b xs q=>J b _ q
 frzs:=fun b u xs q=>J b _ q
 tbls:=fun b ps q=>#[#v[],by rw[J b _ q];simp]
def M0 (xs ys:List V):List (List V):=List.zipWith (fun x y=>[x,y]) xs ys
def Dt (e:(M0 xs ys)[j]? = some p):∃x y,xs[j]? = some x/\ys[j]? = some y/\p=[x,y]:=by
 unfold M0 at e;rw[Vi] at e;cases J:xs[j]? with
 |none=>rw[J] at e;simp at e
 |some x=>
  cases U:ys[j]? with
  |none=>rw[J,U] at e;simp at e
  |some y=>rw[J,U] at e;simp at e;exact#[x,y,rfl,rfl,e.symm]
def Sq (K:vF_) (H:Hp) (a:Addr) (xs:List V):Prop:=SqL K H a xs\/SqT K H a xs
def se (K:vF_):List V->Hp->VK->Prop:=fun vs H Q=>∃p q xs ys,vs=[.ref p,.ref q]/\Sq K H p xs/\Sq K H q ys /\
 ∀S as,(S::as).Nodup->(∀a∈S::as,H a=none)->as.length=(M0 xs ys).length->Q (.ref S) (o7 (V2 H (as.zip (M0 xs ys))) S (.lst (as.map V.ref)))
def zp (I:Inv X pins σ H s) (h:Sq X.K H p xs):∃(t:Bool) (its:vV_),Vals xs its/\RwB t s.heap p its.toArray/\xs.length<=sizeLine:=by
 rcases h with h | h
 .obtain⟨its,r,⟨o,n,e,c,_,d⟩,z⟩:=I.list h;exact#[false,its,r,#[o,e,c,n,d],z]
 .obtain⟨its,r,⟨o,e,c,n,d⟩,z⟩:=I.tuple h;exact#[true,its,r,#[o,e,c,n,d],z]
def uR {J:vL_}{ps:List (List V)}(h:J.length=ps.length):(J.zip ps).map (·.1)=J:=by
 rw[List.map_fst_zip ∅]
def Inv.lz {it jt:vV_}{J:vL_}{c:Nat}(I:Inv X pins σ H s) (rx:Vals xs it) (ry:Vals ys jt) (zx:xs.length<=sizeLine) (Z:LZ s.heap h' S it.toArray jt.toArray J c) :
  (S::J).Nodup/\(∀a∈S::J,H a=none)/\J.length=(M0 xs ys).length/\Inv X pins σ (o7 (V2 H (J.zip (M0 xs ys))) S (.lst (J.map V.ref))) { s with heap:=h' }:=by
 have hl:J.length=(M0 xs ys).length:=by
  have e:=Z.len;simp only[Qc] at e;rw[e,M0,Uk,rx.length,ry.length]
 have fr:∀a∈S::J,s.heap.objs.size<=a:=fun a U=>by
  rcases xo.mp U with e | e
  .rw[e];exact Z.low
  .exact(Z.new a e).1
 have nn:∀a∈S::J,H a=none:=fun a U=>I.hok.fresh (fr a U)
 have nd:(S::J).Nodup:=QE.mpr #[fun h=>(Z.new S h).2 rfl,Z.nd];have ky:=uR hl;have ndz:((J.zip (M0 xs ys)).map (·.1)).Nodup:=by rw[ky];exact Z.nd
 have kin:∀q∈J.zip (M0 xs ys),q.1∈J:=fun q Y=>(RY Y).1
 refine#[nd,nn,hl,?_];have hs:∀b u,H b=some u->o7 (V2 H (J.zip (M0 xs ys))) S (.lst (J.map V.ref)) b=some u:=fun b u e=>by
  have n:∀a∈S::J,a≠b:=fun a U z=>by rw[z] at U;rw[nn b U] at e;cases e
  rw[u5 (Qd (n S (.head _))),js fun q Y=>n _ (.tail _ (kin q Y))];exact e
 refine I.un (t':=s.toks) (IQ Z.keep (fun b hb=>?_) hs) fun b u e=>?_
 .have n:∀a∈S::J,a≠b:=fun a U z=>absurd (Qb hb (z▸fr a U)) (QK _)
  rw[u5 (Qd (n S (.head _))),js fun q Y=>n _ (.tail _ (kin q Y))]
 .by_cases hb:b=S
  .subst hb;rw[D1] at e;cases e;refine#[?_,J.map Value.ref,c,?_,Z.lst]
   .rw[PH,hl,M0,Uk];exact PJ (SX ..) zx
   .have:∀l:List Addr,Vals (l.map V.ref) (l.map Value.ref):=fun l=>by
     induction l with
     |nil=>exact .nil
     |cons a r ih=>exact .cons rfl ih
    exact this J
  .rw[u5 hb] at e;rcases yn e with ⟨p,hp,rfl⟩ | e0
   .obtain⟨j,hj⟩:=Uj.mp hp;obtain⟨U,hpj⟩:=SA.mp hj;obtain⟨x,y,ex,ey,rfl⟩:=Dt hpj;obtain⟨x',y',ex',ey',q⟩:=Z.at' j b U;obtain⟨u1,f1,g1⟩:=rx.get ex;obtain⟨u2,f2,g2⟩:=ry.get ey;have e1:u1=x':=by simpa [f1] using ex'
    have e2:u2=y':=by simpa [f2] using ey'
    subst e1;subst e2;exact#[show 2<=sizeLine by decide,[u1,u2],.cons g1 (.cons g2 .nil),#[_,q,rfl,_,rfl]]
   .exact(I.hok b u e0).stay (fun c v _ q=>Z.keep c v q) (fun c q=>hs c _ q) fun c xs q=>hs c _ q
section
variable {p p' pos:Pos}{t:TA}
def MV (hc:X.calm=true) (hgl:Gl X "list") (hml:X.mg "list" = none) (Y:Gl X "zip") (hmz:X.mg "zip" = none) (ha:PA X (e::es) t)
  (he:starEach (e::es) X.env=(false,eval e X.env)::starEach es X.env:=by rfl) (hpl:(backTo pos' (starEach es X.env)).any (·.1)=false:=by rfl)
  (U:starEach [.Call (.Name "zip" p') (e::es) [] pos'] X.env=[(false,eval (.Call (.Name "zip" p') (e::es) [] pos') X.env)]:=by rfl) :
  PE X (.Call (.Name "list" p) [.Call (.Name "zip" p') (e::es) [] pos'] [] pos) (fu (se X.K) t):=by
 intro pins s σ H Q I h;refine RD (cH I hgl hml (show bootBuiltins ("list" : Str)=some (.type "list") by decide +kernel) ?_ #[] #[]);refine Sm ?_ U rfl;rw[U];show wpAny _ _ (spliced [(false,eval (.Call (.Name "zip" p') (e::es) [] pos') X.env)]) _ _ s;refine Calls.spliced_cons ?_;refine RD (cH I Y hmz (show bootBuiltins ("zip" : Str)=some (.type "zip") by decide +kernel) ?_ #[] #[]);refine Sm (v3 (ha pos' pins s σ H _ I h) fun us s1 ⟨vs,H1,I1,J,q1⟩=>?_) he hpl;refine gB_ fun G_ g_=>?_
 obtain⟨a,b,xs,ys,rfl,qa,qb,k⟩:=q1;obtain⟨u1,u2,rfl,e1,e2⟩:∃u1 u2,us=[u1,u2]/\u1=Value.ref a/\u2=Value.ref b:=by
  cases J with
  |cons h1 J=>
   cases J with
   |cons h2 J=>cases J;exact#[_,_,rfl,h1,h2]
 apply g_;subst e1;subst e2;obtain⟨ta,it,rx,wa,za⟩:=zp I1 qa;obtain⟨tb,jt,ry,wb,zb⟩:=zp I1 qb;refine tV wa wb fun h1 Z1 k1 _=>?_
 refine Calls.spliced_nil ?_;refine Dh (h₀:=s1.heap) (I.ok.hd hc) Z1 k1 rfl (by simpa [<-rx.length] using za) fun S h2 as c Z=>?_
 obtain⟨nd,nn,hl,I2⟩:=Inv.lz I1 rx ry za Z;exact#[.ref S,_,I2,rfl,k S as nd nn hl]
end
def U7:D->Option (List D)
 |.tup ds=>some ds
 |.lst ds=>some ds
 |_=>none
def U3 (x y:D):D:=.tup [x,y]
def dJ:List D->Option (List D)
 |[a,b]=>(U7 a).bind fun xs=>(U7 b).map fun ys=>List.zipWith U3 xs ys
 |_=>none
theorem sH {g:Gh}{K:vF_}{O:vL_}{s:DS}(I:GI K g σ H fa O s):∀(ps:List (Addr × List V)),(ps.map (·.1)).Nodup->(∀q∈ps,H q.1=none)->GI K g σ (V2 H ps) fa O s/\StE fa O H fa O (V2 H ps)
 |[],_,_=>#[I,StE.refl]
 |(a,p)::r,nd,h=>by
  have J:=QE.mp nd;obtain⟨Z,s1⟩:=sH I r J.2 fun q U=>h q (.tail _ U)
  have Y:V2 H r a=none:=by
   rw[js fun q U z=>J.1 (Qh.mpr #[q,U,z])];exact h _ (.head _)
  exact#[Z.new Y,s1.trans (F9 Y)]
theorem xG {K:vF_}:∀{ds es:vD_}{xs ys:List V}{as:vL_},Reps K N fa H ds xs->Reps K N fa H es ys->as.length=(M0 xs ys).length->(∀q∈as.zip (M0 xs ys),H q.1=some (.tup q.2)) ->
  Reps K N fa H (List.zipWith U3 ds es) (as.map V.ref)
 |[],es,xs,ys,as,h,q,l,k=>by
  simp only[Reps] at h;subst h;simp only[M0,VR,RN] at l;rw[VS l];simp only[VR,Rj,Reps]
 |d::r,[],xs,ys,as,h,q,l,k=>by
  simp only[Reps] at q;subst q;simp only[M0,VT,RN] at l;rw[VS l];simp only[VT,Rj,Reps]
 |d::r,e::f,xs,ys,as,h,q,l,k=>by
  simp only[Reps] at h q;obtain⟨x,U,rfl,h1,h2⟩:=h;obtain⟨y,J,rfl,Y,Z⟩:=q;cases as with
  |nil=>simp[M0] at l
  |cons a as=>
   have hz:(a::as).zip (M0 (x::U) (y::J))=(a,[x,y])::as.zip (M0 U J):=rfl;rw[hz] at k;simp only[Ul,PM,Reps];refine#[_,_,rfl,?_,xG h2 Z (by simpa [M0] using l) fun q hq=>k q (.tail _ hq)];simp only[U3,Rep,Reps];exact#[a,[x,y],rfl,SqT.of (k _ (.head _)),x,[y],rfl,h1,y,[],rfl,Y,rfl]
def xN {K:vF_}{v:V}(r:RepB K N fa H d v) (e:U7 d=some ds):∃a xs,v = .ref a/\Sq K H a xs/\Reps K N fa H ds xs:=by
 cases d with
 |tup es=>
  cases e;simp only[RepB,Rep] at r;obtain⟨a,ys,rfl,q,w⟩:=r;exact#[a,ys,rfl,.inr q,w]
 |lst es=>
  cases e;obtain⟨a,ys,rfl,_,q,w⟩:=r;exact#[a,ys,rfl,.inl (SqL.of q),w]
 |_=>cases e
def JD {K:vF_}:kh K (se K) dJ:=by
 intro g σ H fa O s xs ds es Q I rs e k
 match ds,e with
 |[d1,d2],e=>
  refine Y1 (show (U7 d1).bind (fun xs=>(U7 d2).map fun ys=>List.zipWith U3 xs ys)=some es from e) fun xs1 e1 e=>?_
  refine Q0 e fun ys1 e2 e=>?_
  subst e;simp only[cx] at rs;obtain⟨x,zs,rfl,r1,y,zs',rfl,r2,rfl⟩:=rs;obtain⟨a,vs,rfl,q1,w1⟩:=xN r1 e1;obtain⟨b,us,rfl,q2,w2⟩:=xN r2 e2;refine#[a,b,vs,us,rfl,q1,q2,fun S U nd nn hl=>?_];have Y:=QE.mp nd;have ky:=uR hl;have Z:∀q∈U.zip (M0 vs us),q.1∈U:=fun q J=>(RY J).1
  have ndz:((U.zip (M0 vs us)).map (·.1)).Nodup:=by rw[ky];exact Y.2
  obtain⟨I1,s1⟩:=sH I (U.zip (M0 vs us)) ndz fun q J=>nn _ (.tail _ (Z q J))
  have hS:V2 H (U.zip (M0 vs us)) S=none:=by
   rw[js fun q J (z:q.1=S)=>Y.1 (by rw[<-z];exact Z q J)];exact nn S (.head _)
  have rp:=xG (Reps.stp I s1.stp w1) (Reps.stp I s1.stp w2) hl fun q J=>Be (b:=q.1) (p:=q.2) ndz J
  exact k S (U.map V.ref) _ (s1.trans (F9 hS)) (df I1 hS rp) (nn S (.head _))
section
variable {g:Gh}{p p' pos:Pos}{t:DA}
def Bb (hc:X.calm=true) (hgl:Gl X "list") (hml:X.mg "list" = none) (Y:Gl X "zip") (J:X.mg "zip" = none) (ha:BAO X g (e::es) t)
  (he:starEach (e::es) X.env=(false,eval e X.env)::starEach es X.env:=by rfl) (Z:(backTo pos' (starEach es X.env)).any (·.1)=false:=by rfl)
  (U:starEach [.Call (.Name "zip" p') (e::es) [] pos'] X.env=[(false,eval (.Call (.Name "zip" p') (e::es) [] pos') X.env)]:=by rfl) :
  FO X g (.Call (.Name "list" p) [.Call (.Name "zip" p') (e::es) [] pos'] [] pos) (W0 dJ t):=
 FO.w (MV hc hgl hml Y J ha.pe he Z U) (zR JD)
end
section
variable {g:Gh}{pos:Pos}{y:Str}{px py pp:Pos}{kt:Nat}
def Ge (U:X.calm=true) (k:CompOk X scope cl (x::y::caps) 2 idx) (hi:IO X g (.Tuple [.Name x px,.Name y py] kt pp) iter fi) (J:(x::y::caps).Nodup)
  (Z:∀C s0 H0 ex,(B2 X (x::y::caps) scope cl C s0 H0 ex).env.scope.names.lookup x=some .local) (Y:∀C s0 H0 ex,(B2 X (x::y::caps) scope cl C s0 H0 ex).env.scope.names.lookup y=some .local)
  (ht:∀C s0 H0 ex g',cZ (B2 X (x::y::caps) scope cl C s0 H0 ex) g' ifs fc) (he:∀C s0 H0 ex g',EO (B2 X (x::y::caps) scope cl C s0 H0 ex) g' elt fe) (hs:∀x,foldedSetIterable iter X.env x=pure x:=by intro _;rfl) :
  FO X g (.ListComp elt [#[.Tuple [.Name x px,.Name y py] kt pp,iter,ifs,0]] scope pos) (aA idx fi fc fe):=
 Ed (G:=qM X.K 2 (hZ (X0 0) (hZ (X0 1) qR))) U k hi (fun C s0 H0 ex=>nV (X:=B2 X (x::y::caps) scope cl C s0 H0 ex) (n:=2) U (jj (X:=B2 X (x::y::caps) scope cl C s0 H0 ex) (S7 (X:=B2 X (x::y::caps) scope cl C s0 H0 ex) (i:=0) J rfl (Or.inl (Z C s0 H0 ex)) (Or.inr (Z C s0 H0 ex))) (jj (X:=B2 X (x::y::caps) scope cl C s0 H0 ex) (S7 (X:=B2 X (x::y::caps) scope cl C s0 H0 ex) (i:=1) J rfl (Or.inl (Y C s0 H0 ex)) (Or.inr (Y C s0 H0 ex))) pP)))
  (fun a x y σ H Q h q=>#[a,[x,y],rfl,h,rfl,x,[y],rfl,y,[],rfl,rfl,q]) ht he hs
end
def PC (X:Cx) (e:Expr) (te:TE):Prop:=∀(i:Nat) (y:Str) (py spos:Pos),X.N.Nodup->X.N[i]? = some y->bU X.env.scope y->swapsWith e (some (.Name y py)) spos.line X.env=pure true->(X.fn y=true\/X.env.scope.names.lookup y=some .local)->PS X (.Assign [.Name y py] e spos) (ia te (X0 i))
structure CO (X:Cx) (g:Gh) (e:Expr) (f:DA):Prop where
 pe:PC X e (liftF X.K g f)
theorem CO.w {g:Gh}{t:TE}(h:PC X e t) (w:∀σ H Q,liftF X.K g f σ H Q->t σ H Q):CO X g e f:=
 #[fun i y py J h1 h2 Z U Y pins s σ H D I q=>h i y py J h1 h2 Z U Y pins s σ H D I (w σ H _ q)]
section
variable {g:Gh}{pos:Pos}
def HG (hc:X.calm=true) (k:CompOk X scope cl N' 1 idx) (hi:IO X g tg iter fi) (U:∀C s0 H0 ex,PG 'k' tg (X0 0))
  (ht:∀C s0 H0 ex g',cZ 'k' g' ifs fc) (he:∀C s0 H0 ex g',EO 'k' g' elt fe) (hs:∀x,foldedSetIterable iter X.env x=pure x:=by intro _;rfl) :
  CO X g 'p' (F5 idx fi fc fe):=
 CO.w (fun i y py J h1 h2 h3 Y Z=>wd (tc:=fun σ H Q=>∃g',liftT X.K g' fc σ H Q) (te:=fun σ H Q=>∃g',liftE X.K g' fe σ H Q) h1 h2 h3 hc k hi.pe U (fun C s0 H0 ex pins s σ H Q I ⟨g',h⟩=>ht C s0 H0 ex g' pins s σ H Q I h) (fun C s0 H0 ex pins s σ H Q I ⟨g',h⟩=>(he C s0 H0 ex g').pe pins s σ H Q I h) hs Y Z) (xP k)
def Gz {G:TG}(hc:X.calm=true) (k:CompOk X scope cl N' 2 idx) (hi:IO X g tg iter fi) (Y:∀C s0 H0 ex,PG 'k' tg G)
  (U:∀(a:Addr) (x y:V) (σ:L2.St) (H:Hp) (Q:L2.St->Hp->Prop),SqT X.K H a [x,y]->Q ((σ.set 0 (some x)).set 1 (some y)) H->G (.ref a) σ H Q)
  (ht:∀C s0 H0 ex g',cZ 'k' g' ifs fc) (he:∀C s0 H0 ex g',EO 'k' g' elt fe) (hs:∀x,foldedSetIterable iter X.env x=pure x:=by intro _;rfl) :
  CO X g 'p' (aA idx fi fc fe):=
 CO.w (fun i y py J h1 h2 h3 Z h5=>wd (tc:=fun σ H Q=>∃g',liftT X.K g' fc σ H Q) (te:=fun σ H Q=>∃g',liftE X.K g' fe σ H Q) h1 h2 h3 hc k hi.pe Y (fun C s0 H0 ex pins s σ H Q I ⟨g',h⟩=>ht C s0 H0 ex g' pins s σ H Q I h) (fun C s0 H0 ex pins s σ H Q I ⟨g',h⟩=>(he C s0 H0 ex g').pe pins s σ H Q I h) hs Z h5) (xy k U)
def zh {e:Expr}{i:Nat}{x:Str}{f:DA}{pos':Pos}(hN:X.N.Nodup) (hi:X.N[i]? = some x) (hx:bU X.env.scope x) (he:CO X g e f) (hs:swapsWith e (some (.Name x pos')) pos.line X.env=pure true:=by rfl) (hf:X.fn x=true\/X.env.scope.names.lookup x=some .local:=by first | exact .inl rfl | exact .inr rfl | assumption) :
  SO X g (.Assign [.Name x pos'] e pos) (E3 i f):=SO.w (he.pe i x pos' pos hN hi hx hs hf) fun E σ H hQ=>by
 refine hQ.elim fun fa O s fl s' I q k=>?_
 refine A7 q fun ds s1 h1 h2=>?_
 by_cases Y:i<s1.sl.length
 .simp only[] at h2;rw[iR Y] at h2;cases h2;refine#[fa,O,s,ds,s1,I,h1,fun p xs H1 f1 O1 J L U=>?_];have Z:p ∉ O1:=fun z=>by
   obtain⟨ys,e⟩:=I.owned (J.sub p z);rw[U] at e;cases e
  obtain⟨P,sub,I'⟩:=L.put i Y (I.st.mon p U) Z;refine k _ H1 f1 P #[fun b hb=>?_,J.fe,fun b u e _ n=>J.same b u e n,J.mon] I';rcases sub b hb with y | y
  .exact .inr (by rw[y];exact U)
  .exact .inl (J.sub b y)
 .simp only[] at h2;rw[iU Y] at h2;cases h2
end
section
variable {g:Gh}{pos:Pos}{y:Str}{px py pp:Pos}{kt:Nat}
def Nu (U:X.calm=true) (k:CompOk X scope cl (x::y::caps) 2 idx) (hi:IO X g (.Tuple [.Name x px,.Name y py] kt pp) iter fi) (J:(x::y::caps).Nodup)
  (Z:∀C s0 H0 ex,(B2 X (x::y::caps) scope cl C s0 H0 ex).env.scope.names.lookup x=some .local) (Y:∀C s0 H0 ex,(B2 X (x::y::caps) scope cl C s0 H0 ex).env.scope.names.lookup y=some .local)
  (ht:∀C s0 H0 ex g',cZ (B2 X (x::y::caps) scope cl C s0 H0 ex) g' ifs fc) (he:∀C s0 H0 ex g',EO (B2 X (x::y::caps) scope cl C s0 H0 ex) g' elt fe) (hs:∀x,foldedSetIterable iter X.env x=pure x:=by intro _;rfl) :
  CO X g (.ListComp elt [#[.Tuple [.Name x px,.Name y py] kt pp,iter,ifs,0]] scope pos) (aA idx fi fc fe):=
 Gz (G:=qM X.K 2 (hZ (X0 0) (hZ (X0 1) qR))) U k hi (fun C s0 H0 ex=>nV (X:=B2 X (x::y::caps) scope cl C s0 H0 ex) (n:=2) U (jj (X:=B2 X (x::y::caps) scope cl C s0 H0 ex) (S7 (X:=B2 X (x::y::caps) scope cl C s0 H0 ex) (i:=0) J rfl (Or.inl (Z C s0 H0 ex)) (Or.inr (Z C s0 H0 ex))) (jj (X:=B2 X (x::y::caps) scope cl C s0 H0 ex) (S7 (X:=B2 X (x::y::caps) scope cl C s0 H0 ex) (i:=1) J rfl (Or.inl (Y C s0 H0 ex)) (Or.inr (Y C s0 H0 ex))) pP)))
  (fun a x y σ H Q h q=>#[a,[x,y],rfl,h,rfl,x,[y],rfl,y,[],rfl,rfl,q]) ht he hs
end
theorem oi:∀ns:List Int,D.plains (ns.map .int)=true
 |[]=>rfl
 |n::r=>by simp only[PM,D.plains,D.plain,oi r,QM]
theorem tI:∀ns:List Int,PyData.canLayAll0 (D.pys (ns.map .int))=true
 |[]=>rfl
 |n::r=>by simp only[PM,D.pys,D.py,PyData.canLayAll0,PyData.canLay0,tI r,QM]
theorem sg:∀ns:List Int,PyData.depthAll (D.pys (ns.map .int))=0
 |[]=>rfl
 |n::r=>by simp only[PM,D.pys,D.py,PyData.depthAll,PyData.depth,sg r,Nat.max_self]
def xv (ns:List Int):A9 (.lst (ns.map .int))=true:=by
 simp[A9,D.plain,oi,D.py,SeqAt.shaped,PyData.canLay0,tI,PyData.depth,sg]
def NJ (ns:List Int):PyData.eqv (D.py (.lst (ns.map .int))) (D.py (.lst []))=decide (ns=[]):=by
 cases ns with
 |nil=>rfl
 |cons n r=>simp[D.py,D.pys,PyData.eqv,PyData.eqvAll]
section
variable {g:Gh}
def JR (hu:X.A.units+64<cLine):OpR X (compareOp .Eq) (fun x y H Q=>∃a ns b,x = .ref a/\y = .ref b/\SqL X.K H a ((ns:List Int).map V.int)/\H b=some (.lst [])/\Q (.bl (decide (ns=[]))) H):=by
 intro pins s σ H x y v u Q I rx ry h;refine gB_ fun G_ g_=>?_
 obtain⟨a,ns,b,rfl,rfl,sq,hb,q⟩:=h;apply g_;cases rx;have Y:=xv ns;have U:A9 (.lst [])=true:=xv [];unfold A9 at Y U;rw[Qe] at Y U;obtain⟨its,rv,⟨o,n,h1,h2,h3,h4⟩,_⟩:=I.list sq;obtain⟨Z,ra⟩:=jY (N:=fun _=>False) (fa:=none) I (ns.map .int) (ns.map V.int) its Reps.ints rv (oi ns);have J:∃Z,Reads s.heap (.ref a) (D.py (.lst (ns.map .int))) Z:=by
  simp only[D.py];exact#[_,.list h1 h2 h4 (by simpa using ra)]
 obtain⟨as1,J⟩:=J;obtain⟨bs,r2⟩:=ae I (.lst []) (.ref b) u (show Y8 X.K (fun _=>False) none H (.lst []) (.ref b) from #[b,[],rfl,hb,Reps.nil]) ry rfl;rw[<-NJ] at q;exact VI J r2 Y.2 U.2 hu #[.bl _,H,I,rfl,q]
def SqF.new {K:vF_}{o:HO}(h:SqF K H a xs) (J:H p=none):SqF K (o7 H p o) a xs:=by
 rcases h with ⟨o',h⟩ | h
 .exact .inl #[o',by rw[u5 (L9 h J)];exact h]
 .exact .inr h
def Ec {K:vF_}{O:vL_}{s:DS}(I:GI K g σ H none O s) (hf:s.fs=none) (f:FS) (hk:f.kind≠0) (l63:f.cells.length<=63) {c p:Addr}(J:H c=none) (U:o7 H c (.lst (f.cells.map V.int)) p=none) :
  StE none O H (some p) O (o7 (o7 H c (.lst (f.cells.map V.int))) p (.lst (P6 c f)))/\GI K g σ (o7 (o7 H c (.lst (f.cells.map V.int))) p (.lst (P6 c f))) (some p) O { s with fs:=some f }:=by
 have Z:c≠p:=fun z=>by rw[<-z,D1] at U;cases U
 have hp:H p=none:=by rw[u5 (Qd Z)] at U;exact U
 have Y:∀b u,H b=some u->b≠p/\b≠c:=fun b u e=>#[L9 e hp,L9 e J]
 have a2:StE none O H (some p) O (o7 (o7 H c (.lst (f.cells.map V.int))) p (.lst (P6 c f))):=by
  refine#[fun _ h=>h,.inr #[rfl,fun b z=>by cases z;exact hp],fun b u e _=>?_,fun b z=>?_]
  .obtain⟨n1,n2⟩:=Y b u e;rw[u5 n1,u5 n2];exact e
  .by_cases h1:b=p
   .subst h1;exact hp
   .by_cases h2:b=c
    .subst h2;exact J
    .rw[u5 h1,u5 h2] at z;exact z
 have cr:=I.car a2.stp;refine#[a2,#[I.nd,SlR.go cr (fun b xs hb e=>a2.same b _ e 'g') I.sl,I.fr,I.st.trans #[fun b hb=>(by cases hb),a2.fe,fun b u e _ n=>a2.same b u e n,a2.mon],I.tr,I.ff,?_,I.nf_step a2.fe]];refine#[l63,c,by rw[mK hk,D1],?_,?_]
 .rintro(z | z | z)
  .exact I.trF z J
  .obtain⟨xs,e⟩:=I.owned z;rw[J] at e;cases e
  .exact Z (Qi z).symm
 .rw[u5 Z,D1]
def U0 (ns:List Int):List Int:=ns++(List.replicate (if ns=[] then 1 else 0) [0]).flatten
def jR (i:Nat):DE:=fun s=>match s.sl[i]?,s.fs with
 |some (.v (.scr ns)),none=>if (U0 ns).length<=63 then some (.feed,{ s with fs:=some #[U0 ns,0,0,0,2] }) else none
 |_,_=>none
def FI {i:Nat}{x xl Z:Str}{p1 p1' pl pi pos q1 q2 q3 q4 q5 q6 q7 q8 q9 q10 q11 q12 q13 q14:Pos}{j63 j0 j1 j2 j3:Nat}(hu:X.A.units+64<cLine) (hv:PE X (.Name x p1) (bq i)) (hv':PE X (.Name x p1') (bq i))
  (hgl:Gl X xl) (hml:X.mg xl=none) (hbl:bootBuiltins xl=some (.type "list")) (hgi:Gl X Z) (hmi:X.mg Z=none) (hbi:bootBuiltins Z=some (.type "int"))
  (hnl:xl ≠ "__name__" := by decide) (hdl:(xl == ("__debug__" : Str))=false:=by decide) (hni:Z ≠ "__name__" := by decide) (hdi:(Z == ("__debug__" : Str))=false:=by decide) :
  EO X g (.List [.BinOp (.Call (.Name xl pl) [.Subscript (.Name x p1) (.Slice none (some (.Constant (.int 63) j63 q1)) none q2) q3] [] q4) .Add (.BinOp (.List [.Constant (.int 0) j0 q5] q6) .Mult (.Call (.Name Z pi) [.Compare (.Name x p1') [.Eq] [.List [] q7] q8] [] q9) q10) q11,.Constant (.int 0) j1 q12,.Constant (.int 0) j2 q13,.Constant (.int 0) j3 q14] pos) (jR i):=
 EO.w (nj (P1 (mM lM (jQ rX hgl hml hbl (P1 (yX wO hv AU (wY cY)) V3) hnl hdl) (mM wM (nj (P1 cY V3)) (jQ Mb hgi hmi hbi (P1 (xm (JR hu) hv' (nj V3) (eH _)) V3) hni hdi))) (P1 cY (P1 cY (P1 cY V3))))) fun σ H Q hQ=>by
  refine hQ.elim fun fa O s d s' I e k=>?_
  unfold jR at e;cases q:s.sl[i]? with
  |none=>rw[q] at e;cases e
  |some z=>
   rw[q] at e;cases z with
   |no=>cases e
   |own _=>cases e
   |v dz=>
    cases dz with
    |scr ns=>
     cases hf:s.fs with
     |some f=>rw[hf] at e;cases e
     |none=>
      rw[hf] at e;simp only[] at e;split at e
      case isFalse=>cases e
      rename_i l4;cases e;obtain⟨u,e1,r⟩:=SlR.val I.sl q;simp only[Rep] at r;obtain⟨l63,a,rfl,sq⟩:=r;have fd:=I.fd;rw[hf] at fd;have fan:fa=none:=by cases fa with | none=>rfl | some _=>exact fd.elim
      subst fan;refine#[_,e1,63,rfl,a,_,rfl,sq.sq,fun c1 h1=>?_];rw[Fb _ (by rw[PH];exact l63)];have I1:=I.new (o:=.lst (ns.map V.int)) h1;have sq1:=sq.new (o:=.lst (ns.map V.int)) h1;refine#[c1,_,rfl,.inl (SqL.of D1),fun c2 h2=>?_];have I2:=I1.new (o:=.lst (ns.map V.int)) h2;have sq2:=sq1.new (o:=.lst (ns.map V.int)) h2;refine#[by show 1<=sizeLine;decide,fun c3 h3=>?_];have I3:=I2.new (o:=.lst [V.int 0]) h3;have sq3:=sq2.new (o:=.lst [V.int 0]) h3;refine#[_,e1,by show 0<=sizeLine;decide,fun c4 Y=>?_];have I4:=I3.new (o:=.lst []) Y;have sq4:=sq3.new (o:=.lst []) Y;refine#[a,ns,c4,rfl,rfl,sq4.sq,D1,.inr #[decide (ns=[]),rfl,?_]];have n34:c3≠c4:=fun z=>by rw[<-z,D1] at Y;cases Y
      have U:c2≠c3:=fun z=>by rw[<-z,D1] at h3;cases h3
      have n24:c2≠c4:=fun z=>by rw[<-z,u5 U,D1] at Y;cases Y
      refine#[c3,if decide (ns=[]) then 1 else 0,[V.int 0],rfl,rfl,by rw[u5 n34,D1],by split <;> decide,by split <;> decide,by split <;> decide,fun c5 h5=>?_];have I5:=I4.new (o:=.lst (List.replicate (if decide (ns=[]) then (1:Int) else 0).toNat [V.int 0]).flatten) h5;have n25:c2≠c5:=fun z=>by rw[<-z,u5 n24,u5 U,D1] at h5;cases h5
      have J:ns.map V.int++(List.replicate (if decide (ns=[]) then (1:Int) else 0).toNat [V.int 0]).flatten=(U0 ns).map V.int:=by
       unfold U0;cases ns with
       |nil=>rfl
       |cons n r=>simp
      have l4':((U0 ns).map V.int).length<=sizeLine:=by rw[PH];exact PJ l4 #[]
      refine#[c2,c5,_,_,rfl,rfl,by rw[u5 n25,u5 n24,u5 U,D1],D1,by rw[<-Qo,J];exact l4',fun c6 h6=>?_];rw[J];refine#[by show 4<=sizeLine;decide,fun p hp=>?_];obtain⟨a6,I6⟩:=Ec I5 hf #[U0 ns,0,0,0,2] (show (2:Nat)≠0 by decide) l4 h6 hp;have aa:=(((((F9 (fa:=none) (O:=O) (o:=.lst (ns.map V.int)) h1).trans (F9 h2)).trans (F9 h3)).trans (F9 Y)).trans (F9 h5)).trans a6;exact k _ _ (some p) O aa I6 (by simp only[Rep];exact#[p,rfl,rfl])
    |_=>cases e
end
end DL
namespace DL
open PySem PySem.Spec L2 PyProof.Rows
def Z4:List D->Option (List Int)
 |[]=>some []
 |.int i::r=>(Z4 r).map fun l=>i::l
 |_::_=>none
def W2:List Int->Int
 |[]=>0
 |i::r=>r.foldl max i
def Y3:List Int->Int
 |[]=>0
 |i::r=>r.foldl min i
def mH:D->Option D
 |.lst ds=>(Z4 ds).bind fun is=>if 0<is.length then some (.int (W2 is)) else none
 |_=>none
def oY:D->Option D
 |.lst ds=>(Z4 ds).bind fun is=>if 0<is.length then some (.int (Y3 is)) else none
 |_=>none
theorem pV:∀is:List Int,Z4 (is.map D.int)=some is
 |[]=>rfl
 |i::r=>by rw[PM,Z4,pV r];rfl
theorem ow:∀{ds:vD_}{is:List Int},Z4 ds=some is->ds=is.map D.int
 |[],is,h=>by cases h;rfl
 |.int i::r,is,h=>by
  rw[Z4] at h;refine Q0 h fun l h1 h2=>?_
  rw[<-h2,ow h1];rfl
 |.bl _::r,is,h=>by cases h
 |.non::r,is,h=>by cases h
 |.str _::r,is,h=>by cases h
 |.tup _::r,is,h=>by cases h
 |.lst _::r,is,h=>by cases h
 |.feed::r,is,h=>by cases h
 |.scr _::r,is,h=>by cases h
 |.fn _::r,is,h=>by cases h
 |.exc _ _::r,is,h=>by cases h
theorem kD:∀(l:List Int) (i:Int),(l.foldl max i=i\/l.foldl max i∈l)/\i<=l.foldl max i/\∀x∈l,x<=l.foldl max i
 |[],i=>#[.inl rfl,SD _,fun x J=>by cases J]
 |y::r,i=>by
  obtain⟨a,b,c⟩:=kD r (max i y);rw[Sa];refine#[?_,by omega,fun x J=>?_]
  .rcases a with a | a
   .rw[a];rcases Int.le_total i y with h | h
    .exact .inr (by rw[Int.max_eq_right h];exact PD ..)
    .exact .inl (Int.max_eq_left h)
   .exact .inr (Pz _ a)
  .rcases xo.mp J with rfl | J
   .omega
   .exact c x J
theorem kI:∀(l:List Int) (i:Int),(l.foldl min i=i\/l.foldl min i∈l)/\l.foldl min i<=i/\∀x∈l,l.foldl min i<=x
 |[],i=>#[.inl rfl,SD _,fun x J=>by cases J]
 |y::r,i=>by
  obtain⟨a,b,c⟩:=kI r (min i y);rw[Sa];refine#[?_,by omega,fun x J=>?_]
  .rcases a with a | a
   .rw[a];rcases Int.le_total i y with h | h
    .exact .inl (Int.min_eq_left h)
    .exact .inr (by rw[Int.min_eq_right h];exact PD ..)
   .exact .inr (Pz _ a)
  .rcases xo.mp J with rfl | J
   .omega
   .exact c x J
def HS {l:List Int}(h:0<l.length):W2 l∈l/\∀x∈l,x<=W2 l:=by
 cases l with
 |nil=>cases h
 |cons i r=>
  obtain⟨a,b,c⟩:=kD r i;refine#[?_,fun x J=>?_]
  .rcases a with a | a
   .show r.foldl max i∈_;rw[a];exact PD ..
   .exact Pz _ a
  .rcases xo.mp J with rfl | J
   .exact b
   .exact c x J
def Eb {l:List Int}(h:0<l.length):Y3 l∈l/\∀x∈l,Y3 l<=x:=by
 cases l with
 |nil=>cases h
 |cons i r=>
  obtain⟨a,b,c⟩:=kI r i;refine#[?_,fun x J=>?_]
  .rcases a with a | a
   .show r.foldl min i∈_;rw[a];exact PD ..
   .exact Pz _ a
  .rcases xo.mp J with rfl | J
   .exact b
   .exact c x J
theorem qL:∀{is:List Int}{us:vV_},Vals (is.map V.int) us->∃ps:List (Int × Tok),us=(intItems ps.toArray).toList/\ps.map (·.1)=is
 |[],_,.nil=>#[[],by simp[intItems],rfl]
 |i::r,_,.cons q t=>by
  obtain⟨ps,Y,U⟩:=qL t;obtain⟨k,J⟩:=(show ∃k,_=Value.int i k from q)
  exact#[(i,k)::ps,by rw[J,Y];simp[intItems],by rw[PM,U]]
def kF {ps:List (Int × Tok)}(h:ps.map (·.1)=is) {x:Int}(J:is[j]? = some x):numAt ps.toArray j=x:=by
 rw[<-h,Qy] at J;unfold numAt;rw[List.getElem?_toArray,J];rfl
theorem vj {val:Nat->Int}:∀k:Nat,argBest (fun i j=>decide (val i>val j)) k<=k/\∀j,j<=k->val j<=val (argBest (fun i j=>decide (val i>val j)) k)
 |0=>#[tx _,fun j J=>by
  have e:j=0:=Nat.le_zero.mp J;subst e;exact SD _]
 |k+1=>by
  obtain⟨a,b⟩:=vj (val:=val) k;unfold argBest;by_cases c:val (k+1)>val (argBest (fun i j=>decide (val i>val j)) k)
  .rw[iR (PU c)];refine#[tx _,fun j J=>?_];by_cases e:j=k+1
   .subst e;exact SD _
   .have:=b j ∅;omega
  .rw[iU (by rw[PY c];exact PL)];refine#[by omega,fun j J=>?_];by_cases e:j=k+1
   .subst e;omega
   .exact b j ∅
theorem AL {val:Nat->Int}:∀k:Nat,argBest (fun i j=>decide (val i<val j)) k<=k/\∀j,j<=k->val (argBest (fun i j=>decide (val i<val j)) k)<=val j
 |0=>#[tx _,fun j J=>by
  have e:j=0:=Nat.le_zero.mp J;subst e;exact SD _]
 |k+1=>by
  obtain⟨a,b⟩:=AL (val:=val) k;unfold argBest;by_cases c:val (k+1)<val (argBest (fun i j=>decide (val i<val j)) k)
  .rw[iR (PU c)];refine#[tx _,fun j J=>?_];by_cases e:j=k+1
   .subst e;exact SD _
   .have:=b j ∅;omega
  .rw[iU (by rw[PY c];exact PL)];refine#[by omega,fun j J=>?_];by_cases e:j=k+1
   .subst e;omega
   .exact b j ∅
def Ao:bootBuiltins ("max" : Str)=some (.builtin "max"):=by decide +kernel
def tf:bootBuiltins ("min" : Str)=some (.builtin "min"):=by decide +kernel
section
variable {K:vF_}
def ju (K:vF_) (f:List Int->Int) (c:List Int->Prop):List V->Hp->VK->Prop:=fun xs H Q=>∃(a:Addr) (is:List Int),xs=[.ref a]/\SqL K H a (is.map V.int)/\c is/\Q (.int (f is)) H
def wR (hc:X.calm=true):CallR X (.builtin "max") (ju X.K W2 fun is=>0<is.length):=by
 intro pins s σ H xs us Q I r h;obtain⟨a,is,rfl,hq,J,q⟩:=h;obtain⟨u,rfl,ru⟩:=X6 r;cases ru;obtain⟨its,rv,p,_⟩:=I.list hq;obtain⟨ps,e,Y⟩:=qL rv;have hl:s.heap.IsList a (intItems ps.toArray):=by
  have:=p.isList;rw[e] at this;simpa using this
 have hn:ps.toArray.size=is.length:=by rw[<-Y];simp
 refine max_intList (I.ok.hd hc) hl (by rw[hn];exact J) fun v h' tk hv U=>?_
 obtain⟨t,rfl⟩:=intItems_at hv;obtain⟨b1,b2⟩:=vj (val:=numAt ps.toArray) (ps.toArray.size - 1);have e1:numAt ps.toArray (argBest (fun i j=>decide (numAt ps.toArray i>numAt ps.toArray j)) (ps.toArray.size - 1))=W2 is:=by
  generalize argBest (fun i j=>decide (numAt ps.toArray i>numAt ps.toArray j)) (ps.toArray.size - 1)=k at *;obtain⟨m1,m2⟩:=HS J;have U:is[k]? = some (is[k]'∅):=Qf ∅;have k1:=kF Y U;have k2:=m2 _ (Rr U);obtain⟨j,Z⟩:=Ru m1;have k3:=b2 j (by have:=(Qr.mp Z).1;omega);rw[kF Y Z] at k3;omega
 rw[e1];exact#[.int _,H,I.kept U,#[t,rfl],q]
def sD (hc:X.calm=true):CallR X (.builtin "min") (ju X.K Y3 fun is=>0<is.length):=by
 intro pins s σ H xs us Q I r h;obtain⟨a,is,rfl,hq,J,q⟩:=h;obtain⟨u,rfl,ru⟩:=X6 r;cases ru;obtain⟨its,rv,p,_⟩:=I.list hq;obtain⟨ps,e,Y⟩:=qL rv;have hl:s.heap.IsList a (intItems ps.toArray):=by
  have:=p.isList;rw[e] at this;simpa using this
 have hn:ps.toArray.size=is.length:=by rw[<-Y];simp
 refine min_intList (I.ok.hd hc) hl (by rw[hn];exact J) fun v h' tk hv U=>?_
 obtain⟨t,rfl⟩:=intItems_at hv;obtain⟨b1,b2⟩:=AL (val:=numAt ps.toArray) (ps.toArray.size - 1);have e1:numAt ps.toArray (argBest (fun i j=>decide (numAt ps.toArray i<numAt ps.toArray j)) (ps.toArray.size - 1))=Y3 is:=by
  generalize argBest (fun i j=>decide (numAt ps.toArray i<numAt ps.toArray j)) (ps.toArray.size - 1)=k at *;obtain⟨m1,m2⟩:=Eb J;have U:is[k]? = some (is[k]'∅):=Qf ∅;have k1:=kF Y U;have k2:=m2 _ (Rr U);obtain⟨j,Z⟩:=Ru m1;have k3:=b2 j (by have:=(Qr.mp Z).1;omega);rw[kF Y Z] at k3;omega
 rw[e1];exact#[.int _,H,I.kept U,#[t,rfl],q]
theorem wA :∀{is:List Int}{xs:List V},Reps K N fa H (is.map D.int) xs->xs=is.map V.int
 |[],xs,h=>by simpa only[Rj,Reps] using h
 |b::r,xs,h=>by
  simp only[PM,Reps,Rep] at h;obtain⟨x,ys,rfl,rfl,h⟩:=h;rw[wA h];rfl
def vt {p:D->Option D}{f:List Int->Int}{c:List Int->Prop}(U:∀d1 d,p d1=some d->∃is:List Int,d1 = .lst (is.map D.int)/\c is/\d = .int (f is)):V9 K (ju K f c) (one p):=dR fun g σ H fa O s x d1 d Q I r e k=>by
 obtain⟨is,rfl,J,rfl⟩:=U _ _ e;obtain⟨a,ys,rfl,_,q,w⟩:=r;have:=wA w;subst this;exact#[a,is,rfl,SqL.of q,J,k _ H StE.refl I (by simp only[Rep])]
def uA:V9 K (ju K W2 fun is=>0<is.length) (one mH):=vt fun J d e=>by
 cases J with
 |lst es=>
  refine Y1 (show (Z4 es).bind (fun is=>if 0<is.length then some (D.int (W2 is)) else none)=some d from e) fun is h1 h2=>?_
  by_cases h:0<is.length
  .rw[iR h] at h2;cases h2;exact#[is,by rw[ow h1],h,rfl]
  .rw[iU h] at h2;cases h2
 |_=>cases e
def wZ:V9 K (ju K Y3 fun is=>0<is.length) (one oY):=vt fun J d e=>by
 cases J with
 |lst es=>
  refine Y1 (show (Z4 es).bind (fun is=>if 0<is.length then some (D.int (Y3 is)) else none)=some d from e) fun is h1 h2=>?_
  by_cases h:0<is.length
  .rw[iR h] at h2;cases h2;exact#[is,by rw[ow h1],h,rfl]
  .rw[iU h] at h2;cases h2
 |_=>cases e
end
end DL
namespace L2
open PySem PySem.Spec PyProof.Rows
section
variable {σ:List (Option V)}
def Inv.turned2 {t':Nat}{a b:Addr}(I:Inv X pins σ H s) (k:∀c o,c≠a->c≠b->s.heap.get? c=some o->h'.get? c=some o) (fa:R6 X pins H a) (fb:R6 X pins H b):Inv X pins σ H { s with heap:=h',toks:=t' }:=by
 have Y:∀c u,H c=some u->c≠a:=fun c u e z=>by rw[z,fa.1] at e;cases e
 have Z:∀c u,H c=some u->c≠b:=fun c u e z=>by rw[z,fb.1] at e;cases e
 refine I.step (g':=s.gens) (d':=s.drawn) (ch:=[a,b]) (fun c J=>?_) (fun c o _ _ J e _=>k c o (fun z=>J (by simp[z])) (fun z=>J (by simp[z])) e) (fun c o _ _ J e _=>#[o.slots,k c o (fun z=>J (by simp[z])) (fun z=>J (by simp[z])) e]) (fun _ _ _ _ n=>n)
  (fun c o J e=>#[o,k c o (fun z=>J (by simp[z])) (fun z=>J (by simp[z])) e]) (fun _ _ e=>e) (fun _ _ _ e=>e) (fun c ps e=>#[#v[],by rw[e];simp]) (fun m hm=>?_) (fun c u e=>?_) I.bare
 .simp only[xo,Qj,Qk] at J;rcases J with rfl | rfl
  .exact#[fa.2.2.2.1,fa.2.1,fa.2.2.2.2.1,fa.2.2.2.2.2]
  .exact#[fb.2.2.2.1,fb.2.1,fb.2.2.2.2.1,fb.2.2.2.2.2]
 .obtain⟨o,es,ep,ho,r⟩:=hm;exact#[o,es,ep,k _ o (Qd fa.2.1) (Qd fb.2.1) ho,r]
 .refine(I.hok c u e).stay (fun d v U q=>k d v ?_ ?_ q) (fun _ q=>q) fun _ _ q=>q
  .rcases U with z | z
   .rw[z];exact Y c u e
   .exact Y d _ z
  .rcases U with z | z
   .rw[z];exact Z c u e
   .exact Z d _ z
end
def NQ:bootBuiltins ("enumerate" : Str)=some (.type "enumerate"):=by decide +kernel
end L2
namespace DL
open PySem PySem.Spec L2 PyProof.Rows
def dI (ds:vD_):List D:=ds.zipIdx.map fun p=>.tup [.int (p.2:Int),p.1]
def Km (h:ds[i]? = some d):(dI ds)[i]? = some (.tup [.int (i:Int),d]):=by
 unfold dI;rw[Qy,List.getElem?_zipIdx,h];simp
end DL
namespace L2
open PySem PySem.Spec PyProof.Rows
section
variable {σ:List (Option V)}
def Inv.turnedL {t':Nat}(I:Inv X pins σ H s) (k:∀c o,c ∉ ch->s.heap.get? c=some o->h'.get? c=some o) (f:∀b∈ch,R6 X pins H b):Inv X pins σ H { s with heap:=h',toks:=t' }:=by
 have U:∀c u,H c=some u->c ∉ ch:=fun c u e J=>by rw[(f c J).1] at e;cases e
 refine I.step (g':=s.gens) (d':=s.drawn) (ch:=ch) (fun c J=>#[(f c J).2.2.2.1,(f c J).2.1,(f c J).2.2.2.2.1,(f c J).2.2.2.2.2]) (fun c o _ _ J e _=>k c o J e) (fun c o _ _ J e _=>#[o.slots,k c o J e]) (fun _ _ _ _ n=>n)
  (fun c o J e=>#[o,k c o J e]) (fun _ _ e=>e) (fun _ _ _ e=>e) (fun c ps e=>#[#v[],by rw[e];simp]) (fun m hm=>?_) (fun c u e=>?_) I.bare
 .obtain⟨o,es,ep,Z,r⟩:=hm;exact#[o,es,ep,k _ o (fun z=>(f _ z).2.1 rfl) Z,r]
 .refine(I.hok c u e).stay (fun d v Y q=>k d v ?_ q) (fun _ q=>q) fun _ _ q=>q
  rcases Y with z | z
  .rw[z];exact U c u e
  .exact U d _ z
end
end L2
namespace DL
open PySem PySem.Spec L2 PyProof.Rows
def S8 (K:vF_) (t:Bool) (H:Hp) (a:Addr) (xs:List V):Prop:=if t then SqT K H a xs else SqL K H a xs
def RwI (t:Bool) (h:Heap) (i l:Addr) (k:Nat):Prop:=if t then h.IsTupleIter i l k else h.IsListIter i l k
def RwI.it {t:Bool}{i l:Addr}{xs:vR_}(x:RwI t h i l k) (y:RwB t h l xs):RwIt h i l xs k:=by
 cases t with
 |true=>exact .inr #[x,y]
 |false=>exact .inl #[x,y]
def RwI.at {t:Bool}{i l:Addr}(x:RwI t h i l k) (e:∀o,h.get? i=some o->h'.get? i=some o):RwI t h' i l k:=by
 cases t with
 |true=>obtain⟨o,q,r⟩:=x;exact#[o,e o q,r]
 |false=>obtain⟨o,q,r⟩:=x;exact#[o,e o q,r]
def RwI.ob {t:Bool}{i l:Addr}(x:RwI t h i l k):∃o,h.get? i=some o/\∀v,o.data ≠ .cell v:=by
 cases t with
 |true=>obtain⟨o,q,c,d⟩:=x;exact#[o,q,fun v z=>by rw[d] at z;cases z]
 |false=>obtain⟨o,q,c,d⟩:=x;exact#[o,q,fun v z=>by rw[d] at z;cases z]
def RwIt.kind {t:Bool}{i l:Addr}{xs ys:vR_}(x:RwIt h i l xs k) (y:RwB t h l ys):RwI t h i l k:=by
 cases t with
 |true=>
  rcases x with ⟨_,o,q,c,_⟩ | ⟨x,_⟩
  .obtain⟨o',J,c',_⟩:=y;rw[q] at J;cases J;rw[c] at c';exact absurd c' #[]
  .exact x
 |false=>
  rcases x with ⟨x,_⟩ | ⟨_,o,q,c,_⟩
  .exact x
  .obtain⟨o',J,c',_⟩:=y;rw[q] at J;cases J;rw[c] at c';exact absurd c' #[]
def fM {t:Bool}(I:Inv X pins σ H s) (h:S8 X.K t H p xs):∃its:List Value,Vals xs its/\RwB t s.heap p its.toArray/\xs.length<=sizeLine:=by
 cases t with
 |false=>
  obtain⟨its,r,⟨o,n,e,c,_,d⟩,z⟩:=I.list h;exact#[its,r,#[o,e,c,n,d],z]
 |true=>
  obtain⟨its,r,⟨o,e,c,n,d⟩,z⟩:=I.tuple h;exact#[its,r,#[o,e,c,n,d],z]
def vR {t:Bool}(I:Inv X pins σ H s) (h:S8 X.K t H p xs) (h':S8 X.K t H p ys):xs=ys:=by
 cases t with
 |false=>exact I.list_inj h h'
 |true=>exact I.tuple_inj h h'
section
variable {w:World}{z TI TO i1 i2 l1 l2:Addr}{xs ys:vR_}
def Fx {x y a b:Value}{Q:Option Value->Shared->Prop}(D:ZipApart z TI TO i1 i2 l1 l2) (hz:L8 s.heap z TI TO .none (.bool false)) (J:IsPair s.heap TI (.ref i1) (.ref i2)) (U:IsPair s.heap TO a b) (h1:RwIt s.heap i1 l1 xs k) (h2:RwIt s.heap i2 l2 ys k) (hx:xs[k]? = some x) (hy:ys[k]? = some y)
  (hQ:∀h',L8 h' z TI TO (rawInt s.heap.objs.size) (.bool false)->RwIt h' i1 l1 xs (k+1)->RwIt h' i2 l2 ys (k+1)->IsPair h' s.heap.objs.size x y ->
   (∀c o,c≠z->c≠TO->c≠i1->c≠i2->s.heap.get? c=some o->h'.get? c=some o)->IsPair h' TO x y->Q (some (.ref s.heap.objs.size)) { s with heap:=h' }):wpAny 'd' A (pyNext (.ref z)) Q E s:=by
 unfold pyNext;have Y:s.TypeIs (.ref z) "zip" := #[_,hz,rfl]
 exact gV (RM (QV (name:=Str.ofString "__next__") Y QJ (QF QJ Y Sv
  (AI D hz J U h1 h2 hx hy fun h' Z a2 a3 a4 a5 a6=>td (hQ h' Z a2 a3 a4 a5 a6)) (Sw _))))
def Gf {a b:Value}{Q:Option Value->Shared->Prop}(hh:A.handled=none) (D:ZipApart z TI TO i1 i2 l1 l2) (hz:L8 s.heap z TI TO .none (.bool false)) (Y:IsPair s.heap TI (.ref i1) (.ref i2)) (U:IsPair s.heap TO a b) (h1:RwIt s.heap i1 l1 xs k) (h2:RwIt s.heap i2 l2 ys k) (J:xs[k]? = none\/ys[k]? = none)
  (hQ:∀h',(∀c o,c≠z->c≠TO->c≠i1->c≠i2->s.heap.get? c=some o->h'.get? c=some o)->Q none { s with heap:=h' }):wpAny 'd' A (pyNext (.ref z)) Q E s:=by
 unfold pyNext;have Z:s.TypeIs (.ref z) "zip" := #[_,hz,rfl]
 refine gV (RM (QV (name:=Str.ofString "__next__") Z QJ (QF QJ Z Sv (xj hh D hz Y U h1 h2 J fun h' e hk he=>?_) (Sw _))));obtain⟨o,ho,hc⟩:=he;refine gV (Ue (T := "StopIteration") (b:=true) #[o,ho,hc] Ug ?_);exact td (hQ _ hk)
def Mf {elts:List Expr}{x1} {pos:Pos}{a:Addr}{Q:Unit->Shared->Prop}(hz:L8 s.heap z TI TO (rawInt a) (.bool false))
  (Y:∀h',L8 h' z TI TO .none (.bool false)->Heap.SameBut z s.heap h'->Q () { s with heap:=h' }):wpAny 'd' A (letOwnedTupleGo (.Tuple elts x1 pos) (.ref z) (.ref a)) Q E s:=by
 unfold letOwnedTupleGo;refine gV (wpAny_load hz ?_);show wpAny _ A (if (["enumerate", "zip", "dict_itemiterator", "dict_reverseitemiterator", "odict_iterator", "itertools.zip_longest", "itertools.pairwise"].contains "zip" &&
   (#v[rawInt a,.bool false,.bool false,.ref TI,.ref TO]:vR_)[0]? == some (rawInt a))=true then _ else _) Q E s
 rw[iR 'g'];refine gV (QY ?_);show wpAny _ A (setField (.ref z) 0 .none) Q E s;exact RK hz 'g' fun h' U J=>Y h' U J
end
def jx (K:vF_) (t u:Bool) (a b:Addr):It:=
 #[fun i H=>∃xs ys x y,S8 K t H a xs/\S8 K u H b ys/\xs[i]? = some x/\ys[i]? = some y,fun i H v H'=>∃p x y,H p=none/\v = .ref p/\H'=o7 H p (.tup [x,y])/\(∀xs,S8 K t H a xs->xs[i]? = some x)/\∀ys,S8 K u H b ys->ys[i]? = some y,fun i H=>∃xs ys,S8 K t H a xs/\S8 K u H b ys/\(xs.length<=i\/ys.length<=i)]
def HR (t u:Bool) (z TI TO i1 i2 a b:Addr) (i:Nat) (h:Heap):Prop:=L8 h z TI TO .none (.bool false)/\IsPair h TI (.ref i1) (.ref i2)/\(∃x y,IsPair h TO x y)/\RwI t h i1 a i/\RwI u h i2 b i
def HN {w:World}{K:vF_}{x1} {pos:Pos}{t u:Bool}{z TI TO i1 i2 a b:Addr}(D:ZipApart z TI TO i1 i2 a b):Turn P w K (.Tuple elts x1 pos) (jx K t u a b) [z,TI,TO,i1,i2] z (HR t u z TI TO i1 i2 a b) where
 mem:=by simp
 obj:=fun i h st c J=>by
  obtain⟨hz,Y,⟨x,y,ho⟩,Z,r2⟩:=st;simp only[xo,Qj,Qk] at J;rcases J with rfl | rfl | rfl | rfl | rfl
  .exact#[_,hz,fun v q=>by
    have q':Data.fields _=Data.cell v:=q;cases q']
  .exact#[_,Y,fun v q=>by
    have q':Data.seq _ _=Data.cell v:=q;cases q']
  .exact#[_,ho,fun v q=>by
    have q':Data.seq _ _=Data.cell v:=q;cases q']
  .exact Z.ob
  .exact r2.ob
 keep:=fun i h h' st k=>by
  obtain⟨hz,Y,⟨x,y,ho⟩,Z,r2⟩:=st;exact#[k z 'g' _ hz,k TI 'g' _ Y,#[x,y,k TO 'g' _ ho],Z.at fun o q=>k i1 'g' o q,r2.at fun o q=>k i2 'g' o q]
 item:=by
  intro X hP hw hK J i pins s σ H E I hf st hg;subst hP hw hK;obtain⟨xs,ys,x,y,q1,q2,hx,hy⟩:=hg;obtain⟨hz,Y,⟨o1,o2,ho⟩,Z,r2⟩:=st;obtain⟨its,rv,w1,_⟩:=fM I q1;obtain⟨jts,rw_,w2,_⟩:=fM I q2;obtain⟨p,hp,rp⟩:=rv.get hx;obtain⟨q,hq,rq⟩:=rw_.get hy;have hx':its.toArray[i]? = some p:=by simpa using hp
  have hy':jts.toArray[i]? = some q:=by simpa using hq
  have lz:∀c∈[z,TI,TO,i1,i2],c<s.heap.objs.size:=fun c J=>by
   simp only[xo,Qj,Qk] at J;rcases J with rfl | rfl | rfl | rfl | rfl
   .exact PB hz
   .exact PB Y
   .exact PB ho
   .obtain⟨o,e,_⟩:=Z.ob;exact PB e
   .obtain⟨o,e,_⟩:=r2.ob;exact PB e
  refine Fx D hz Y ho (Z.it w1) (r2.it w2) hx' hy' fun h1 a1 a2 a3 a4 a5 a6=>?_
  refine#[_,rfl,Mf a1 fun h2 hz2 U=>?_]
  replace U:Heap.SameBut z h1 h2:=U
  have hn:H s.heap.objs.size=none:=I.hok.fresh (tx _);have I1:Inv X pins σ (o7 H s.heap.objs.size (.tup [x,y])) { s with heap:=s.heap.push { cls:=.type "tuple",data:=.seq #v[p,q] },toks:=s.toks }:=
   I.laid (t':=s.toks) (fun b o q=>PF _ q) (tx _) #[by show 2<=sizeLine;decide,[p,q],.cons rp (.cons rq .nil),#[_,Qq _ rfl,rfl,_,rfl]]
  have up:∀c,c<s.heap.objs.size->R6 X pins H c->R6 X pins (o7 H s.heap.objs.size (.tup [x,y])) c:=fun c J f=>#[by rw[u5 (Ql J)];exact f.1,f.2]
  have k2:∀c o,c≠z->c≠TO->c≠i1->c≠i2->s.heap.get? c=some o->h2.get? c=some o:=fun c o c1 c2 c3 c4 e=>(U.2 _ c1).trans (a5 c o c1 c2 c3 c4 e)
  have I2:=I1.turnedL (h':=h2) (t':=s.toks) (ch:=[z,TO,i1,i2]) (fun c o J e=>by
   simp only[xo,Qj,Qk,not_or] at J;rcases Heap.get?_push_cases e with ⟨rfl,rfl⟩ | e1
   .exact(U.2 _ J.1).trans a4
   .exact k2 c o J.1 J.2.1 J.2.2.1 J.2.2.2 e1) (fun c J=>by
   have hc':c∈[z,TI,TO,i1,i2]:=by
    simp only[xo,Qj,Qk] at J ⊢;rcases J with h | h | h | h <;> simp[h]
   exact up c (lz c hc') (hf c hc'))
  have wa:RwB t h1 a its.toArray:=w1.at fun o e=>a5 a o D.l1z D.l1TO D.l1i1 D.l1i2 e
  have wb:RwB u h1 b jts.toArray:=w2.at fun o e=>a5 b o D.l2z D.l2TO D.l2i1 D.l2i2 e
  refine#[.ref s.heap.objs.size,_,I2,rfl,#[_,x,y,hn,rfl,rfl,fun xs' h=>by rw[vR I h q1];exact hx,fun ys' h=>by rw[vR I h q2];exact hy],#[hz2,k2 _ _ D.TIz D.TITO D.TIi1 D.TIi2 Y,#[p,q,(U.2 _ D.TOz).trans a6],(a2.kind wa).at fun o e=>(U.2 _ D.i1z).trans e,(a3.kind wb).at fun o e=>(U.2 _ D.i2z).trans e],fun c J=>(up c (lz c J) (hf c J)).1]
 done:=by
  intro X hP hw hK J i pins s σ H E I hf st hg;subst hP hw hK;obtain⟨xs,ys,q1,q2,hl⟩:=hg;obtain⟨hz,Y,⟨o1,o2,ho⟩,Z,r2⟩:=st;obtain⟨its,rv,w1,_⟩:=fM I q1;obtain⟨jts,rw_,w2,_⟩:=fM I q2;have e1:=rv.length;have e2:=rw_.length;refine Gf (I.ok.hd J) D hz Y ho (Z.it w1) (r2.it w2) (by
   rcases hl with h | h
   .exact .inl (by simp;omega)
   .exact .inr (by simp;omega)) fun h' k=>#[rfl,I.turnedL (t':=s.toks) (ch:=[z,TO,i1,i2]) (fun c o J e=>by
    simp only[xo,Qj,Qk,not_or] at J;exact k c o J.1 J.2.1 J.2.2.1 J.2.2.2 e) fun c J=>hf c (by
    simp only[xo,Qj,Qk] at J ⊢;rcases J with h | h | h | h <;> simp[h])]
 self:=fun A i s Q E st hQ=>by
  have tz:s.TypeIs (.ref z) "zip" := #[_,st.1,rfl]
  refine Ve tz Sy (QF Sy tz Vf ?_ (Vg _));show wpAny _ _ (ret (.ref z)) _ _ s;exact td #[_,rfl, "zip",_,tz,QJ.lookup,hQ]
def EV (K:vF_) (ta:TA):TI:=fun σ H R=>ta σ H fun vs H1=>∃a b t u,vs=[.ref a,.ref b]/\(∃xs,S8 K t H1 a xs)/\(∃ys,S8 K u H1 b ys)/\R (jx K t u a b) H1
def KR {e:Expr}{es:List Expr}{ta:TA}{p pos pt:Pos}{elts:List Expr}{x1} (hg:Gl X "zip") (hm:X.mg "zip" = none) (ha:PA X (e::es) ta) (he:starEach (e::es) X.env=(false,eval e X.env)::starEach es X.env:=by rfl) (hpl:'x'.any (·.1)=false:=by rfl) :
  PI X (.Tuple elts x1 pt) (.Call (.Name "zip" p) (e::es) [] pos) (EV X.K ta):=by
 intro pins s σ H R I h;refine RD (cH I hg hm (show bootBuiltins ("zip" : Str)=some (.type "zip") by decide +kernel) ?_ #[] #[]);refine Sm (v3 (ha pos pins s σ H _ I h) fun us s1 ⟨vs,H1,Y,J,q1⟩=>?_) he hpl;refine gB_ fun G_ g_=>?_
 obtain⟨a,b,t,u,rfl,⟨xs,qa⟩,⟨ys,qb⟩,k⟩:=q1;obtain⟨u1,u2,rfl,e1,e2⟩:∃u1 u2,us=[u1,u2]/\u1=Value.ref a/\u2=Value.ref b:=by
  cases J with
  |cons h1 J=>
   cases J with
   |cons h2 J=>cases J;exact#[_,_,rfl,h1,h2]
 apply g_;subst e1;subst e2;obtain⟨it,rx,wa,za⟩:=fM Y qa;obtain⟨jt,ry,wb,zb⟩:=fM Y qb;refine tV wa wb fun h1 _ k1 Z=>?_
 obtain⟨D,g1,g2,g3,g5,x1,x2,g4⟩:=Z;have tz:({ s1 with heap:=h1 }:Shared).TypeIs (.ref (s1.heap.objs.size+4)) "zip" := #[_,g5,rfl]
 refine Ve tz Sy (QF Sy tz Vf ?_ (Vg _));show wpAny _ _ (ret (.ref (s1.heap.objs.size+4))) _ _ _;refine td #[_,rfl, "zip",_,tz,QJ.lookup,?_];refine#[s1.heap.objs.size+4,[s1.heap.objs.size+4,s1.heap.objs.size+2,s1.heap.objs.size+3,s1.heap.objs.size,s1.heap.objs.size+1],_,_,H1,rfl,Y.kept (t':=s1.toks) k1,HN (t:=t) (u:=u) D,#[g5,g3,#[x1,x2,g4],?_,?_],fun c U=>?_,k]
 .cases t with
  |true=>exact#[_,g1,rfl,rfl]
  |false=>exact#[_,g1,rfl,rfl]
 .cases u with
  |true=>exact#[_,g2,rfl,rfl]
  |false=>exact#[_,g2,rfl,rfl]
 .have U:s1.heap.objs.size<=c:=by
   simp only[xo,Qj,Qk] at U;rcases U with h | h | h | h | h <;> rw[h] <;> omega
  exact Y.fpOk U (Y.hok.fresh U)
def MW {K:vF_}{t u:Bool}{a b:Addr}{xs ys:List V}{g:TG}{tb:TS}{D:Ends}{H:Hp}(J:Nat->L2.St->Hp->Prop) (h0:J 0 σ H) (hl:∀i σ H,J i σ H->S8 K t H a xs/\S8 K u H b ys)
  (hs:∀i x y p σ H,xs[i]? = some x->ys[i]? = some y->H p=none->J i σ H->g (.ref p) σ (o7 H p (.tup [x,y])) fun σ2 H2=>tb { D with nx:=J (i+1),ct:=J (i+1),bk:=D.nx } σ2 H2) (hd:∀σ H,J (min xs.length ys.length) σ H->D.nx σ H) :
  ∃W:Nat->Nat->L2.St->Hp->Prop,(∃m,W 0 m σ H)/\∀i m σ H,W i m σ H ->
   ((jx K t u a b).stop i H/\D.nx σ H)\/((jx K t u a b).go i H/\∃N:L2.St->Hp->Prop,(∀σ' H',N σ' H'->∃m',m'<m/\W (i+1) m' σ' H')/\∀x H',(jx K t u a b).yld i H x H'->g x σ H' fun σ2 H2=>tb { D with nx:=N,ct:=N,bk:=D.nx } σ2 H2):=by
 refine#[fun i m σ H=>m=min xs.length ys.length - i/\i<=min xs.length ys.length/\J i σ H,#[min xs.length ys.length,by simp,Qx _,h0],?_];rintro i m σ H ⟨rfl,hi,p⟩;obtain⟨U,Y⟩:=hl i σ H p;by_cases Z:i<min xs.length ys.length
 .have l1:i<xs.length:=by omega
  have l2:i<ys.length:=by omega
  refine .inr #[#[xs,ys,xs[i],ys[i],U,Y,by simp[l1],by simp[l2]],J (i+1),fun σ' H' p'=>#[min xs.length ys.length - (i+1),by omega,rfl,Z,p'],fun v H' y=>?_];obtain⟨pp,x,y,hp,rfl,rfl,y1,y2⟩:=y;exact hs i x y pp σ _ (y1 xs U) (y2 ys Y) hp p
 .have e:i=min xs.length ys.length:=by omega
  refine .inl #[#[xs,ys,U,Y,by omega],hd σ H ?_];rw[<-e];exact p
def ie (f:DA) (t:D->DS->Option DS) (b:DM):DM:=fun s=>(f s).bind fun x=>match x.1 with
 |[d1,d2]=>(U7 d1).bind fun xs=>(U7 d2).bind fun ys=>C3 t b (List.zipWith U3 xs ys) x.2
 |_=>none
def BD {K:vF_}{v:V}(r:Rep K N fa H d v) (e:U7 d=some ds):∃t a xs,v = .ref a/\S8 K t H a xs/\(t=false->¬ N a/\H a=some (.lst xs))/\Reps K N fa H ds xs:=by
 cases d with
 |tup es=>
  cases e;simp only[Rep] at r;obtain⟨a,ys,rfl,q,w⟩:=r;exact#[true,a,ys,rfl,q,fun z=>(by cases z),w]
 |lst es=>
  cases e;simp only[Rep] at r;obtain⟨a,ys,rfl,J,q,w⟩:=r;exact#[false,a,ys,rfl,SqL.of q,fun _=>#[J,q],w]
 |_=>cases e
def GB {t:D->DS->Option DS}{b:DM}{s:DS}{r:Fl × DS}(q:ie f t b s=some r):∃d1 d2 xs ys s1,f s=some ([d1,d2],s1)/\U7 d1=some xs/\U7 d2=some ys/\C3 t b (List.zipWith U3 xs ys) s1=some r:=by
 refine A7 q fun J s1 h1 h2=>?_
 cases J with
 |nil=>cases h2
 |cons d1 J=>
  cases J with
  |nil=>cases h2
  |cons d2 J=>
   cases J with
   |cons _ _=>cases h2
   |nil=>
    refine Y1 h2 fun xs Y h2=>?_
    refine Y1 h2 fun ys U h2=>?_
    exact#[d1,d2,xs,ys,s1,h1,Y,U,h2]
section
variable {g:Gh}{t:D->DS->Option DS}{b:DM}{pos pt:Pos}{x1:Nat}
def DD (hp:PassesOwn 'f' X.A X.env X.xe) (hc:X.calm=true) (hgl:Gl X "zip") (hm:X.mg "zip" = none) (he:AO X g (e::es) f) (hg:GO X g (.Tuple elts x1 pt) t) (hb:SSO X g body b)
  (hst:starEach (e::es) X.env=(false,eval e X.env)::starEach es X.env:=by rfl) (hpl:(backTo p2 (starEach es X.env)).any (·.1)=false:=by rfl) (hs:∀x,foldedSetIterable (.Call (.Name "zip" p1) (e::es) [] p2) X.env x=pure x:=by intro _;rfl) :
  SO X g (.For (.Tuple elts x1 pt) (.Call (.Name "zip" p1) (e::es) [] p2) body [] pos) (ie f t b):=SO.w (mf hp hc (KR hgl hm he.pe hst hpl) hg.pe hb.pe hs) fun E σ H hQ=>by
 refine hQ.elim fun fa O s fl sf I q k=>?_
 obtain⟨d1,d2,U,Y,s1,h1,e1,e2,h2⟩:=GB q;refine#[fa,O,s,_,s1,I,h1,fun vs H1 f1 O1 a1 I1 r=>?_];have k1:=k.shift a1.stp
 .simp only[Reps] at r;obtain⟨v1,zs,rfl,r1,v2,zs',rfl,r2,rfl⟩:=r;obtain⟨ta,a,vs,rfl,q1,c1,w1⟩:=BD r1 e1;obtain⟨tb,c,us,rfl,q2,c2,w2⟩:=BD r2 e2;have J:∀{t:Bool}{p:Addr}{xs:List V}{fa' O' H'},Stp f1 O1 H1 fa' O' H'->S8 X.K t H1 p xs->(t=false->¬ NN g.F f1 O1 p/\H1 p=some (.lst xs))->S8 X.K t H' p xs:=fun {t p xs fa' O' H'} st q z=>by
   cases t with
   |true=>exact(I1.car st).tp p xs q
   |false=>exact SqL.of ((I1.car st).ls p xs (z rfl).1 (z rfl).2).1
  refine#[a,c,ta,tb,rfl,#[vs,q1],#[us,q2],MW (xs:=vs) (ys:=us) (Z8 X.K g f1 O1 H1 t b (List.zipWith U3 U Y) fl sf) #[f1,O1,s1,Stp.refl,I1,h2] ?_ ?_ ?_]
  .rintro i σ' H' ⟨fa',O',s',st,I',e⟩;exact#[J st q1 c1,J st q2 c2]
  .intro i x y p σ' H' hx hy Z h;obtain⟨dx,hdx,rx⟩:=Reps.get' w1 hx;obtain⟨dy,hdy,ry⟩:=Reps.get' w2 hy;have h':Z8 X.K g f1 O1 H1 t b (List.zipWith U3 U Y) fl sf i σ' (o7 H' p (.tup [x,y])):=by
    obtain⟨fa',O',s',st,I',e⟩:=h;exact#[fa',O',s',st.trans (F9 Z).stp,I'.new Z,e]
   have hd:(List.zipWith U3 U Y)[i]? = some (U3 dx dy):=by rw[Vi,hdx,hdy]
   refine iz k1 hd (fun fa' O' st=>?_) h';simp only[U3,Rep,Reps];exact#[p,[x,y],rfl,SqT.of D1,_,_,rfl,Rep.stp I1 st rx,_,_,rfl,Rep.stp I1 st ry,rfl]
  .intro σ' H' h;refine iV k1 ?_ h;rw[Uk,w1.length,w2.length];exact tx _
end
end DL
namespace DL
open PySem PySem.Spec L2
def EN {α:Type _}{P:List α->Prop}(h:∀a1:α,P [a1]):∀us:List α,us.length=1->P us:=by
 intro us e
 match us,e with | [a1],_=>exact h a1
def on2 {α:Type _}{P:List α->Prop}(h:∀a1 a2:α,P [a1,a2]):∀us:List α,us.length=2->P us:=by
 intro us e
 match us,e with | [a1,a2],_=>exact h a1 a2
def on3 {α:Type _}{P:List α->Prop}(h:∀a1 a2 a3:α,P [a1,a2,a3]):∀us:List α,us.length=3->P us:=by
 intro us e
 match us,e with | [a1,a2,a3],_=>exact h a1 a2 a3
def Pj {α:Type _}{P:List α->Prop}(h:∀a1 a2 a3 a4:α,P [a1,a2,a3,a4]):∀us:List α,us.length=4->P us:=by
 intro us e
 match us,e with | [a1,a2,a3,a4],_=>exact h a1 a2 a3 a4
structure GF (K:vF_) (mg:vG_) (n:Str) (st:Stmt) (f:Addr) (fd:FuncData):Prop where
 F:Fun K n n st f fd
 m:mg n=some (.ref f)
section
variable {K:vF_}{n:Str}{st:Stmt}{f:Addr}
def gf_mk (X:K.In h) (G:h.Ns mainGlobals mg) {kV doc pm ct:Value}(a:PySem.W.nsIn K mainGlobals n=some (some (.ref f))) (l:K.lookup f=some #[oc,od,.func 'w',osl])
  (c:PySem.W.codeIn K cdv n=true) (k:PySem.W.keepIn K (.ref f)=true):GF K mg n st f 'w':=#[Ni l c k,Tc X G a]
def JQ (F:Fun K n n st f fd) (q:∀(kV doc pm:Value) (an:vA_) (cdv ct:Value) (s:Shared) (v:Value),BindsTo s 'w' #[[v],[]] [(x,v)]):∀(s:Shared) (v:Value),BindsTo s fd #[[v],[]] [(x,v)]:=by
 refine gB_ fun Y J=>?_
 obtain⟨oc,od,kV,doc,pm,an,cdv,ct,osl,rfl,Z,U⟩:=F.ex;apply J;exact fun s v=>q kV doc pm an cdv ct s v
def blt_mk (X:K.In h) (G:h.Ns mainGlobals mg) (z0:PySem.W.nsIn K mainGlobals "len" = some none) (z1:PySem.W.nsIn K mainGlobals "range" = some none) (z2:PySem.W.nsIn K mainGlobals "abs" = some none) (z3:PySem.W.nsIn K mainGlobals "tuple" = some none) (z4:PySem.W.nsIn K mainGlobals "list" = some none) (z5:PySem.W.nsIn K mainGlobals "int" = some none) (z6:PySem.W.nsIn K mainGlobals "bool" = some none) (z7:PySem.W.nsIn K mainGlobals "str" = some none) (z8:PySem.W.nsIn K mainGlobals "repr" = some none) (z9:PySem.W.nsIn K mainGlobals "all" = some none) (Y:PySem.W.nsIn K mainGlobals "isinstance" = some none) (Z:PySem.W.nsIn K mainGlobals "zip" = some none) (J:PySem.W.nsIn K mainGlobals "enumerate" = some none) (z13:PySem.W.nsIn K mainGlobals "min" = some none) (U:PySem.W.nsIn K mainGlobals "max" = some none) (z15:PySem.W.nsIn K mainGlobals "reversed" = some none) (z16:PySem.W.nsIn K mainGlobals "any" = some none) (z17:PySem.W.nsIn K mainGlobals "sum" = some none) (z18:PySem.W.nsIn K mainGlobals "sorted" = some none):Blt mg:=#[Qv X G z0,Qv X G z1,Qv X G z2,Qv X G z3,Qv X G z4,Qv X G z5,Qv X G z6,Qv X G z7,Qv X G z8,Qv X G z9,Qv X G Y,Qv X G Z,Qv X G J,Qv X G z13,Qv X G U,Qv X G z15,Qv X G z16,Qv X G z17,Qv X G z18]
def vH {w:World}{N ps:List Str}{b:DM}(F:GF K mg n st f fd) (q:∀(kV doc pm:Value) (an:vA_) (cdv ct:Value) (us:vV_),us.length=ps.length->bindArgs 'w' #[us,[]]=pure (ps.zip us)) (S:FnScope N ps (D4 st))
  (J:∀(cdv:Value) (A:Around) (outer:List Env) (s:Shared) (H:Hp) (E:XK) (g:Gh),Room k (A.deeper (PyProof.Rows.envOfC n (D4 st) s.heap.objs.size f cdv))->SSO (S4 Y9 P w K mg base N n (D4 st) f cdv A outer s H E).nox g (Q9 st) b) :
  Cal P w K mg base (k+1) n ps (A5 N.length b):=OV F.F F.m (F.F.binds q) S J
end
end DL
namespace L2
open PySem PySem.Spec PyProof.Rows
open AutoSeq1 (wpAny_loadPart')
abbrev iJ (l:Addr):Obj:={ cls:=.type "tuple_iterator",data:=.fields #v[.ref l,.int 0 0] }
abbrev rY (a:Addr):Obj:={ cls:=.type "enumerate",data:=.fields #v[.none,.bool false,.ref a,rawInt 0,.none,.none] }
def MS (l:Addr) (its:vR_) (n:Nat) (dc:vA_) (sl:vS_) :
  Meets (Builtin.«enumerate.__new__» #[[.type "enumerate",.ref l],[]]) (fun _ R s=>s.heap.get? l=some { cls:=.type "tuple",dict:=dc,data:=.seq its n,slots:=sl } /\
   R (.ok (.ret (.ref (s.heap.push (iJ l)).objs.size))) { s with heap:=(s.heap.push (iJ l)).push (rY s.heap.objs.size) }):=
 .of_wp fun prog w A R s q=>by
  obtain⟨hp,g,d,Z,os⟩:=s;obtain⟨J,q⟩:=q;have hu:=sub_enumerate;have U:Heap.IsTuple (Shared.heap #[hp,g,d,Z,os]) l its:=#[_,J,rfl,n,rfl]
  wp_walk using wpAny_loadPart' J
  refine wpAny_stack_any fun Y=>td ?_
  split
  .rename_i c _ _ _ _ _;cases (c == Value.type "enumerate")
   .wp_walk using wpAny_loadPart' J,SV U
    exact#[_,rfl,q]
   .wp_walk using wpAny_loadPart' J,SV U
    exact#[_,rfl,q]
  .wp_walk using wpAny_loadPart' J,SV U
   exact#[_,rfl,q]
section
variable {w:World}
def Pu {its:vR_}{Q:vQ_}(hT:s.heap.IsTuple l its)
  (h:∀h',IsEnum h' (s.heap.objs.size+1) s.heap.objs.size 0 .none->h'.IsTupleIter s.heap.objs.size l 0 ->
   (∀b o,s.heap.get? b=some o->h'.get? b=some o)->Q (.ref (s.heap.objs.size+1)) { s with heap:=h' }):wpAny 'd' A (call (.type "enumerate") [.ref l]) Q E s:=by
 refine gB_ fun G_ g_=>?_
 obtain⟨⟨c,dc,dt,sl⟩,hl,J,n,U⟩:=hT;apply g_
 replace J:c = .type "tuple" := J
 replace U:dt = .seq its n:=U
 subst J U;refine callType_new F.called_enumerate #[] (F.typeCall_enumerate_1 _) (F.newCall_enumerate_1 _) (fun o=>F.args_object_init_2 o _) F.entry_enumerate_new (MS l its n dc sl) #[hl,?_];have Z:(s.heap.push (iJ l)).objs.size=s.heap.objs.size+1:=RH ..;show _/\_;rw[Z];have Y:IsEnum ((s.heap.push (iJ l)).push (rY s.heap.objs.size)) (s.heap.objs.size+1) s.heap.objs.size 0 .none:=by
  have z:=Qq (s.heap.push (iJ l)) (o:=rY s.heap.objs.size) rfl;rw[Z] at z;exact z
 exact#[#[_,Y,rfl],h _ Y #[_,PF _ (Qq _ rfl),rfl,rfl] fun b o x=>PF _ (PF _ x)]
def Dl {it l:Addr}{its:vR_}(Z:A.handled=none) (J:l≠it):Draws prog w A it [it,l] its.size (fun i x=>its[i]? = some x) (fun i h=>h.IsTupleIter it l i/\h.IsTuple l its) where
 live:=fun i h st=>by obtain⟨o,q,_⟩:=st.1;exact#[o,q]
 frame:=fun i h h' st k=>by
  obtain⟨⟨o,q,r⟩,⟨o',q',r'⟩⟩:=st;exact#[#[o,k it 'g' o q,r],#[o',k l 'g' o' q',r']]
 item:=fun i s Q E hi st hQ=>DL.nextOf_tup_item st.1 st.2 (Sx hi) fun h' a U=>hQ _ h' s.toks (Sx hi) #[a,st.2.extBut U.extBut J] U
 done:=fun s Q E st Y=>DL.nextOf_tup_end Z st.1 st.2 'g' Y
end
def gZ (K:vF_) (a:Addr):It:=
 #[fun i H=>∃xs x,SqT K H a xs/\xs[i]? = some x,fun i H v H'=>∃p x,H p=none/\v = .ref p/\H'=o7 H p (.tup [.int (i:Int),x])/\∀xs,SqT K H a xs->xs[i]? = some x,fun i H=>∃xs,SqT K H a xs/\xs.length<=i]
def Fv {w:World}{K:vF_}{x1} {pos:Pos}(a e it:Addr) (hne:e≠it):Turn P w K (.Tuple elts x1 pos) (gZ K a) [e,it] e (fun i h=>(∃old,IsEnum h e it ((i:Nat):Int) old)/\h.IsTupleIter it a i) where
 mem:=by simp
 obj:=fun i h st b Z=>by
  obtain⟨⟨old,J⟩,hi⟩:=st;simp only[xo,Qj,Qk] at Z;rcases Z with rfl | rfl
  .exact#[_,J,fun v z=>by
    have z':Data.fields _=Data.cell v:=z;cases z']
  .obtain⟨o,q,c,d⟩:=hi;exact#[o,q,fun v z=>by rw[d] at z;cases z]
 keep:=fun i h h' st k=>by
  obtain⟨⟨old,J⟩,o,q,r⟩:=st;exact#[#[old,k e 'g' _ J],o,k it 'g' o q,r]
 item:=by
  intro X hP hw hK hc i pins s σ H E I hf st hg;subst hP hw hK;obtain⟨xs,x,hq,hx⟩:=hg;obtain⟨⟨old,J⟩,Y⟩:=st;obtain⟨its,rv,p,hz⟩:=I.tuple hq;obtain⟨u,hu,ru⟩:=rv.get hx;have fe:=hf e 'g';have fi:=hf it 'g';have hes:e<s.heap.objs.size:=PB J;have his:it<s.heap.objs.size:=by obtain⟨o,q,_⟩:=id Y;exact PB q
  have hai:a≠it:=fun z=>by
   obtain⟨o,q,c,_⟩:=id Y;obtain⟨o',q',c',_⟩:=id p;rw[z,q] at q';cases q';rw[c] at c';exact absurd c' #[]
  have hea:e≠a:=fun z=>by
   obtain⟨o',q',c',_⟩:=id p;rw[<-z] at q';have he':=J.symm.trans q';cases he';exact absurd (show Value.type "enumerate" = Value.type "tuple" from c') #[]
  have hil:i<its.toArray.size:=by
   rw[Qc];exact(Qr.mp hu).1
  refine wpAny_pyNext_enum_itemD (Dl (l:=a) (its:=its.toArray) (I.ok.hd hc) hai) J #[Y,p] hil hne (by simp[hne,hea]) fun v h₁ tk hv heo hit₁ ht₁ hz₁ hk₁=>?_
  have ev:v=u:=by
   have hv:its[i]? = some v:=by simpa using hv
   rw[hu] at hv;exact(Qi hv).symm
  subst ev;refine#[_,rfl,wpAny_letOwnedTupleGo_enum heo fun h₂ he₂ U=>?_]
  replace U:Heap.SameBut e h₁ h₂:=U
  have hn:H s.heap.objs.size=none:=I.hok.fresh (tx _);have I1:Inv X pins σ (o7 H s.heap.objs.size (.tup [.int (i:Int),x])) { s with heap:=s.heap.push { cls:=.type "tuple",data:=.seq #v[.int i tk,v] },toks:=tk }:=
   I.laid (t':=tk) (fun b o q=>PF _ q) (tx _) #[by show 2<=sizeLine;decide,[.int i tk,v],.cons #[_,rfl] (.cons ru .nil),#[_,Qq _ rfl,rfl,_,rfl]]
  have up:∀b,b<s.heap.objs.size->R6 X pins H b->R6 X pins (o7 H s.heap.objs.size (.tup [.int (i:Int),x])) b:=fun b Z f=>#[by rw[u5 (Ql Z)];exact f.1,f.2]
  have I2:=I1.turned2 (h':=h₂) (t':=tk+1) (a:=e) (b:=it) (fun c o ce ci q=>by
   rcases Heap.get?_push_cases q with ⟨rfl,rfl⟩ | q1
   .exact(U.2 _ ce).trans ht₁
   .exact(U.2 _ ce).trans (hk₁ c o ce ci q1)) (up e hes fe) (up it his fi)
  refine#[.ref s.heap.objs.size,_,I2,rfl,#[_,x,hn,rfl,rfl,fun ys hy=>by rw[I.tuple_inj hy hq];exact hx],#[#[v,?_],?_],fun b Z=>?_]
  .have:((i+1:Nat):Int)=(i:Int)+1:=by push_cast;rfl
   rw[this];exact he₂
  .obtain⟨o,q,r⟩:=hit₁.1;exact#[o,U.extBut _ _ (Qd hne) q,r]
  .simp only[xo,Qj,Qk] at Z;rcases Z with rfl | rfl
   .exact(up _ hes fe).1
   .exact(up _ his fi).1
 done:=by
  intro X hP hw hK hc i pins s σ H E I hf st hg;subst hP hw hK;obtain⟨xs,hq,hx⟩:=hg;obtain⟨⟨old,J⟩,Y⟩:=st;obtain⟨its,rv,p,hz⟩:=I.tuple hq;obtain⟨f0,f1,f2,f3,f4,f5⟩:=hf it 'g';have hl:=rv.length;unfold pyNext;refine gV (RM (QV (name:=Str.ofString "__next__") #[_,J,rfl] F.slot_enumerate_next (QF F.slot_enumerate_next #[_,J,rfl] F.entry_enumerate_next ?_ (F.args_enumerate_next_1 _))));show wpAny _ _ (field (.ref e) 2 >>= fun v=>_) _ _ _;refine gV (PZ J rfl (x:=.ref it) rfl ?_);refine gV (DL.nextOf_tup_end (I.ok.hd hc) Y p (by simp;omega) fun h' y eb hy=>?_);obtain⟨o,ho,hcl⟩:=hy;refine gV (Ue (T := "StopIteration") (b:=true) #[o,ho,hcl] Ug ?_);exact td #[rfl,I.turned (t':=s.toks) (fun b o Z q=>eb b o Z q) f0 f1 f3 f4 f5]
 self:=fun _ _ _ _ _ st h=>by obtain⟨⟨old,J⟩,_⟩:=st;exact wpAny_pyIter_enum J h
def GX (K:vF_) (ta:TA):TI:=fun σ H R=>ta σ H fun vs H1=>∃a,vs=[.ref a]/\(∃xs,SqT K H1 a xs)/\R (gZ K a) H1
def OQ {ta:TA}{p pos pt:Pos}{elts:List Expr}{x1} (hg:Gl X "enumerate") (hm:X.mg "enumerate" = none) (ha:PA X [a] ta) (hs:starEach [a] X.env=[(false,eval a X.env)]:=by rfl):PI X (.Tuple elts x1 pt) (.Call (.Name "enumerate" p) [a] [] pos) (GX X.K ta):=by
 intro pins s σ H R I h;refine Call_ (cH I hg hm NQ (Sm (v3 (ha pos pins s σ H _ I h) fun us s1 ⟨vs,H1,J,r1,q1⟩=>?_) hs rfl));obtain⟨l,e,⟨xs,hq⟩,q⟩:=q1;subst e;cases r1 with
 |cons r rr=>
  cases rr;cases r;obtain⟨its,rv,pp,hz⟩:=J.tuple hq;refine Pu pp fun h' Y U hk=>wpAny_pyIter_enum Y ?_
  refine#[s1.heap.objs.size+1,[s1.heap.objs.size+1,s1.heap.objs.size],_,_,H1,rfl,J.kept (t':=s1.toks) hk,Fv l (s1.heap.objs.size+1) s1.heap.objs.size (Nat.succ_ne_self _),#[#[_,Y],U],fun b Z=>?_,q];simp only[xo,Qj,Qk] at Z;rcases Z with rfl | rfl
  .exact J.fpOk (SS _) (J.hok.fresh (SS _))
  .exact J.fpOk (tx _) (J.hok.fresh (tx _))
def Jn {K:vF_}{xs:List V}{g:TG}{tb:TS}{D:Ends}{H:Hp}(J:Nat->St->Hp->Prop) (h0:J 0 σ H) (hl:∀i σ H,i<=xs.length->J i σ H->SqT K H a xs)
  (Y:∀i x p σ H,xs[i]? = some x->H p=none->J i σ H->g (.ref p) σ (o7 H p (.tup [.int (i:Int),x])) fun σ2 H2=>tb { D with nx:=J (i+1),ct:=J (i+1),bk:=D.nx } σ2 H2) (hd:∀σ H,J xs.length σ H->D.nx σ H) :
  ∃W:Nat->Nat->St->Hp->Prop,(∃m,W 0 m σ H)/\∀i m σ H,W i m σ H ->
   ((gZ K a).stop i H/\D.nx σ H)\/((gZ K a).go i H/\∃N:St->Hp->Prop,(∀σ' H',N σ' H'->∃m',m'<m/\W (i+1) m' σ' H')/\∀x H',(gZ K a).yld i H x H'->g x σ H' fun σ2 H2=>tb { D with nx:=N,ct:=N,bk:=D.nx } σ2 H2):=by
 refine#[fun i m σ H=>m=xs.length - i/\i<=xs.length/\J i σ H,#[xs.length,by simp,Qx _,h0],?_];rintro i m σ H ⟨rfl,hi,p⟩;have q:=hl i σ H hi p;by_cases U:i<xs.length
 .refine .inr #[#[xs,xs[i],q,by simp[U]],J (i+1),fun σ' H' p'=>#[xs.length - (i+1),by omega,rfl,U,p'],fun v H' y=>?_];obtain⟨pp,x,Z,rfl,rfl,y⟩:=y;exact Y i x pp σ _ (y xs q) Z p
 .have e:i=xs.length:=by omega
  subst e;exact .inl #[#[xs,q,tx _],hd σ H p]
end L2
namespace DL
open PySem PySem.Spec L2 PyProof.Rows
def fJ (f:DA) (t:D->DS->Option DS) (b:DM):DM:=fun s=>(f s).bind fun x=>match x.1 with
 |[.tup ds]=>C3 t b (dI ds) x.2
 |_=>none
def DB {t:D->DS->Option DS}{b:DM}{s:DS}{r:Fl × DS}(q:fJ f t b s=some r):∃ds s1,f s=some ([.tup ds],s1)/\C3 t b (dI ds) s1=some r:=by
 refine A7 q fun xs s1 h1 h2=>?_
 cases xs with
 |nil=>cases h2
 |cons d xs=>
  cases xs with
  |cons _ _=>cases d <;> cases h2
  |nil=>
   cases d with
   |tup ds=>exact#[ds,s1,h1,h2]
   |_=>cases h2
def Ew {t:D->DS->Option DS}{b:DM}{s:DS}(h:f s=some ([.tup ds],s1)):fJ f t b s=C3 t b (dI ds) s1:=by
 unfold fJ;rw[h,xu]
section
variable {g:Gh}{t:D->DS->Option DS}{b:DM}{pos pt:Pos}{x1:Nat}
def Dw (hp:PassesOwn 'f' X.A X.env X.xe) (hc:X.calm=true) (Z:Gl X "enumerate") (hm:X.mg "enumerate" = none) (he:AO X g [e] f) (hg:GO X g (.Tuple elts x1 pt) t) (hb:SSO X g body b)
  (Y:starEach [e] X.env=[(false,eval e X.env)]:=by rfl) (hs:∀x,foldedSetIterable (.Call (.Name "enumerate" p1) [e] [] p2) X.env x=pure x:=by intro _;rfl) :
  SO X g (.For (.Tuple elts x1 pt) (.Call (.Name "enumerate" p1) [e] [] p2) body [] pos) (fJ f t b):=SO.w (mf hp hc (OQ Z hm he.pe Y) hg.pe hb.pe hs) fun E σ H hQ=>by
 refine hQ.elim fun fa O s fl sf I q k=>?_
 obtain⟨ds,s1,h1,h2⟩:=DB q;refine#[fa,O,s,_,s1,I,h1,fun vs H1 f1 O1 a1 U r=>?_];have k1:=k.shift a1.stp
 .simp only[Reps,Rep] at r;obtain⟨v,ys,rfl,⟨a,xs,rfl,q,w⟩,rfl⟩:=r;refine#[a,rfl,#[xs,q],Jn (xs:=xs) (Z8 X.K g f1 O1 H1 t b (dI ds) fl sf) #[f1,O1,s1,Stp.refl,U,h2] ?_ ?_ ?_]
  .rintro i σ' H' _ ⟨fa',O',s',st,I',e⟩;exact(U.car st).tp a xs q
  .intro i x p σ' H' hx J h;obtain⟨d,hd,rd⟩:=Reps.get' w hx;have h':Z8 X.K g f1 O1 H1 t b (dI ds) fl sf i σ' (o7 H' p (.tup [.int (i:Int),x])):=by
    obtain⟨fa',O',s',st,I',e⟩:=h;exact#[fa',O',s',st.trans (F9 J).stp,I'.new J,e]
   refine iz k1 (Km hd) (fun fa' O' st=>?_) h';simp only[Rep,Reps];exact#[p,[.int (i:Int),x],rfl,SqT.of D1,_,_,rfl,rfl,_,_,rfl,Rep.stp U st rd,rfl]
  .intro σ' H' h;refine iV k1 ?_ h;unfold dI;rw[PH,List.length_zipIdx,w.length];exact tx _
end
end DL
namespace L2
open PySem PySem.W PySem.Spec PySem.Builtin PySem.Builtin.ObjectAttr
section
variable {w:World}{g:Array GenState}{d:Drawn}{t:Nat}{os:OsState}{K:vF_}{x C:Addr}{o:Obj}{mA:vG_}{v:Value}
def Nz {tk:Tok}{Q:Fin->Shared->Prop}(X:K.In h) (Z:h.get? x=some o) (Y:o.cls = .ref C) (hd:o.data = .fields vs) (U:o.dict=some dx) (hn:h.Ns dx mA) (hv:mA name=some v) (f0:hasDictIn K C=true)
  (f3:findIn K 'j' name=some none) (hq:Q (.done (.ret v)) #[h,g,d,t,os]) :
  wpAny 'd' A (Builtin.«object.__getattribute__» #[[.ref x,.str name tk],[]]) Q E #[h,g,d,t,os]:=by
 have L:=Rv (M:=model prog w) X f3;unfold Builtin.«object.__getattribute__»
 repeat (any_goals (first | assumption | (with_reducible refine QD Z ?_;rw[Y]) | with_reducible refine L.at ?_ | wp_step))
 obtain⟨cd,J,hdc⟩:=any_some f0;have LC:=looks_clsIn (M:=model prog w) X J;rw[hd];unfold instanceDict
 repeat (first | (with_reducible refine QD Z ?_;rw[Y]) | with_reducible refine LC.at ?_ | wp_step)
 rw[U]
 repeat (first | (with_reducible refine wpAny_nsGet hn ?_;rw[hv]) | wp_step)
 exact hq
def BM {Q:Unit->Shared->Prop}(X:K.In h) (U:subIn K 'j' (.type "BaseException")=some true) (Z:h.get? x=some o) (J:o.cls = .ref C) (Y:Q () #[h,g,d,t,os]) :
  wpAny M A (checkBuiltinCall "BaseException.__getattribute__" #[[.ref x,nameV],[]]) Q E #[h,g,d,t,os]:=by
 have L:=Td (M:=M) X U;have k1:builtinKind "BaseException.__getattribute__" = some .slot:=by decide +kernel
 have k2:splitId "BaseException.__getattribute__" = some ("BaseException", "__getattribute__"):=by decide +kernel
 have ha:=F.args_bexc_ga (.ref x) nameV;simp only[checkBuiltinCall,k1,k2];refine gV ?_;unfold isInstance
 repeat (first | (with_reducible refine QD Z ?_;rw[J]) | with_reducible refine L.at ?_ | wp_step)
 exact Y
def OH {tk:Tok}{R:Result->Shared->Prop}(X:K.In h) (Y:h.get? x=some o) (U:o.cls = .ref C) (hd:o.data = .fields vs) (J:o.dict=some dx) (hn:h.Ns dx mA) (Z:mA name=some v) (f0:hasDictIn K C=true)
  (f3:findIn K 'j' name=some none) (f4:subIn K 'j' (.type "BaseException")=some true) (hq:R (.ok (.ret v)) #[h,g,d,t,os]) :
  codeAny 'd' A (.call (.builtin "BaseException.__getattribute__") #[[.ref x,.str name tk],[]]) R #[h,g,d,t,os]:=
 Um Uo.ga.plain F.entry_bexc_ga (BM X f4 Y U (Nz X Y U hd J hn Z f0 f3 hq))
def CZ {tk:Tok}(X:K.In h) (Y:h.get? x=some o) (U:o.cls = .ref C) (hd:o.data = .fields vs) (J:o.dict=some dx) (hn:h.Ns dx mA) (hv:mA name=some v) (Z:hasDictIn K C=true)
  (f1:findIn K 'j' "__getattribute__" = some (some (.builtin "BaseException.__getattribute__"))) (f2:findIn K 'j' "__getattr__" = some none) (f3:findIn K 'j' name=some none) (f4:subIn K 'j' (.type "BaseException")=some true) (hh:∀id,v ≠ .builtin id) (hq:Q v #[h,g,d,t,os]) :
  wpAny 'd' A (getAttrBy (.ref x) (.str name tk) fill expr) Q E #[h,g,d,t,os]:=by
 have L1:=Rv (M:=model prog w) X f1;have L2:=Rv (M:=model prog w) X f2;have b3:=Uo.ga.bind (.ref x);have y0:(expr&&onTheHeap (Value.builtin "BaseException.__getattribute__"))=false:=by cases expr <;> rfl
 have y2:(Value.builtin "BaseException.__getattribute__" == Value.builtin "object.__getattribute__")=false:=by decide +kernel
 have y1:(onTheHeap (Value.ref C)&&Value.builtin "BaseException.__getattribute__" == Value.builtin "object.__getattribute__")=false:=by rw[y2];rfl
 repeat (any_goals (first | assumption | (with_reducible refine QD Y ?_;rw[U]) | with_reducible refine L1.at ?_ | with_reducible refine L2.at ?_ | wp_step))
 refine OH X Y U hd J hn hv Z f3 f4 ?_
 repeat (any_goals (first | assumption | wp_step))
 cases v <;> first | exact td hq | exact absurd rfl (hh _)
def Ml (X:K.In h) (hx:h.get? x=some o) (Z:o.cls = .ref C) (hd:o.data = .fields vs) (J:o.dict=some dx) (hn:h.Ns dx mA) (U:mA name=some v) (f0:hasDictIn K C=true)
  (f1:findIn K 'j' "__getattribute__" = some (some (.builtin "BaseException.__getattribute__"))) (f2:findIn K 'j' "__getattr__" = some none) (f3:findIn K 'j' name=some none) (f4:subIn K 'j' (.type "BaseException")=some true) (Y:∀id,v ≠ .builtin id) (hq:Q v #[h,g,d,t+1,os]) :
  wpAny 'd' A (getAttr (.ref x) name expr) Q E #[h,g,d,t,os]:=by
 unfold getAttr
 repeat (any_goals (first | assumption | with_reducible apply CZ X hx Z hd J hn U f0 f1 f2 f3 f4 Y | wp_step))
def EW {R:Result->Shared->Prop}(X:K.In h) (U:h.get? x=some o) (J:o.cls = .ref C) (Z:subIn K 'j' (.type "object")=some true) (hq:R (.ok (.ret 'j')) #[h,g,d,t,os]) :
  codeAny 'd' A (.call (.builtin "getset_descriptor.__get__") #[[.builtin "object.__class__",.ref x,.ref C],[]]) R #[h,g,d,t,os]:=by
 have Y:(#[h,g,d,t,os]:Shared).TypeIs (.builtin "object.__class__") "getset_descriptor" := Vj;have L:=Td (M:=model prog w) X (show subIn K 'j' (.type (".".intercalate ("object.__class__".cutAt '.').dropLast))=some true by rw[F.owner_object_class];exact Z);refine Um F.slot_gs_get.plain F.entry_gs_get (F.slot_gs_get.check _ _ _ _ _ _ _ _ Y (F.args_gs_get _ _ _) ?_)
 repeat (any_goals (first | assumption | (with_reducible refine QD U ?_;rw[J]) | with_reducible refine L.at ?_ | wp_step))
 refine#[Vk _ 'h',Vb F.entry_object_class ?_]
 repeat (any_goals (first | assumption | (with_reducible refine QD U ?_;rw[J]) | wp_step))
def Js {tk:Tok}{Q:Fin->Shared->Prop}(X:K.In h) (U:h.get? x=some o) (J:o.cls = .ref C) (Z:subIn K 'j' (.type "object")=some true) (Y:findIn K 'j' "__class__" = some (some (.builtin "object.__class__"))) (hq:Q (.done (.ret 'j')) #[h,g,d,t,os]) :
  wpAny 'd' A (Builtin.«object.__getattribute__» #[[.ref x,.str "__class__" tk],[]]) Q E #[h,g,d,t,os]:=by
 have L:=Rv (M:=model prog w) X Y;have b5:=Vj;have b6:=F.slot_gs_get.lookup;have b7:=F.slot_gs_set.lookup;have bT:(#[h,g,d,t,os]:Shared).TypeIs (.builtin "object.__class__") "getset_descriptor" := Vj
 repeat (any_goals (first | assumption | (with_reducible refine QD U ?_;rw[J]) | with_reducible refine L.at ?_ | wp_step))
 refine EW X U J Z ?_
 repeat (any_goals (first | assumption | wp_step))
def JM {tk:Tok}(X:K.In h) (J:h.get? x=some o) (U:o.cls = .ref C) (f5:subIn K 'j' (.type "object")=some true) (Z:findIn K 'j' "__class__" = some (some (.builtin "object.__class__")))
  (f1:findIn K 'j' "__getattribute__" = some (some (.builtin "BaseException.__getattribute__"))) (f2:findIn K 'j' "__getattr__" = some none) (f4:subIn K 'j' (.type "BaseException")=some true) (hq:Q 'j' #[h,g,d,t,os]) :
  wpAny 'd' A (getAttrBy (.ref x) (.str "__class__" tk) false) Q E #[h,g,d,t,os]:=by
 have L1:=Rv (M:=model prog w) X f1;have L2:=Rv (M:=model prog w) X f2;have b3:=Uo.ga.bind (.ref x);have Y:(Value.builtin "BaseException.__getattribute__" == Value.builtin "object.__getattribute__")=false:=by decide +kernel
 have y1:(onTheHeap (Value.ref C)&&Value.builtin "BaseException.__getattribute__" == Value.builtin "object.__getattribute__")=false:=by rw[Y];rfl
 repeat (any_goals (first | assumption | (with_reducible refine QD J ?_;rw[U]) | with_reducible refine L1.at ?_ | with_reducible refine L2.at ?_ | wp_step))
 refine Um Uo.ga.plain F.entry_bexc_ga (BM X f4 J U (Js X J U f5 Z ?_))
 repeat (any_goals (first | assumption | wp_step))
def NO {Q:Option Value->Shared->Prop}(X:K.In h) (hx:h.get? x=some o) (U:o.cls = .ref C) (f5:subIn K 'j' (.type "object")=some true) (J:findIn K 'j' "__class__" = some (some (.builtin "object.__class__")))
  (f1:findIn K 'j' "__getattribute__" = some (some (.builtin "BaseException.__getattribute__"))) (Z:findIn K 'j' "__getattr__" = some none) (Y:subIn K 'j' (.type "BaseException")=some true) (hq:Q (some 'j') #[h,g,d,t+1,os]) :
  wpAny 'd' A (getAttr? (.ref x) "__class__") Q E #[h,g,d,t,os]:=by
 unfold getAttr? getAttrBy?
 repeat (any_goals (first | assumption | with_reducible apply JM X hx U f5 J f1 Z Y | wp_step))
structure XC (K:vF_) (C:Addr):Prop where
 f0:hasDictIn K C=true
 f1:findIn K (.ref C) "__getattribute__" = some (some (.builtin "BaseException.__getattribute__"))
 f2:findIn K (.ref C) "__getattr__" = some none
 f4:subIn K (.ref C) (.type "BaseException")=some true
 f5:subIn K (.ref C) (.type "object")=some true
 f6:findIn K (.ref C) "__class__" = some (some (.builtin "object.__class__"))
def XC.look (c:XC K C):∃oc od cd sl,K.lookup C=some #[oc,od,.cls cd,sl]/\cd.hasDict=true:=by
 obtain⟨cd,e,q⟩:=any_some c.f0;unfold clsIn at e;split at e
 .rename_i oc od J sl z;cases e;exact#[oc,od,_,sl,z,q]
 .cases e
def XC.kit (c:XC K C):KitX K (.ref x) 'j' (fun h=>∃o,h.get? x=some o/\o.cls = .ref C) where
 ty:=fun M h _ J=>by
  obtain⟨o,e,q⟩:=J;intro A' Z Y s' k z;unfold typeOf;refine gV (Uq (k _ _ e) (td ?_));rw[q];exact z
 it:=fun M h X _=>by
  obtain⟨oc,od,cd,sl,e,_⟩:=c.look;intro A' Z Y s' k z;unfold isType loadHead;exact gV (Uq (k _ _ (X _ _ e)) (td z))
 ne:=fun h U dd its n sl X e=>by
  obtain⟨oc,od,cd,sl',q,_⟩:=c.look;refine Bool.eq_false_iff.mpr fun z=>?_
  have r:C=U:=Value.ref.inj (beq_iff_eq.mp z);rw[<-r,X _ _ q] at e;cases e
 ca:=fun {_ _ _ _ _ s} X p k=>by
  obtain⟨h,g,d,t,os⟩:=s;obtain⟨o,e,q⟩:=p;exact NO X e q c.f5 c.f6 c.f1 c.f2 c.f4 k
end
abbrev cO:String := "ValueError.__new__"
abbrev bxF:=PySem.F.excBase_ValueError
section
variable {M:Model}{w:World}{g:Array GenState}{d:Drawn}{t:Nat}{os:OsState}{K:vF_}{C N fI:Addr}{rest:vV_}
variable {nm q:Str}{bs bm:vV_}{hdct:Bool}{sn:List Str}{sub:vV_}{ab:Bool}{dd:vA_}{k0 k1 k2 k3 k5:Option Value}
def GL {Q:Unit->Shared->Prop}(J:h.get? C=some (excClassObj nm q C N bs bm hdct sn sub ab col dd k0 k1 k2 k3 k5 cO)) (U:(Value.ref C::bm).contains (.type "ValueError")=true) (z:Q () #[h,g,d,t,os]) :
  wpAny M A (checkBuiltinCall cO #[.ref C::rest,[]]) Q E #[h,g,d,t,os]:=by
 have st:=bxF.noStar;simp only[checkBuiltinCall,bxF.newKind,bxF.newSplit,bxF.newRow]
 repeat (first | refine wpAny_staticBase_exc J ?_ | refine wpAny_madeBy_exc J ?_ | (refine Vl J ?_;rw[U]) | refine QD J ?_ | simp only[bne_self_eq_false,RL,QU] | wp_step)
 exact z
def KN {R:Result->Shared->Prop}(U:h.get? C=some (excClassObj nm q C N bs bm hdct sn sub ab col dd k0 k1 k2 k3 k5 cO)) (b1:(Value.ref C::bm).contains (.type "ValueError")=true) (Z:(Value.ref C::bm).contains (.type "AttributeError")=false)
  (Y:(Value.ref C::bm).contains (.type "NameError")=false) (hr:rest.length<=sizeLine)
  (z:R (.ok (.ret (.ref (h.objs.size+1)))) #[(h.push { cls:=.type "tuple",data:=.seq rest.toArray }).push { cls:=.ref C,data:=.fields #v[.ref h.objs.size,.none,.none,.none,.bool false,.none] },g,d,t,os]) :
  codeAny 'd' A (.builtin cO #[.ref C::rest,[]]) R #[h,g,d,t,os]:=by
 have he:=bxF.ends;refine codeAny_builtinAt bxF.entry ?_;unfold Builtin.«BaseException.__new__»;refine wpAt_bind ?_;show wpAt _ _ _ (stack >>= _) _ _ _;refine wpAt_bind (wpAt_stack fun p J=>wpAt_of_wpAny ?_)
 wp_walk
 refine wpAt_of_wpAny ?_;rw[bxF.owner]
 repeat (first | (with_reducible refine Vl U ?_;first | rw[b1] | rw[Z] | rw[Y]) | with_reducible refine wpAny_madeHere_exc bxF.canon U ?_ | with_reducible refine QD U ?_ | wp_step)
 show R _ _;rw[RH];exact z
def Pm {oI:Obj}{Q:Fin->Shared->Prop}(X:K.In h) (lk:K.lookup C=some (excClassObj nm q C N bs bm hdct sn sub ab col dd k0 k1 k2 k3 k5 cO)) (b1:(Value.ref C::bm).contains (.type "ValueError")=true) (b2:(Value.ref C::bm).contains (.type "AttributeError")=false)
  (b3:(Value.ref C::bm).contains (.type "NameError")=false) (hi:findIn K 'j' "__init__" = some (some (.ref fI))) (lI:K.lookup fI=some oI) (cI:oI.cls = .type "function") (hr:rest.length<=sizeLine)
  (z:∀h' e,Heap.MadeExcOf h h' e 'j' rest->h.objs.size<=e->wpAny 'd' A (call (.ref fI) (.ref e::rest)) (fun r s'=>r = .none/\Q (.done (.ret (.ref e))) s') E #[h',g,d,t,os]) :
  wpAny 'd' A (Builtin.«type.__call__» #[.ref C::rest,[]]) Q E #[h,g,d,t,os]:=by
 have J:=X _ _ lk
 repeat (first | with_reducible refine wpAny_madeBy_exc J ?_ | with_reducible refine QD J ?_ | wp_step)
 refine codeAny_call_builtin_code (Vk _ bxF.quiet) (GL J b1 ?_);refine KN J b1 b2 b3 hr ?_;generalize Y:(h.push { cls:=.type "tuple",data:=.seq rest.toArray }).push { cls:=.ref C,data:=.fields #v[.ref h.objs.size,.none,.none,.none,.bool false,.none] }=h1;have kp:∀b o,h.get? b=some o->h1.get? b=some o:=fun b o e=>by rw[<-Y];exact PF _ (PF _ e)
 have X1:K.In h1:=X.keeps kp;have Z:=X1 _ _ lk;have ge:h1.get? (h.objs.size+1)=some { cls:=.ref C,data:=.fields #v[.ref h.objs.size,.none,.none,.none,.bool false,.none] }:=by rw[<-Y];heap_get
 have gt:h1.get? h.objs.size=some { cls:=.type "tuple",data:=.seq rest.toArray }:=by rw[<-Y];exact PF _ (Heap.get?_push_at rfl rfl)
 have bC:(Value.ref C::bm).contains 'j'=true:=by simp
 have L:=Rv (M:=model prog w) X1 hi;show wpAny _ _ _ _ _ _;unfold isInstance
 repeat (first | with_reducible refine L.at ?_ | with_reducible refine QD ge ?_ | (with_reducible refine Vl Z ?_;rw[bC]) | wp_step)
 unfold bindSpecial;refine gV (RE (T := "function") #[_,X1 _ _ lI,cI] ?_);rw[iR #[]];refine td (gV (Qg (z h1 _ #[kp,UK (SS _),h.objs.size,ge,UK (tx _),gt] (SS _)) (fun r s' U=>?_) fun _ _ y=>y));obtain⟨rfl,U⟩:=U
 wp_walk
 exact U
def FR {Y:Obj}(X:K.In h) (U:K.lookup C=some (excClassObj nm q C N bs bm hdct sn sub ab col dd k0 k1 k2 k3 k5 cO)) (b1:(Value.ref C::bm).contains (.type "ValueError")=true) (b2:(Value.ref C::bm).contains (.type "AttributeError")=false)
  (Z:(Value.ref C::bm).contains (.type "NameError")=false) (hi:findIn K 'j' "__init__" = some (some (.ref fI))) (lI:K.lookup fI=some Y) (cI:Y.cls = .type "function") (hr:rest.length<=sizeLine)
  (z:∀h' e,Heap.MadeExcOf h h' e 'j' rest->h.objs.size<=e->wpAny 'd' (A.under (.builtin "type.__call__" #[.ref C::rest,[]])) (call (.ref fI) (.ref e::rest)) (fun r s'=>r = .none/\Q (.ref e) s') E #[h',g,d,t,os]) :
  wpAny 'd' A (call 'j' rest) Q E #[h,g,d,t,os]:=by
 have J:=X _ _ U;have y1:=tc_lookup;have y2:=tc_bind 'j';have yT:(#[h,g,d,t,os]:Shared).TypeIs 'j' "type" := #[_,J,rfl]
 refine SM (codeAny_of_tree ?_);show wpAny _ _ (callAny 'j' _) _ _ _
 repeat (any_goals (first | with_reducible refine QD J ?_ | assumption | wp_step))
 refine#[rfl,codeAny_call_builtin_at (Vk _ 'h') entry_typeCall (wpAny_check_type_call_sub J (Pm X U b1 b2 Z hi lI cI hr fun h' e m n=>?_))];exact z h' e m n
end
def bE:List Value:=[.type "ValueError",.type "Exception",.type "BaseException",.type "object"]
def FY (J:Value):refuseLoop J "__setattr__" bE=pure ():=by kernel_rfl
section
variable {w:World}{g:Array GenState}{d:Drawn}{t:Nat}{os:OsState}{K:vF_}{x C W:Addr}{o:Obj}{mA:vG_}{v:Value}
def CV {tk:Tok}{Q:Fin->Shared->Prop}(X:K.In h) (hc:clsIn K C=some cd) (hm:cd.mro = .ref C :: .ref W::bE) (hk:cd.hasDict=true) (f3:findIn K 'j' name=some none) (I:h.Inst x C mA)
  (hq:∀h' tk',h'.Inst x C (fun y=>if y=name then some v else mA y) ->
   (∀b u,b≠x->(∀o0 dx,h.get? x=some o0->o0.dict=some dx->b≠dx)->h.get? b=some u->h'.get? b=some u) ->
   (∀o0,h.get? x=some o0->∃o1,h'.get? x=some o1/\o1.cls=o0.cls/\o1.data=o0.data/\o1.slots=o0.slots/\(∀dx,o0.dict=some dx->o1.dict=some dx)/\(o0.dict=none->∃dx,o1.dict=some dx/\h.objs.size<=dx))->Q (.done (.ret .none)) #[h',g,d,tk',os])
  (hw:Within mA ns) (hz:ns.length<=1000) :
  wpAny 'd' A (Builtin.«object.__setattr__» #[[.ref x,.str name tk,v],[]]) Q E #[h,g,d,t,os]:=by
 obtain⟨o,U,J,Y,hd⟩:=I;have L1:=Rv (M:=model prog w) X f3;have L2:=looks_clsIn (M:=model prog w) X hc;have L3:Looks 'd' h (mroOf 'j') cd.mro:=L2.andThen .now;have lx:Looks 'd' h (typeOf (.ref x)) 'j':=by
  intro A' Q' E' s' k z;unfold typeOf;refine gV (Uq (k _ _ U) (td ?_));rw[J];exact z
 have rf:refuseLoop (.ref x) "__setattr__" cd.mro=pure ():=by rw[hm,refuseLoop_ref,refuseLoop_ref];exact FY _
 rw[osa_eq,refuse_eq];refine gV (gV (lx.at (gV (L3.at ?_))));rw[rf];refine td (gV (lx.at (gV (L1.at (gV (td ?_))))));show wpAny _ _ (storeInOwnDict (.ref x) 'j' (.str name tk) name v false) _ _ _;unfold storeInOwnDict
 repeat (first | (with_reducible refine QD U ?_;rw[J]) | with_reducible refine L2.at ?_ | wp_step)
 rcases hd with ⟨dn,mn⟩ | ⟨dx,de,ne,nd⟩
 .rw[dn,iU (by simp[typeHasDict])];split
  .rename_i z;cases z
  split
  .rename_i z;exact absurd z (Y _)
  .have nx:x≠h.objs.size:=Ql (PB U);have gx:(h.push { cls:=.type "dict",data:=.dict #v[] }).get? x=some o:=PF _ U;refine gV (wpAny_alloc' (gV (wpAny_update' gx (td ?_))));generalize eh:((h.push { cls:=.type "dict",data:=.dict #v[] }).update x fun o=>{ cls:=o.cls,dict:=some h.objs.size,data:=o.data,slots:=o.slots })=h1;have g1:h1.get? h.objs.size=some { cls:=.type "dict",data:=.dict #v[] }:=by rw[<-eh];exact(Heap.get?_update_ne _ _ _ _ nx.symm).trans (Heap.get?_push_at rfl rfl)
   have gx1:h1.get? x=some { cls:=o.cls,dict:=some h.objs.size,data:=o.data,slots:=o.slots }:=by
    rw[<-eh];refine Ri _ gx ?_;have fr:=(Heap.get?_some_iff.mp U).2;obtain⟨oc,od,dt,sl⟩:=o;cases dt <;> first | rfl | exact fr
   have gk:∀b u,b≠x->h.get? b=some u->h1.get? b=some u:=fun b u nb e=>by rw[<-eh];exact(Heap.get?_update_ne _ _ _ _ nb).trans (PF _ e)
   have n1:h1.Ns h.objs.size (fun _=>none):=#[_,#v[],_,g1,rfl,fun e he=>absurd he 'g',fun _=>rfl]
   show wpAny _ _ (storeInDict h.objs.size (.str name tk) name v) _ _ _;unfold storeInDict newKeyGuard;refine gV (td (gV (wpAny_nsSet1 (Heap.Ns1.of_empty n1) fun h' n' Z=>?_)));obtain⟨oD,es,ep,go,gd,gc⟩:=n'.count (Within.cons name v Within.nil);refine gV (wpAny_lookBehind go (by rw[gd];exact pastItsLine_dict (PJ gc (by rw[PX,RN,QR];omega))) ?_)
   wp_walk
   have gx':=(Z.2 x nx).trans gx1;refine hq h' _ #[_,gx',J,Y,.inr #[h.objs.size,rfl,nx.symm,?_]] (fun b u nb _ e=>(Z.2 b (Ql (PB e))).trans (gk b u nb e)) fun o0 e0=>?_
   .obtain⟨o',es',ep',e1,e2,e3,e4,e5⟩:=n';exact#[o',es',ep',e1,e2,e3,e4,fun y=>by rw[e5 y];by_cases hy:y=name <;> simp[hy,mn]]
   .obtain rfl:o=o0:=Qi (U.symm.trans e0);exact#[_,gx',rfl,rfl,rfl,(fun dx e=>by rw[dn] at e;cases e),fun _=>#[_,rfl,tx _]]
 .rw[de];refine td ?_;show wpAny _ _ (storeInDict dx (.str name tk) name v) _ _ _;unfold storeInDict newKeyGuard;refine gV (td (gV (wpAny_nsSet1 nd fun h' n' Z=>?_)));obtain⟨oD,es,ep,go,gd,gc⟩:=n'.count (Within.cons name v hw);refine gV (wpAny_lookBehind go (by rw[gd];exact pastItsLine_dict (PJ gc (by rw[PX,QR];omega))) ?_)
  wp_walk
  exact hq h' _ #[o,(Z.2 x ne.symm).trans U,J,Y,.inr #[dx,de,ne,n']] (fun b u _ nb e=>(Z.2 b (nb o dx U de)).trans e) fun o0 e0=>#[o0,(Z.2 x ne.symm).trans e0,rfl,rfl,rfl,(fun _ e=>e),fun z=>by rw[U] at e0;cases e0;rw[de] at z;cases z]
def si {Q:Unit->Shared->Prop}(X:K.In h) (Y:clsIn K C=some cd) (hm:cd.mro = .ref C :: .ref W::bE) (hk:cd.hasDict=true) (f3:findIn K 'j' name=some none)
  (f7:findIn K 'j' "__setattr__" = some (some (.builtin "object.__setattr__"))) (I:h.Inst x C mA)
  (hq:∀h' tk',h'.Inst x C (fun y=>if y=name then some v else mA y) ->
   (∀b u,b≠x->(∀o0 dx,h.get? x=some o0->o0.dict=some dx->b≠dx)->h.get? b=some u->h'.get? b=some u) ->
   (∀o0,h.get? x=some o0->∃o1,h'.get? x=some o1/\o1.cls=o0.cls/\o1.data=o0.data/\o1.slots=o0.slots/\(∀dx,o0.dict=some dx->o1.dict=some dx)/\(o0.dict=none->∃dx,o1.dict=some dx/\h.objs.size<=dx))->Q () #[h',g,d,tk',os])
  (hw:Within mA ns) (hz:ns.length<=1000):wpAny 'd' A (setAttr (.ref x) name v) Q E #[h,g,d,t,os]:=by
 obtain⟨o,hx,U,hnc,hd⟩:=id I;have Z:Looks 'd' h (typeOf (.ref x)) 'j':=by
  intro A' Q' E' s' k z;unfold typeOf;refine gV (Uq (k _ _ hx) (td ?_));rw[U];exact z
 have L7:=Rv (M:=model prog w) X f7;have J:=PySem.F.store_object;refine gV (wpAny_mkText (gV (gV (gV (Z.at (L7.at (QP ?_)))))));rw[J.slot.bind];have sub:Looks 'd' h (isInstance (.ref x) (.type "object")) true:=Z.andThen (looks_mroIn X (by unfold mroIn;rw[Y,xu,hm];rfl));refine gV (td (gV (SM ?_)));refine Um J.slot.plain J.entry (@check_slot 'd' _ _ #[h,g,d,t+1,os] "object.__setattr__" "object" "__setattr__" (.ref x) [.str name t,v] [] _ J.kind J.split sub (J.args (.ref x) (.str name t) v) ?_);refine CV X Y hm hk f3 I (fun h' tk' I' k1 k2=>?_) hw hz;exact td (td (hq h' tk' I' k1 k2))
end
end L2
namespace L2
open PySem PySem.W PySem.Spec PySem.Builtin PySem.Builtin.ObjectAttr PyProof.Rows
structure XK1 (K:vF_) (C W:Addr):Prop where
 xc:XC K C
 ob:∃nm q N bs hdct sn sub ab col dd k0 k1 k2 k3 k5,K.lookup C=some (excClassObj nm q C N bs (.ref W::bE) hdct sn sub ab col dd k0 k1 k2 k3 k5 cO)
 sa:findIn K (.ref C) "__setattr__" = some (some (.builtin "object.__setattr__"))
def XK1.cls {K:vF_}{C W:Addr}(c:XK1 K C W):∃cd,clsIn K C=some cd/\cd.mro = .ref C :: .ref W::bE/\cd.hasDict=true:=by
 refine gB_ fun Z Y=>?_
 obtain⟨nm,q,N,bs,hdct,sn,sub,ab,col,dd,k0,k1,k2,k3,k5,e⟩:=c.ob;obtain⟨oc,od,cd,sl,J,U⟩:=c.xc.look;rw[e] at J;apply Y;cases J;exact#[_,by unfold clsIn;rw[e],rfl,U]
section
variable {P:Program}{w:World}{K:vF_}{e C W fI:Addr}{u0 u1:Value}{R:Result->Shared->Prop}
variable {params:Arguments}{kV doc pm ct:Value}
def FH {ps:List Str}{us:vV_}(hr:A.depth<recursionLimit) (X:K.In s.heap) (U:s.heap.NoLimit) (lk:K.lookup fI=some #[oc,od,.func (PySem.W.fnOf name qual params body scope .none kV doc pm an cdv ct),osl])
  (J:PySem.W.codeIn K cdv qual=true) (k1:scope.kind = .function) (k2:scope.isCoroutine=false) (k3:scope.isGenerator=false) (hp:∀x∈ps,scope.names.lookup x=some .local)
  (Z:bindArgs (PySem.W.fnOf name qual params body scope .none kV doc pm an cdv ct) #[us,[]]=pure (ps.zip us))
  (z:∀h' tk,(∀b o,s.heap.get? b=some o->h'.get? b=some o)->h'.Ns s.heap.objs.size (bindL (envOfC qual scope s.heap.objs.size fI cdv).kindOf (ps.zip us) fun _=>none) ->
   wpAny (model P w) (A.deeper (envOfC qual scope s.heap.objs.size fI cdv)) (execs body (envOfC qual scope s.heap.objs.size fI cdv)) (fun fl s'=>match fl with | .ret v=>R (.ok (.ret v)) s' | .next=>R (.ok (.ret .none)) s' | _=>False)
    (fun _ _=>False) { s with heap:=h',toks:=tk }) :
  codeAny (model P w) A (.call (.ref fI) #[us,[]]) R s:=by
 refine codeAny_call_function hr (X _ _ lk) rfl k2 k3 rfl (PySem.W.codeRec_of X J) (wpAny_of_eq Z ?_);refine wpAny_newFunctionEnv_cells k1 (fun y hy=>.inl (hp y.1 (RY (a:=y.1) (b:=y.2) hy).1)) fun env he s1 x=>?_
 subst he;obtain⟨h1,tk,rfl,Y⟩:=x.done;refine#[U.keeps Y,codeAny_func ?_];refine Qg (z h1 tk Y x.toInCall.ns) (fun fl s' q=>?_) fun _ _ q=>q.elim
 cases fl <;> first | exact q | exact q.elim
structure Mdx (K:vF_) (h h':Heap) (e dx C:Addr) (vs:vR_) (mA:vG_):Prop where
 kp:∀b u,b≠e->h.get? b=some u->h'.get? b=some u
 at_:∃o,h'.get? e=some o/\o.cls = .ref C/\o.data = .fields vs/\o.dict=some dx
 ne:dx≠e
 nw:h.objs.size<=dx
 ns:h'.Ns1 dx mA
def dX {L f:Addr}(h:scope.names.lookup x=some .local):(envOfC qual scope L f cdv).kindOf x=some .local:=h
def Fi {vs:vR_}{p1 p2 p3 p4 p5 p6 p7 p8:Pos}(c:XK1 K C W) (hw:findIn K 'j' "word" = some none) (ha:findIn K 'j' "at" = some none) (hr:A.depth<recursionLimit) (X:K.In s.heap) (lim:s.heap.NoLimit)
  (lk:K.lookup fI=some #[oc,od,.func (PySem.W.fnOf name qual params [.Assign [.Attribute (.Name "self" p1) "word" p2] (.Name "word" p3) p4,.Assign [.Attribute (.Name "self" p5) "at" p6] (.Name "at" p7) p8] scope .none kV doc pm an cdv ct),osl]) (hcd:PySem.W.codeIn K cdv qual=true)
  (k1:scope.kind = .function) (k2:scope.isCoroutine=false) (k3:scope.isGenerator=false) (hp:∀x∈(["self", "word", "at"]:List Str),scope.names.lookup x=some .local)
  (hb:bindArgs (PySem.W.fnOf name qual params [.Assign [.Attribute (.Name "self" p1) "word" p2] (.Name "word" p3) p4,.Assign [.Attribute (.Name "self" p5) "at" p6] (.Name "at" p7) p8] scope .none kV doc pm an cdv ct) #[[.ref e,u0,u1],[]]=pure ((["self", "word", "at"]:List Str).zip [.ref e,u0,u1]))
  (hx:s.heap.get? e=some { cls:=.ref C,data:=.fields vs }) (hK:K.lookup e=none)
  (z:∀h' tk dx,Mdx K s.heap h' e dx C vs (fun y=>if y = "at" then some u1 else if y = "word" then some u0 else none)->R (.ok (.ret .none)) { s with heap:=h',toks:=tk }) :
  codeAny (model P w) A (.call (.ref fI) #[[.ref e,u0,u1],[]]) R s:=by
 obtain⟨cd,c1,c2,c3⟩:=c.cls;have ks:=hp "self" 'g';have ka:=hp "at" 'g';have kw:=hp "word" 'g';refine FH hr X lim lk hcd k1 k2 k3 hp hb fun h1 tk Z hn=>?_
 have q1:(bindL (envOfC qual scope s.heap.objs.size fI cdv).kindOf ((["self", "word", "at"]:List Str).zip [Value.ref e,u0,u1]) fun _=>none) "self" = some (.ref e):=iI (i:=0) #[] rfl rfl (dX ks);have q2:(bindL (envOfC qual scope s.heap.objs.size fI cdv).kindOf ((["self", "word", "at"]:List Str).zip [Value.ref e,u0,u1]) fun _=>none) "word" = some u0:=iI (i:=1) #[] rfl rfl (dX kw);have q3:(bindL (envOfC qual scope s.heap.objs.size fI cdv).kindOf ((["self", "word", "at"]:List Str).zip [Value.ref e,u0,u1]) fun _=>none) "at" = some u1:=iI (i:=2) #[] rfl rfl (dX ka);have I0:h1.Inst e C (fun _=>none):=#[_,Z _ _ hx,rfl,(fun c z=>by cases z),.inl #[rfl,fun _=>rfl]]
 refine TH (VU (RV (SK k1 (dX kw) hn q2 (RV (SK k1 (dX ks) hn q1 (si (X.keeps Z) c1 c2 c3 hw c.sa I0 (fun h2 tk2 I2 kp2 st2=>?_) Within.nil #[])) #[])) #[]));obtain⟨o1,g1,g2,g3,_,_,g6⟩:=st2 _ (Z _ _ hx);obtain⟨dx,g7,g8⟩:=g6 rfl;have nL:s.heap.objs.size≠e:=fun z=>by have:=PB hx;rw[<-z] at this;exact QK _ this
 have U:∀b u,b≠e->h1.get? b=some u->h2.get? b=some u:=fun b u nb J=>kp2 b u nb (fun o0 d0 e0 f0=>by rw[Z _ _ hx] at e0;cases e0;cases f0) J
 have hn2:h2.Ns s.heap.objs.size (bindL (envOfC qual scope s.heap.objs.size fI cdv).kindOf ((["self", "word", "at"]:List Str).zip [Value.ref e,u0,u1]) fun _=>none):=by
  obtain⟨o,es,ep,e1,e2⟩:=hn;exact#[o,es,ep,U _ _ nL e1,e2]
 have X2:K.In h2:=fun b o J=>U b o (fun z=>by rw[z,hK] at J;cases J) ((X.keeps Z) _ _ J)
 refine TH (VU (RV (SK k1 (dX ka) hn2 q3 (RV (SK k1 (dX ks) hn2 q1 (si X2 c1 c2 c3 ha c.sa I2 (fun h3 tk3 I3 kp3 st3=>?_) (Within.cons "word" u0 Within.nil) #[])) #[])) #[]));refine Sk ?_;obtain⟨o3,y1,y2,y3,_,y5,_⟩:=st3 _ g1;have y7:=y5 _ g7;obtain⟨o2,r1,r2,r3,Y⟩:=I3;rw[y1] at r1;cases r1;rcases Y with ⟨Y,_⟩ | ⟨d2,Y,r5,r6⟩
 .rw[y7] at Y;cases Y
 .rw[y7] at Y;cases Y;have nd:s.heap.objs.size<=dx:=PJ (Rh hn.lt) g8;refine z _ _ dx #[fun b u nb J=>kp3 b u nb (fun o0 d0 e0 f0=>?_) (U b u nb (Z _ _ J)),#[_,y1,r2,y3.trans g3,y7],r5,nd,r6];rw[g1] at e0;cases e0;rw[g7] at f0;cases f0;rintro rfl;exact absurd (Qb (PB J) nd) (QK _)
end
def uw (p1 p2 U Z Y p6 p7 J:Pos):List Stmt:=[.Assign [.Attribute (.Name "self" p1) "word" p2] (.Name "word" U) Z,.Assign [.Attribute (.Name "self" Y) "at" p6] (.Name "at" p7) J]
structure XD (K:vF_) (C W fI:Addr) (ps:List Str) (body:List Stmt):Prop where
 k1:XK1 K C W
 hi:PySem.W.findIn K (.ref C) "__init__" = some (some (.ref fI))
 fn:∃(oc:Value) (od:vA_) (name qual:Str) (params:Arguments) (scope:Scope) (kV doc pm:Value) (an:vA_) (cdv ct:Value) (osl:vS_),
  K.lookup fI=some #[oc,od,.func (PySem.W.fnOf name qual params body scope .none kV doc pm an cdv ct),osl]/\oc = .type "function" /\ PySem.W.codeIn K cdv qual=true/\scope.kind = .function/\scope.isCoroutine=false/\scope.isGenerator=false /\
  (∀x∈("self" :: ps:List Str),scope.names.lookup x=some .local)/\∀us:List Value,us.length=ps.length+1->bindArgs (PySem.W.fnOf name qual params body scope .none kV doc pm an cdv ct) #[us,[]]=pure (("self" :: ps:List Str).zip us)
 no:∀x∈ps,PySem.W.findIn K (.ref C) x=some none
structure Mdn (h h':Heap) (e dx C:Addr) (mA:vG_):Prop where
 kp:∀b u,h.get? b=some u->h'.get? b=some u
 ne:dx≠e
 n1:h.objs.size<=e
 n2:h.objs.size<=dx
 at_:∃o,h'.get? e=some o/\o.cls = .ref C/\(∃t0,o.data = .fields #v[.ref t0,.none,.none,.none,.bool false,.none])/\o.dict=some dx
 ns:h'.Ns1 dx mA
def Pq (C W:Addr):(Value.ref C :: .ref W::bE).contains (.type "ValueError")=true/\(Value.ref C :: .ref W::bE).contains (.type "AttributeError")=false/\(Value.ref C :: .ref W::bE).contains (.type "NameError")=false:=#[rfl,rfl,rfl]
def He {K:vF_}{e:Addr}(X:K.In h) (n:h.objs.size<=e):K.lookup e=none:=by
 cases q:K.lookup e with
 |none=>rfl
 |some o=>exact absurd (Qb (PB (X _ _ q)) n) (QK _)
def vZ {b e:Addr}{u:Obj}(q:h.get? b=some u) (n:h.objs.size<=e):b≠e:=fun z=>by rw[z] at q;exact absurd (Qb (PB q) n) (QK _)
section
variable {P:Program}{w:World}{K:vF_}{C W fI:Addr}{u0 u1:Value}
def NA {ps:List Str}{body:List Stmt}{us:vV_}(c:XD K C W fI ps body) (hl:us.length<=sizeLine) (X:K.In s.heap)
  (z:∀h1 e,(∀b u,s.heap.get? b=some u->h1.get? b=some u)->s.heap.objs.size<=e->s.heap.objs.size<=h1.objs.size->(∃t0,h1.get? e=some { cls:=.ref C,data:=.fields #v[.ref t0,.none,.none,.none,.bool false,.none] }) ->
   wpAny (model P w) (A.under (.builtin "type.__call__" #[.ref C::us,[]])) (call (.ref fI) (.ref e::us)) (fun r s'=>r = .none/\Q (.ref e) s') E { s with heap:=h1 }):wpAny (model P w) A (call 'j' us) Q E s:=by
 refine gB_ fun G_ g_=>?_
 obtain⟨nm,q,N,bs,hdct,sn,sub,ab,col,dd,k0,k1,k2,k3,k5,lk⟩:=c.k1.ob;obtain⟨oc,od,name,qual,params,scope,kV,doc,pm,an,cdv,ct,osl,Y,rfl,_⟩:=c.fn;obtain⟨b1,U,Z⟩:=Pq C W;obtain⟨h,g,d,t,os⟩:=s;apply g_;refine FR X lk b1 U Z c.hi Y rfl hl fun h1 e m n=>?_
 obtain⟨t0,J,_⟩:=m.there;exact z h1 e m.keeps n (Rh (Qz n (PB J))) #[t0,J]
def mk2 {p1 p2 Y p4 p5 p6 p7 p8:Pos}(c:XD K C W fI ["word", "at"] (uw p1 p2 Y p4 p5 p6 p7 p8)) (hr:Room (k+1) A) (X:K.In s.heap) (J:s.heap.NoLimit)
  (z:∀h' tk e dx,Mdn s.heap h' e dx C (fun y=>if y = "at" then some u1 else if y = "word" then some u0 else none)->Q (.ref e) { s with heap:=h',toks:=tk }):wpAny (model P w) A (call 'j' [u0,u1]) Q E s:=by
 refine NA c (show 2<=sizeLine by decide) X fun h1 e kp ne sz ⟨t0,hx⟩=>?_
 refine gB_ fun G_ g_=>?_
 obtain⟨oc,od,name,qual,params,scope,kV,doc,pm,an,cdv,ct,osl,lf,_,f1,Z,f3,f4,f5,f6⟩:=c.fn;apply g_;refine SM (Fi (s:={ s with heap:=h1 }) c.k1 (c.no _ 'g') (c.no _ 'g') (hr.make C _ _).depth (X.keeps kp) (J.keeps kp) lf f1 Z f3 f4 f5 (f6 _ rfl) hx ?_ fun h2 tk dx m=>?_)
 .exact He X ne
 .exact#[rfl,z h2 tk e dx #[fun b u U=>m.kp b u (vZ U ne) (kp b u U),m.ne,ne,PJ sz m.nw,let ⟨o,y1,y2,y3,y4⟩:=m.at_;#[o,y1,y2,#[t0,y3],y4],m.ns]]
end
end L2
namespace DL
open PySem PySem.Spec L2
structure Rf2 (K:vF_) (mg:vG_) (c:Str):Prop where
 ex:∃C W fI p1 p2 p3 p4 p5 p6 p7 p8,mg c=some (.ref C)/\PySem.W.nsIn K mainGlobals c=some (some (.ref C))/\PySem.W.keepIn K (.ref C)=true/\XD K C W fI ["word", "at"] (uw p1 p2 p3 p4 p5 p6 p7 p8)
section
variable {g:Gh}{p pos:Pos}{a b:Expr}{fa fb:DE}{t:DA}
def La {J x1:V}(Z:Vals [J,x1] [u0,u1]) (f:Str):fT ((fnm.zip [J,x1]).lookup f) (if f = "at" then some u1 else if f = "word" then some u0 else none):=by
 have r0:RelV J u0:=by cases Z with | cons r _=>exact r
 have r1:RelV x1 u1:=by
  cases Z with | cons _ q=>
  cases q with | cons r _=>exact r
 show fT (([(("word" : Str),J),("at",x1)]:List (Str × V)).lookup f) _;by_cases Y:f = "word"
 .subst Y;exact r0
 .rw[UY,UJ.mpr Y];by_cases U:f = "at"
  .subst U;exact r1
  .rw[UY,UJ.mpr U];simp only[iU Y,iU U];trivial
def xt {α:Type}:∀{l:List α},l.length=2->∃x y,l=[x,y]
 |[x,y],_=>#[x,y,rfl]
end
def qk (f:Str):Option Nat:=if f = "word" then some 0 else if f = "at" then some 1 else none
def rB (cs:List Str) (f:Str):D->Option D
 |.exc c ds=>if cs.contains c=true then (qk f).bind fun i=>ds[i]? else none
 |_=>none
def ah (c c':Str):Bool:=c == c'||c' == "WideError"
def md (cs:List Str) (c':Str):D->Option D
 |.exc c _=>if cs.contains c=true then some (.bl (ah c c')) else none
 |_=>none
def pd (cs:List Str):D->Option D
 |.exc c _=>if cs.contains c=true then some (.bl true) else none
 |_=>none
structure RfX (K:vF_) (mg:vG_) (cs':List Str) (c:Str):Prop where
 ex:∃C,PySem.W.nsIn K mainGlobals c=some (some (.ref C))/\XC K C/\PySem.W.kitOne K (.ref C) (.type "ValueError")=some true/\(∀x∈fnm,PySem.W.findIn K (.ref C) x=some none) /\
  ∀c'∈cs',∃C',mg c'=some (.ref C')/\PySem.W.kitOne K (.ref C) (.ref C')=some (ah c c')
section
variable {g:Gh}{a:Expr}{fa:DE}{pos:Pos}
def pO {e C:Addr}(I:Inv X pins σ H s) (h:ExO H e C xs) :
  ∃o,s.heap.get? e=some o/\o.cls = .ref C/\(∃vs,o.data = .fields vs)/\(xs=[]\/∃dx mA,o.dict=some dx/\s.heap.Ns1 dx mA/\∀f,fT ((fnm.zip xs).lookup f) (mA f)):=by
 obtain⟨o,e1,U,J,_,e4⟩:=h;refine#[o,(I.hok _ _ e1).1,U,J,e4.imp id ?_];rintro⟨dx,od,d1,d2⟩;obtain⟨_,mA,Y,Z⟩:=I.hok _ _ d2;exact#[dx,mA,d1,Y,Z]
def vT {f:Str}(R:∀c∈cs,RfX X.K X.mg cs' c) (ha:EO X g a fa) (hb:attributeBase a f X.env (eval a X.env)=eval a X.env):EO X g (.Attribute a f pos) (j4 (rB cs f) fa):=by
 refine#[fun pins s σ H Q I h=>?_];refine h.elim fun fa0 O s0 d s1 G0 e0 q=>?_
 refine A7 e0 fun x s2 h1 h2=>?_
 refine Q0 h2 fun d' U h4=>?_
 cases h4;refine EB hb (v3 (ha.pe pins s σ H (fun v H1=>∃f1 O1,StE fa0 O H f1 O1 H1/\GI X.K g σ H1 f1 O1 s2/\Rep X.K (NN g.F f1 O1) f1 H1 x v) I #[fa0,O,s0,x,s2,G0,h1,fun v H1 f1 O1 a1 a2 a3=>#[f1,O1,a1,a2,a3]]) fun u s3 ⟨v,H1,I1,rv,f1,O1,b1,b2,b3⟩=>?_);cases x with
 |exc c ds=>
  have U:(if cs.contains c=true then (qk f).bind fun i=>ds[i]? else none)=some d:=U;by_cases hc:cs.contains c=true
  .rw[iR hc] at U;obtain⟨i,i1,i2⟩:=RI.mp U;simp only[Rep] at b3;obtain⟨e,C,xs,rfl,n1,eo,rs⟩:=b3;cases rv;obtain⟨C2,m1,m2,m3,m4,m5⟩:=(R c (by simpa using hc)).ex;rw[n1] at m1;cases m1;obtain⟨o,o1,o2,⟨vs,o3⟩,o4⟩:=pO I1 eo;obtain⟨Z,Y,y2⟩:=Reps.get rs i2;rcases o4 with rfl | ⟨dx,mA,z1,z2,z3⟩
   .cases Y
   have fi:f∈fnm/\((fnm.zip xs).lookup f)=some Z:=by
    unfold qk at i1;by_cases w1:f = "word"
    .subst w1;rw[iR rfl] at i1;cases i1;cases xs with
     |nil=>cases Y
     |cons x1 r=>cases Y;exact#[by simp[fnm],rfl]
    .rw[iU w1] at i1;by_cases w2:f = "at"
     .subst w2;rw[iR rfl] at i1;cases i1;cases xs with
      |nil=>cases Y
      |cons x1 r=>
       cases r with
       |nil=>cases Y
       |cons x2 r=>cases Y;exact#[by simp[fnm],rfl]
     .rw[iU w2] at i1;cases i1
   have J:=z3 f;rw[fi.2] at J;cases mv:mA f with
   |none=>rw[mv] at J;exact J.elim
   |some u0=>
    rw[mv] at J;have J:RelV Z u0:=J;obtain⟨hh,gg,dd,tt,oo⟩:=s3;refine Ml I1.kIn o1 o2 o3 z1 z2.ns mv m2.f0 m2.f1 m2.f2 (m4 f fi.1) m2.f4 (fun id z=>?_) #[Z,H1,I1.tok _,J,q Z H1 f1 O1 b1 b2 y2];subst z;cases Z <;> first | (obtain⟨_,z⟩:=J;cases z) | cases J
  .rw[iU hc] at U;cases U
 |_=>cases U
def HU {e C:Addr}{c:Value}{b:Bool}{Q:VK}(I:Inv X pins σ H s) (h:ExO H e C xs) (J:XC X.K C) (k:PySem.W.kitOne X.K 'j' c=some b) (q:Q (.bl b) H) :
  wpAny 'f' X.A (call (.builtin "isinstance") [.ref e,c]) (EP X pins σ Q) X.xe s:=by
 obtain⟨o,U,Z,_⟩:=pO I h;exact Sb J.kit I.kIn #[o,U,Z] k (fun z=>nomatch z) fun Y=>#[.bl b,H,I.tok Y,rfl,q]
def vd {c:Value}{v:V}(U:∀u,RelV v u->u=c):CallR X (.builtin "isinstance") (fun xs H Q=>∃e C b ys,xs=[.ref e,v]/\ExO H e C ys/\XC X.K C/\PySem.W.kitOne X.K 'j' c=some b/\Q (.bl b) H):=by
 intro pins s σ H xs us Q I r h;refine gB_ fun G_ g_=>?_
 obtain⟨e,C,b,ys,rfl,h1,h2,J,q⟩:=h;obtain⟨u,c0,rfl,Y,Z⟩:=qz r;apply g_;cases Y;cases U _ Z;exact HU I h1 h2 J q
def vL {p:D->Option D}{c:Value}{v:V}{f:Str->Bool}(hp:∀d b,p d=some b->∃c0 ds,d = .exc c0 ds/\c0∈cs/\b = .bl (f c0)) (R:∀c0∈cs,∃C,PySem.W.nsIn X.K mainGlobals c0=some (some 'j')/\XC X.K C/\PySem.W.kitOne X.K 'j' c=some (f c0))
  (σ:L2.St) (H:Hp) (Q:VK) (hQ:liftE X.K g (j4 p fa) σ H Q):fu (fun xs H Q=>∃e C b ys,xs=[.ref e,v]/\ExO H e C ys/\XC X.K C/\PySem.W.kitOne X.K 'j' c=some b/\Q (.bl b) H) (qq (liftE X.K g fa) (qq (tC v) sG)) σ H Q:=by
 refine hQ.elim fun Y O s d s' I e k=>?_
 refine A7 e fun x s1 h1 h=>?_
 refine Q0 h fun d' h3 h=>?_
 cases h;obtain⟨c0,ds,rfl,m,rfl⟩:=hp _ _ h3;refine#[Y,O,s,_,s1,I,h1,fun y H1 f1 O1 U I1 J=>?_];simp only[Rep] at J;obtain⟨a,C,xs,rfl,n1,Z,rs⟩:=J;obtain⟨C2,m1,m2,m3⟩:=R c0 m;rw[n1] at m1;cases m1;exact#[a,C,_,xs,rfl,Z,m2,m3,k _ H1 f1 O1 U I1 (by simp only[Rep])]
def DJ (d b:D) (h:md cs c' d=some b):∃c0 ds,d = .exc c0 ds/\c0∈cs/\b = .bl (ah c0 c'):=by
 cases d with
 |exc c ds=>
  have h:(if cs.contains c=true then some (.bl (ah c c')) else none)=some b:=h;by_cases z:cs.contains c=true
  .rw[iR z] at h;cases h;exact#[c,ds,rfl,by simpa using z,rfl]
  .rw[iU z] at h;cases h
 |_=>cases h
def MB (d b:D) (h:pd cs d=some b):∃c0 ds,d = .exc c0 ds/\c0∈cs/\b = .bl ((fun _=>true) c0):=by
 cases d with
 |exc c ds=>
  have h:(if cs.contains c=true then some (.bl true) else none)=some b:=h;by_cases z:cs.contains c=true
  .rw[iR z] at h;cases h;exact#[c,ds,rfl,by simpa using z,rfl]
  .rw[iU z] at h;cases h
 |_=>cases h
def ED {c':Str}{C':Addr}{p p2:Pos}(R:∀c∈cs,RfX X.K X.mg cs' c) (hc:c'∈cs') (hg:Gl X "isinstance") (hm:X.mg "isinstance" = none) (hgc:Gl X c') (J:X.mg c'=some (.ref C')) (ha:EO X g a fa)
  (hd:(c' == ("__debug__" : Str))=false:=by decide) (Y:starEach [.Name c' p2] X.env=(false,eval (.Name c' p2) X.env)::starEach [] X.env:=by rfl)
  (he:starEach [a,.Name c' p2] X.env=(false,eval a X.env)::starEach [.Name c' p2] X.env:=by rfl) (Z:(backTo pos (starEach [.Name c' p2] X.env)).any (·.1)=false:=by rfl) :
  EO X g (.Call (.Name "isinstance" p) [a,.Name c' p2] [] pos) (j4 (md cs c') fa):=
 EO.w (hU (vd (c:=.ref C') (v:=.ref C') fun u r=>r) hg hm lU (P1 ha.pe (P1 (zr (v:=.ref C') hgc J rfl hd) V3 Y) he) #[] #[] he Z)
  (vL (f:=fun U=>ah U c') DJ fun U m=>by
   obtain⟨C,m1,m2,m3,m4,m5⟩:=(R U m).ex;obtain⟨C2,z1,z2⟩:=m5 c' hc;rw[J] at z1;cases z1;exact#[C,m1,m2,z2])
def LY {p p2:Pos}(R:∀c∈cs,RfX X.K X.mg cs' c) (hg:Gl X "isinstance") (hm:X.mg "isinstance" = none) (Z:Gl X "ValueError") (U:X.mg "ValueError" = none) (ha:EO X g a fa)
  (J:starEach [.Name "ValueError" p2] X.env=(false,eval (.Name "ValueError" p2) X.env)::starEach [] X.env:=by rfl)
  (he:starEach [a,.Name "ValueError" p2] X.env=(false,eval a X.env)::starEach [.Name "ValueError" p2] X.env:=by rfl) (Y:(backTo pos (starEach [.Name "ValueError" p2] X.env)).any (·.1)=false:=by rfl) :
  EO X g (.Call (.Name "isinstance" p) [a,.Name "ValueError" p2] [] pos) (j4 (pd cs) fa):=
 EO.w (hU (vd (c:=.type "ValueError") (v:=.ty "ValueError") fun u r=>r) hg hm lU (P1 ha.pe (P1 (tD (v:=.ty "ValueError") Z U 'i' rfl #[] #[]) V3 J) he) #[] #[] he Y)
  (vL (f:=fun _=>true) MB fun c0 m=>by
   obtain⟨C,m1,m2,m3,_⟩:=(R c0 m).ex;exact#[C,m1,m2,m3])
end
structure RfA (K:vF_) (mg:vG_) (cs cs':List Str):Prop where
 rx:∀c∈cs,RfX K mg cs' c
 mm:∀c∈cs',∃C,mg c=some (.ref C)
 ve:mg "ValueError" = none
section
variable {g:Gh}{p pos:Pos}{a:Expr}{t:DA}{fa:DE}
def OY {c':Str}{p p2:Pos}(R:RfA X.K X.mg cs cs') (J:cs'.contains c'=true) (hg:Gl X "isinstance") (hm:X.mg "isinstance" = none) (Z:Gl X c') (ha:EO X g a fa)
  (hd:(c' == ("__debug__" : Str))=false:=by decide) (U:starEach [.Name c' p2] X.env=(false,eval (.Name c' p2) X.env)::starEach [] X.env:=by rfl)
  (he:starEach [a,.Name c' p2] X.env=(false,eval a X.env)::starEach [.Name c' p2] X.env:=by rfl) (Y:(backTo pos (starEach [.Name c' p2] X.env)).any (·.1)=false:=by rfl) :
  EO X g (.Call (.Name "isinstance" p) [a,.Name c' p2] [] pos) (j4 (md cs c') fa):=by
 have J:c'∈cs':=by simpa using J
 obtain⟨C,e⟩:=R.mm c' J;exact ED R.rx J hg hm Z e ha hd U he Y
end
section
variable {K:vF_}{C W fI:Addr}
def xc_mk (Y:PySem.W.hasDictIn K C=true) (f1:PySem.W.findIn K 'j' "__getattribute__" = some (some (.builtin "BaseException.__getattribute__"))) (Z:PySem.W.findIn K 'j' "__getattr__" = some none)
  (U:PySem.W.subIn K 'j' (.type "BaseException")=some true) (f5:PySem.W.subIn K 'j' (.type "object")=some true) (J:PySem.W.findIn K 'j' "__class__" = some (some (.builtin "object.__class__"))):XC K C:=#[Y,f1,Z,U,f5,J]
def xk1_mk {nm q:Str}{N:Addr}{bs:vV_}{sn:List Str}{sub:vV_}{dd:vA_}(x:XC K C) (U:K.lookup C=some (excClassObj nm q C N bs (.ref W::bE) hdct sn sub ab col dd k0 k1 k2 k3 k5 cO))
  (J:PySem.W.findIn K 'j' "__setattr__" = some (some (.builtin "object.__setattr__"))):XK1 K C W:=#[x,#[nm,q,N,bs,hdct,sn,sub,ab,col,dd,k0,k1,k2,k3,k5,U],J]
def rf2_mk (X:K.In h) (G:h.Ns mainGlobals mg) {kV doc pm:Value}(a:PySem.W.nsIn K mainGlobals c=some (some 'j')) (Y:PySem.W.keepIn K 'j'=true)
  (x:XK1 K C W) (hi:PySem.W.findIn K 'j' "__init__" = some (some (.ref fI))) (U:PySem.W.findIn K 'j' "word" = some none) (Z:PySem.W.findIn K 'j' "at" = some none)
  (lf:K.lookup fI=some #[.type "function",od,.func (PySem.W.fnOf name qual params [.Assign [.Attribute (.Name "self" p1) "word" p2] (.Name "word" p3) p4,.Assign [.Attribute (.Name "self" p5) "at" p6] (.Name "at" p7) p8] scope .none kV doc pm an cdv ct),osl]) (cd:PySem.W.codeIn K cdv qual=true)
  (s1:scope.kind = .function/\scope.isCoroutine=false/\scope.isGenerator=false/\∀x∈(["self", "word", "at"]:List Str),scope.names.lookup x=some .local)
  (s2:∀us:List Value,us.length=3->bindArgs (PySem.W.fnOf name qual params [.Assign [.Attribute (.Name "self" p1) "word" p2] (.Name "word" p3) p4,.Assign [.Attribute (.Name "self" p5) "at" p6] (.Name "at" p7) p8] scope .none kV doc pm an cdv ct) #[us,[]]=pure ((["self", "word", "at"]:List Str).zip us)):Rf2 K mg c:=
 #[C,W,fI,p1,p2,p3,p4,p5,p6,p7,p8,Tc X G a,a,Y,x,hi,#[_,od,name,qual,params,scope,kV,doc,pm,an,cdv,ct,osl,lf,rfl,cd,s1.1,s1.2.1,s1.2.2.1,s1.2.2.2,s2],fun y J=>by
  rcases xo.mp J with rfl | J
  .exact U
  .rcases PV.mp J with rfl
   exact Z]
def rfx_mk (a:PySem.W.nsIn K mainGlobals c=some (some 'j')) (x:XC K C) (v:PySem.W.kitOne K 'j' (.type "ValueError")=some true) (U:PySem.W.findIn K 'j' "word" = some none) (Y:PySem.W.findIn K 'j' "at" = some none)
  (m:∀c'∈cs',∃C',mg c'=some (.ref C')/\PySem.W.kitOne K 'j' (.ref C')=some (ah c c')):RfX K mg cs' c:=#[C,a,x,v,fun y J=>by
  rcases xo.mp J with rfl | J
  .exact U
  .rcases PV.mp J with rfl
   exact Y,m]
def mem0 {P:Str->Prop}:∀c∈([]:List Str),P c:=fun _ h=>by cases h
def memC {P:Str->Prop}(h:P c) (r:∀c∈l,P c):∀x∈c::l,P x:=fun x J=>by
 rcases xo.mp J with rfl | J
 .exact h
 .exact r x J
def kit_mk (X:K.In h) (G:h.Ns mainGlobals mg) {b:Bool}(a:PySem.W.nsIn K mainGlobals c'=some (some (.ref C'))) (k:PySem.W.kitOne K 'j' (.ref C')=some b):∃C',mg c'=some (.ref C')/\PySem.W.kitOne K 'j' (.ref C')=some b:=#[C',Tc X G a,k]
def cls_mk (X:K.In h) (G:h.Ns mainGlobals mg) (a:PySem.W.nsIn K mainGlobals c=some (some 'j')):∃C,mg c=some 'j':=#[C,Tc X G a]
def rfa_mk (X:K.In h) (G:h.Ns mainGlobals mg) (v:PySem.W.nsIn K mainGlobals "ValueError" = some none) (a:∀c∈cs,RfX K mg cs' c) (b:∀c∈cs',∃C,mg c=some 'j'):RfA K mg cs cs':=#[a,b,Qv X G v]
end
end DL
namespace L2
open PySem PySem.W PySem.Spec PySem.Builtin PyProof.Rows
structure Fly (n:Nat) (H:Hp) (h:Heap) (e C dx:Addr):Prop where
 en:n<=e
 eh:H e=none
 ob:∃oe vs,h.get? e=some oe/\oe.cls = .ref C/\oe.dict=some dx/\oe.data = .fields vs/\1<vs.size /\
  (vs[1]? = some .none\/∃T oT ts,vs[1]? = some (.ref T)/\n<=T/\H T=none/\T≠e/\h.get? T=some oT/\oT.data = .fields ts/\ts[3]? = some .none)
structure Noted (n:Nat) (H:Hp) (l:List Env) (h h':Heap) (e C dx:Addr):Prop where
 fl:Fly n H h' e C dx
 kl:∃ch:List Addr,(∀b∈ch,n<=b/\H b=none)/\∀b o,b ∉ ch->b ∉ M9 l->h.get? b=some o->h'.get? b=some o
 sl:∀b o,b∈M9 l->h.get? b=some o->∃sl,h'.get? b=some { o with slots:=sl }
 th:∀b o,h.get? b=some o->∃o',h'.get? b=some o'
def Noted.kp {e C:Addr}(z:Noted n H l h h' e C dx) (b:Addr) (o:Obj) (c:b<n\/H b≠none) (Z:b ∉ M9 l) (q:h.get? b=some o):h'.get? b=some o:=by
 obtain⟨ch,J,U⟩:=z.kl;refine U b o (fun m=>?_) Z q;obtain⟨Y,d2⟩:=J b m;rcases c with c | c
 .exact absurd c (Nat.not_lt.mpr Y)
 .exact c d2
def MC (f:Array Value->Array Value) (o:Obj):(Obj.mapFields f o).dict=o.dict:=by
 unfold Obj.mapFields;split <;> rfl
section
variable {M:Model}{L e C:Addr}{n0:Nat}{Q:Unit->Shared->Prop}
def xg {oe:Obj}{vs:vR_}(hfr:A.frames=some (env::outer)) (hl:s.heap.FunFrames base (env::outer)) (hf:env.frame=some L) (hb:n0<=s.heap.objs.size) (hH:∀a,s.heap.objs.size<=a->H a=none)
  (en:n0<=e) (eh:H e=none) (he:s.heap.get? e=some oe) (hc:oe.cls = .ref C) (hx:oe.dict=some dx) (hd:oe.data = .fields vs) (Y:1<vs.size)
  (h:∀h',Noted n0 H (env::outer) s.heap h' e C dx->(∀b o,b ∉ M9 (env::outer)->b≠e->s.heap.get? b=some o->h'.get? b=some o)->Q () { s with heap:=h' }) :
  wpAny M A (do let a <-frameOf env;let pl <-entryPlaceOf L hadNext;let b <-EntryCells.newEntry head a .none (rawInt L) .none pl;setField (.ref e) 1 b) (fun _ s'=>wpAny M A (setFlight (.ref e) none) Q E s') E s:=by
 have ne:e ∉ M9 (env::outer):=fun m=>by
  obtain⟨_,o,ho,U⟩:=hl.mem m;rw[he] at ho;cases ho;exact U vs hd
 refine gV (wpAny_frameOf_fun hfr hl hf fun h1 k1=>?_);refine gV (wpAny_entryPlaceOf fun pl hp=>?_);unfold EntryCells.newEntry newFields;refine gV (QQ ?_ (hp.sizeOk5 _ _ _ _ _));generalize eT:({ cls:=.type "traceback",dict:=none,data:=.fields ([head,.ref L,.none,rawInt L,.none]++(if pl.isEmpty then List.replicate 6 Value.none else pl)).toArray }:Obj)=oT;have dT:oT.data = .fields ([head,.ref L,.none,rawInt L,.none]++(if pl.isEmpty then List.replicate 6 Value.none else pl)).toArray:=by rw[<-eT]
 have e1:h1.get? e=some oe:=(k1.2.1 e ne).trans he;have Z:h1.objs.size≠e:=QI (PB e1);have e2:=PF oT e1;refine Su e2 hd Y ?_;have d3:=SY hd (·.setIfInBounds 1 (Value.ref h1.objs.size));have e3:=Ri (Obj.mapFields (·.setIfInBounds 1 (Value.ref h1.objs.size))) e2 (TZ d3);have t3:=(QL (h1.push oT) (Obj.mapFields (·.setIfInBounds 1 (Value.ref h1.objs.size))) Z.symm).trans (Qq h1 (by rw[<-eT];rfl));unfold setFlight;refine gV (PZ e3 d3 (x:=.ref h1.objs.size) (by simp[Y]) ?_);rw[iR (show (Value.ref h1.objs.size != Value.none)=true from by simp)];refine Su t3 dT (by simp only[Qc,Qo,PX,RN];omega) ?_;generalize J:(((h1.push oT).update e (Obj.mapFields (·.setIfInBounds 1 (Value.ref h1.objs.size)))).update h1.objs.size (Obj.mapFields (·.setIfInBounds 3 ((none:vA_).elim Value.none fun f=>rawInt f))))=h4;have kp:∀b o,b≠e->h1.get? b=some o->h4.get? b=some o:=fun b o nb q=>by
  rw[<-J,QL _ _ (QI (PB q)),QL _ _ (Qd nb)];exact PF _ q
 have kq:∀b o,b ∉ M9 (env::outer)->b≠e->s.heap.get? b=some o->h4.get? b=some o:=fun b o U nb q=>kp b o nb ((k1.2.1 b U).trans q)
 have sT:h1.objs.size=s.heap.objs.size:=k1.1.symm▸rfl;have d5:=SY dT (·.setIfInBounds 3 ((none:vA_).elim Value.none fun f=>rawInt f));refine h h4 #[#[en,eh,_,_,?_,?_,?_,d3,by simpa using Y,.inr #[h1.objs.size,_,_,by simp[Y],(by rw[sT];exact hb),hH _ (by rw[sT];exact tx _),Z,?_,d5,?_]],#[[e],fun b m=>by rw[PV.mp m];exact#[en,eh],fun b o m U q=>kq b o U (fun y=>m (by simp[y])) q],fun b o m q=>?_,fun b o q=>?_] kq
 .rw[<-J,QL _ _ Z];exact e3
 .rw[Obj.cls_mapFields];exact hc
 .rw[MC];exact hx
 .rw[<-J];exact Ri _ t3 (TZ d5)
 .rcases hp with rfl | ⟨_,_,_,_,_,_,_,rfl⟩ <;> simp
 .obtain⟨sl,q1⟩:=k1.2.2 b o q;exact#[sl,kp b _ (fun y=>ne (y▸m)) q1]
 .by_cases y:b=e
  .subst y;have ge:h4.get? b=some (Obj.mapFields (·.setIfInBounds 1 (Value.ref h1.objs.size)) oe):=by rw[<-J,QL _ _ Z];exact e3
   exact#[_,ge]
  .obtain⟨sl,q1⟩:=k1.2.2 b o q;exact#[_,kp b _ y q1]
def tN (J:A.frames=some (env::outer)) (hl:s.heap.FunFrames base (env::outer)) (hf:env.frame=some L) (hb:n0<=s.heap.objs.size) (hH:∀a,s.heap.objs.size<=a->H a=none) (f:Fly n0 H s.heap e C dx)
  (h:∀h',Noted n0 H (env::outer) s.heap h' e C dx->Q () { s with heap:=h' }):wpAny M A (noteFrame (.ref e) env) (fun _ s'=>wpAny M A (setFlight (.ref e) none) Q E s') E s:=by
 refine gB_ fun G_ g_=>?_
 obtain⟨en,eh,oe,vs,Z,e2,e3,e4,e5,z⟩:=f;apply g_;unfold noteFrame;simp only[hf];rcases z with z | ⟨T,oT,ts,z1,z2,z3,z4,z5,z6,z7⟩
 .refine gV (PZ Z e4 z ?_);rw[iU #[]];exact xg J hl hf hb hH en eh Z e2 e3 e4 e5 fun h' n _=>h h' n
 .refine gV (PZ Z e4 z1 ?_);rw[iR (show (Value.ref T != Value.none)=true from by simp)];refine gV (PZ z5 z6 z7 ?_);rw[iU (show ¬ ((Value.none == rawInt L)=true) from by simp[rawInt])];refine gV (Su z5 z6 (VV.mp z7).1 ?_);have U:∀b,b≠T->(s.heap.update T (Obj.mapFields (·.setIfInBounds 3 Value.none))).get? b=s.heap.get? b:=fun b nb=>QL _ _ (Qd nb)
  have nT:T ∉ M9 (env::outer):=fun m=>by
   obtain⟨_,o,ho,Y⟩:=hl.mem m;rw[z5] at ho;cases ho;exact Y ts z6
  have tT:=Ri (Obj.mapFields (·.setIfInBounds 3 Value.none)) z5 (TZ (SY z6 _));have sz:(s.heap.update T (Obj.mapFields (·.setIfInBounds 3 Value.none))).objs.size=s.heap.objs.size:=Heap.size_update _ _ _;refine xg (s:={ s with heap:=s.heap.update T (Obj.mapFields (·.setIfInBounds 3 Value.none)) }) J (hl.of_keeps fun b o q Y=>#[o,(U b fun y=>?_).trans q,rfl]) hf (by rw[sz];exact hb) (fun a q=>hH a (by rw[sz] at q;exact q)) en eh ((U e (Qd z4)).trans Z) e2 e3 e4 e5 fun h' n kq=>h h' #[n.fl,#[[e,T],fun b m=>?_,fun b o m Y q=>kq b o Y (fun y=>m (by simp[y])) ((U b fun y=>m (by simp[y])).trans q)],fun b o m q=>n.sl b o m ((U b fun y=>nT (y▸m)).trans q),fun b o q=>?_]
  .rw[y,z5] at q;cases q;exact Y ts z6
  .rcases xo.mp m with rfl | m
   .exact#[en,eh]
   .rw[PV.mp m];exact#[z2,z3]
  .by_cases y:b=T
   .subst y;exact n.th _ _ tT
   .exact n.th b o ((U b y).trans q)
end
end L2
namespace L2
open PySem PySem.W PySem.Spec PyProof.Rows
def aV (P:Program) (w:World):V4:=fun outer H0 s0 E ev s'=>∃e C dx H',ev = .ref e/\Fly s0.heap.objs.size H' s'.heap e C dx/\s'.os=s0.os/\AllBare s'.gens/\Un (M9 outer) [] H0 H' s0.heap s'.heap/\HOk P w H' s'.heap/\E 'j' (some dx) H'
def Fly.less {e C:Addr}(f:Fly n H h e C dx) (l:m<=n):Fly m H h e C dx:=by
 obtain⟨en,eh,oe,vs,e1,U,e3,e4,e5,z⟩:=f;refine#[PJ l en,eh,oe,vs,e1,U,e3,e4,e5,z.imp id ?_];rintro⟨T,Z,Y,J,z2,z⟩;exact#[T,Z,Y,J,PJ l z2,z]
section
variable {e C:Addr}
theorem Noted.hok (I:Inv X pins σ H s) (U:∀b∈M9 l,H b=none) (z:Noted n H l s.heap h' e C dx):HOk X.prog X.w H h':=fun b u q=>by
 refine(I.hok b u q).stay (fun c v J r=>z.kp c v (.inr ?_) (fun m=>?_) r) (fun _ r=>r) fun _ _ r=>r
 .rcases J with rfl | J
  .rw[q];simp
  .rw[J];simp
 .have:=U c m;rcases J with rfl | J
  .rw[q] at this;cases this
  .rw[J] at this;cases this
def Iy (I:Inv X pins σ H s) (hx:X.ex=[]) (hs:X.stack=X.env::X.outer) (z:Noted X.s₀.heap.objs.size H X.stack s.heap h' e C dx):Un X.fs [] X.H₀ H X.s₀.heap h':=by
 have J:=I.base;rw[hx] at J;have sub:∀b∈X.fs,b∈M9 X.stack:=fun b m=>by
  rw[hs];unfold M9;rw[RT];split
  .exact m
  .exact Pz _ m
 have Z:∀b o,X.s₀.heap.get? b=some o->b ∉ X.fs->b ∉ M9 X.stack:=fun b o q Y m=>by
  rcases xo.mp (I.stkSub b m) with y | y
  .exact absurd (Qb (PB q) (by rw[y];exact I.ok.above)) (QK _)
  .exact Y y
 refine#[fun b o q m Y U=>z.kp b o (.inl (PB q)) (Z b o q Y) (J.keep b o q m Y U),fun b o q m Y U=>?_,fun b o q m U=>J.free b o q m U,fun b o q U=>?_,J.tups,J.frzs,J.tbls]
 .obtain⟨sl,r⟩:=J.slot b o q m Y U;obtain⟨sl2,r2⟩:=z.sl b _ (sub b Y) r;exact#[sl2,r2]
 .obtain⟨o1,r⟩:=J.there b o q U;exact z.th b o1 r
end
section
variable {P:Program}{w:World}{K:vF_}{N:List Str}{f:Addr}{cd:Value}{s0:Shared}{H0:Hp}{E:XK}{e C:Addr}
def GZ (I:Inv (S4 (aV P w) P w K mg base N qual scope f cd A outer s0 H0 E) pins σ H s) (z:Fly s0.heap.objs.size H s.heap e C dx) (q:E 'j' (some dx) H):(S4 (aV P w) P w K mg base N qual scope f cd A outer s0 H0 E).xe (.ref e) s:=by
 show wpAny (model P w) (A.deeper (envOfC qual scope s0.heap.objs.size f cd)) (leaving (envOfC qual scope s0.heap.objs.size f cd) (.ref e)) _ _ s;unfold leaving;refine gV (tN (H:=H) (base:=base) (n0:=s0.heap.objs.size) I.ok.frames I.stack rfl I.sz (fun a l=>I.hok.fresh l) z fun h' y=>?_);exact#[e,C,dx,H,rfl,y.fl,I.os,I.bare,Iy I rfl rfl y,y.hok I I.stkFree,q]
end
section
variable {E:XK}{ev:Value}{e C:Addr}
def Inv.noted {s1:Shared}{t':Nat}(I1:Inv X pins σ H1 s1) (I:Inv X pins σ H s) (z:Noted s1.heap.objs.size H X.stack s.heap h' e C dx):Inv X pins σ H { s with heap:=h',toks:=t' }:=by
 obtain⟨ch,J,U⟩:=z.kl;refine I.call (g':=s.gens) (d':=s.drawn) (t':=t') (ch:=ch) #[fun b o q _ nf Z=>U b o Z nf q,fun b o q _ m _=>z.sl b o m q,fun _ _ _ m _=>m,fun b o q _=>z.th b o q,fun _ _ q=>q,fun _ _ _ q=>q,fun b ps q=>#[#v[],by simpa using q]] (z.hok I I.stkFree) I.bare fun b m=>?_
 obtain⟨_,f2,_,f4,f5,Y⟩:=I1.fpOk (H':=H) (J b m).1 (J b m).2;exact#[f4,f2,f5,Y]
def Inv.thrown (I:Inv X pins σ H s) (h:aV X.prog X.w X.stack H s E ev s'):∃e C dx H',ev = .ref e/\Inv X pins σ H' s'/\Fly s.heap.objs.size H' s'.heap e C dx/\E 'j' (some dx) H':=by
 refine gB_ fun G_ g_=>?_
 obtain⟨e,C,dx,H',rfl,fl,os,Y,un,U,q⟩:=h;obtain⟨Z,g,d,t,J⟩:=s';obtain rfl:J=s.os:=os;apply g_;exact#[e,C,dx,H',rfl,I.call (h':=Z) (g':=g) (d':=d) (t':=t) (ch:=[]) un U Y (fun b z=>absurd z 'g'),fl,q]
end
section
variable {w:World}{K:vF_}{C:Addr}
def Kr {x:Sem Value}{Q:Flow->Shared->Prop}{J:Obj}(lk:K.lookup C=some J) (Z:J.cls = .type "type") (f4:subIn K 'j' (.type "BaseException")=some true) (hh:A.handled=none)
  (h:wpAny 'd' A x (fun v s1=>∃e oe,v = .ref e/\K.In s1.heap/\s1.heap.get? e=some oe/\oe.cls = .ref C/\(∃t0,oe.data = .fields #v[.ref t0,.none,.none,.none,.bool false,.none])/\E (.ref e) s1) E s):wpAny 'd' A (raiseStmt env (some x) none) Q E s:=by
 unfold raiseStmt;refine gV (Qg h (fun v s1 z=>?_) fun _ _ y=>y);refine gB_ fun G_ g_=>?_
 obtain⟨e,⟨oc,od,dt,sl⟩,rfl,X,he,hc,⟨t0,Y⟩,U⟩:=z;apply g_;cases hc;cases Y;obtain⟨hp,g,d,tk,os⟩:=s1;have hC:=X _ _ lk;have L:=Td (M:=model prog w) X f4
 repeat (first | with_reducible refine QD he ?_ | with_reducible refine L.at ?_ | (with_reducible refine QD hC ?_;rw[Z]) | wp_step)
 exact wpAny_raiseNew_none hh U
def Cv {x:Expr}{pos:Pos}{Q:Flow->Shared->Prop}{J:Obj}(lk:K.lookup C=some J) (U:J.cls = .type "type") (Z:subIn K 'j' (.type "BaseException")=some true) (Y:A.handled=none)
  (h:wpAny 'd' A (eval x env) (fun v s1=>∃e oe,v = .ref e/\K.In s1.heap/\s1.heap.get? e=some oe/\oe.cls = .ref C/\(∃t0,oe.data = .fields #v[.ref t0,.none,.none,.none,.bool false,.none])/\E (.ref e) s1) E s):wpAny 'd' A (exec (.Raise (some x) none pos) env) Q E s:=by
 rw[arm_exec_Raise];simp only[evalOpt,Option.map];refine gV (RW (Kr (K:=K) (C:=C) lk U Z Y ?_));refine gV (Qg h (fun v s3 z=>?_) fun _ _ y=>y);exact gV (RW (td z))
end
end L2
namespace DL
open PySem PySem.Spec L2
abbrev Rx:=Sum D (Str × List D)
abbrev M6:=List D->Option FS->Option (Rx × Option FS)
def Bi (K:vF_) (N:vB_) (fa:vA_) (H:Hp) (c:Str) (es:vD_) (G:Addr->Addr->Prop):Prop:=∀C dx od xs,PySem.W.nsIn K mainGlobals c=some (some 'j')->H dx=some (.frz od (.xd (fnm.zip xs)))->Reps K N fa H es xs->G C dx
def OL (K:vF_) (n:Nat) (m:M6):Sp:=fun vs H Q E=>∃(F:vB_) (fa:vA_) (ds:vD_) (fs:vO_) (r:Rx) (fs':vO_),
 (∀b,F b->H b≠none)/\(∀a,fa=some a->F a)/\Reps K F fa H ds vs/\FeedR F H fa fs/\m ds fs=some (r,fs')/\ds.length=n /\
  (∀d,r = .inl d->∀v H' fa',Stp fa [] H fa' [] H'->FeedR (fun b=>F b\/fa'=some b) H' fa' fs'->Rep K (fun b=>F b\/fa'=some b) fa' H' d v->Q v H') /\
  (∀c es,r = .inr (c,es)->∀H' fa',Stp fa [] H fa' [] H'->FeedR (fun b=>F b\/fa'=some b) H' fa' fs'->Bi K (fun b=>F b\/fa'=some b) fa' H' c es fun C dx=>E 'j' (some dx) H')
abbrev wg (P:Program) (w:World) (K:vF_) (mg:vG_) (base:Heap) (k:Nat) (f:Addr) (fd:FuncData) (ps:List Str) (m:M6):Prop:=FnOk P w K mg base (aV P w) k f fd ps (OL K ps.length m)
structure CalX (P:Program) (w:World) (K:vF_) (mg:vG_) (base:Heap) (k:Nat) (x:Str) (ps:List Str) (m:M6):Prop where
 ex:∃(f:Addr) (fd:FuncData),wg P w K mg base k f fd ps m/\mg x=some (.ref f)/\PySem.W.keepIn K (.ref f)=true/\Binds K fd ps []
noncomputable def aP (n:Nat) (b:DM):M6:=fun ds fs=>(b #[ds.map .v++List.replicate (n - ds.length) .no,fs]).bind fun x=>match x.1 with
 |.ret d=>some (.inl d,x.2.fs)
 |.next=>some (.inl .non,x.2.fs)
 |.thr c es=>some (.inr (c,es),x.2.fs)
 |_=>none
structure Rz (X:Cx) (g:Gh):Prop where
 go:∀(pins:vP_) (σ:L2.St) (H H1:Hp) (s s1:Shared) (e C dx:Addr),Inv X pins σ H1 s1->Inv X pins σ H s->Fly s1.heap.objs.size H s.heap e C dx->g.xq σ (.ref C) (some dx) H->X.xe (.ref e) s
def Rz.pass {g:Gh}(R:Rz X g) (pins:vP_) (σ:L2.St) (H:Hp) (s:Shared) (ev:Value) (s':Shared) (I:Inv X pins σ H s) (h:aV X.prog X.w X.stack H s (g.xq σ) ev s'):X.xe ev s':=by
 refine gB_ fun Y U=>?_
 obtain⟨e,C,dx,H',rfl,J,fl,q⟩:=I.thrown h;apply U;exact R.go pins σ H' H s' s e C dx I J fl q
section
variable {P:Program}{w:World}{K:vF_}
def HW {st:Stmt}{f:Addr}{N ps:List Str}{b:DM}(F:Fun K x qual st f fd) (S:FnScope N ps (D4 st))
  (U:∀(cdv:Value) (A:Around) (outer:List Env) (s:Shared) (H:Hp) (E:XK) (g:Gh),Rz (S4 (aV P w) P w K mg base N qual (D4 st) f cdv A outer s H E) g->Room k (A.deeper (PyProof.Rows.envOfC qual (D4 st) s.heap.objs.size f cdv)) ->
   SSO (S4 (aV P w) P w K mg base N qual (D4 st) f cdv A outer s H E) g (Q9 st) b):wg P w K mg base (k+1) f fd ps (aP N.length b):=by
 refine gB_ fun G_ g_=>?_
 obtain⟨oc,od,kV,doc,pm,an,cdv,ct,osl,rfl,lk,hcd⟩:=F.ex;apply g_;refine zO lk hcd S (fun vs H Q E h=>?_) (fun A outer s H vs Q E hr h=>?_)
 .obtain⟨F,fa,ds,fs,d,fs',_,_,r,_,_,hl,_⟩:=h;rw[r.length];exact hl
 obtain⟨F,fa,ds,fs,rr,fs',tr,ff,r,fd,e,hl,q,qx⟩:=h;refine#[_,(U cdv A outer s H E #[F,H,fa,fun _=>E] #[fun pins σ H H1 s s1 e C dx Y I z y=>GZ I (z.less Y.sz) y] hr).pe,?_];refine A7 e fun fl s' h1 h2=>?_
 have hN:∀b,NN F fa [] b->F b:=fun b z=>by
  rcases z with z | z | z
  .exact z
  .cases z
  .exact ff b z
 have c:Car K F fa H (NN F fa []) fa H:=#[fun b xs n q=>#[q,fun z=>n (hN b z)],fun _ _ q=>q,fun _ _ q=>q,fun _ q=>q]
 have el:(L2.start N vs)=vs.map some++List.replicate (N.length - ds.length) none:=by rw[L2.start,r.length]
 have I:GI K #[F,H,fa,fun _=>E] (L2.start N vs) H fa [] #[ds.map .v++List.replicate (N.length - ds.length) .no,fs]:=by
  refine#[TV,?_,fun b hb=>(by cases hb),Stp.refl,tr,ff,fd.car c fun _ _=>rfl,fun _ _ z=>(by cases z)];rw[el];exact qV (Reps.go c ds vs r)
 have Z:∀{fa':vA_}{O':vL_}{H':Hp},Car K (NN F fa' O') fa' H' (fun b=>F b\/fa'=some b) fa' H':=fun {fa' O' H'}=>#[fun b xs n q=>#[q,fun z=>n (by
   rcases z with z | z
   .exact .inl z
   .exact .inr (.inr z))],fun _ _ q=>q,fun _ _ q=>q,fun _ q=>q]
 have sc:∀{fa':vA_}{O':vL_}{H':Hp},Stp fa [] H fa' O' H'->Stp fa [] H fa' [] H':=fun J=>#[fun b hb=>(by cases hb),J.fe,J.same,J.mon]
 refine#[fa,[],_,fl,s',I,h1,?_];cases fl with
 |next=>
  simp only[Qt,Qa] at h2;exact fun σ' H' fa' O' J Y=>q _ h2.1.symm .non H' fa' (sc J) (h2.2▸Y.fd.car Z fun _ _=>rfl) (by simp only[Rep])
 |ret dd=>
  simp only[Qt,Qa] at h2;exact fun σ' v H' fa' O' J Y r1=>q _ h2.1.symm v H' fa' (sc J) (h2.2▸Y.fd.car Z fun _ _=>rfl) (Rep.go Z _ _ r1)
 |thr c es=>
  simp only[Qt,Qa] at h2;exact fun σ' C dx od xs H' fa' O' J Y n1 n2 r1=>qx _ _ h2.1.symm H' fa' (sc J) (h2.2▸Y.fd.car Z fun _ _=>rfl) C dx od xs n1 n2 (Reps.go Z _ _ r1)
 |brk=>cases h2
 |cont=>cases h2
end
noncomputable def aD (c:Str) (t:DA):DM:=fun s=>(t s).map fun x=>(.thr c x.1,x.2)
section
variable {g:Gh}{p pos:Pos}{a b:Expr}{t:DA}
def CC {e C W fI:Addr}{mA:vG_}{Y:Nat}{s0:DS}{O:vL_}{ps:List Str}(R:Rz X g) (xd:XD X.K C W fI ps body) (I:Inv X pins σ H s) (m:Mdn s.heap h' e dx C mA) (r:∀f,fT ((fnm.zip xs).lookup f) (mA f))
  (hn:PySem.W.nsIn X.K mainGlobals c=some (some 'j')) (G:GI X.K g σ H fa O s0) (rs:Reps X.K (NN g.F fa O) fa H ds xs)
  (q:∀C dx od xs H',StE fa O H fa O H'->GI X.K g σ H' fa O s0->PySem.W.nsIn X.K mainGlobals c=some (some 'j')->H' dx=some (.frz od (.xd (fnm.zip xs)))->Reps X.K (NN g.F fa O) fa H' ds xs->g.xq σ 'j' (some dx) H') :
  ∃e' oe,(Value.ref e:Value) = .ref e'/\X.K.In h'/\h'.get? e'=some oe/\oe.cls = .ref C/\(∃t0,oe.data = .fields #v[.ref t0,.none,.none,.none,.bool false,.none])/\X.xe (.ref e') { s with heap:=h',toks:=Y }:=by
 refine gB_ fun G_ g_=>?_
 obtain⟨o,Z,U,⟨t0,e3⟩,e4⟩:=m.at_;obtain⟨od,es,ep,d1,d2⟩:=id m.ns;have n1:H e=none:=I.hok.fresh m.n1;have n2:H dx=none:=I.hok.fresh m.n2;have J:Inv X pins σ (o7 H dx (.frz od (.xd (fnm.zip xs)))) { s with heap:=h',toks:=Y }:=by
  refine I.un #[fun b u q _ _ _=>m.kp b u q,fun b u q _ _ _=>#[u.slots,m.kp b u q],fun b u q n _=>?_,fun b u q _=>#[u,m.kp b u q],fun b ys q=>?_,fun b u v q=>?_,fun b ps q=>#[#v[],?_]] fun b u q=>?_
  .rw[u5 (vZ q m.n2)];exact n
  .rw[u5 (L9 q n2)];exact q
  .rw[u5 (L9 q n2)];exact q
  .rw[u5 (L9 q n2)];simpa using q
  .by_cases h2:b=dx
   .subst h2;rw[D1] at q;cases q;exact#[d1,mA,m.ns,r]
   .rw[u5 h2] at q;exact(I.hok b u q).stay (fun c v _ z=>m.kp c v z) (fun c z=>by rw[u5 (L9 z n2)];exact z) fun c ys z=>by rw[u5 (L9 z n2)];exact z
 apply g_;refine#[e,o,rfl,I.kIn.keeps m.kp,Z,U,#[t0,e3],R.go pins σ _ _ _ _ e C dx I J #[m.n1,?_,o,_,Z,U,e4,e3,(show 1<6 by decide),.inl rfl] (q C dx od xs _ (F9 n2) (G.new n2) hn D1 (rs.stp G (F9 n2).stp))];rw[u5 m.ne.symm];exact n1
def jk (R:Rz X g) (Rc:Rf2 X.K X.mg c) (hr:Room (k+1) X.A) (hc:X.calm=true) (hg:Gl X c) (ha:AO X g [a,b] t) (hl:∀s ds s',t s=some (ds,s')->ds.length=2) (Y:(c == ("__debug__" : Str))=false:=by decide)
  (Z:(backTo pos (starEach [b] X.env)).any (·.1)=false:=by rfl) (he:starEach [a,b] X.env=(false,eval a X.env)::starEach [b] X.env:=by rfl):SO X g (.Raise (some (.Call (.Name c p) [a,b] [] pos)) none pos') (aD c t):=by
 refine#[fun pins s σ H Dd I h=>?_];refine gB_ fun G_ g_=>?_
 obtain⟨C,W,fI,p1,p2,p3,p4,p5,p6,p7,p8,hm,hn,hk,U⟩:=Rc.ex;apply g_;refine h.elim fun fa0 O s0 fl s1 G0 e0 q=>?_
 obtain⟨⟨ds,s2⟩,t1,t2⟩:=TU.mp e0;cases t2;obtain⟨nm,q',N,bs,hdct,sn,sub,ab,col,dd,k0,k1,k2,k3,k5,lk⟩:=U.k1.ob;refine Cv (K:=X.K) (C:=C) lk rfl U.k1.xc.f4 (I.ok.hd hc) ?_;refine RD (iK I hg hm ?_ Y);refine UL (h₀:=X.base) I.ok.mod.kin hk (v3 (ha.pe pos pins s σ H (fun vs H1=>∃f1 O1,StE fa0 O H f1 O1 H1/\GI X.K g σ H1 f1 O1 s2/\Reps X.K (NN g.F f1 O1) f1 H1 ds vs) I #[fa0,O,s0,ds,s2,G0,t1,fun vs H1 f1 O1 a1 a2 a3=>#[f1,O1,a1,a2,a3]]) fun us s3 ⟨vs,H1,J,rv,f1,O1,b1,b2,b3⟩=>#[J.kIn,?_]) he Z;have l1:=hl _ _ _ t1;have l2:=b3.length;have l3:=rv.length;obtain⟨x0,x1,rfl⟩:∃x0 x1,vs=[x0,x1]:=xt (by rw[l2,l1]);obtain⟨u0,u1,rfl⟩:∃u0 u1,us=[u0,u1]:=xt (by rw[<-l3];rfl);refine L2.mk2 U hr J.kIn J.nolimit fun h' tk e dx m=>?_
 exact CC (c:=c) R U J m (La rv) hn b2 b3 fun C dx od xs H' c1 c2 c3 c4 c5=>q σ C dx od xs H' f1 O1 (b1.trans c1).stp c2 c3 c4 c5
end
abbrev cE:=DS->Option (Rx × DS)
def sj (K:vF_) (g:Gh) (f:cE):TE:=fun σ H Q=>∃fa O s r s',GI K g σ H fa O s/\f s=some (r,s') /\
 (∀d,r = .inl d->∀v H' fa' O',StE fa O H fa' O' H'->GI K g σ H' fa' O' s'->Rep K (NN g.F fa' O') fa' H' d v->Q v H') /\
 (∀c es,r = .inr (c,es)->∀H' fa' O',StE fa O H fa' O' H'->GI K g σ H' fa' O' s'->Bi K (NN g.F fa' O') fa' H' c es fun C dx=>g.xq σ 'j' (some dx) H')
structure XO (X:Cx) (g:Gh) (e:Expr) (f:cE):Prop where
 pe:PE X e (sj X.K g f)
def XO.w {g:Gh}{f:cE}{t:TE}(h:PE X e t) (k:∀σ H Q,sj X.K g f σ H Q->t σ H Q):XO X g e f:=#[fun pins s σ H Q I q=>h pins s σ H Q I (k σ H Q q)]
def eP (m:M6) (t:DA):cE:=fun s=>(t s).bind fun x=>(m x.1 x.2.fs).map fun y=>(y.1,{ x.2 with fs:=y.2 })
section
variable {g:Gh}{ps:List Str}{m:M6}{p pos:Pos}{t:DA}
def Hj {E:L2.St->XK}{CX:V4}{f:Addr}{fd:FuncData}{sp:Sp}{ta:TA}(F:FnOk X.prog X.w X.K X.mg X.base CX k f fd ps sp) (hr:Room k X.A) (hg:Gl X x) (hm:X.mg x=some (.ref f)) (hk:PySem.W.keepIn X.K (.ref f)=true) (hb:Binds X.K fd ps [])
  (hx:∀(pins:vP_) (σ:L2.St) (H:Hp) (s:Shared) (e:Value) (s':Shared),Inv X pins σ H s->CX X.stack H s (E σ) e s'->X.xe e s')
  (ha:PA X (e::es) ta) (Z:(x == ("__debug__" : Str))=false:=by decide) (he:starEach (e::es) X.env=(false,eval e X.env)::starEach es X.env:=by rfl) (hpl:'x'.any (·.1)=false:=by rfl) :
  PE X (.Call (.Name x p) (e::es) [] pos) (fun σ H Q=>ta σ H fun vs H1=>sp vs H1 Q (E σ)):=by
 intro pins s σ H Q I h;refine RD (iK I hg hm ?_ Z);refine UL (h₀:=X.base) I.ok.mod.kin hk (v3 (ha pos pins s σ H _ I h) fun us s1 ⟨vs,H1,U,r,q⟩=>#[U.kIn,?_]) he hpl;have hl:(us++[]).length=ps.length:=by rw[QB,<-r.length];exact F.len _ _ _ _ q
 have J:=hb s1 us U.kIn hl;rw[QB] at J;refine SM (SN (F.run X.A X.stack s1 H1 #[us,[]] us vs Q (E σ) hr U.env0 J r q) fun rr s' Y=>?_);cases rr with
 |error ev=>exact hx pins σ H1 s1 ev s' U Y
 |ok fl=>
  cases fl with
  |ret u=>exact U.after Y
  |next=>exact False.elim Y
  |brk=>exact False.elim Y
  |cont=>exact False.elim Y
def oJ (C:CalX X.prog X.w X.K X.mg X.base k x ps m) (R:Rz X g) (k':Nat) (hr:Room k' X.A) (hk:k<=k') (hg:Gl X x) (ha:AO X g (e::es) t) (hn:∀s ds s',t s=some (ds,s')->ds.length=ps.length)
  (hdb:(x == ("__debug__" : Str))=false:=by decide) (he:starEach (e::es) X.env=(false,eval e X.env)::starEach es X.env:=by rfl) (hpl:'x'.any (·.1)=false:=by rfl):XO X g (.Call (.Name x p) (e::es) [] pos) (eP m t):=by
 obtain⟨f,fd,F,hm,hkp,hb⟩:=C.ex;refine XO.w (Hj F (hr.mono hk) hg hm hkp hb R.pass ha.pe hdb he hpl) fun σ H Q h=>?_
 obtain⟨fa,O,s,r,s',I,q,k1,k2⟩:=h;refine A7 q fun ds s1 h1 h2=>?_
 refine mapP h2 fun r1 fs1 h3 h4=>?_
 simp only[Qa] at h4;obtain⟨e1,e2⟩:=h4;subst e1;subst e2;refine#[fa,O,s,ds,s1,I,h1,fun vs H1 f1 O1 a1 Z r=>?_];have st:∀{J:vA_}{H2:Hp},Stp f1 [] H1 J [] H2->StE f1 O1 H1 J O1 H2:=fun U=>#[fun b hb=>hb,U.fe,fun b u e n=>U.same b u e 'g' n,U.mon]
 have c2:∀{J:vA_}{H2:Hp},Car X.K (fun b=>NN g.F f1 O1 b\/J=some b) J H2 (NN g.F J O1) J H2:=fun {J H2}=>#[fun b xs n q=>#[q,fun z=>n (by
   rcases z with z | z | z
   .exact .inl (.inl z)
   .exact .inl (.inr (.inl z))
   .exact .inr z)],fun _ _ q=>q,fun _ _ q=>q,fun _ q=>q]
 have gi:∀{J:vA_}{H2:Hp},Stp f1 [] H1 J [] H2->FeedR (fun b=>NN g.F f1 O1 b\/J=some b) H2 J fs1->GI X.K g σ H2 J O1 { s1 with fs:=fs1 }:=fun {J H2} U Y=>by
  have a3:=st U;refine#[Z.nd,SlR.go (Z.car a3.stp) (fun b xs hb e=>?_) Z.sl,Z.fr,Z.st.trans #[fun b hb=>(by cases hb),U.fe,fun b u e n z=>U.same b u e n z,U.mon],Z.tr,Z.ff,Y.car c2 fun _ _=>rfl,Z.nf_step a3.fe];exact a3.same b _ e fun z=>Z.nf b z hb
 exact#[NN g.F f1 O1,f1,ds,s1.fs,r1,fs1,fun b hb=>Z.nn_tracked hb,fun a ha=>.inr (.inr ha),r,Z.fd,h3,hn s ds s1 h1,fun d ed v H2 J U Y r2=>k1 d ed v H2 J O1 (a1.trans (st U)) (gi U Y) (Rep.go c2 _ _ r2),
  fun c es ec H2 J U Y C dx od xs n1 n2 r2=>k2 c es ec H2 J O1 (a1.trans (st U)) (gi U Y) C dx od xs n1 n2 (Reps.go c2 _ _ r2)]
noncomputable def ij (f:cE):DM:=fun s=>(f s).map fun x=>match x.1 with
 |.inl d=>(.ret d,x.2)
 |.inr (c,es)=>(.thr c es,x.2)
def zS {f:cE}(he:XO X g e f):SO X g (.Return (some e) pos) (ij f):=SO.w (wI he.pe) fun E σ H hQ=>by
 refine hQ.elim fun fa O s fl s' I q k=>?_
 refine mapP q fun r s1 h1 h2=>?_
 refine#[fa,O,s,r,s1,I,h1,fun d ed v H' f1 O1 J Y U=>?_,fun c es Z H' f1 O1 J Y C dx od xs n1 n2 U=>?_]
 .subst ed;cases h2;exact k σ v H' f1 O1 J.stp Y U
 .subst Z;cases h2;exact k σ C dx od xs H' f1 O1 J.stp Y n1 n2 U
end
end DL
namespace L2
open PySem PySem.W PySem.Spec PyProof.Rows
section
variable {w:World}{g:Array GenState}{d:Drawn}{t:Nat}{os:OsState}{K:vF_}{e C:Addr}{oe:Obj}{b:Bool}{Q:Bool->Shared->Prop}
def Hx {sl:vS_}(X:K.In h) (J:h.get? e=some oe) (Z:oe.cls = .ref C) (lk:K.lookup C'=some #[.type "type",od,.cls cd,sl]) (f4:subIn K (.ref C') (.type "BaseException")=some true) (U:subIn K 'j' (.ref C')=some b) (z:Q b #[h,g,d,t,os]) :
  wpAny 'd' A (excMatches (.ref e) (.ref C')) Q E #[h,g,d,t,os]:=by
 have hC:=X _ _ lk;have L2:=Td (M:=model prog w) X f4;have L3:=Td (M:=model prog w) X U;have Y:isSubtype (.type "type") (.type "tuple")=pure false:=tc_notTuple;unfold excMatches isInstance
 repeat (any_goals (first | assumption | with_reducible refine QD hC ?_ | with_reducible refine L2.at ?_ | with_reducible refine L3.at ?_ | (with_reducible refine QD J ?_;rw[Z]) | wp_step))
 cases b <;> (repeat (any_goals (first | assumption | wp_step)))
end
section
variable {w:World}{R:Result->Shared->Prop}
def Mp {e:Value}{n:Str}{pos:Pos}
  (h:wpAny 'd' A (setFlight e none) (fun _ s1=>wpAny 'd' A (storeName env n e) (fun _ s2=>wpAny 'd' A (execs (b0::body) env) (fun f s3=>R (.ok f) s3) (fun _ _=>False) s2) (fun _ _=>False) s1) (fun _ _=>False) s) :
  codeAny 'd' A (.handlers e [.ExceptHandler none (some n) (b0::body) pos] env) R s:=by
 refine codeAny_of_tree ?_;show wpAny _ A (do return Fin.done (<-(handleWith e env [.ExceptHandler none (some n) (b0::body) pos]).onRaise (fun x=>do noteFrame x env;theTreesLotGoes x))) _ _ s;refine gV (wpAny_noted ?_);unfold handleWith;refine gV (RW (gV (Qg h (fun _ s1 h1=>gV (TJ (Qg h1 (fun _ s2 h2=>?_) fun _ _ x=>x.elim))) fun _ _ x=>x.elim)));refine gV (RM (Qg h2 (fun f s3 J=>td (td J)) fun _ _ x=>x.elim))
end
section
variable {M:Model}{s1:Shared}{e C:Addr}{Q:Unit->Shared->Prop}
def Lj (I1:Inv X pins σ H1 s1) (I:Inv X pins σ H s) (f:Fly s1.heap.objs.size H s.heap e C dx) (z:∀h',Inv X pins σ H { s with heap:=h' }->(∀o,s.heap.get? e=some o->h'.get? e=some o)->Q () { s with heap:=h' }):wpAny M A (setFlight (.ref e) none) Q E s:=by
 refine gB_ fun G_ g_=>?_
 obtain⟨en,eh,oe,vs,J,e2,e3,U,e5,y⟩:=f;apply g_;unfold setFlight;rcases y with y | ⟨T,oT,ts,z1,z2,z3,z4,z5,z6,z7⟩
 .refine gV (PZ J U y ?_);rw[iU #[]];exact td (z s.heap I fun o q=>q)
 .refine gV (PZ J U z1 ?_);rw[iR (show (Value.ref T != Value.none)=true from by simp)];refine Su z5 z6 (VV.mp z7).1 (z _ ?_ fun o q=>(QL _ _ z4).trans q);obtain⟨f1,Z,f3,f4,f5,Y⟩:=I1.fpOk (H':=H) z2 z3;exact I.turned (t':=s.toks) (it:=T) (fun b o nb q=>(QL _ _ (Qd nb)).trans q) z3 Z f4 f5 Y
end
abbrev Cx.tr (X:Cx) (pn:vP_) (xe:vQ_):Cx:={ X with pn:=pn,xe:=xe }
abbrev Cx.hd (X:Cx) (e:Addr):Cx:={ X with A:=X.A.mark (some (.ref e)),calm:=false,xe:=fun _ _=>False }
section
variable {pins':vP_}{xe:vQ_}{e:Addr}
theorem Cx.Ok.tr {U:vP_}(J:X.Ok):(X.tr U xe).Ok:=#[J.mod,J.kind,J.glob,J.blt,J.above,J.inj,J.has,J.cab,J.hd,J.frames,J.stk,J.exf,J.bs,J.bsz,J.noex,J.exfs,J.funs,J.frf]
def Cx.Ok.untr {U:vP_}(J:(X.tr U xe).Ok):X.Ok:=#[J.mod,J.kind,J.glob,J.blt,J.above,J.inj,J.has,J.cab,J.hd,J.frames,J.stk,J.exf,J.bs,J.bsz,J.noex,J.exfs,J.funs,J.frf]
theorem Inv.tr (I:Inv X pins σ H s):Inv (X.tr (X.pn++pins) xe) [] σ H s:=#[I.ok.tr,I.os,I.bare,I.base,I.loc,I.cell,I.free,I.freeC,fun p J=>I.pin p (by simpa using J),I.hok,I.len]
theorem Inv.untr (I:Inv (X.tr (X.pn++pins) xe) pins' σ H s):Inv X pins σ H s:=#[I.ok.untr,I.os,I.bare,I.base,I.loc,I.cell,I.free,I.freeC,fun p J=>I.pin p (QH _ J),I.hok,I.len]
def Cx.Ok.hd' (J:X.Ok):(X.hd e).Ok:=#[J.mod,J.kind,J.glob,J.blt,J.above,J.inj,J.has,J.cab,(fun z=>by cases z),J.frames,J.stk,J.exf,J.bs,J.bsz,J.noex,J.exfs,J.funs,J.frf]
theorem Inv.hd (I:Inv X pins σ H s):Inv (X.hd e) pins σ H s:=#[I.ok.hd',I.os,I.bare,I.base,I.loc,I.cell,I.free,I.freeC,I.pin,I.hok,I.len]
def Inv.unhd (J:X.Ok) (I:Inv (X.hd e) pins σ H s):Inv X pins σ H s:=#[J,I.os,I.bare,I.base,I.loc,I.cell,I.free,I.freeC,I.pin,I.hok,I.len]
theorem SP.untr {D:Ends}{f:Flow}(h:SP (X.tr (X.pn++pins) xe) pins' D f s'):SP X pins D f s':=by
 cases f with
 |next=>obtain⟨σ',H',I,q⟩:=h;exact#[σ',H',I.untr,q]
 |brk=>obtain⟨σ',H',I,q⟩:=h;exact#[σ',H',I.untr,q]
 |cont=>obtain⟨σ',H',I,q⟩:=h;exact#[σ',H',I.untr,q]
 |ret u=>obtain⟨v,σ',H',I,r,q⟩:=h;exact#[v,σ',H',I.untr,r,q]
end
section
variable {s1:Shared}
def Ot {v:V}{Q:Unit->Shared->Prop}(I:Inv X pins σ H s) (hN:X.N.Nodup) (hi:X.N[i]? = some x) (hx:X.env.scope.names.lookup x=some .local) (hv:σ[i]? = some (some v))
  (z:∀s',Inv X pins (σ.set i none) H s'->Q () s'):wpAny M A (unbindName X.env x) Q E s:=by
 refine gB_ fun G_ g_=>?_
 obtain⟨m,hn,hl⟩:=id I.loc;obtain⟨u,r,l⟩:=hl i x v hi hv (.inl hx);have mv:m x=some u:=by
  rcases l with ⟨_,q⟩ | ⟨q,_⟩
  .exact q
  .have q:X.env.scope.names.lookup x=some .cell\/X.env.scope.names.lookup x=some .free:=q;rw[hx] at q;rcases q with q | q <;> cases q
 obtain⟨oL,_,_,hoL,_⟩:=id hn;have nl:∀b o,X.s₀.heap.get? b=some o->b≠X.env.locals:=fun b o q=>Ql (Qb (PB q) I.ok.above)
 apply g_;refine wpAny_unbindName_local hx hn mv (by rw[I.ok.kind];rfl) fun h' u' hn' U=>?_
 refine z _ #[I.ok,I.os,I.bare,#[fun b o q n Z J=>(U.2 b (nl b o q)).trans (I.base.keep b o q n Z J),fun b o q n Z J=>?_,I.base.free,fun b o q J=>?_,I.base.tups,I.base.frzs,I.base.tbls],#[_,hn',fun j y v' Y e2 e3=>?_],fun y c q=>?_,I.free,I.freeC,fun p hp=>?_,fun b ob q=>?_,by simpa using I.len]
 .obtain⟨sl,Y⟩:=I.base.slot b o q n Z J;exact#[sl,(U.2 b (nl b o q)).trans Y]
 .obtain⟨o',Y⟩:=I.base.there b o q J;exact#[o',(U.2 b (nl b o q)).trans Y]
 .by_cases hj:j=i
  .subst hj;rw[Sj (by rw[I.len];exact(Qr.mp hi).1)] at e2;cases e2
  .rw[RU (Qd hj)] at e2;obtain⟨u2,r2,q⟩:=hl j y v' Y e2 e3;refine#[u2,r2,?_];rcases q with ⟨k,q⟩ | ⟨k,c,q,w⟩
   .have ny:y≠x:=fun e=>hj (nZ hN Y (e▸hi))
    exact .inl #[k,by simp[ny,q]]
   .exact .inr #[k,c,q,w.sameBut U (I.cne y c q)]
 .obtain⟨w,q2⟩:=I.cell y c q;exact#[w,q2.sameBut U (I.cne y c q)]
 .obtain⟨e,n,J,Z,d⟩:=I.pin p hp;exact#[(U.2 p.1 J).trans e,n,J,Z,d]
 .refine(I.hok b ob q).stay (fun c w hc y=>(U.2 c ?_).trans y) (fun _ y=>y) fun _ _ y=>y
  rintro rfl;have fr:=I.free;rcases hc with rfl | hc
  .rw[fr] at q;cases q
  .rw[fr] at hc;cases hc
def Inv.freeze {e:Addr}(I1:Inv X pins σ H1 s1) (I:Inv X pins σ H s) (en:s1.heap.objs.size<=e) (J:H e=none) (Y:s.heap.get? e=some oe):Inv X pins σ (o7 H e (.frz oe (.own e))) s:=by
 obtain⟨f1,f2,f3,f4,f5,Z⟩:=I1.fpOk (H':=H) en J;refine I.call' (ch:=[e]) rfl #[fun b o q _ _ _=>q,fun b o q _ _ _=>#[o.slots,q],fun b o q n ne=>?_,fun b o q _=>#[o,q],fun b ys q=>?_,fun b u v q=>?_,fun b ps q=>#[#v[],?_]] (fun b u q=>?_) I.bare fun b m=>?_
 .rw[u5 (fun z=>ne (by simp[z]))];exact n
 .rw[u5 (L9 q J)];exact q
 .rw[u5 (L9 q J)];exact q
 .rw[u5 (L9 q J)];simpa using q
 .by_cases U:b=e
  .subst U;rw[D1] at q;cases q;exact#[Y,oe,Y]
  .rw[u5 U] at q;exact(I.hok b u q).stay (fun c v _ y=>y) (fun c y=>by rw[u5 (L9 y J)];exact y) fun c ys y=>by rw[u5 (L9 y J)];exact y
 .rw[PV.mp m];exact#[f4,f2,f5,Z]
end
end L2
namespace DL
open PySem PySem.Spec L2
structure Ck (K:vF_) (mg:vG_) (cs:List Str) (cn:Str):Prop where
 ex:∃C' od cd sl,mg cn=some (.ref C')/\K.lookup C'=some #[.type "type",od,.cls cd,sl]/\PySem.W.subIn K (.ref C') (.type "BaseException")=some true/\∀c∈cs,∃C,PySem.W.nsIn K mainGlobals c=some (some (.ref C))/\PySem.W.subIn K (.ref C) (.ref C')=some true
noncomputable def fW (cs:List Str) (i:Nat) (b h:DM):DM:=fun s=>(b s).bind fun x=>match x.1 with
 |.thr c ds=>if cs.contains c=true/\ds.length<=2 then (h { x.2 with sl:=x.2.sl.set i (.v (.exc c ds)) }).bind fun y=>match y.1 with
   |.next=>some (.next,{ y.2 with sl:=y.2.sl.set i .no })
   |_=>none
  else none
 |fl=>some (fl,x.2)
theorem SlR.toNo {K:vF_}(v:Option V):∀{sl:List Sl}{σ:List (Option V)}{O:vL_}{i:Nat}{d:D},SlR K N fa H sl σ O->sl[i]? = some (.v d)->SlR K N fa H (sl.set i .no) (σ.set i v) O
 |[],σ,O,i,d,h,e=>by simp at e
 |.no::r,σ,O,i,d,h,e=>by
  simp only[SlR] at h;obtain⟨u,τ,rfl,h⟩:=h;cases i with
  |zero=>simp at e
  |succ i=>simp only[Ra,SlR];exact#[u,_,rfl,SlR.toNo v h (by simpa using e)]
 |.v d'::r,σ,O,i,d,h,e=>by
  simp only[SlR] at h;obtain⟨u,τ,rfl,q,h⟩:=h;cases i with
  |zero=>simp only[RJ,SlR];exact#[v,τ,rfl,h]
  |succ i=>simp only[Ra,SlR];exact#[u,_,rfl,q,SlR.toNo v h (by simpa using e)]
 |.own ds::r,σ,O,i,d,h,e=>by
  simp only[SlR] at h;obtain⟨a,xs,τ,P,rfl,rfl,J,q,h⟩:=h;cases i with
  |zero=>simp at e
  |succ i=>simp only[Ra,SlR];exact#[a,xs,_,P,rfl,rfl,J,q,SlR.toNo v h (by simpa using e)]
def DI.drop {K:vF_}{g:Gh}{σ:L2.St}{O:vL_}{s:DS}(I:GI K g σ H fa O s) (hi:i<s.sl.length) (v:Option V):∃P,(∀b∈P,b∈O)/\GI K g (σ.set i v) H fa P { s with sl:=s.sl.set i .no }:=by
 obtain⟨P,sub,J⟩:=I.put i (d:=.non) (v:=.non) (by simp only[Rep]);refine#[P,sub,J.nd,?_,J.fr,J.st,J.tr,J.ff,J.fd,J.nf];have:=SlR.toNo v J.sl (i:=i) (d:=.non) (Sj hi);rw[Vm,Vm] at this;exact this
section
variable {g:Gh}{cn:Str}{p pos:Pos}{b0:Stmt}{suite:List Stmt}{b h:DM}
def CS {O:vL_}{s0:DS}(U:∀(pn:vP_) (xe:vQ_) (g1:Gh),Rz (X.tr pn xe) g1->g1.F=g.F->g1.H0=g.H0->g1.fa0=g.fa0->SSO (X.tr pn xe) g1 body b) (I:Inv X pins σ H s) (G:GI X.K g σ H fa O s0)
  (e:b s0=some (fl,s1)) (Z:∀c ds,fl ≠ .thr c ds) (k:FlK X.K g Dn fa O H fl s1):wpAny 'f' X.A (exec (.Try body [hs] [] [] pos) X.env) (SP X pins Dn) X.xe s:=by
 have Y:Rz (X.tr (X.pn++pins) fun _ _=>False) #[g.F,g.H0,g.fa0,fun _=>E0]:=#[fun pins' σ' H' H1 s' s1 e C dx J1 J fl q=>q]
 have B:=(U (X.pn++pins) (fun _ _=>False) #[g.F,g.H0,g.fa0,fun _=>E0] Y rfl rfl rfl).pe [] s σ H Dn I.tr #[fa,O,s0,fl,s1,G,e,by
  cases fl with
  |thr c ds=>exact absurd rfl (Z c ds)
  |next=>exact k
  |brk=>exact k
  |cont=>exact k
  |ret d=>exact k]
 refine wpAny_Try_except (Qg B (fun f s' z=>?_) fun ev s' z=>z.elim);have z:=z.untr;cases f with
 |next=>exact Sk z
 |brk=>exact z
 |cont=>exact z
 |ret u=>exact z
def Np {O:vL_}{s0:DS}(hb:∀(pn:vP_) (xe:vQ_) (g1:Gh),Rz (X.tr pn xe) g1->g1.F=g.F->g1.H0=g.H0->g1.fa0=g.fa0->SSO (X.tr pn xe) g1 body b) (hs:X.stack=X.env::X.outer) (hf:X.env.frame=some X.env.locals)
  (I:Inv X pins σ H s) (G:GI X.K g σ H fa O s0) (e:b s0=some (.thr c ds,s1))
  (z:∀(e C dx:Addr) (σ':L2.St) (H' H1:Hp) (sa sb:Shared) (od:Obj) (xs:List V) (fa':vA_) (O':vL_),Inv X pins σ' H1 sa->Inv X pins σ' H' sb->Fly sa.heap.objs.size H' sb.heap e C dx->Stp fa O H fa' O' H'->GI X.K g σ' H' fa' O' s1->PySem.W.nsIn X.K mainGlobals c=some (some 'j') ->
   H' dx=some (.frz od (.xd (fnm.zip xs)))->Reps X.K (NN g.F fa' O') fa' H' ds xs->wpAny 'f' X.A (handleBy (.ref e) X.env [hn]) (SP X pins Dn) X.xe sb) :
  wpAny 'f' X.A (exec (.Try body [hn] [] [] pos) X.env) (SP X pins Dn) X.xe s:=by
 generalize U:(fun (σ':L2.St) (cv:Value) (odx:vA_) (H':Hp)=>∃C dx od xs fa' O',cv = .ref C/\odx=some dx/\Stp fa O H fa' O' H'/\GI X.K g σ' H' fa' O' s1/\PySem.W.nsIn X.K mainGlobals c=some (some 'j')/\H' dx=some (.frz od (.xd (fnm.zip xs)))/\Reps X.K (NN g.F fa' O') fa' H' ds xs)=xq;generalize Y:(fun (ev:Value) (s':Shared)=>∃e C dx σ' H' H1 sa,ev = .ref e/\Inv X pins σ' H1 sa/\Inv X pins σ' H' s'/\Fly sa.heap.objs.size H' s'.heap e C dx/\xq σ' 'j' (some dx) H')=xe;have R1:Rz (X.tr (X.pn++pins) xe) #[g.F,g.H0,g.fa0,xq]:=#[fun pins' σ' H' H1 s' sa e C dx Z J fl q=>by
  show xe _ _;rw[<-Y];exact#[e,C,dx,σ',H',H1,sa,rfl,Z.untr,J.untr,fl,q]]
 have B:=(hb (X.pn++pins) xe #[g.F,g.H0,g.fa0,xq] R1 rfl rfl rfl).pe [] s σ H #[fun _ _=>False,fun _ _=>False,fun _ _=>False,fun _ _=>False] I.tr #[fa,O,s0,_,s1,G,e,fun σ' C dx od xs H' fa' O' a1 I1 n1 n2 r1=>by
  show xq _ _ _ _;rw[<-U];exact#[C,dx,od,xs,fa',O',rfl,rfl,a1,I1,n1,n2,r1]]
 refine wpAny_Try_except (Qg B (fun f s' y=>?_) fun ev s' y=>?_)
 .cases f with
  |next=>obtain⟨_,_,_,q⟩:=y;exact q.elim
  |brk=>obtain⟨_,_,_,q⟩:=y;exact q.elim
  |cont=>obtain⟨_,_,_,q⟩:=y;exact q.elim
  |ret u=>obtain⟨_,_,_,_,_,q⟩:=y;exact q.elim
 .have y:xe ev s':=y;rw[<-Y] at y;obtain⟨e,C,dx,σ',H',H1,sa,rfl,Z,J,fl,q⟩:=y;rw[<-U] at q;obtain⟨C2,dx2,od,xs,fa',O',q1,q2,a1,I1,n1,n2,r1⟩:=q;cases q1;cases q2;obtain⟨oe,vs,g1,_⟩:=id fl.ob;have sz:sa.heap.objs.size<=s'.heap.objs.size:=PJ fl.en (Rh (PB g1));refine tN (H:=H') (base:=X.base) (n0:=sa.heap.objs.size) (outer:=X.outer) (by rw[J.ok.frames,hs]) (by have:=J.stack;rw[hs] at this;exact this) hf sz (fun a l=>J.hok.fresh l) fl fun h' y=>?_
  have y':Noted sa.heap.objs.size H' X.stack s'.heap h' e C dx:=by rw[hs];exact y
  exact z e C dx σ' H' H1 sa { s' with heap:=h' } od xs fa' O' Z (Z.noted (t':=s'.toks) J y') y.fl a1 I1 n1 n2 r1
def ND {nm:Option Str}{pins:vP_}{H:Hp}{s:Shared}{e C dx:Addr}{c:Str}{n:Nat}{Q:Flow->Shared->Prop}(K1:Ck X.K X.mg cs cn) (hc:c∈cs) (U:Gl X cn) (I:Inv X pins σ H s) (f:Fly n H s.heap e C dx) (hn:PySem.W.nsIn X.K mainGlobals c=some (some 'j'))
  (z:codeAny 'f' (X.A.mark (some (.ref e))) (.handlers (.ref e) [.ExceptHandler none nm (b0::suite) pos'] X.env) (fun r s2=>match r with
     |.ok fl=>(match nm with
      |none=>Q fl s2
      |some x=>wpAny 'f' X.A (do bindName X.env x .none;unbindBehindTheSuite X.env x pos') (fun _ s3=>Q fl s3) X.xe s2)
     |.error _=>False) s) (hd:(cn == ("__debug__" : Str))=false:=by decide) :
  wpAny 'f' X.A (handleBy (.ref e) X.env [.ExceptHandler (some (.Name cn p)) nm (b0::suite) pos']) Q X.xe s:=by
 obtain⟨C',od,cd,sl,Z,lk,f4,J⟩:=K1.ex;obtain⟨C2,m1,m2⟩:=J c hc;rw[hn] at m1;cases m1;obtain⟨oe,vs,g1,Y,_⟩:=id f.ob;refine wpAny_handleBy_cons (codeAny_handlers_test ?_) (by intro q;cases q);refine iK (X:=X.hd e) (I.hd (e:=e)) U Z ?_ hd;obtain⟨hh,gg,d0,tt,oo⟩:=s;refine Hx I.kIn g1 Y lk f4 m2 ?_;refine SN z fun r s2 y=>?_
 cases r with
 |error x=>exact y.elim
 |ok fl=>exact y
def Od {i:Nat}{x:Str}(hb:∀(pn:vP_) (xe:vQ_) (g1:Gh),Rz (X.tr pn xe) g1->g1.F=g.F->g1.H0=g.H0->g1.fa0=g.fa0->SSO (X.tr pn xe) g1 body b) (hh:∀e:Addr,SSO (X.hd e) g (b0::suite) h) (K1:Ck X.K X.mg cs cn) (hg:Gl X cn)
  (hN:X.N.Nodup) (hi:X.N[i]? = some x) (hx:X.env.scope.names.lookup x=some .local) (hs:X.stack=X.env::X.outer:=by rfl) (hf:X.env.frame=some X.env.locals:=by rfl)
  (hd:(cn == ("__debug__" : Str))=false:=by decide):SO X g (.Try body [.ExceptHandler (some (.Name cn p)) (some x) (b0::suite) pos'] [] [] pos) (fW cs i b h):=by
 refine#[fun pins s σ H Dn I q=>?_];refine q.elim fun fa O s0 fl s1 G e0 k=>?_
 refine A7 e0 fun U sb h1 h2=>?_
 by_cases Z:∀c ds,U ≠ .thr c ds
 .refine CS hb I G h1 Z ?_;cases U with
  |thr c ds=>exact absurd rfl (Z c ds)
  |next=>cases h2;exact k
  |brk=>cases h2;exact k
  |cont=>cases h2;exact k
  |ret d=>cases h2;exact k
 .cases U with
  |thr c ds=>
   have h2:(if cs.contains c=true/\ds.length<=2 then (h { sb with sl:=sb.sl.set i (.v (.exc c ds)) }).bind fun y=>match y.1 with
    |.next=>some (.next,{ y.2 with sl:=y.2.sl.set i .no })
    |_=>none else none)=some (fl,s1):=h2
   by_cases hc:cs.contains c=true/\ds.length<=2
   .rw[iR hc] at h2;refine A7 h2 fun fy sy h3 h4=>?_
    obtain⟨rfl,h5⟩:fy = .next/\(Fl.next,({ sy with sl:=sy.sl.set i .no }:DS))=(fl,s1):=by
     cases fy with
     |next=>exact#[rfl,Qi h4]
     |brk=>cases h4
     |cont=>cases h4
     |ret d=>cases h4
     |thr c ds=>cases h4
    cases h5;refine Np hb hs hf I G h1 fun e C dx σ' H' H1 sa sb' od xs fa' O' J1 J fl a1 I1 n1 n2 r1=>?_
    refine ND (cs:=cs) K1 (by simpa using hc.1) hg J fl n1 (Mp (Qg (Lj (E:=fun _ _=>False) J1 J fl fun h' J2 ke=>?_) (fun _ _ y=>y) fun _ _ y=>y)) hd;obtain⟨oe,vs,g1,g2,g3,g4,_⟩:=id fl.ob;have J3:=J1.freeze J2 fl.en fl.eh (ke _ g1);have G3:=I1.new (o:=.frz oe (.own e)) fl.eh;have nd:dx≠e:=fun y=>by rw[y,fl.eh] at n2;cases n2
    have rx:Rep X.K (NN g.F fa' O') fa' (o7 H' e (.frz oe (.own e))) (.exc c ds) (.ref e):=by
     simp only[Rep];have rr:=r1.stp I1 (F9 (O:=O') (fa:=fa') (o:=.frz oe (.own e)) fl.eh).stp;exact#[e,C,xs,rfl,n1,#[oe,D1,g2,#[_,g4],by rw[r1.length];exact hc.2,.inr #[dx,od,g3,by rw[u5 nd];exact n2]],rr]
    obtain⟨P,sub,G4⟩:=G3.put i rx;have A4:Stp fa O H fa' P (o7 H' e (.frz oe (.own e))):=a1.trans ((F9 (O:=O') (fa:=fa') (o:=.frz oe (.own e)) fl.eh).stp.trans (gM sub).stp);refine gE (X:=X.hd e) (v:=.ref e) (J3.hd (e:=e)) hN hi (.inl hx) rfl (fun s4 J4=>?_) (.inr hx);refine Qg ((hh e).pe pins s4 _ _ #[fun σ3 Y=>∃f3 O3,Stp fa O H f3 O3 Y/\GI X.K g σ3 Y f3 O3 sy,fun _ _=>False,fun _ _=>False,fun _ _=>False] J4 #[fa',P,_,.next,sy,G4,h3,fun σ3 Y f3 O3 a3 I3=>#[f3,O3,A4.trans a3,I3]]) (fun f s5 y=>?_) fun _ _ y=>y
    cases f with
    |brk=>obtain⟨_,_,_,q⟩:=y;exact q.elim
    |cont=>obtain⟨_,_,_,q⟩:=y;exact q.elim
    |ret u=>obtain⟨_,_,_,_,_,q⟩:=y;exact q.elim
    |next=>
     obtain⟨σ3,Y,J5,f3,O3,a3,I3⟩:=y;have J6:Inv X pins σ3 Y s5:=J5.unhd J.ok;have l3:i<σ3.length:=by rw[J6.len];exact(Qr.mp hi).1
     refine gV (TJ (gE (v:=.non) J6 hN hi (.inl hx) rfl (fun s6 J7=>?_) (.inr hx)));unfold unbindBehindTheSuite;refine Ta (Ot (v:=.non) J7 hN hi hx (Sj l3) fun s7 J8=>?_);rw[Vm] at J8;obtain⟨P2,sub2,I4⟩:=I3.drop (i:=i) (by rw[<-I3.sl.len];exact l3) none;exact#[_,Y,J8,k _ Y f3 P2 (a3.trans (gM sub2).stp) I4]
   .rw[iU hc] at h2;cases h2
  |next=>exact absurd (fun c ds z=>by cases z) Z
  |brk=>exact absurd (fun c ds z=>by cases z) Z
  |cont=>exact absurd (fun c ds z=>by cases z) Z
  |ret d=>exact absurd (fun c ds z=>by cases z) Z
end
section
variable {g:Gh}{a:Expr}{p pos:Pos}{fa:DE}
structure PNs (X:Cx) (es:List Expr) (ns:List Str):Prop where
 ex:∃Cs:List Addr,PA X es (fun _ H Q=>Q (Cs.map V.ref) H)/\Paired (fun n C=>X.mg n=some (.ref C)) ns Cs
def Ir:PNs X [] []:=#[[],V3,.nil]
def ib {n:Str}{es:List Expr}{ns:List Str}{p2:Pos}(U:Gl X n) (J:∃C,X.mg n=some 'j') (r:PNs X es ns) (Y:(n == ("__debug__" : Str))=false:=by decide) (hs:starEach (.Name n p2::es) X.env=(false,eval (.Name n p2) X.env)::starEach es X.env:=by rfl):PNs X (.Name n p2::es) (n::ns):=by
 obtain⟨C,J⟩:=J;obtain⟨Z,h1,h2⟩:=r.ex;exact#[C::Z,P1 (zr (v:=.ref C) U J rfl Y) h1 hs,.cons J h2]
def ExO.new {a C U:Addr}{o:HO}(h:ExO H a C xs) (J:H U=none):ExO (o7 H U o) a C xs:=by
 obtain⟨oe,Y,e2,e3,e4,e5⟩:=h;refine#[oe,by rw[u5 (L9 Y J)];exact Y,e2,e3,e4,e5.imp id ?_];rintro⟨dx,od,d1,Z⟩;exact#[dx,od,d1,by rw[u5 (L9 Z J)];exact Z]
def xk (cs ns:List Str):D->Option D
 |.exc c _=>if cs.contains c=true then some (.bl (ns.any (ah c))) else none
 |_=>none
theorem xJ (m:∀c'∈cs',∃C',X.mg c'=some (.ref C')/\PySem.W.kitOne X.K 'j' (.ref C')=some (ah c c')):∀{ns:List Str}{Cs:vL_},Paired (fun n C=>X.mg n=some 'j') ns Cs->(∀n∈ns,n∈cs')->PySem.W.kitAny X.K 'j' (Cs.map Value.ref)=some (ns.any (ah c))
 |_,_,.nil,_=>rfl
 |n::ns,C1::Cs,.cons hm r,h=>by
  obtain⟨Y,m1,m2⟩:=m n (h n (PD ..));rw[hm] at m1;cases m1;have J:=xJ m r fun x U=>h x (Pz _ U)
  show (match PySem.W.kitOne X.K 'j' (.ref C1) with | some true=>some true | some false=>PySem.W.kitAny X.K 'j' (Cs.map Value.ref) | none=>none)=_;rw[m2,SE];cases ah c n with
  |true=>rfl
  |false=>exact J
def Dz {Cs:vL_}:CallR X (.builtin "isinstance") (fun xs H Q=>∃e C b ys tp,xs=[.ref e,.ref tp]/\ExO H e C ys/\H tp=some (.tup (Cs.map V.ref))/\XC X.K C/\PySem.W.kitAny X.K 'j' (Cs.map Value.ref)=some b/\Q (.bl b) H):=by
 intro pins s σ H xs us Q I r h;refine gB_ fun G_ g_=>?_
 obtain⟨e,C,b,ys,tp,rfl,h1,h2,h3,h4,q⟩:=h;obtain⟨u,c0,rfl,ru,rc⟩:=qz r;apply g_;cases ru;cases rc;obtain⟨o,Z,o2,_⟩:=pO I h1;obtain⟨_,its,vi,U,Y,t2,J⟩:=I.hok _ _ h2;have ei:∀{l:vL_}{us:vV_},Vals (l.map V.ref) us->us=l.map Value.ref:=by
  intro l;induction l with
  |nil=>intro us v;cases v;rfl
  |cons a l ih=>
   intro us v;cases v with
   |cons r v=>cases r;rw[ih v];rfl
 have:=ei vi;subst this;obtain⟨oc,od,dt,sl⟩:=U;obtain⟨n,J⟩:=J;cases t2;cases J;exact PySem.W.kia_tup h3.kit I.kIn #[o,Z,o2] Y h4 (fun z=>nomatch z) fun tk=>#[.bl b,H,I.tok tk,rfl,q]
def LO {ns:List Str}{es:List Expr}{x1:Nat}{p2:Pos}(R:RfA X.K X.mg cs cs') (T:PNs X es ns) (hn:ns.all (cs'.contains ·)=true) (hl:ns.length<=1000) (hg:Gl X "isinstance") (hm:X.mg "isinstance" = none) (ha:EO X g a fa)
  (U:starEach [.Tuple es x1 p2] X.env=(false,eval (.Tuple es x1 p2) X.env)::starEach [] X.env:=by rfl) (he:starEach [a,.Tuple es x1 p2] X.env=(false,eval a X.env)::starEach [.Tuple es x1 p2] X.env:=by rfl) (Z:(backTo pos (starEach [.Tuple es x1 p2] X.env)).any (·.1)=false:=by rfl) :
  EO X g (.Call (.Name "isinstance" p) [a,.Tuple es x1 p2] [] pos) (j4 (xk cs ns) fa):=by
 obtain⟨Cs,h1,h2⟩:=T.ex;refine EO.w (hU (Dz (Cs:=Cs)) hg hm lU (P1 ha.pe (P1 (tL h1) V3 U) he) #[] #[] he Z) fun σ H Q hQ=>?_
 refine hQ.elim fun f0 O s d s' I e k=>?_
 refine A7 e fun x s1 h3 h=>?_
 refine Q0 h fun d' J h=>?_
 cases h;cases x with
 |exc c ds=>
  have J:(if cs.contains c=true then some (.bl (ns.any (ah c))) else none)=some d:=J;by_cases Y:cs.contains c=true
  .rw[iR Y] at J;cases J;refine#[f0,O,s,_,s1,I,h3,fun y H1 f1 O1 a1 I1 r1=>?_];simp only[Rep] at r1;obtain⟨b,C,xs,rfl,n1,eo,rs⟩:=r1;obtain⟨C2,m1,m2,m3,m4,m5⟩:=(R.rx c (by simpa using Y)).ex;rw[n1] at m1;cases m1;have lC:(Cs.map V.ref).length<=sizeLine:=by
    rw[PH,<-h2.length];exact Rh (NG hl)
   refine#[lC,fun tp ht=>?_];refine#[b,C,_,xs,tp,rfl,eo.new ht,D1,m2,xJ m5 h2 (fun n hn'=>by
    have:=QC.mp hn n hn';simpa using this),k _ _ f1 O1 (a1.trans (F9 ht)) (I1.new ht) (by simp only[Rep])]
  .rw[iU Y] at J;cases J
 |_=>cases J
end
section
variable {K:vF_}{n:Str}{st:Stmt}{f:Addr}
def rj {w:World}{N ps:List Str}{b:DM}(F:GF K mg n st f fd) (q:∀(kV doc pm:Value) (an:vA_) (cdv ct:Value) (us:vV_),us.length=ps.length->bindArgs 'w' #[us,[]]=pure (ps.zip us)) (S:FnScope N ps (D4 st))
  (J:∀(cdv:Value) (A:Around) (outer:List Env) (s:Shared) (H:Hp) (E:XK) (g:Gh),Rz (S4 (aV P w) P w K mg base N n (D4 st) f cdv A outer s H E) g->Room k (A.deeper (PyProof.Rows.envOfC n (D4 st) s.heap.objs.size f cdv)) ->
   SSO (S4 (aV P w) P w K mg base N n (D4 st) f cdv A outer s H E) g (Q9 st) b):CalX P w K mg base (k+1) n ps (aP N.length b):=#[f,fd,HW F.F S J,F.m,F.F.kp,F.F.binds q]
def ck_mk (X:K.In h) (G:h.Ns mainGlobals mg) {sl:vS_}(a:PySem.W.nsIn K mainGlobals cn=some (some (.ref C'))) (U:K.lookup C'=some #[.type "type",od,.cls cd,sl]) (J:PySem.W.subIn K (.ref C') (.type "BaseException")=some true)
  (m:∀c∈cs,∃C,PySem.W.nsIn K mainGlobals c=some (some 'j')/\PySem.W.subIn K 'j' (.ref C')=some true):Ck K mg cs cn:=#[C',od,cd,sl,Tc X G a,U,J,m]
def sub_mk (a:PySem.W.nsIn K mainGlobals c=some (some 'j')) (k:PySem.W.subIn K 'j' (.ref C')=some true):∃C,PySem.W.nsIn K mainGlobals c=some (some 'j')/\PySem.W.subIn K 'j' (.ref C')=some true:=#[C,a,k]
end
section
variable {g:Gh}{a:Expr}{p pos:Pos}
noncomputable def lE (f:cE) (a b:DM):DM:=fun s=>(f s).bind fun x=>match x.1 with
 |.inl (.bl true)=>a x.2
 |.inl (.bl false)=>b x.2
 |.inl _=>none
 |.inr (c,es)=>some (.thr c es,x.2)
def JU {f:cE}{fa fb:DM}(he:XO X g e f) (hc:EO X g a (dC (.bl true))) (hm:behindInMarks .Is a=false) (ha:SSO X g la fa) (hb:SSO X g lb fb):SO X g (.If (.Compare e [.Is] [a] pos2) la lb pos) (lE f fa fb):=SO.w (yM (uG NL he.pe hc.pe hm) ha.pe hb.pe) fun E σ H hQ=>by
 refine hQ.elim fun fa O s fl s' I q k=>?_
 refine A7 q fun r s1 h1 h2=>?_
 refine#[fa,O,s,r,s1,I,h1,fun d ed v H' f1 O1 J Y U=>?_,fun c es ec H' f1 O1 J Y C dx od xs n1 n2 U=>?_]
 .subst ed;cases d with
  |bl a=>
   simp only[Rep] at U;subst U;refine#[f1,O1,s1,_,s1,Y,rfl,fun u H2 f2 O2 a2 Z r2=>?_];simp only[Rep] at r2;subst r2;refine#[a,true,rfl,rfl,?_];cases a with
   |true=>exact#[true,rfl,by show (if true=true then _ else _);rw[iR rfl];exact#[f2,O2,s1,fl,s',Z,h2,k.shift (J.trans a2).stp]]
   |false=>exact#[false,rfl,by show (if false=true then _ else _);rw[iU PL];exact#[f2,O2,s1,fl,s',Z,h2,k.shift (J.trans a2).stp]]
  |_=>cases h2
 .subst ec;cases h2;exact k σ C dx od xs H' f1 O1 J.stp Y n1 n2 U
end
def B5 {K:vF_}{n:Str}{st:Stmt}{f:Addr}{w:World}{ps:List Str}{b:DM}(U:List Str) (F:GF K mg n st f fd) (q:∀(kV doc pm:Value) (an:vA_) (cdv ct:Value) (us:vV_),us.length=ps.length->bindArgs 'w' #[us,[]]=pure (ps.zip us)) (S:FnScope (ps++U) ps (D4 st))
  (J:(ps++U).Nodup->∀(cdv:Value) (A:Around) (outer:List Env) (s:Shared) (H:Hp) (E:XK) (g:Gh),Room k (A.deeper (PyProof.Rows.envOfC n (D4 st) s.heap.objs.size f cdv))->SSO (S4 Y9 P w K mg base (ps++U) n (D4 st) f cdv A outer s H E).nox g (Q9 st) b) :
  Cal P w K mg base (k+1) n ps (A5 (ps++U).length b):=vH F q S (J S.nd)
end DL
namespace T
open PySem PySem.Spec L2 DL
abbrev OB:DM:=(d6 (j5 (a9 J0 (dL 2) (dL 3)) (f9 4)) (d6 (j5 (dV 3) (f9 2)) (j5 (dV 4) (f9 3))))
def lL:DM:=(d6 (j5 (i9 (one ar) (a7 (dL 0) a8)) (f9 2)) (d6 (j5 (i9 (one ar) (a7 's' a8)) (f9 3)) (d6 (V6 (dB (a9 A1 (dL 3) (Wk 0))) (OB)) (i8 (dV 2)))))
def T3:c8:=A5 5 (lL)
abbrev ig (m0n:c8):DM:=(j5 (d9 m0n (a7 (dV 1) (a7 (dV 2) a8))) (f9 1))
def jD (J:c8):DM:=(d6 (j5 (Wk 0) (f9 1)) (d6 (M1 (dV 0) (f9 2) (ig J)) (i8 (dV 1))))
def bJ (J:c8):c8:=A5 3 (jD J)
def qe (J:c8):DM:=(d6 (j5 (d9 J 'o') (f9 1)) (d6 (j7 (dB (a9 (l7 (fun i j=>decide (i<j))) (a9 d7 (dL 0) (j4 o9 (Wk 1))) (Wk 0))) (j5 (j4 o9 's') (f9 1)) j9) (i8 (i9 (one Z5) (a7 (l5 (F5 [1] (M8 (dV 0)) F4 (a9 Q3 (dL 0) 's'))) a8)))))
def yW (J:c8):c8:=A5 2 (qe J)
def qc:DM:=(i8 (u4 (j4 (A2 "int") (dL 0)) (v8 (j4 (A2 "bool") (dL 0)))))
def cG:c8:=A5 1 (qc)
def iZ (U:c8) (J:c8):DM:=(d6 (j7 (n9 (l8 (j8 (j4 (A2 "tuple") (dL 0)))) (dB (a9 A1 'n' 's'))) 't' j9) (d6 (j7 (l8 (j8 (i9 (one jC) (a7 (l5 (F5 [] (M8 (dV 0)) F4 (d9 J 'o'))) a8)))) 't' j9) (i8 (u4 (a9 (l7 (fun i j=>decide (j<=i))) (a9 d7 (dL 0) (j4 o9 (Wk 1))) (Wk 1)) (a9 F7 (d9 U 'o') (Wk 1))))))
def BI (J:c8) (U:c8):c8:=A5 2 (iZ J U)
def kL (J:c8):DM:=(i8 (d9 J (a7 (dV 0) (a7 (Wk 3) a8))))
def zF (J:c8):c8:=A5 1 (kL J)
def gQ:DM:=(d6 (j7 (dB (a9 (l7 (fun i j=>decide (j<i))) (dL 0) (Wk 0))) (i8 (Wk 1)) j9) (d6 (j7 (dB (a9 (l7 (fun i j=>decide (i<j))) (dL 0) (Wk 0))) (i8 (j4 o9 (Wk 1))) j9) (i8 (Wk 0))))
def ko:c8:=A5 1 (gQ)
def mN (J:c8):DM:=(d6 (j5 (a9 w8 (Wl 0 0) (a9 p9 (a9 w8 (Wl 1 1) (Wl 2 2)) (a9 w8 (Wl 2 1) (Wl 1 2)))) (f9 3)) (d6 (j5 (a9 p9 (dL 3) (a9 w8 (Wl 0 1) (a9 p9 (a9 w8 (Wl 1 0) (Wl 2 2)) (a9 w8 (Wl 2 0) (Wl 1 2))))) (f9 3)) (d6 (j5 (a9 k6 (dL 3) (a9 w8 (Wl 0 2) (a9 p9 (a9 w8 (Wl 1 0) (Wl 2 1)) (a9 w8 (Wl 2 0) (Wl 1 1))))) (f9 3)) (i8 (d9 J (a7 (dV 3) a8))))))
def sJ (J:c8):c8:=A5 4 (mN J)
def fg:DM:=(d6 (j7 (j8 's') (i8 (l5 (W0 dJ (a7 (dL 0) (a7 (a9 k6 (F6 (dL 0) (G9 (Wk 1)) G7) (F6 (dL 0) G7 (G9 (Wk 1)))) a8))))) j9) (i8 (l5 (W0 dJ (a7 (dL 0) (a7 (F6 (dL 0) (G9 (Wk 1)) G7) a8))))))
def kf:c8:=A5 2 (fg)
abbrev JK:DM:=(u6 0 1 (a7 (dV 1) (a7 (a9 J0 (dL 0) 's') a8)))
def pk:DM:=(d6 (u6 0 1 (a7 (i9 (one ar) (a7 (dL 0) a8)) (a7 (i9 (one ar) (a7 's' a8)) a8))) (d6 (V6 (dB (a9 (l7 (fun i j=>decide (j<i))) 's' (Wk 0))) (JK)) (i8 (dV 0))))
def OF:c8:=A5 2 (pk)
def pW:DM:=(i8 (jR 0))
def aW:c8:=A5 1 (pW)
def cP:DM:=(d6 (V8 0 3 (a9 k6 (G6 0 3) (Wk 1))) (d6 (j7 (dB (a9 (l7 (fun i j=>decide (j<i))) (G6 0 2) (Wk 0))) (d6 (j5 (a9 J0 (G6 0 2) 's') (f9 2)) (d6 (V8 0 2 (a9 Q3 (G6 0 2) 's')) (i8 (dV 2)))) j9) (d6 (j5 (G6 0 1) (f9 3)) (d6 (V8 0 1 (a9 k6 (dL 3) (Wk 1))) (d6 (j5 (a9 d7 (G6 0 0) (a9 J0 (dL 3) (i9 (one j6) (a7 (G6 0 0) a8)))) (f9 4)) (d6 (j7 (o8 (dB (a9 (l7 (fun i j=>decide (j<=i))) (dL 4) (a9 eB (Wk 10) (Wk 18)))) (dB (a9 (l7 (fun i j=>decide (i<j))) (dL 3) (i9 (one j6) (a7 (G6 0 0) a8))))) (d6 (V8 0 2 (a9 Q3 (dL 4) 's')) (i8 (a9 J0 (dL 4) 's'))) j9) (d6 (j5 (a9 J0 (a9 k6 (a9 k6 (a9 w8 (a9 J0 (dL 4) (Wk 1000003)) (Wk 48271)) (a9 w8 (Wk 7919) (G6 0 3))) (Wk 104729)) (Wk 2147483647)) (f9 5)) (d6 (j5 (a9 J0 (a9 k6 (a9 k6 (a9 w8 (a9 Q3 (dL 5) (Wk 64)) (Wk 69621)) (a9 w8 (a9 w8 (Wk 31) (G6 0 3)) (G6 0 3))) (dL 3)) (Wk 2147483587)) (f9 5)) (i8 (a9 J0 (a9 Q3 (dL 5) (Wk 64)) 's'))))))))))
def BV:c8:=A5 6 (cP)
abbrev Jw:DM:=(u6 0 1 (a7 (dV 1) (a7 (a9 J0 (dL 0) 's') a8)))
def AJ:DM:=(d6 (u6 0 1 (a7 (i9 (one ar) (a7 (dL 0) a8)) (a7 (i9 (one ar) (a7 's' a8)) a8))) (d6 (V6 (dB (a9 (l7 (fun i j=>decide (j<i))) 's' (Wk 0))) (Jw)) (i8 (dV 0))))
def gA:c8:=A5 2 (AJ)
def nJ (J:c8):DM:=(d6 (j5 (d9 J (a7 (d9 J (a7 (dV 0) (a7 (dV 1) a8))) (a7 (dV 2) a8))) (f9 3)) (d6 (j7 (dB (a9 (l7 (fun i j=>decide (i<j))) (dL 2) (Wk 0))) (j5 (a9 p9 (Wk 0) (dL 3)) (f9 3)) j9) (i8 (i7 (a7 (a9 Q3 (dL 0) (dL 3)) (a7 (a9 Q3 's' (dL 3)) (a7 (a9 Q3 (dL 2) (dL 3)) a8)))))))
def Ap (J:c8):c8:=A5 4 (nJ J)
def kn (mo:c8):DM:=(d6 (E3 1 (n8 (a7 (dC .non) (a7 (dC (.bl true)) (a7 (dC (.bl false)) (a7 (Wk 0) (a7 (Wk 1) (a7 (j4 o9 (Wk 1)) (a7 (Wk 2) (a7 (dC (.str "")) (a7 (dC (.str "a")) (a7 (dC (.str "meet")) (a7 (dC (.str "apart")) (a7 (dC (.str "one")) (a7 (dC (.str "other")) (a7 (i7 a8) (a7 (l5 (n8 a8)) (a7 (i7 (a7 (Wk 0) a8)) (a7 (i7 (a7 (Wk 0) (a7 (Wk 0) (a7 (Wk 1) a8)))) (a7 (i7 (a7 (Wk 1) (a7 (Wk 2) a8))) a8)))))))))))))))))))) (d6 (E3 1 (Q8 P9 's' (l5 (n8 (a7 (i7 (a7 (Wk 2) (a7 (Wk 4) (a7 (Wk 2) a8)))) (a7 (i7 (a7 (Wk 0) (a7 (Wk 0) (a7 (Wk 0) a8)))) (a7 (i7 (a7 (Wk 1) (a7 (Wk 1) (a7 (j4 o9 (Wk 1)) a8)))) (a7 (i7 (a7 (i7 (a7 (Wk 0) (a7 (Wk 0) (a7 (Wk 1) a8)))) a8)) (a7 (i7 (a7 (dC (.str "one")) (a7 (Wk 0) a8))) (a7 (a9 eB (Wk 10) (Wk 39)) a8)))))))))) (i8 (a9 d7 's' (d9 mo (a7 (dV 0) (a7 (Wk 24) a8)))))))
def xw (mo:c8):c8:=A5 2 (kn mo)
def U8 (J:c8) (mo:c8) (U:c8):DM:=(d6 (j7 (o8 (j8 (j4 (A2 "tuple") 's')) (o8 (dB (a9 A1 's' (i7 a8))) (dB (a9 (l7 (fun i j=>decide (j<i))) (d9 mo (a7 (dV 0) (a7 (Wk 6) a8))) (Wk 0))))) (d6 (j5 (d9 mo (a7 (dV 0) (a7 (i9 (one j6) (a7 's' a8)) a8))) (f9 2)) (i8 (a9 k6 (a9 k6 (F6 's' G7 (G9 (dL 2))) (i7 (a7 (d9 U (a7 (dV 0) (a7 (a9 d7 's' (dL 2)) a8))) a8))) (F6 's' (G9 (a9 k6 (dL 2) (Wk 1))) G7)))) j9) (d6 (j5 (d9 mo (a7 (dV 0) (a7 (Wk 8) a8))) (f9 3)) (d6 (j7 (o8 (j8 (j4 (A2 "tuple") 's')) (dB (a9 (l7 (fun i j=>decide (i<j))) (dL 3) (Wk 6)))) (d6 (j5 (d9 mo (a7 (dV 0) (a7 (a9 k6 (i9 (one j6) (a7 's' a8)) (Wk 1)) a8))) (f9 2)) (d6 (E3 4 (n8 (a7 (l5 (W0 (one iP) (a7 's' a8))) (a7 (a9 k6 (F6 's' G7 (G9 (dL 2))) (F6 's' (G9 (a9 k6 (dL 2) (Wk 1))) G7)) (a7 (a9 k6 (F6 's' G7 (G9 (a9 k6 (dL 2) (Wk 1)))) (F6 's' (G9 (dL 2)) G7)) (a7 (jH 's' (j4 o9 (Wk 1))) a8)))))) (i8 (a9 d7 (l5 (Q8 P9 (dL 4) (l5 (n8 (a7 (a9 k6 (F6 's' (G9 (Wk 1)) G7) (F6 's' G7 (G9 (Wk 1)))) (a7 (a9 k6 's' (i7 (a7 (d9 J 'o') a8))) a8)))))) (dL 3))))) j9) (d6 (j7 (o8 (j8 (j4 (A2 "int") 's')) (o8 (l8 (j8 (j4 (A2 "bool") 's'))) (dB (a9 (l7 (fun i j=>decide (i<j))) (dL 3) (Wk 6))))) (i8 (a9 d7 (l5 (n8 (a7 (a9 k6 's' (Wk 1)) (a7 (a9 p9 's' (Wk 1)) (a7 (a9 p9 (Wk 0) 's') (a7 (a9 F7 's' (Wk 1)) (a7 (a9 w8 (Wk 2) 's') (a7 (i9 (one gL) (a7 's' a8)) a8)))))))) (dL 3))) j9) (i8 (d9 J 'o'))))))
def qN (J:c8) (mo:c8):Nat->c8
 |0=>fun _ _=>none
 |n+1=>A5 5 (U8 J mo (qN J mo n))
def uO (J:c8):DM:=(i8 (d9 J (a7 (dV 0) (a7 (dC (.bl true)) a8))))
def tU (J:c8):c8:=A5 1 (uO J)
def bM (J:c8):DM:=(d6 (j7 (n9 (l8 (j8 (j4 (A2 "tuple") (dL 0)))) (dB (a9 A1 'n' (Wk 3)))) 't' j9) (d6 (j7 (n9 (dB (a9 A1 (l5 (F5 [] (M8 (dV 0)) (n9 (l8 (j8 (j4 (A2 "int") (dL 0)))) (j8 (j4 (A2 "bool") (dL 0)))) (dV 0))) (l5 (n8 a8)))) (dB (a9 (l7 (fun i j=>decide (i<j))) (Wl 0 2) (Wk 1)))) 't' j9) (i8 (a9 F7 (d9 J (a7 (d9 J (a7 (Wl 0 0) (a7 (Wl 0 1) a8))) (a7 (Wl 0 2) a8))) (Wk 1)))))
def uf (J:c8):c8:=A5 1 (bM J)
def pQ:DM:=(i8 (l5 (F5 [0] (R8 (a7 'n' a8)) F4 (i7 (a7 (a9 d7 's' (dL 0)) (a7 (a9 d7 's' (a9 J0 (a9 k6 (dL 0) (Wk 1)) (i9 (one j6) (a7 's' a8)))) a8))))))
def V7:c8:=A5 1 (pQ)
def kZ:DM:=(d6 (j5 (a9 w8 (Wl 0 0) (a9 p9 (a9 w8 (Wl 1 1) (Wl 2 2)) (a9 w8 (Wl 1 2) (Wl 2 1)))) (f9 3)) (d6 (j5 (a9 w8 (Wl 0 1) (a9 p9 (a9 w8 (Wl 1 0) (Wl 2 2)) (a9 w8 (Wl 1 2) (Wl 2 0)))) (f9 4)) (i8 (a9 k6 (a9 p9 (dL 3) (dL 4)) (a9 w8 (Wl 0 2) (a9 p9 (a9 w8 (Wl 1 0) (Wl 2 1)) (a9 w8 (Wl 1 1) (Wl 2 0))))))))
def U5:c8:=A5 5 (kZ)
def lD (J:c8):DM:=(d6 (j5 (a9 k6 (a9 w8 (Wl 0 0) (Wl 1 2)) (a9 w8 (Wl 1 0) (Wl 0 2))) (f9 2)) (i8 (d9 J (a7 (dV 2) (a7 (a9 k6 (a9 w8 (Wl 0 1) (Wl 1 2)) (a9 w8 (Wl 1 1) (Wl 0 2))) (a7 (a9 w8 (a9 w8 (Wk 2) (Wl 0 2)) (Wl 1 2)) a8))))))
def Bc (J:c8):c8:=A5 3 (lD J)
def mW:DM:=(d6 (j5 (a9 p9 (a9 w8 (Wl 0 0) (Wl 1 2)) (a9 w8 (Wl 1 0) (Wl 0 2))) (f9 2)) (i8 (w4 (a9 (l7 (fun i j=>decide (i<j))) (dL 2) (Wk 0)) (u4 (a9 F7 (dL 2) (Wk 0)) (a9 (l7 (fun i j=>decide (i<j))) (a9 w8 (Wl 0 1) (Wl 1 2)) (a9 w8 (Wl 1 1) (Wl 0 2)))))))
def eM:c8:=A5 3 (mW)
abbrev mE (m00:c8) (mt:c8):DM:=(j7 (dB (a9 F7 (d9 m00 (a7 (dV 2) (a7 (dV 3) (a7 (dV 1) a8)))) (j4 o9 (Wk 1)))) 't' j9)
def nG (J:c8) (U:c8):DM:=(d6 (M1 (d9 U 'o') (r8 2 (o6 (f9 2) (o6 (f9 3) t6))) (mE J U)) (i8 (dC (.bl true))))
def sm (J:c8) (U:c8):c8:=A5 4 (nG J U)
abbrev mU (m0p:c8):DM:=(j7 (j8 (d9 m0p (a7 (dV 2) (a7 (dV 1) a8)))) (i8 (dC (.bl true))) j9)
def nH (J:c8):DM:=(d6 (M1 (dV 0) (f9 2) (mU J)) 't')
def vE (J:c8):c8:=A5 3 (nH J)
def uu:DM:=(i8 (i7 (a7 (a9 p9 (a9 w8 (Wl 0 1) (Wl 1 2)) (a9 w8 (Wl 0 2) (Wl 1 1))) (a7 (a9 p9 (a9 w8 (Wl 0 2) (Wl 1 0)) (a9 w8 (Wl 0 0) (Wl 1 2))) (a7 (a9 p9 (a9 w8 (Wl 0 0) (Wl 1 1)) (a9 w8 (Wl 0 1) (Wl 1 0))) a8)))))
def kN:c8:=A5 2 (uu)
def Ai (J:c8):DM:=(i8 (d9 J (a7 (dV 0) (a7 (dV 1) a8))))
def uZ (J:c8):c8:=A5 2 (Ai J)
def zu (U:c8) (J:c8):DM:=(i8 (d9 U (a7 (d9 J (a7 (dV 0) (a7 (dV 1) a8))) a8)))
def sR (U:c8) (J:c8):c8:=A5 2 (zu U J)
abbrev kM (m00:c8) (m0q:c8) (m0l:c8) (mt:c8):DM:=(d6 (j5 (d9 m00 (a7 (dV 1) (a7 (dV 2) (a7 (dV 5) a8)))) (f9 7)) (d6 (j7 (dB (a9 A1 (dL 7) (j4 o9 (Wk 1)))) (N8 4 (dV 5)) j9) (j7 (dB (a9 F7 (a9 w8 (dL 7) (d9 m00 (a7 (dV 1) (a7 (dV 2) (a7 (dV 6) a8))))) (j4 o9 (Wk 1)))) (N8 4 (d9 m0q (a7 (dV 3) (a7 (d9 m0l (a7 (dV 5) (a7 (dV 6) a8))) a8)))) j9)))
def nD (Y:c8) (U:c8) (J:c8) (Z:c8):DM:=(d6 (j5 (d9 J (a7 (dV 1) (a7 (dV 2) a8))) (f9 3)) (d6 (E3 4 (n8 a8)) (d6 (M1 (d9 Z 'o') (r8 2 (o6 (f9 5) (o6 (f9 6) t6))) (kM Y U J Z)) (i8 (dV 4)))))
def yw (Y:c8) (U:c8) (J:c8) (Z:c8):c8:=A5 8 (nD Y U J Z)
def mh (mo:c8):DM:=(d6 (E3 1 (n8 (a7 (i7 (a7 (Wk 1) (a7 (Wk 0) (a7 (Wk 0) (a7 (Wk 1) a8))))) (a7 (i7 (a7 (Wk 1) (a7 (j4 o9 (Wk 1)) (a7 (Wk 1) (a7 (Wk 1) a8))))) (a7 (i7 (a7 (Wk 3) (a7 (j4 o9 (Wk 4)) (a7 (Wk 4) (a7 (Wk 3) a8))))) (a7 (i7 (a7 (Wk 1) (a7 (Wk 1) (a7 (Wk 0) (a7 (Wk 1) a8))))) (a7 (i7 (a7 (Wk 0) (a7 (j4 o9 (Wk 1)) (a7 (Wk 1) (a7 (Wk 0) a8))))) (a7 (i7 (a7 (Wk 2) (a7 (Wk 1) (a7 (Wk 1) (a7 (Wk 1) a8))))) a8)))))))) (d6 (j5 (a9 d7 's' (d9 mo (a7 (dV 0) (a7 (Wk 6) a8)))) (f9 2)) (d6 (j5 (a9 p9 (d9 mo (a7 (dV 0) (a7 (Wk 19) a8))) (Wk 9)) (f9 3)) (d6 (j5 (a9 p9 (d9 mo (a7 (dV 0) (a7 (Wk 19) a8))) (Wk 9)) (f9 4)) (i8 (a9 k6 (dL 2) (i7 (a7 (dV 3) (a7 (dV 4) (a7 (a9 d7 (l5 (n8 (a7 (Wk 1) (a7 (Wk 2) (a7 (Wk 3) (a7 (Wk 7) a8)))))) (d9 mo (a7 (dV 0) (a7 (Wk 4) a8)))) a8))))))))))
def yH (mo:c8):c8:=A5 5 (mh mo)
def lW (J:c8):DM:=(d6 (j5 (a9 k6 (a9 k6 (a9 w8 (Wl 0 0) 's') (a9 w8 (Wl 0 1) (dL 2))) (Wl 0 4)) (f9 3)) (i8 (d9 J (a7 (dV 3) (a7 (a9 k6 (a9 k6 (a9 w8 (Wl 0 2) 's') (a9 w8 (Wl 0 3) (dL 2))) (Wl 0 5)) (a7 (Wl 0 6) a8))))))
def vb (J:c8):c8:=A5 4 (lW J)
def jE (mo:c8):DM:=(d6 (u6 1 2 (a7 (a9 k6 (Wk 1) (d9 mo (a7 (dV 0) (a7 (Wk 4) a8)))) (a7 (a9 k6 (Wk 1) (d9 mo (a7 (dV 0) (a7 (Wk 4) a8)))) a8))) (d6 (E3 3 (n8 (a7 (i7 (a7 (i7 (a7 (Wk 0) (a7 (Wk 0) a8))) (a7 (i7 (a7 (dV 1) (a7 (Wk 0) a8))) (a7 (i7 (a7 (dV 1) (a7 (dV 2) a8))) (a7 (i7 (a7 (Wk 0) (a7 (dV 2) a8))) a8))))) (a7 (i7 (a7 (i7 (a7 (Wk 0) (a7 (Wk 0) a8))) (a7 (i7 (a7 (dV 1) (a7 (Wk 0) a8))) (a7 (i7 (a7 (Wk 0) (a7 (dV 2) a8))) a8)))) (a7 (i7 (a7 (i7 (a7 (Wk 0) (a7 (Wk 0) a8))) (a7 (i7 (a7 (dV 1) (a7 (Wk 0) a8))) (a7 (i7 (a7 (dV 1) (a7 (dV 2) a8))) a8)))) a8))))) (d6 (E3 3 (Q8 P9 (dL 3) (l5 (n8 (a7 (i7 (a7 (i7 (a7 (Wk 0) (a7 (Wk 0) a8))) (a7 (i7 (a7 (dV 1) (a7 (dV 2) a8))) (a7 (i7 (a7 (Wk 0) (a7 (dV 2) a8))) a8)))) (a7 (i7 (a7 (i7 (a7 (Wk 0) (a7 (Wk 0) a8))) (a7 (i7 (a7 (a9 k6 's' (Wk 1)) (a7 (Wk 1) a8))) (a7 (i7 (a7 (Wk 1) (a7 (a9 k6 (dL 2) (Wk 1)) a8))) a8)))) (a7 (i7 (a7 (i7 (a7 (Wk 0) (a7 (Wk 0) a8))) (a7 (i7 (a7 (dV 1) (a7 (Wk 0) a8))) (a7 (i7 (a7 (dV 1) (a7 (dV 2) a8))) (a7 (i7 (a7 (Wk 0) (a7 (dV 2) a8))) a8))))) a8))))))) (d6 (N8 3 (i7 (a7 (i7 (a7 (Wk 0) (a7 (dV 2) a8))) (a7 (i7 (a7 (dV 1) (a7 (Wk 0) a8))) (a7 (i7 (a7 (a9 w8 (Wk 2) 's') (a7 (dV 2) a8))) (a7 (i7 (a7 (dV 1) (a7 (a9 w8 (Wk 2) (dL 2)) a8))) a8)))))) (d6 (N8 3 (i7 (a7 (i7 (a7 (Wk 0) (a7 (Wk 1) a8))) (a7 (i7 (a7 (Wk 1) (a7 (Wk 0) a8))) (a7 (i7 (a7 (a9 k6 's' (Wk 1)) (a7 (Wk 0) a8))) (a7 (i7 (a7 (a9 k6 's' (Wk 2)) (a7 (Wk 1) a8))) (a7 (i7 (a7 (a9 k6 's' (Wk 1)) (a7 (Wk 2) a8))) (a7 (i7 (a7 (Wk 1) (a7 (Wk 2) a8))) a8)))))))) (i8 (a9 d7 (dL 3) (d9 mo (a7 (dV 0) (a7 (Wk 8) a8))))))))))
def Aa (mo:c8):c8:=A5 4 (jE mo)
abbrev vO (m0r:c8):DM:=(j7 (j8 (d9 m0r (a7 (a9 d7 (dL 0) (dL 2)) (a7 (a9 d7 (dL 0) 's') a8)))) (j5 (dV 2) (f9 1)) j9)
def jX (J:c8):DM:=(d6 (j5 (Wk 0) (f9 1)) (d6 (Y0 (a7 'n' a8) (f9 2) (vO J)) (i8 (i9 (one Z5) (a7 (a9 k6 (F6 (dL 0) (G9 's') G7) (F6 (dL 0) G7 (G9 's'))) a8)))))
def Cf (J:c8):c8:=A5 3 (jX J)
abbrev fU (mo:c8) (m0s:c8) (m0t:c8) (m0u:c8):DM:=(d6 (j5 (i7 (a7 (a9 k6 (dL 3) (d9 mo (a7 (dV 0) (a7 (Wk 6) a8)))) (a7 (d9 mo (a7 (dV 0) (a7 (Wk 6) a8))) a8))) (r8 2 (o6 (f9 6) (o6 (f9 7) t6)))) (d6 (E3 8 (aA [1,6,7] (M8 (d9 m0t 'o')) F4 (d9 m0u (a7 (dV 2) (a7 (a9 k6 (dL 0) (dL 3)) (a7 (a9 k6 's' (dL 4)) a8)))))) (j7 (o8 (dB (a9 A1 (dL 4) (l5 (n8 a8)))) (dB (a9 F7 (d9 mo (a7 (dV 0) (a7 (Wk 9) a8))) (Wk 0)))) (N8 4 (Wl 4 0)) (N8 4 (d9 m0s (a7 (dV 8) a8))))))
def pM (mo:c8) (J:c8) (U:c8) (Y:c8):DM:=(d6 (E3 4 (n8 a8)) (d6 (Y0 (a7 (a9 k6 (Wk 1) (d9 mo (a7 (dV 0) (a7 (dV 2) a8)))) a8) (f9 5) (fU mo J U Y)) (i8 (i9 (one Z5) (a7 (dL 4) a8)))))
def zM (mo:c8) (J:c8) (U:c8) (Y:c8):c8:=A5 9 (pM mo J U Y)
def mT (J:c8) (mo:c8) (U:c8):DM:=(d6 (j5 (d9 U 'o') (f9 1)) (d6 (j5 (d9 J (a7 (dV 0) (a7 (dV 1) (a7 (Wk 2) (a7 (Wk 0) a8))))) (f9 2)) (i8 (i7 (a7 (dV 2) (a7 (d9 J (a7 (dV 0) (a7 (dV 1) (a7 (Wk 2) (a7 (a9 d7 (l5 (n8 (a7 (Wk 0) (a7 (Wk 2) (a7 (Wk 5) (a7 (Wk 9) (a7 (Wk 14) a8))))))) (d9 mo (a7 (dV 0) (a7 (Wk 5) a8)))) a8))))) a8))))))
def Cg (U:c8) (mo:c8) (J:c8):c8:=A5 3 (mT U mo J)
abbrev kH (m00:c8) (mt:c8):DM:=(j7 (dB (a9 A1 (d9 m00 (a7 (Wl 3 0) (a7 (Wl 3 1) (a7 (dV 4) a8)))) (j4 o9 (Wk 1)))) 't' j9)
def ki (J:c8) (U:c8):DM:=(d6 (j5 (a9 d7 (d9 U 'o') 's') (f9 3)) (d6 (M1 (dV 2) (f9 4) (kH J U)) (i8 (dC (.bl true)))))
def tQ (J:c8) (U:c8):c8:=A5 5 (ki J U)
abbrev mI (m03:c8):DM:=(j7 (j8 (d9 m03 (a7 (dV 0) (a7 (dV 2) (a7 (dV 1) a8))))) (i8 (dV 2)) j9)
def jS (J:c8):DM:=(d6 (Y0 (a7 'n' a8) (f9 2) (mI J)) (i8 (dC .non)))
def Bf (J:c8):c8:=A5 3 (jS J)
def dk (J:c8):DM:=(d6 (j5 (d9 J (a7 (dV 0) (a7 (dV 1) a8))) (f9 2)) (d6 (j7 (dB (a9 pN (dL 2) (dC .non))) (i8 (i7 (a7 (dC (.str "one")) (a7 (dV 2) a8)))) j9) (d6 (j5 (d9 J (a7 (dV 1) 'o')) (f9 2)) (d6 (j7 (dB (a9 pN (dL 2) (dC .non))) (i8 (i7 (a7 (dC (.str "other")) (a7 (dV 2) a8)))) j9) (i8 (dC .non))))))
def uk (J:c8):c8:=A5 3 (dk J)
abbrev rD (m0v:c8) (mt:c8):DM:=(j5 (d9 m0v (a7 (dV 2) (a7 (dV 3) (a7 (dV 4) a8)))) (f9 2))
def oF (J:c8) (U:c8):DM:=(d6 (E3 2 (W0 (one iP) (a7 (dL 0) a8))) (d6 (M1 (d9 U (a7 (dV 1) a8)) (r8 2 (o6 (f9 3) (o6 (f9 4) t6))) (rD J U)) (i8 (Wl 2 0))))
def uX (J:c8) (U:c8):c8:=A5 5 (oF J U)
abbrev cz (m0i:c8) (m0j:c8):DM:=(d6 (j5 (d9 m0j (a7 (dV 3) (a7 (dV 5) a8))) (f9 6)) (d6 (j7 (dB (a9 BR (dL 6) (dC .non))) (i8 (i7 (a7 (dC (.str "meet")) (a7 (d9 m0i (a7 (dV 3) (a7 (dV 5) a8))) a8)))) j9) (N8 4 (dV 6))))
abbrev du (m0i:c8) (m0j:c8):DM:=(d6 (E3 4 (n8 a8)) (d6 (M1 (dV 1) (f9 5) (cz m0i m0j)) (N8 2 (i9 (one Z5) (a7 (dL 4) a8)))))
def fH (J:c8) (U:c8):DM:=(d6 (E3 2 (n8 a8)) (d6 (M1 (dV 0) (f9 3) (du J U)) (i8 (i7 (a7 (dC (.str "apart")) (a7 (i9 (one Z5) (a7 (dL 2) a8)) a8))))))
def sW (J:c8) (U:c8):c8:=A5 7 (fH J U)
def Hv (J:c8):DM:=(i8 (u4 (d9 J (a7 (dV 1) a8)) (ao (l7 (fun i j=>decide (i<=j))) (l7 (fun i j=>decide (i<j))) (Wk 0) 's' 'n')))
def zD (J:c8):c8:=A5 2 (Hv J)
def jy (J:c8) (U:c8):DM:=(d6 (j7 (n9 (l8 (j8 (j4 (A2 "tuple") (dL 2)))) (dB (a9 A1 (i9 (one j6) (a7 (dL 2) a8)) (Wk 2)))) 't' j9) (d6 (j7 (dB (a9 F7 (Wl 2 0) (dC (.str "one")))) (i8 (u4 (d9 U (a7 (dV 0) (a7 (Wl 2 1) a8))) (d9 J (a7 (dV 0) (a7 (Wl 2 1) (a7 (dV 1) a8)))))) j9) (d6 (j7 (dB (a9 F7 (Wl 2 0) (dC (.str "other")))) (i8 (u4 (d9 U (a7 (dV 1) (a7 (Wl 2 1) a8))) (d9 J (a7 (dV 1) (a7 (Wl 2 1) 'o'))))) j9) 't')))
def vN (J:c8) (U:c8):c8:=A5 3 (jy J U)
def ja (J:c8):DM:=(d6 (j7 (n9 (l8 (j8 (j4 (A2 "tuple") (dL 0)))) (dB (a9 A1 'n' (Wk 2)))) 't' j9) (d6 (j7 (dB (a9 F7 (Wl 0 0) (dC (.str "meet")))) (i8 (d9 J (a7 (Wl 0 1) a8))) j9) (i8 (u4 (a9 F7 (Wl 0 0) (dC (.str "apart"))) (j4 (A2 "tuple") (Wl 0 1))))))
def vo (J:c8):c8:=A5 1 (ja J)
def ox (J:c8) (U:c8):DM:=(i8 (a9 (l7 (fun i j=>decide (j<=i))) (i9 (one oY) (a7 (l5 (aA [1] (M8 (d9 J 'o')) F4 (d9 U (a7 (dV 0) (a7 (dV 1) (a7 (dV 2) a8)))))) a8)) (Wk 0)))
def Bt (U:c8) (J:c8):c8:=A5 2 (ox U J)
def pR (J:c8):DM:=(i8 (a9 ek (dC (.bl true)) (l5 (F5 [1] (M8 (dV 0)) F4 (d9 J (a7 (dV 0) (a7 (dV 1) a8)))))))
def tR (J:c8):c8:=A5 2 (pR J)
def af (U:c8) (J:c8):DM:=(d6 (j7 (n9 (l8 (j8 (j4 (A2 "tuple") (dL 2)))) (n9 (dB (a9 A1 (i9 (one j6) (a7 (dL 2) a8)) (Wk 2))) (l8 (j8 (j4 (A2 "str") (Wl 2 0)))))) 't' j9) (d6 (j7 (n9 (dB (a9 ez (Wl 2 0) (i7 (a7 (dC (.str "one")) (a7 (dC (.str "other")) a8))))) (n9 (l8 (j8 (j4 (A2 "int") (Wl 2 1)))) (j8 (j4 (A2 "bool") (Wl 2 1))))) 't' j9) (d6 (j5 (u7 (dB (a9 F7 (Wl 2 0) (dC (.str "one")))) (i7 (a7 (dV 0) (a7 (dV 1) a8))) (i7 (a7 (dV 1) 'o'))) (r8 2 (o6 (f9 3) (o6 (f9 4) t6)))) (d6 (j7 (l8 (dB (ao (l7 (fun i j=>decide (i<=j))) (l7 (fun i j=>decide (i<j))) (Wk 0) (Wl 2 1) (i9 (one j6) (a7 (dL 3) a8))))) 't' j9) (d6 (j5 (a9 d7 (d9 J (a7 (dV 3) a8)) (Wl 2 1)) (r8 2 (o6 (f9 5) (o6 (f9 6) t6)))) (i8 (a9 (l7 (fun i j=>decide (i<j))) (i9 (one mH) (a7 (l5 (F5 [5,6] (M8 (dV 4)) F4 (d9 U (a7 (dV 1) (a7 (dV 2) 'o'))))) a8)) (Wk 0))))))))
def vW (U:c8) (J:c8):c8:=A5 7 (af U J)
abbrev iw (m01:c8) (m0w:c8) (m0m:c8):DM:=(d6 (j5 (a9 d7 (Wl 2 1) (dL 3)) (f9 4)) (d6 (j7 (n9 (l8 (j8 (j4 (A2 "tuple") (dL 4)))) (dB (a9 A1 (i9 (one j6) (a7 (dL 4) a8)) (i9 (one j6) (a7 's' a8))))) (i8 (i7 (a7 (dC (.str "rows")) (a7 (dV 3) a8)))) j9) (j7 (dB (a9 ek (dC (.bl false)) (l5 (F5 [0,3,1,4] (R8 (a7 (i9 (one j6) (a7 's' a8)) a8)) F4 (d9 m01 (a7 (a9 d7 's' (dL 2)) (a7 (a9 d7 (dL 3) (dL 0)) (a7 (a9 d7 (dL 4) (dL 0)) a8)))))))) (i8 (i7 (a7 (dC (.str "pair")) (a7 (dV 3) a8)))) j9)))
def ai (Y:c8) (U:c8) (J:c8):DM:=(d6 (j7 (n9 (l8 (j8 (j4 (A2 "tuple") (dL 2)))) (n9 (dB (a9 A1 (i9 (one j6) (a7 (dL 2) a8)) (Wk 2))) (l8 (j8 (j4 (A2 "str") (Wl 2 0)))))) (i8 (i7 (a7 (dC (.str "shape")) (a7 (Wk 0) a8)))) j9) (d6 (j7 (o8 (dB (a9 F7 (Wl 2 0) (dC (.str "meet")))) (j8 (d9 U (a7 (Wl 2 1) a8)))) (i8 (u7 (o8 (j8 (d9 J (a7 (dV 0) (a7 (Wl 2 1) a8)))) (j8 (d9 J (a7 (dV 1) (a7 (Wl 2 1) a8))))) (dC .non) (i7 (a7 (dC (.str "place")) (a7 (Wk 0) a8))))) j9) (d6 (j7 (n9 (dB (a9 A1 (Wl 2 0) (dC (.str "apart")))) (l8 (j8 (j4 (A2 "tuple") (Wl 2 1))))) (i8 (i7 (a7 (dC (.str "shape")) (a7 (Wk 0) a8)))) j9) (d6 (j7 (dB (a9 A1 (i9 (one j6) (a7 (Wl 2 1) a8)) 'n')) (i8 (i7 (a7 (dC (.str "rows")) (a7 (Wk 0) a8)))) j9) (d6 (Y0 (a7 'n' a8) (f9 3) (iw Y U J)) (i8 (dC .non)))))))
def Co (U:c8) (J:c8) (Y:c8):c8:=A5 5 (ai U J Y)
def nC (J:c8) (mo:c8):DM:=(d6 (j5 (a9 d7 's' (d9 mo (a7 (dV 0) (a7 (i9 (one j6) (a7 's' a8)) a8)))) (f9 2)) (d6 (u6 3 4 (a7 (a9 d7 (dL 2) (d9 mo (a7 (dV 0) (a7 (i9 (one j6) (a7 (dL 2) a8)) a8)))) (a7 (a9 d7 (dL 2) (d9 mo (a7 (dV 0) (a7 (i9 (one j6) (a7 (dL 2) a8)) a8)))) a8))) (i8 (d9 J (a7 (dV 3) (a7 (dV 4) a8))))))
def Bz (J:c8) (mo:c8):c8:=A5 5 (nC J mo)
abbrev jW (mo:c8) (m01:c8):DM:=(d6 (E3 7 (Q8 P9 (l5 (F5 [] (R8 (a7 (i9 (one j6) (a7 (dL 4) a8)) a8)) F4 (i7 (a7 (dC (.str "one")) 'o')))) (l5 (F5 [] (R8 (a7 (i9 (one j6) (a7 (dL 6) a8)) a8)) F4 (i7 (a7 (dC (.str "other")) 'o')))))) (d6 (E3 8 (F5 [4,6] (M8 (dV 7)) (j8 (d9 m01 (a7 (dV 1) (a7 (dV 2) 'o')))) (dV 0))) (d6 (j5 (u7 (dB (a9 A1 (dL 8) (l5 (n8 a8)))) (dV 8) (dV 7)) (f9 7)) (N8 5 (a9 d7 (dL 7) (d9 mo (a7 (dV 0) (a7 (i9 (one j6) (a7 (dL 7) a8)) a8))))))))
abbrev rL (mo:c8) (m01:c8):DM:=(d6 (E3 5 (n8 a8)) (d6 (M1 (dV 2) (f9 6) (jW mo m01)) (N8 3 (i9 (one Z5) (a7 (dL 5) a8)))))
def pF (mo:c8) (J:c8):DM:=(d6 (E3 3 (n8 a8)) (d6 (M1 (dV 1) (f9 4) (rL mo J)) (i8 (i9 (one Z5) (a7 (dL 3) a8)))))
def uW (mo:c8) (J:c8):c8:=A5 9 (pF mo J)
abbrev su (m0k:c8):DM:=(j7 (l8 (j8 (d9 m0k (a7 (a9 d7 (dL 0) (dL 3)) (a7 (dV 6) (a7 (dV 5) a8)))))) (aD "NoPaper" (a7 (dC (.str "pair")) (a7 (dV 3) a8))) j9)
abbrev mz (m0k:c8):DM:=(d6 (j7 (n9 (l8 (j8 (j4 (A2 "tuple") (dL 4)))) (dB (a9 A1 (i9 (one j6) (a7 (dL 4) a8)) (i9 (one j6) (a7 's' a8))))) (aD "NoPaper" (a7 (dC (.str "rows")) (a7 (dV 3) a8))) j9) (ie (a7 (dV 4) (a7 (dV 1) a8)) (r8 2 (o6 (f9 5) (o6 (f9 6) t6))) (su m0k)))
def eS (J:c8):DM:=(d6 (j7 (dB (a9 A1 (i9 (one j6) (a7 (dL 2) a8)) 'n')) (aD "NoPaper" (a7 (dC (.str "rows")) (a7 (Wk 0) a8))) j9) (d6 (fJ (a7 (dV 2) a8) (r8 2 (o6 (f9 3) (o6 (f9 4) t6))) (mz J)) (i8 (dC (.bl true)))))
def AE (J:c8):M6:=aP 7 (eS J)
def ef (J:c8):DM:=(d6 (j7 (n9 (l8 (j8 (d9 J (a7 (dV 0) (a7 (dV 2) a8))))) (l8 (j8 (d9 J (a7 (dV 1) (a7 (dV 2) a8)))))) (aD "NoPaper" (a7 (dC (.str "place")) (a7 (Wk 0) a8))) j9) (i8 (dC (.bl true))))
def wV (J:c8):M6:=aP 3 (ef J)
def fk (J:M6) (U:M6) (Y:c8):DM:=(d6 (j7 (l8 (j8 (d9 Y (a7 (dV 2) a8)))) (aD "NoPaper" (a7 (dC (.str "shape")) (a7 (Wk 0) a8))) j9) (d6 (j7 (dB (a9 F7 (Wl 2 0) (dC (.str "meet")))) (ij (eP U (a7 (dV 0) (a7 (dV 1) (a7 (Wl 2 1) a8))))) j9) (ij (eP J (a7 (dV 0) (a7 (dV 1) (a7 (Wl 2 1) a8)))))))
def yh (J:M6) (U:M6) (Y:c8):M6:=aP 3 (fk J U Y)
def gY (J:M6):DM:=(d6 (j5 (dC (.str "other")) (f9 3)) (d6 (fW ["NoPaper"] 4 (lE (eP J (a7 (dV 0) (a7 (dV 1) (a7 (dV 2) a8)))) (j5 (dC .non) (f9 3)) j9) (d6 (j5 (w4 (j4 (xk ["NoPaper"] ["NoJoin", "NoOutline", "NoRow", "NoText", "TooMany"]) (dV 4)) (v8 (j4 (pd ["NoPaper"]) (dV 4)))) (f9 5)) (j7 (o8 (j8 (j4 (md ["NoPaper"] "NoPaper") (dV 4))) (l8 (j8 (dL 5)))) (j5 (i7 (a7 (j4 (rB ["NoPaper"] "word") (dV 4)) (a7 (j4 (rB ["NoPaper"] "at") (dV 4)) a8))) (f9 3)) j9))) (i8 (dV 3))))
def rH (J:M6):c8:=A5 6 (gY J)
abbrev gX (m0b:c8) (m0c:c8) (m02:c8) (m0d:c8) (m0e:c8) (mo:c8) (m0f:c8) (m0g:c8) (m0h:c8):DM:=(d6 (j5 (d9 m02 (a7 (dV 1) (a7 (a9 d7 (dL 6) (dL 7)) a8))) (f9 8)) (E3 6 (Q8 P9 (dL 6) (l5 (n8 (a7 (dV 8) (a7 (d9 m02 (a7 (dV 1) (a7 (dV 8) a8))) (a7 (d9 m02 (a7 (dV 1) (a7 (Wl 6 1) a8))) a8))))))))
abbrev fj (m0b:c8) (m0c:c8) (m02:c8) (m0d:c8) (m0e:c8) (mo:c8) (m0f:c8) (m0g:c8) (m0h:c8):DM:=(d6 (j5 (i9 (one V5) (a7 (i7 (a7 (dV 3) (a7 (dV 4) (a7 (dV 9) a8)))) a8)) (f9 10)) (d6 (j7 (dB (a9 A1 (i9 (one V5) (a7 (d9 m0b (a7 (dV 3) (a7 (dV 4) (a7 (dV 9) a8)))) a8)) (i9 (one V5) (a7 (d9 m0c (a7 (dV 3) (a7 (dV 4) (a7 (dV 9) a8)))) a8)))) 't' j9) (j7 (dB (a9 A1 (i9 (one V5) (a7 (i7 (a7 (dV 3) (a7 (dV 4) (a7 (dV 9) a8)))) a8)) (dL 10))) 't' j9)))
abbrev jN (m0b:c8) (m0c:c8) (m02:c8) (m0d:c8) (m0e:c8) (mo:c8) (m0f:c8) (m0g:c8) (m0h:c8):DM:=(d6 (j5 (d9 m0g (a7 (dV 1) a8)) (r8 2 (o6 (f9 3) (o6 (f9 4) t6)))) (d6 (j5 (d9 m0f (a7 (dV 1) (a7 (dV 3) a8))) (f9 5)) (d6 (j7 (dB (a9 F7 (d9 mo (a7 (dV 1) (a7 (Wk 12) a8))) (Wk 0))) (j5 (i7 a8) (f9 4)) j9) (d6 (j7 (dB (a9 F7 (d9 mo (a7 (dV 1) (a7 (Wk 8) a8))) (Wk 0))) (j5 (i7 a8) (f9 3)) j9) (d6 (E3 6 (n8 (a7 (d9 m0e (a7 (dV 3) (a7 (dV 4) a8))) (a7 (i7 (a7 (dC (.str "apart")) (a7 (d9 m0d (a7 (dV 1) (a7 (dV 3) (a7 (dV 4) a8)))) a8))) a8)))) (d6 (E3 6 (Q8 P9 (dL 6) (l5 (n8 (a7 (i7 (a7 (dC (.str "meet")) (a7 (dV 5) a8))) (a7 (i7 (a7 (dC (.str "apart")) (a7 (i7 a8) a8))) (a7 (i7 (a7 (dC (.str "meet")) (a7 (dC .non) a8))) a8))))))) (d6 (E3 6 (Q8 P9 (dL 6) (l5 (n8 (a7 (i7 (a7 (dC (.str "apart")) (a7 (l5 (n8 (a7 (i7 (a7 (i7 a8) a8)) a8))) a8))) (a7 (dC .non) (a7 (dC (.str "meet")) (a7 (i7 (a7 (dC (.str "meet")) (a7 (i7 (a7 (Wk 0) (a7 (Wk 0) (a7 (Wk 2) a8)))) a8))) a8)))))))) (d6 (Y0 (a7 (Wk 3) a8) (f9 7) (gX m0b m0c m02 m0d m0e mo m0f m0g m0h)) (M1 (dV 6) (f9 9) (fj m0b m0c m02 m0d m0e mo m0f m0g m0h))))))))))
def ly (Y:c8) (m0c:c8) (Z:c8) (m0d:c8) (U:c8) (mo:c8) (m0f:c8) (m0g:c8) (J:c8):DM:=(d6 (j5 (d9 J 'o') (f9 1)) (d6 (Y0 (a7 (Wk 3) a8) (f9 2) (jN Y m0c Z m0d U mo m0f m0g J)) (i8 (dC (.bl true)))))
def qt (U:c8) (m0c:c8) (Y:c8) (Z:c8) (J:c8) (mo:c8) (m0f:c8) (m0g:c8) (m0h:c8):c8:=A5 11 (ly U m0c Y Z J mo m0f m0g m0h)
end T
namespace DL
open PySem L2
def gm (U:0<k) (h:n<2 ^ k):n.log2<k:=by
 by_cases J:n=0
 .subst J;simpa using U
 .exact(Nat.log2_lt J).mpr h
def nI {i:Int}(h:i.natAbs<2 ^ 200):F8 i=true:=by
 have:=gm #[] h;exact PU ∅
def Iz {j:Int}(J:j≠0) (h:j.natAbs<2 ^ 200):S9 j=true:=by
 have:=gm #[] h;unfold S9;rw[PU J,Rf];exact PU ∅
def wX (i:Int):A9 (.int i)=true:=by simp[A9,D.plain,D.py,SeqAt.shaped,PyData.canLay0,PyData.depth]
def T6 (i j:Int):A1 (.int i) (.int j)=some (.bl (!decide (i=j))):=by
 simp only[A1,wX,QM,Qs,D.py,PyData.eqv,Te]
def aq (i j:Int):F7 (.int i) (.int j)=some (.bl (decide (i=j))):=by
 simp only[F7,wX,QM,Qs,D.py,PyData.eqv,Te]
def Ja {i:Int}(h:i.natAbs.log2<1920):(PySem.Str.ofString (toString i)).length<=1921:=PyProof.Rows.int_text_len_1921 h
def KP (h:di d=true):V5 d=some (.str d.py.shown):=by unfold V5;rw[iR h]
def mZ {α:Type}{xs:List α}{i:Int}(J:0<=i) (h1:i<xs.length):D9 xs i=xs[i.toNat]?:=by
 unfold D9 W6;rw[iR J,iR h1];rfl
def bp {a b:Int}(h:0<b):0<=a.fmod b/\a.fmod b<b:=by
 rw[Ur a ∅];exact#[Int.emod_nonneg a ∅,Int.emod_lt_of_pos a h]
def w6 {a b:DM}{s:DS}(h:a s=some (.next,s1)):d6 a b s=b s1:=by simp[d6,h,u9]
def D7 {a b:DM}{s:DS}(h:a s=some (.ret d,s1)):d6 a b s=some (.ret d,s1):=by simp[d6,h,u9]
def iy {m:c8}{a:DA}{s:DS}{xs:vD_}{fs:vO_}(U:a s=some (xs,s1)) (J:m xs s1.fs=some (d,fs)):d9 m a s=some (d,{ s1 with fs:=fs }):=by
 unfold d9;rw[U,xu,J];rfl
def d8 {p:D->D->Option D}{a b:DE}{s:DS}{x z:D}(h1:a s=some (x,s1)) (h2:b s1=some (y,s2)) (J:p x y=some z):a9 p a b s=some (z,s2):=by
 unfold a9;rw[h1,xu,h2,xu,J];rfl
def D3 {a:DE}{b:DA}{s:DS}{x:D}{xs:vD_}(h1:a s=some (x,s1)) (h2:b s1=some (xs,s2)):a7 a b s=some (x::xs,s2):=by
 unfold a7;rw[h1,xu,h2];rfl
def C0 {f:DE}{t:D->DS->Option DS}{s:DS}(h1:f s=some (d,s1)) (h2:t d s1=some s2):j5 f t s=some (.next,s2):=by
 unfold j5;rw[h1,xu,h2];rfl
def G2 {c:DT}{a b:DM}{s:DS}(h:c s=some (true,s1)):j7 c a b s=a s1:=by simp[j7,h]
def dW {c:DT}{a b:DM}{s:DS}(h:c s=some (false,s1)):j7 c a b s=b s1:=by simp[j7,h]
def A0 {f:DE}{s:DS}(h:f s=some (d,s1)):i8 f s=some (.ret d,s1):=by simp[i8,h]
def B6 {f:DE}{s:DS}{b:Bool}(h:f s=some (.bl b,s1)):dB f s=some (b,s1):=by simp[dB,h]
def v5 {b:DM}{fs:vO_}{s:DS}(h:b #[ds.map .v++List.replicate (n - ds.length) .no,fs]=some (.ret d,s)):A5 n b ds fs=some (d,s.fs):=by simp[A5,h]
def w5 {m:c8}{a:DA}{fs:vO_}{xs:vD_}(U:a #[sl,fs]=some (xs,#[sl,fs])) (J:m xs fs=some (d,fs)):d9 m a #[sl,fs]=some (d,#[sl,fs]):=iy (s1:=#[sl,fs]) U J
def K4 {m:c8}{a:DA}{fs:vO_}{xs:vD_}(U:a #[sl,fs]=some (xs,#[sl,fs])) (J:m xs fs=some (d,fs')):d9 m a #[sl,fs]=some (d,#[sl,fs']):=iy (s1:=#[sl,fs]) U J
def nE {m:c8}{a:DA}{fs J:vO_}{xs:vD_}(U:a #[sl,fs]=some (xs,#[sl',fs'])) (Y:m xs fs'=some (d,J)):d9 m a #[sl,fs]=some (d,#[sl',J]):=iy (s1:=#[sl',fs']) U Y
def mO {a b c:DE}{s J:DS}{x z:D}(h1:a s=some (x,s1)) (h2:b s1=some (y,s2)) (U:c s2=some (z,J)):i7 (a7 a (a7 b (a7 c a8))) s=some (.tup [x,y,z],J):=by
 unfold i7;rw[D3 h1 (D3 h2 (D3 U rfl)),xu];exact iR (e:=(none:Option (D × DS))) (show 3<=sizeLine by decide)
def U6 {t:D->DS->Option DS}{b:DM}{r:vD_}{s:DS}(h1:t d s=some s1) (h2:b s1=some (.next,s2)):C3 t b (d::r) s=C3 t b r s2:=by
 rw[C3,h1,xu,h2];rfl
def G8 {a b:DE}{s:DS}{x:D}(h1:a s=some (x,s1)) (h2:b s1=some (y,s2)):i7 (a7 a (a7 b a8)) s=some (.tup [x,y],s2):=by
 unfold i7;rw[D3 h1 (D3 h2 rfl),xu];exact iR (e:=(none:Option (D × DS))) (show 2<=sizeLine by decide)
def B9 {f:DE}{s:DS}{b:Bool}(h:f s=some (.bl b,s1)):j8 f s=some (b,s1):=by
 unfold j8;rw[h];rfl
def E6 {a:DT}{s:DS}{b:Bool}(h:a s=some (b,s1)):l8 a s=some (!b,s1):=by
 unfold l8;rw[h];rfl
def fX {a b:DT}{s:DS}{r:Option (Bool × DS)}(h1:a s=some (true,s1)) (h2:b s1=r):o8 a b s=r:=by
 unfold o8;rw[h1,xu,iR rfl];exact h2
def pD {a b:DT}{s:DS}(h1:a s=some (false,s1)):o8 a b s=some (false,s1):=by
 unfold o8;rw[h1,xu,iU PL]
def bo {a b:DT}{s:DS}(h1:a s=some (true,s1)):n9 a b s=some (true,s1):=by
 unfold n9;rw[h1,xu,iR rfl]
def aB {a b:DT}{s:DS}{r:Option (Bool × DS)}(h1:a s=some (false,s1)) (h2:b s1=r):n9 a b s=r:=by
 unfold n9;rw[h1,xu,iU PL];exact h2
def D8 {c:DT}{s:DS}(h:c s=some (false,s1)):j7 c a j9 s=some (.next,s1):=by
 rw[dW h];rfl
def ck {s:DS}(h:f s=some (ds,s1)) (hi:i<s1.sl.length):E3 i f s=some (.next,{ s1 with sl:=s1.sl.set i (.own ds) }):=by
 unfold E3;rw[h,xu,iR hi]
def BG {s:DS}{R:vD_}(h:fi s=some (ds,s1)) (hz:ds.length<=sizeLine) (c:G1 (mk2 idx s1.sl) fc fe ds s1.fs=some (R,fs')):aA idx fi fc fe s=some (R,{ s1 with fs:=fs' }):=by
 unfold aA;rw[h,xu,iR hz,c];rfl
def bB {s:DS}(h:f s=some (ds,s1)):l5 f s=some (.lst ds,s1):=by
 unfold l5;rw[h];rfl
def Hu {s:DS}{R:vD_}(h:fi s=some (ds,s1)) (hz:ds.length<=sizeLine) (c:G1 (fun d=>some (.v d::Q5 idx s1.sl)) fc fe ds s1.fs=some (R,s1.fs)):F5 idx fi fc fe s=some (R,s1):=by
 unfold F5;rw[h,xu,iR hz,c];rfl
def Y4 {f:DE}{s:DS}{ds0:vD_}(J:s.sl[i]? = some (.own ds0)) (h:f s=some (d,s1)) (h1:s1.sl[i]? = some (.own ds)) (U:ds.length<sizeLine):N8 i f s=some (.next,{ s1 with sl:=s1.sl.set i (.own (ds++[d])) }):=by
 unfold N8;rw[J];show (f s).bind _=_;rw[h,xu];show (match s1.sl[i]? with | some (.own ds)=>_ | _=>_)=_;rw[h1];exact iR U
def kB {p:D->Option D}{a:DE}{s:DS}{x:D}(h:a s=some (x,s1)) (J:p x=some d):i9 (one p) (a7 a a8) s=some (d,s1):=by
 unfold i9;rw[D3 h rfl,xu];show (p x).map _=_;rw[J];rfl
def qF {c:DT}{a b:DE}{s:DS}(h:c s=some (true,s1)):u7 c a b s=a s1:=by
 unfold u7;rw[h];rfl
def mL {c:DT}{a b:DE}{s:DS}(h:c s=some (false,s1)):u7 c a b s=b s1:=by
 unfold u7;rw[h];rfl
def fr (p:Rat):D:=.tup [.int p.num,.int p.den]
def Sz (k:Nat) (p:Rat):Prop:=p.num.natAbs<2 ^ k/\p.den<2 ^ k
def Sz.mono {l:Nat}{p:Rat}(h:Sz k p) (J:k<=l):Sz l p:=
 #[Qb h.1 (Us #[] J),Qb h.2 (Us #[] J)]
def Bv {a b:Int}(J:b≠0):(Rat.divInt a b).num.natAbs<=a.natAbs/\(Rat.divInt a b).den<=b.natAbs:=by
 constructor
 .rw[Rat.num_divInt,Int.natAbs_ediv_of_dvd (Int.dvd_mul_of_dvd_right (Vn ..))];rw[Vo,Int.natAbs_sign_of_ne_zero J,Nat.one_mul];exact Nat.div_le_self _ _
 .rw[Rat.den_divInt,iU J];exact Nat.div_le_self _ _
def Sz.of_divInt {a b:Int}(J:b≠0) (h1:a.natAbs<2 ^ k) (h2:b.natAbs<2 ^ k):Sz k (Rat.divInt a b):=
 #[Qz (Bv J).1 h1,Qz (Bv J).2 h2]
def tM {a b l:Nat}(h1:a<2 ^ k) (h2:b<2 ^ l):a*b<2 ^ (k+l):=by
 rw[Nat.pow_add];exact Nat.mul_lt_mul_of_lt_of_lt h1 h2
def Lo {a b:Nat}(h1:a<2 ^ k) (h2:b<2 ^ k):a+b<2 ^ (k+1):=by
 rw[Vp];omega
def Bd (k:Nat) (i:Int):Prop:=i.natAbs<2 ^ k
def Bd.mono {l:Nat}{i:Int}(h:Bd k i) (J:k<=l):Bd l i:=Qb h (Us #[] J)
def Bd.mul {l:Nat}{i j:Int}(h1:Bd k i) (h2:Bd l j):Bd (k+l) (i*j):=by
 unfold Bd;rw[Vo];exact tM h1 h2
def Bd.add {l:Nat}{i j:Int}(h1:Bd k i) (h2:Bd l j):Bd (max k l+1) (i+j):=
 Qz (Int.natAbs_add_le i j) (Lo (h1.mono (Nat.le_max_left ..)) (h2.mono (Nat.le_max_right ..)))
def Bd.neg {i:Int}(h1:Bd k i):Bd k (-i):=by unfold Bd;rw[Int.natAbs_neg];exact h1
def Bd.sub {l:Nat}{i j:Int}(h1:Bd k i) (h2:Bd l j):Bd (max k l+1) (i - j):=by rw[Int.sub_eq_add_neg];exact h1.add h2.neg
theorem Bd.gcd {i:Int}{j:Int}(h:Bd k j) (J:j≠0):Bd k (Int.gcd i j:Int):=by
 have:Int.gcd i j<=j.natAbs:=Nat.le_of_dvd ∅ (Nat.gcd_dvd_right i.natAbs j.natAbs);exact Qz this h
def Bd.bits {i:Int}(h:Bd k i) (J:k<=8000):F8 i=true:=by
 have:=gm (k:=8000) #[] (h.mono J);exact PU ∅
def Bd.div {i:Int}(h:Bd k i) (U:i≠0) (J:k<=8000):S9 i=true:=by
 have:=gm (k:=8000) #[] (h.mono J);unfold S9;rw[PU U,Rf];exact PU ∅
def Bd.lit {i:Int}(h:decide (i.natAbs<2 ^ k)=true):Bd k i:=by unfold Bd;exact Rb h
theorem Sz.num {p:Rat}(h:Sz k p):Bd k p.num:=h.1
def Jv (p:Rat):(p.den:Int)≠0:=by have:=p.den_nz;omega
def Ks (p:Rat):(0:Int)<p.den:=by have:=p.den_nz;omega
end DL
namespace T
open PySem L2 DL
abbrev gT:DT:=dB (a9 A1 (dL 3) (Wk 0))
abbrev gB:DM:=d6 (j5 (a9 J0 (dL 2) (dL 3)) (f9 4)) (d6 (j5 (dV 3) (f9 2)) (j5 (dV 4) (f9 3)))
def xK (a b:Sl) (g r:Int) (x:Sl) (fs:vO_):gT #[[a,b,.v (.int g),.v (.int r),x],fs]=some (!decide (r=0),#[[a,b,.v (.int g),.v (.int r),x],fs]):=by
 simp[dB,a9,dL,dC,Wk,Wl,T6]
def Gp (a b:Sl) (g r:Int) (x:Sl) (fs:vO_) (h:r≠0):gB #[[a,b,.v (.int g),.v (.int r),x],fs] =
  some (.next,#[[a,b,.v (.int r),.v (.int (g.fmod r)),.v (.int (g.fmod r))],fs]):=by
 simp[d6,u9,j5,a9,dL,dV,f9,J0,h]
def Di (a b:Sl) (fs:vO_) (r:Nat):∀(g:Nat) (x:Sl),∃y,V6 gT gB #[[a,b,.v (.int g),.v (.int r),x],fs]=some (.next,#[[a,b,.v (.int (Nat.gcd g r)),.v (.int 0),y],fs]):=by
 induction r using Nat.strongRecOn with
 |ind r U=>
  intro g x;by_cases h:r=0
  .subst h;refine#[x,?_];rw[Nat.gcd_zero_right];exact zJ (by rw[xK];rfl)
  .have e:((g:Int).fmod (r:Int))=((g % r:Nat):Int):=by rw[Ur _ ∅];rfl
   obtain⟨y,J⟩:=U (g % r) (QN _ ∅) r (.v (.int ((g:Int).fmod (r:Int))));refine#[y,?_];have Y:Nat.gcd g r=Nat.gcd r (g % r):=by rw[Ut g r,Nat.gcd_rec,Ut]
   rw[Y];refine BC (s1:=#[[a,b,.v (.int g),.v (.int r),x],fs]) (by rw[xK,PY ∅];rfl) (Gp _ _ _ _ _ _ ∅) ?_;rw[e] at J ⊢;exact J
def rP (a:Int):(if a<0 then -a else a)=((a.natAbs:Nat):Int):=by split <;> omega
def Lc (a b:Int) (fs:vO_):T3 [.int a,.int b] fs=some (.int (Int.gcd a b),fs):=by
 obtain⟨y,J⟩:=Di (.v (.int a)) (.v (.int b)) fs b.natAbs a.natAbs .no;refine v5 (s:=#[[.v (.int a),.v (.int b),.v (.int (Int.gcd a b)),.v (.int 0),y],fs]) ?_;show lL #[[.v (.int a),.v (.int b),.no,.no,.no],fs]=_;unfold lL;rw[w6 (s1:=#[[.v (.int a),.v (.int b),.v (.int a.natAbs),.no,.no],fs]) (by simp[j5,i9,a7,a8,dL,one,ar,f9,rP])];rw[w6 (s1:=#[[.v (.int a),.v (.int b),.v (.int a.natAbs),.v (.int b.natAbs),.no],fs]) (by simp[j5,i9,a7,a8,dL,one,ar,f9,rP])];rw[w6 J];exact A0 (by simp[dV,Int.gcd])
def uS (a:Int):Int.gcd 0 a=a.natAbs:=by simp[Int.gcd]
def ua (a b:Int):Int.gcd ((a.natAbs:Nat):Int) b=Int.gcd a b:=by simp[Int.gcd]
def hJ (P:D) (J x:Int) (x2:Sl) (r:vD_) (fs:vO_):C3 (f9 2) (ig T3) (.int x::r) #[[.v P,.v (.int J),x2],fs]=C3 (f9 2) (ig T3) r #[[.v P,.v (.int (Int.gcd J x)),.v (.int x)],fs]:=U6 (s1:=#[[.v P,.v (.int J),.v (.int x)],fs]) rfl (C0 (w5 rfl (Lc J x fs)) rfl)
def xY {g:Int}{fs:vO_}(h:C3 (f9 2) (ig T3) ds #[[.v 'm',.v (.int 0),.no],fs]=some (.next,#[[.v 'm',.v (.int g),x2],fs])):bJ T3 [.tup ds] fs=some (.int g,fs):=by
 refine v5 (s:=#[[.v 'm',.v (.int g),x2],fs]) ?_;show jD T3 #[[.v 'm',.no,.no],fs]=_;unfold jD;have J:M1 (dV 0) (f9 2) (ig T3) #[[.v 'm',.v (.int 0),.no],fs]=some (.next,#[[.v 'm',.v (.int g),x2],fs]):=h;rw[w6 (s1:=#[[.v 'm',.v (.int 0),.no],fs]) (C0 rfl rfl),w6 J];exact A0 rfl
def MI (a b:Int) (fs:vO_):bJ T3 [.tup [.int a,.int b]] fs=some (.int (Int.gcd a b),fs):=xY (x2:=.v (.int b)) (by
 rw[hJ,hJ,uS,ua];rfl)
def yu (a b c:Int) (fs:vO_):bJ T3 [.tup [.int a,.int b,.int c]] fs=some (.int (Int.gcd (Int.gcd a b:Int) c),fs):=xY (x2:=.v (.int c)) (by
 rw[hJ,hJ,hJ,uS,ua];rfl)
def gw {a g c:Int}(J:g≠0) (e:a=g*c):a.fdiv g=c:=by subst e;exact Int.mul_fdiv_cancel_left c J
def Ox {a b:Int}(J:b≠0) (h:Bd k b) (U:k<=8000):S9 (if b<0 then -(Int.gcd a b:Int) else (Int.gcd a b:Int))=true:=by
 have Y:0<Int.gcd a b:=VW a J;split
 .exact(Bd.gcd h J).neg.div ∅ U
 .exact(Bd.gcd h J).div ∅ U
def yC:(2:Nat)<=sizeLine:=by decide
def uN (a b:D):D9 [a,b] (-1)=some b:=vM [a] b
def oh (a b c:D):D9 [a,b,c] (-1)=some c:=vM [a,b] c
def sZ (a b c:D):D9 [a,b,c] 0=some a:=rfl
def sS (a b c:D):D9 [a,b,c] 1=some b:=rfl
def lN (a b c:D):D9 [a,b,c] 2=some c:=rfl
abbrev FL:c8:=yW (bJ T3)
theorem Aj {J:Int}(U:S9 J=true) (fs:vO_):∀xs:List Int,G1 (fun d=>some [.v d,.v (.int J)]) F4 (a9 Q3 (dL 0) 's') (xs.map .int) fs=some (xs.map (fun x=>.int (x.fdiv J)),fs)
 |[]=>rfl
 |x::r=>by
  have e:a9 Q3 (dL 0) 's' #[[.v (.int x),.v (.int J)],fs]=some (.int (x.fdiv J),#[[.v (.int x),.v (.int J)],fs]):=d8 rfl rfl (iR U);have Y:=Aj U fs r;rw[PM,G1,xu];show ((a9 Q3 (dL 0) 's' #[[.v (.int x),.v (.int J)],fs]).bind _)=_;rw[e,xu];show (G1 _ F4 _ (r.map .int) fs).map _=_;rw[Y];rfl
def Pf {d g:Int}(h:D9 ds (-1)=some (.int d)) (fs:vO_):j7 (dB (a9 (l7 (fun i j=>decide (i<j))) (a9 d7 (dL 0) (j4 o9 (Wk 1))) (Wk 0))) (j5 (j4 o9 's') (f9 1)) j9 #[[.v 'm',.v (.int g)],fs]=some (.next,#[[.v 'm',.v (.int (if d<0 then -g else g))],fs]):=by
 have t:dB (a9 (l7 (fun i j=>decide (i<j))) (a9 d7 (dL 0) (j4 o9 (Wk 1))) (Wk 0)) #[[.v 'm',.v (.int g)],fs]=some (decide (d<0),#[[.v 'm',.v (.int g)],fs]):=B6 (d8 (d8 rfl rfl (show d7 'm' (.int (-1))=some (.int d) from h)) rfl rfl);by_cases J:d<0
 .rw[PU J] at t;rw[iR J,G2 t];rfl
 .rw[PY J] at t;rw[iU J,dW t];rfl
def IE {xs:List Int}{d g:Int}(fs:vO_) (Y:xs.length<=10) (J:bJ T3 [.tup (xs.map .int)] fs=some (.int g,fs)) (h:D9 (xs.map D.int) (-1)=some (.int d)) (U:S9 (if d<0 then -g else g)=true):FL [.tup (xs.map .int)] fs=some (.tup (xs.map fun x=>.int (x.fdiv (if d<0 then -g else g))),fs):=by
 have nf:=Pf (g:=g) h fs;have cd:=Aj U fs xs;have Z:(xs.map D.int).length<=sizeLine:=PJ (by rw[PH];exact Y) (show 10<=sizeLine by decide);generalize xs.map D.int=ds at *;generalize (if d<0 then -g else g)=gg at *;refine v5 (s:=#[[.v 'm',.v (.int gg)],fs]) ?_;show qe (bJ T3) #[[.v 'm',.no],fs]=_;unfold qe;rw[w6 (s1:=#[[.v 'm',.v (.int g)],fs]) (C0 (w5 rfl J) rfl),w6 nf];exact A0 (kB (p:=Z5) (bB (Hu (idx:=[1]) (ds:=ds) (s1:=#[[.v 'm',.v (.int gg)],fs]) rfl Z cd)) rfl)
def T1 {a b:Int}(h1:F8 a=true) (h2:F8 b=true):w8 (.int a) (.int b)=some (.int (a*b)):=by simp[w8,h1,h2]
def Z0 {α:Type}{xs:List α}{r:Int}(J:0<=r) (h1:r<xs.length):∃x,x∈xs/\D9 xs r=some x:=by
 refine#[xs[r.toNat]'∅,Rl _,?_];rw[mZ J h1,Qf]
end T
namespace DL
open PySem L2
abbrev Pt:=Rat × Rat
variable {Ss Os:List (List Pt)}{a p:Pt}{S:Pt->Prop}{q:Pt × Pt}{Ls:List (Pt × Pt)}
abbrev vT_:=List Pt
variable {l B:vT_}
def pL (a:Pt):Int:=((Nat.lcm a.1.den a.2.den:Nat):Int)
def pX (a:Pt):Int:=a.1.num*((Nat.lcm a.1.den a.2.den / a.1.den:Nat):Int)
def pY (a:Pt):Int:=a.2.num*((Nat.lcm a.1.den a.2.den / a.2.den:Nat):Int)
def pt (a:Pt):D:=.tup [.int (pX a),.int (pY a),.int (pL a)]
theorem lcm_pos (p q:Rat):0<Nat.lcm p.den q.den:=Nat.lcm_pos (by have:=p.den_nz;omega) (by have:=q.den_nz;omega)
def nv (a:Pt):0<pL a:=by have:=lcm_pos a.1 a.2;unfold pL;omega
def qD (a:Pt):pL a≠0:=by have:=nv a;omega
def aF (a:Pt):(0:Rat)<(pL a:Rat):=Rat.intCast_pos.mpr (nv a)
def fD (a:Pt):(pL a:Rat)≠0:=fun h=>qD a (Tf.mp h)
def rz (p:Rat):(p.num:Rat)=p*((p.den:Int):Rat):=by
 have e:=Rat.num_divInt_den p;rw[RO] at e;have J:((p.den:Int):Rat)≠0:=fun h=>Jv p (Tf.mp h)
 have:(p.num:Rat) / ((p.den:Int):Rat)*((p.den:Int):Rat)=(p.num:Rat):=Uu J;rw[e] at this;exact this.symm
theorem bj (a:Pt):(pX a:Rat)=a.1*(pL a:Rat):=by
 unfold pX pL;obtain⟨c,J⟩:=Nat.dvd_lcm_left a.1.den a.2.den;have U:=a.1.den_nz;have e:Nat.lcm a.1.den a.2.den / a.1.den=c:=VX ∅ J;rw[e,J,Tg,Qw,Qw,rz];grind
theorem bV (a:Pt):(pY a:Rat)=a.2*(pL a:Rat):=by
 unfold pY pL;obtain⟨c,J⟩:=Nat.dvd_lcm_right a.1.den a.2.den;have U:=a.2.den_nz;have e:Nat.lcm a.1.den a.2.den / a.2.den=c:=VX ∅ J;rw[e,J,Tg,Qw,Qw,rz];grind
theorem vP {x d:Int}{p:Rat}(hd:0<d) (h:(x:Rat)=p*(d:Rat)):∃c:Int,d=p.den*c/\x=p.num*c:=by
 have h1:x*p.den=p.num*d:=by
  have e:=rz p;have:((x*p.den:Int):Rat)=((p.num*d:Int):Rat):=by
   rw[Qw,Qw,h,e];grind
  exact Rat.intCast_inj.mp this
 have Z:(p.den:Int)∣p.num*d:=#[x,by rw[<-h1,Ti]]
 have U:p.den∣p.num.natAbs*d.natAbs:=by
  have:=Int.natAbs_dvd_natAbs.mpr Z
  rwa [Vo,Int.natAbs_natCast] at this
 have J:p.den∣d.natAbs:=Nat.Coprime.dvd_of_dvd_mul_left (Nat.Coprime.symm p.reduced) U;obtain⟨c,Y⟩:(p.den:Int)∣d:=Int.dvd_natAbs.mp (Uv.mpr J);refine#[c,Y,?_];have hp:=Ks p;have:(p.den:Int)*x=p.den*(p.num*c):=by rw[Ti,h1,Y];grind
 exact Int.eq_of_mul_eq_mul_left ∅ this
theorem oV {x y d:Int}(hd:0<d) (hg:Int.gcd (Int.gcd x y:Int) d=1) (hx:(x:Rat)=a.1*(d:Rat)) (Y:(y:Rat)=a.2*(d:Rat)):x=pX a/\y=pY a/\d=pL a:=by
 obtain⟨c1,e1,f1⟩:=vP hd hx;obtain⟨c2,e2,f2⟩:=vP hd Y;obtain⟨D,rfl⟩:=Uw (show 0<=d by omega);have dl:Nat.lcm a.1.den a.2.den∣D:=Nat.lcm_dvd (Uv.mp #[c1,e1]) (Uv.mp #[c2,e2]);obtain⟨m,hm⟩:=dl;have key:∀z:Int,∀r:Rat,(z:Rat)=r*((D:Int):Rat)->∀w:Int,(w:Rat)=r*(pL a:Rat)->z=w*m:=by
  intro z r h1 w h2;have:(z:Rat)=((w*m:Int):Rat):=by
   rw[h1,Qw,h2,hm];have:(((Nat.lcm a.1.den a.2.den*m:Nat):Int):Rat)=(pL a:Rat)*((m:Int):Rat):=by
    rw[Tg,Qw];rfl
   rw[this];grind
  exact Rat.intCast_inj.mp this
 have U:=key x a.1 hx (pX a) (bj a);have Z:=key y a.2 Y (pY a) (bV a);have J:(D:Int)=pL a*m:=by rw[hm,Tg];rfl
 have m1:(m:Int)∣1:=by
  have h:(m:Int)∣(Int.gcd (Int.gcd x y:Int) (D:Int):Int):=by
   refine Int.dvd_coe_gcd (Int.dvd_coe_gcd ?_ ?_) ?_
   .exact#[pX a,by rw[U,Ti]]
   .exact#[pY a,by rw[Z,Ti]]
   .exact#[pL a,by rw[J,Ti]]
  rwa [hg] at h
 have m2:m=1:=Nat.eq_one_of_dvd_one (Uv.mp m1);subst m2;exact#[by rw[U];simp,by rw[Z];simp,by rw[J];simp]
structure Ps (k:Nat) (a:Pt):Prop where
 x:Bd k (pX a)
 y:Bd k (pY a)
 l:Bd k (pL a)
theorem Ps.mono {l:Nat}(h:Ps k a) (J:k<=l):Ps l a:=#[h.x.mono J,h.y.mono J,h.l.mono J]
def Ps.of {l:Nat}(h1:Sz k a.1) (h2:Sz l a.2):Ps (k+l) a:=by
 have U:Nat.lcm a.1.den a.2.den<=a.1.den*a.2.den:=Nat.le_of_dvd (Nat.mul_pos (by have:=a.1.den_nz;omega) (by have:=a.2.den_nz;omega)) (Nat.lcm_dvd_mul ..);have b:=tM h1.2 h2.2;have J:Nat.lcm a.1.den a.2.den / a.1.den<=a.2.den:=by
  rw[VY (by have:=a.1.den_nz;omega)];omega
 have Y:Nat.lcm a.1.den a.2.den / a.2.den<=a.1.den:=by
  rw[VY (by have:=a.2.den_nz;omega),UR a.2.den];omega
 refine#[?_,?_,?_]
 .exact Bd.mul h1.num (show Bd l ((_:Nat):Int) from Qz J h2.2)
 .have:=Bd.mul h2.num (show Bd k ((_:Nat):Int) from Qz Y h1.2);rw[Rt];exact this
 .exact Qz U b
def b9 (a b c:Pt):Rat:=(b.1 - a.1)*(c.2 - a.2) - (b.2 - a.2)*(c.1 - a.1)
def u3 (r:Rat):Int:=if 0<r then 1 else if r<0 then -1 else 0
def U9 (n:Int):Int:=if 0<n then 1 else if n<0 then -1 else 0
def kc {n:Int}{c r:Rat}(J:0<c) (h:(n:Rat)=c*r):U9 n=u3 r:=by
 unfold U9 u3;have h1:0<n↔0<r:=by
  rw[<-Rat.intCast_pos,h];exact Vq J
 have h2:n<0↔r<0:=by
  rw[<-Rat.intCast_neg_iff,h];exact Rat.mul_neg_iff_of_pos_left J
 simp only[h1,h2]
def A3 (a b:Pt):Bool:=decide (a.1<b.1)||(decide (a.1=b.1)&&decide (a.2<b.2))
end DL
variable {Ss Os:List (List DL.Pt)}{a p:DL.Pt}{S:DL.Pt->Prop}{q:DL.Pt × DL.Pt}{Ls:List (DL.Pt × DL.Pt)}{l B:DL.vT_}
namespace T
open PySem L2 DL
theorem kW (x y d:Int) (hd:d≠0):let G:Nat:=Int.gcd (Int.gcd x y:Int) d
  let g:Int:=if d<0 then -(G:Int) else (G:Int)
  g≠0/\x.fdiv g=pX (Rat.divInt x d,Rat.divInt y d)/\y.fdiv g=pY (Rat.divInt x d,Rat.divInt y d)/\d.fdiv g=pL (Rat.divInt x d,Rat.divInt y d):=by
 intro G g;have g0:0<G:=VW _ hd;obtain⟨J,ed⟩:=Vn (Int.gcd x y:Int) d;have h1:=Int.gcd_dvd_left (Int.gcd x y:Int) d;obtain⟨Y,ex⟩:=Int.dvd_trans h1 (Int.gcd_dvd_left ..);obtain⟨U,Z⟩:=Int.dvd_trans h1 (Vn ..)
 replace ed:d=(G:Int)*J:=ed
 replace ex:x=(G:Int)*Y:=ex
 replace Z:y=(G:Int)*U:=Z
 have cop:Int.gcd (Int.gcd Y U:Int) J=1:=by
  have e1:Int.gcd x y=G*Int.gcd Y U:=by
   have:=Int.gcd_mul_left (m:=(G:Int)) (n:=Y) (k:=U);rw[<-ex,<-Z] at this;exact this
  have e2:Int.gcd (Int.gcd x y:Int) d=G*Int.gcd (Int.gcd Y U:Int) J:=by
   have:=Int.gcd_mul_left (m:=(G:Int)) (n:=(Int.gcd Y U:Int)) (k:=J);rw[<-ed,<-Tg,<-e1] at this;exact this
  have e3:G*Int.gcd (Int.gcd Y U:Int) J=G*1:=by rw[<-e2,Nat.mul_one]
  exact Nat.eq_of_mul_eq_mul_left g0 e3
 have hdr:(d:Rat)≠0:=fun h=>hd (Tf.mp h)
 have hGr:((G:Int):Rat)≠0:=fun h=>by have:=Tf.mp h;omega
 have vx:∀z z':Int,z=(G:Int)*z'->(z':Rat)=Rat.divInt z d*(J:Rat):=fun z z' e=>by
  rw[RO];have ed':(d:Rat)=((G:Int):Rat)*(J:Rat):=by rw[<-Qw];exact congrArg _ ed
  have ez':(z:Rat)=((G:Int):Rat)*(z':Rat):=by rw[<-Qw];exact congrArg _ e
  have hd'r:(J:Rat)≠0:=fun h=>hdr (by rw[ed',h];grind)
  rw[ez',ed'];grind
 by_cases h:d<0
 .have eg:g = -(G:Int):=iR h;have dn:0 < -J:=by
   rcases Vr J 0 with z | z
   .omega
   .have:0<=(G:Int)*J:=Int.mul_nonneg ∅ z;omega
  obtain⟨q1,q2,q3⟩:=oV (x:=-Y) (y:=-U) (d:=-J) (a:=(Rat.divInt x d,Rat.divInt y d)) dn (by
   have:Int.gcd (-Y) (-U)=Int.gcd Y U:=by simp[Int.gcd]
   rw[this];have:Int.gcd (Int.gcd Y U:Int) (-J)=Int.gcd (Int.gcd Y U:Int) J:=by simp[Int.gcd]
   rw[this];exact cop) (by rw[Ux,Ux,vx x Y ex];grind) (by rw[Ux,Ux,vx y U Z];grind)
  rw[eg,<-q1,<-q2,<-q3];exact#[by omega,gw ∅ 'l',gw ∅ 'l',gw ∅ 'l']
 .have eg:g=(G:Int):=iU h;have dp:0<J:=by
   rcases Vr 0 J with z | z
   .exact z
   .have:(G:Int)*J<=G*0:=VZ z ∅;omega
  obtain⟨q1,q2,q3⟩:=oV (x:=Y) (y:=U) (d:=J) (a:=(Rat.divInt x d,Rat.divInt y d)) dp cop (vx x Y ex) (vx y U Z);rw[eg,<-q1,<-q2,<-q3];exact#[by omega,gw ∅ ex,gw ∅ Z,gw ∅ ed]
def wm {x y d:Int}(U:d≠0) (h:Bd k d) (J:k<=8000):S9 (if d<0 then -(Int.gcd (Int.gcd x y:Int) d:Int) else (Int.gcd (Int.gcd x y:Int) d:Int))=true:=Ox (a:=(Int.gcd x y:Int)) U h J
def Gn (x y d:Int) (fs:vO_) (J:d≠0) (h:Bd k d) (U:k<=8000):FL [.tup [.int x,.int y,.int d]] fs=some (pt (Rat.divInt x d,Rat.divInt y d),fs):=by
 obtain⟨Z,p1,p2,Y⟩:=kW x y d J;have e:=IE (xs:=[x,y,d]) (d:=d) fs (show 3<=10 by decide) (yu x y d fs) (oh _ _ _) (wm (x:=x) (y:=y) J h U);unfold pt;rw[<-p1,<-p2,<-Y];exact e
def px_div (a:Pt):Rat.divInt (pX a) (pL a)=a.1:=by
 rw[RO,bj,Rat.mul_div_cancel (fD a)]
def py_div (a:Pt):Rat.divInt (pY a) (pL a)=a.2:=by
 rw[RO,bV,Rat.mul_div_cancel (fD a)]
end T
namespace DL
def E9 (x y:Rat):Prop:=0<x\/(x=0/\0<y)
theorem cJ (a b:Pt):A3 a b=true↔E9 (b.1 - a.1) (b.2 - a.2):=by
 unfold A3 E9;rw[Bool.or_eq_true,Qe,Tj,Tj,Tj];constructor
 .rintro(h | ⟨h1,h2⟩)
  .left;grind
  .right;constructor <;> grind
 .rintro(h | ⟨h1,h2⟩)
  .left;grind
  .right;constructor <;> grind
theorem HD (x y:Rat) (h:E9 x y):¬ E9 (-x) (-y):=by
 unfold E9 at *;grind
def dQ {x y s:Rat}(J:0<s):E9 (s*x) (s*y)↔E9 x y:=by
 unfold E9;have h1:0<s*x↔0<x:=Vq J;have h2:0<s*y↔0<y:=Vq J;have U:s*x=0↔x=0:=by
  rw[QA];constructor
  .rintro(h | h)
   .rw[h] at J;exact absurd J SG
   .exact h
  .exact fun h=>.inr h
 rw[h1,h2,U]
theorem jK:¬ E9 0 0:=by unfold E9;grind
theorem HL {x y:Rat}(h:E9 x y) (s:Rat):E9 (s*x) (s*y)↔0<s:=by
 constructor
 .intro q;rcases Tn (a:=s) (b:=0) with z | z
  .rcases(Rat.le_iff_lt_or_eq).mp z with z | z
   .have:E9 (-s*x) (-s*y):=(dQ 'l').mpr h;rw[Rat.neg_mul,Rat.neg_mul] at this;exact absurd this (HD _ _ q)
   .rw[z,Rm,Rm] at q;exact absurd q jK
  .rcases(Rat.le_iff_lt_or_eq).mp z with z | z
   .exact z
   .rw[<-z,Rm,Rm] at q;exact absurd q jK
 .intro J;exact(dQ J).mpr h
def w9 (a b:Pt) (s:Rat):Pt:=(a.1+s*(b.1 - a.1),a.2+s*(b.2 - a.2))
def eQ (a b:Pt):w9 a b 0=a:=by unfold w9;simp[Rat.add_zero]
theorem lP (a b:Pt):w9 a b 1=b:=by unfold w9;exact Qm 'l' 'l'
theorem jq {b c:Pt}(J:a≠b) (h:b9 a b c=0):∃s,c=w9 a b s:=by
 unfold b9 at h;by_cases h1:b.1 - a.1=0
 .have h2:b.2 - a.2≠0:=fun z=>J (Qm 'l' 'l')
  refine#[(c.2 - a.2) / (b.2 - a.2),?_];unfold w9;refine Qm ?_ ?_
  .show c.1=_;have:(b.2 - a.2)*(c.1 - a.1)=0:=by grind
   rcases QA.mp this with z | z
   .exact absurd z h2
   .grind
  .show c.2=_;grind
 .refine#[(c.1 - a.1) / (b.1 - a.1),?_];unfold w9;refine Qm ?_ ?_
  .show c.1=_;grind
  .show c.2=_;have e:(b.1 - a.1)*(c.2 - a.2)=(b.2 - a.2)*(c.1 - a.1):=by grind
   have:c.2 - a.2=(c.1 - a.1) / (b.1 - a.1)*(b.2 - a.2):=by grind
   grind
def K5 (a b:Pt):Rat:=(a.1 - b.1)*(a.1 - b.1)+(a.2 - b.2)*(a.2 - b.2)
theorem aO (x:Rat):0<=x*x:=by
 rcases Tn (a:=0) (b:=x) with h | h
 .exact PN h h
 .have:=PN (a:=-x) (b:=-x) 'l' 'l';grind
def kC {x:Rat}(h:x≠0):0<x*x:=Rat.lt_of_le_of_ne (aO x) (fun z=>h (by
 rcases QA.mp z.symm with q | q <;> exact q))
theorem Md {b:Pt}(J:a≠b):0<K5 a b:=by
 unfold K5;by_cases h1:a.1 - b.1=0
 .have h2:a.2 - b.2≠0:=fun z=>J (Qm 'l' 'l')
  have:=kC h2;have:=aO (a.1 - b.1);grind
 .have:=kC h1;have:=aO (a.2 - b.2);grind
theorem Hi (s:Rat):s*s<=1↔(-1<=s/\s<=1):=by
 constructor
 .intro h;constructor
  .rcases Tn (a:=-1) (b:=s) with z | z
   .exact z
   .have:=PN (a:=-1 - s) (b:=-1 - s) 'l' 'l';have:=PN (a:=-1 - s) (b:=1) 'l' 'l';grind
  .rcases Tn (a:=s) (b:=1) with z | z
   .exact z
   .have:=PN (a:=s - 1) (b:=s - 1) 'l' 'l';grind
 .rintro⟨h1,h2⟩;have:=PN (a:=1 - s) (b:=1+s) 'l' 'l';grind
theorem Pe (a b:Pt) (s:Rat):K5 a (w9 a b s)=s*s*K5 a b/\K5 b (w9 a b s)=(1 - s)*(1 - s)*K5 a b:=by
 unfold K5 w9;constructor <;> grind
end DL
namespace T
open PySem L2 DL
def OW (n:Int) (fs:vO_):ko [.int n] fs=some (.int (U9 n),fs):=by
 refine v5 (s:=#[[.v (.int n)],fs]) ?_;show gQ #[[.v (.int n)],fs]=_;unfold U9;by_cases h1:0<n
 .simp![gQ,d7,h1]
 .by_cases h2:n<0
  .simp![gQ,d7,h1,h2]
  .simp![gQ,d7,h1,h2]
abbrev P7:c8:=sJ ko
def Oy {a b c:Rat}(Y:0<a) (U:0<b) (J:0<c):0<a*b*c:=PR (PR Y U) J
theorem FG (a b c:Pt):U9 (pX a*(pY b*pL c - pY c*pL b) - pY a*(pX b*pL c - pX c*pL b)+pL a*(pX b*pY c - pX c*pY b))=u3 (b9 a b c):=by
 refine kc (Oy (aF a) (aF b) (aF c)) ?_;simp only[Vs,RP,Qw,bj,bV,b9];grind
def kA (a b c:Pt) (fs:vO_) (Y:Ps k a) (J:Ps k b) (U:Ps k c) (hk:k<=2000):P7 [pt a,pt b,pt c] fs=some (.int (u3 (b9 a b c)),fs):=by
 have a1:=Y.x.bits ∅;have a2:=Y.y.bits ∅;have a3:=Y.l.bits ∅;have b1:=J.x.bits ∅;have Z:=J.y.bits ∅;have b3:=J.l.bits ∅;have c1:=U.x.bits ∅;have c2:=U.y.bits ∅;have c3:=U.l.bits ∅;have d1:=((J.y.mul U.l).sub (U.y.mul J.l)).bits ∅;have d2:=((J.x.mul U.l).sub (U.x.mul J.l)).bits ∅;have d3:=((J.x.mul U.y).sub (U.x.mul J.y)).bits ∅;rw[<-FG];refine v5 (s:=#[[.v (pt a),.v (pt b),.v (pt c),.v (.int (pX a*(pY b*pL c - pY c*pL b) - pY a*(pX b*pL c - pX c*pL b)+pL a*(pX b*pY c - pX c*pY b)))],fs]) ?_;show mN ko #[[.v (pt a),.v (pt b),.v (pt c),.no],fs]=_;unfold mN;have x:∀p:Pt,d7 (pt p) (.int 0)=some (.int (pX p)):=fun _=>rfl
 have y:∀p:Pt,d7 (pt p) (.int 1)=some (.int (pY p)):=fun _=>rfl
 have l:∀p:Pt,d7 (pt p) (.int 2)=some (.int (pL p)):=fun _=>rfl
 rw[w6 (s1:=#[[.v (pt a),.v (pt b),.v (pt c),.v (.int (pX a*(pY b*pL c - pY c*pL b)))],fs]) (C0 (d8 (d8 rfl rfl (x a)) (d8 (d8 (d8 rfl rfl (y b)) (d8 rfl rfl (l c)) (T1 Z c3)) (d8 (d8 rfl rfl (y c)) (d8 rfl rfl (l b)) (T1 c2 b3)) rfl) (T1 a1 d1)) rfl),
  w6 (s1:=#[[.v (pt a),.v (pt b),.v (pt c),.v (.int (pX a*(pY b*pL c - pY c*pL b) - pY a*(pX b*pL c - pX c*pL b)))],fs]) (C0 (d8 rfl (d8 (d8 rfl rfl (y a)) (d8 (d8 (d8 rfl rfl (x b)) (d8 rfl rfl (l c)) (T1 b1 c3)) (d8 (d8 rfl rfl (x c)) (d8 rfl rfl (l b)) (T1 c1 b3)) rfl) (T1 a2 d2)) rfl) rfl),
  w6 (s1:=#[[.v (pt a),.v (pt b),.v (pt c),.v (.int (pX a*(pY b*pL c - pY c*pL b) - pY a*(pX b*pL c - pX c*pL b)+pL a*(pX b*pY c - pX c*pY b)))],fs]) (C0 (d8 rfl (d8 (d8 rfl rfl (l a)) (d8 (d8 (d8 rfl rfl (x b)) (d8 rfl rfl (y c)) (T1 b1 c2)) (d8 (d8 rfl rfl (x c)) (d8 rfl rfl (y b)) (T1 c1 Z)) rfl) (T1 a3 d3)) rfl) rfl)]
 exact A0 (w5 (D3 rfl rfl) (OW _ fs))
end T
namespace DL
open PySem L2
theorem gN {t:D->DS->Option DS}{b:DM}(P:Nat->DS->Prop):∀(ds:vD_) (n:Nat) (s:DS),P n s->(∀i d s,ds[i]? = some d->P (n+i) s->∃s1 s2,t d s=some s1/\(b s1=some (.next,s2)\/b s1=some (.cont,s2))/\P (n+i+1) s2) ->
  ∃s',C3 t b ds s=some (.next,s')/\P (n+ds.length) s'
 |[],n,s,h,_=>#[s,rfl,h]
 |d::r,n,s,h,k=>by
  obtain⟨s1,s2,e1,J,h2⟩:=k 0 d s rfl h;obtain⟨s',U,h3⟩:=gN P r (n+1) s2 h2 (fun i Z s Y hp=>by
   have:=k (i+1) Z s (by simpa using Y) (by rwa [show n+1+i=n+(i+1) by omega] at hp)
   rwa [show n+(i+1)+1=n+1+i+1 by omega] at this)
  refine#[s',?_,by rw[PX,show n+(r.length+1)=n+1+r.length by omega];exact h3];rw[C3,e1];rcases J with J | J <;> simp[J,U]
def gs {t:D->DS->Option DS}{b:DM}{s:DS}{xs:vD_}(h1:f s=some (xs,s1)) (h2:T8 xs=some ds):Y0 f t b s=C3 t b ds s1:=by
 simp only[Y0,h1,xu,h2]
def mY {f:DE}{t:D->DS->Option DS}{b:DM}{s:DS}(h1:f s=some (.lst ds,s1)):M1 f t b s=C3 t b ds s1:=by
 simp only[M1,h1,xu]
def fE {f:DE}{t:D->DS->Option DS}{b:DM}{s:DS}(h1:f s=some (.tup ds,s1)):M1 f t b s=C3 t b ds s1:=by
 simp only[M1,h1,xu]
def dH {lo:Int}(h:(B3 lo n)[i]? = some d):d = .int (lo+i)/\i<n:=by
 have hi:i<n:=by have:=(Qr.mp h).1;rwa [Y5] at this
 rw[rK hi] at h;cases h;exact#[rfl,hi]
def bR (h:n<2 ^ 30):T8 [.int (n:Int)]=some (B3 0 n):=by
 have:-(2 ^ 62)<=(n:Int)/\(n:Int)<2 ^ 62:=by omega
 simp only[T8,iR this,QT]
end DL
namespace T
open PySem L2 DL
def nK {i:Int}(h:i.natAbs<2 ^ k):Bd k i:=h
structure PtS (k:Nat) (a:Pt):Prop where
 x:Sz k a.1
 y:Sz k a.2
def PtS.ps (h:PtS k a):Ps (k+k) a:=Ps.of h.x h.y
theorem PtS.mono {l:Nat}(h:PtS k a) (J:k<=l):PtS l a:=#[h.x.mono J,h.y.mono J]
section
variable {α β:Type}
def bS (lt:α->α->Bool):List α->List α->List α
 |[],ys=>ys
 |x::xs,ys=>ys.takeWhile (fun y=>lt y x)++x::bS lt xs (ys.dropWhile (fun y=>lt y x))
def Z6 (lt:α->α->Bool):Nat->List α->List α
 |0,l=>l
 |n+1,l=>if l.length<2 then l else bS lt (Z6 lt n (l.take (l.length / 2))) (Z6 lt n (l.drop (l.length / 2)))
def P4 (t:α->α->α->Bool) (x:α):List α->List α
 |b::a::r=>if t a b x=true then b::a::r else P4 t x (a::r)
 |l=>l
def S5 (t:α->α->α->Bool):List α->List α->List α
 |acc,[]=>acc
 |acc,x::xs=>S5 t (x::P4 t x acc) xs
def C4 (t:α->α->α->Bool) (l:List α):List α:=(S5 t [] l).reverse
def lK (lt:α->α->Bool) (t:α->α->α->Bool) (l:List α):List α:=(C4 t (Z6 lt 64 l)).dropLast++(C4 t (Z6 lt 64 l).reverse).dropLast
def W7 [DecidableEq α] (J:List α) (x:α):List α:=if x∈J then J else J++[x]
def dF [DecidableEq α] (l:List α):List α:=l.foldl W7 []
variable {lt:α->α->Bool}{lt':β->β->Bool}{t:α->α->α->Bool}{t':β->β->β->Bool}{f:α->β}
theorem vQ (h:∀a b c,t' (f a) (f b) (f c)=t a b c) (x:α):∀l:List α,P4 t' (f x) (l.map f)=(P4 t x l).map f
 |[]=>rfl
 |[b]=>rfl
 |b::a::r=>by
  have J:=vQ h x (a::r);simp only[PM,P4] at J ⊢;rw[h];split
  .rfl
  .exact J
theorem yR (h:∀a b c,t' (f a) (f b) (f c)=t a b c):∀(l acc:List α),S5 t' (acc.map f) (l.map f)=(S5 t acc l).map f
 |[],acc=>rfl
 |x::xs,acc=>by
  simp only[PM,S5];rw[vQ h,<-PM,yR h xs]
def oK (h:∀a b c,t' (f a) (f b) (f c)=t a b c) (l:List α):C4 t' (l.map f)=(C4 t l).map f:=by
 unfold C4;have:=yR h l [];rw[Rj] at this;rw[this,List.map_reverse]
theorem oq:∀{xs ys:List α}{z:α},z∈bS lt xs ys->z∈xs\/z∈ys
 |[],ys,z,h=>.inr h
 |x::xs,ys,z,h=>by
  simp only[bS] at h;rcases PQ.mp h with h | h
  .exact .inr (List.takeWhile_subset _ h)
  .rcases xo.mp h with h | h
   .exact .inl (h▸PD ..)
   .rcases oq h with h | h
    .exact .inl (Pz _ h)
    .exact .inr (Vt _ h)
theorem eA:∀(n:Nat) {l:List α}{z:α},z∈Z6 lt n l->z∈l
 |0,l,z,h=>h
 |n+1,l,z,h=>by
  simp only[Z6] at h;split at h
  .exact h
  .rcases oq h with h | h
   .exact Uy (eA n h)
   .exact Tp (eA n h)
theorem ph {x:α}:∀{l:List α}{z:α},z∈P4 t x l->z∈l
 |[],z,h=>h
 |[b],z,h=>h
 |b::a::r,z,h=>by
  simp only[P4] at h;split at h
  .exact h
  .exact Pz _ (ph h)
theorem xC:∀{l acc:List α}{z:α},z∈S5 t acc l->z∈acc\/z∈l
 |[],acc,z,h=>.inl h
 |x::xs,acc,z,h=>by
  simp only[S5] at h;rcases xC h with h | h
  .rcases xo.mp h with h | h
   .exact .inr (h▸PD ..)
   .exact .inl (ph h)
  .exact .inr (Pz _ h)
def lX {l:List α}{z:α}(h:z∈C4 t l):z∈l:=by
 unfold C4 at h;rcases xC (Tq.mp h) with h | h
 .cases h
 .exact h
theorem vX [DecidableEq α]:∀{l acc:List α}{z:α},z∈l.foldl W7 acc->z∈acc\/z∈l
 |[],acc,z,h=>.inl h
 |x::xs,acc,z,h=>by
  rcases vX (l:=xs) h with h | h
  .unfold W7 at h;split at h
   .exact .inl h
   .rcases PQ.mp h with h | h
    .exact .inl h
    .exact .inr (by rw[PV.mp h];exact PD ..)
  .exact .inr (Pz _ h)
def qy [DecidableEq α] {l:List α}{z:α}(h:z∈dF l):z∈l:=by
 rcases vX h with h | h
 .cases h
 .exact h
theorem sV [DecidableEq α]:∀(l acc:List α),(l.foldl W7 acc).length<=acc.length+l.length
 |[],acc=>tx _
 |x::xs,acc=>by
  have h:=sV xs (W7 acc x);have h2:(W7 acc x).length<=acc.length+1:=by
   unfold W7;split
   .omega
   .simp
  simp only[Sa,PX];omega
def Gq [DecidableEq α] (l:List α):(dF l).length<=l.length:=by
 unfold dF;simpa using sV l []
end
section
variable {α:Type}{lt:α->α->Bool}
abbrev T5 (lt:α->α->Bool) (l:List α):Prop:=l.Pairwise fun a b=>lt a b=true
structure Ord (lt:α->α->Bool):Prop where
 irr:∀a,lt a a=false
 tr:∀a b c,lt a b=true->lt b c=true->lt a c=true
 tot:∀a b,lt a b=false->a≠b->lt b a=true
theorem lH:∀{xs ys:List α}{z:α},z∈xs\/z∈ys->z∈bS lt xs ys
 |[],ys,z,h=>by rcases h with h | h;cases h;exact h
 |x::xs,ys,z,h=>by
  simp only[bS];have U:∀{z},z∈ys->z∈ys.takeWhile (fun y=>lt y x)\/z∈ys.dropWhile (fun y=>lt y x):=fun {z} J=>by
   rw[<-Wa (p:=fun y=>lt y x) (l:=ys)] at J;exact PQ.mp J
  rcases h with h | h
  .rcases xo.mp h with h | h
   .exact PQ.mpr (.inr (h▸PD ..))
   .exact PQ.mpr (.inr (Pz _ (lH (.inl h))))
  .rcases U h with h | h
   .exact PQ.mpr (.inl h)
   .exact PQ.mpr (.inr (Pz _ (lH (.inr h))))
theorem vD {p:α->Bool}:∀{l:List α}{z:α},z∈l.takeWhile p->p z=true
 |[],z,h=>by cases h
 |a::r,z,h=>by
  rw[List.takeWhile_cons] at h;by_cases q:p a=true
  .rw[iR q] at h;rcases xo.mp h with e | e
   .exact e▸q
   .exact vD e
  .rw[iU q] at h;cases h
theorem uF {p:α->Bool}:∀{l:List α}{a:α}{r:List α},l.dropWhile p=a::r->p a=false
 |[],a,r,h=>by cases h
 |b::l,a,r,h=>by
  rw[List.dropWhile_cons] at h;by_cases q:p b=true
  .rw[iR q] at h;exact uF h
  .rw[iU q] at h;cases h;simpa using q
theorem yN (O:Ord lt):∀{xs ys:List α},T5 lt xs->T5 lt ys->(∀x∈xs,x ∉ ys)->T5 lt (bS lt xs ys)
 |[],ys,h1,h2,_=>h2
 |x::xs,ys,h1,h2,d=>by
  obtain⟨g1,g2⟩:=Rw.mp h1;have sub:=Wa (p:=fun y=>lt y x) (l:=ys);have hs:T5 lt (ys.takeWhile (fun y=>lt y x)++ys.dropWhile (fun y=>lt y x)):=by rw[sub];exact h2
  obtain⟨s1,s2,s3⟩:=Vu.mp hs;have dw:∀z∈ys.dropWhile (fun y=>lt y x),lt x z=true:=by
   cases e:ys.dropWhile (fun y=>lt y x) with
   |nil=>intro z J;cases J
   |cons a r=>
    rw[e] at s2;have U:lt a x=false:=uF (p:=fun y=>lt y x) e;have am:a∈ys:=Vt _ (e▸PD ..);have Z:lt x a=true:=O.tot a x U fun z=>d x (PD ..) (z▸am)
    intro z J;rcases xo.mp J with q | q
    .exact q▸Z
    .exact O.tr _ _ _ Z ((Rw.mp s2).1 z q)
  have rest:∀z∈bS lt xs (ys.dropWhile (fun y=>lt y x)),lt x z=true:=fun z J=>by
   rcases oq J with q | q
   .exact g1 z q
   .exact dw z q
  simp only[bS];refine Vu.mpr #[s1,Rw.mpr #[rest,yN O g2 s2 fun a U Y=>d a (Pz _ U) (Vt _ Y)],fun a U b Y=>?_];have ax:lt a x=true:=vD (p:=fun y=>lt y x) U;rcases xo.mp Y with q | q
  .exact q▸ax
  .exact O.tr _ _ _ ax (rest b q)
theorem pg:∀(n:Nat) {l:List α}{z:α},z∈l->z∈Z6 lt n l
 |0,l,z,h=>h
 |n+1,l,z,h=>by
  simp only[Z6];split
  .exact h
  .rw[<-SH (l.length / 2) l] at h;rcases PQ.mp h with h | h
   .exact lH (.inl (pg n h))
   .exact lH (.inr (pg n h))
theorem nU (O:Ord lt):∀(n:Nat) (l:List α),l.length<=2 ^ n->l.Nodup->T5 lt (Z6 lt (n+1) l)
 |n,l,hl,nd=>by
  simp only[Z6];split
  .rename_i h
   match l,h with
   |[],_=>exact List.Pairwise.nil
   |[a],_=>exact Wb _ _
   |a::b::r,h=>exact absurd h (by simp only[PX];omega)
  .rename_i h;cases n with
   |zero=>exact absurd hl ∅
   |succ n=>
    have p2:2 ^ (n+1)=2 ^ n+2 ^ n:=by rw[Vp];omega
    rw[<-SH (l.length / 2) l] at nd;obtain⟨U,Z,Y⟩:=Vc.mp nd;refine yN O (nU O n _ (by rw[QS];omega) U) (nU O n _ (by rw[Qn];omega) Z) fun x hx J=>?_
    exact Y x (eA _ hx) x (eA _ J) rfl
def Lx [DecidableEq α] {J:List α}{x z:α}:z∈W7 J x↔z∈J\/z=x:=by
 unfold W7;by_cases h:x∈J
 .rw[iR h];exact#[.inl,fun q=>q.elim id fun e=>e▸h]
 .rw[iU h,PQ,PV]
theorem vG [DecidableEq α]:∀{l acc:List α}{z:α},z∈l.foldl W7 acc↔z∈acc\/z∈l
 |[],acc,z=>by simp
 |x::xs,acc,z=>by
  rw[Sa,vG,Lx,xo];exact or_assoc
def uniqG_in [DecidableEq α] {l:List α}{z:α}:z∈dF l↔z∈l:=by
 unfold dF;rw[vG];simp
def Mi [DecidableEq α] {J:List α}{x:α}(h:J.Nodup):(W7 J x).Nodup:=by
 unfold W7;by_cases e:x∈J
 .rw[iR e];exact h
 .rw[iU e];refine Vc.mpr #[h,by simp,fun a Y b U=>?_];rw[PV.mp U];exact fun z=>e (z▸Y)
def Ek [DecidableEq α] (l:List α):(dF l).Nodup:=by
 have:∀(l J:List α),J.Nodup->(l.foldl W7 J).Nodup:=fun l=>by
  induction l with
  |nil=>intro J h;exact h
  |cons x xs U=>intro J h;exact U _ (Mi h)
 exact this l [] TV
end
theorem lsB_ord:Ord A3 where
 irr:=fun a=>by
  cases q:A3 a a with
  |false=>rfl
  |true=>
   rw[cJ] at q;unfold E9 at q;grind
 tr:=fun a b c h1 h2=>by
  rw[cJ] at h1 h2 ⊢;unfold E9 at *;grind
 tot:=fun a b h n=>by
  have h:¬ (A3 a b=true):=by rw[h];decide
  rw[cJ] at h ⊢;have:¬ (b.1 - a.1=0/\b.2 - a.2=0):=fun z=>n (Qm 'l' 'l')
  unfold E9 at *;grind
def aQ (l:vT_):List Pt:=Z6 A3 64 (dF l)
def OC (h:l.length<2 ^ 20):T5 A3 (aQ l):=nU lsB_ord 63 _ (PJ (Gq l) (PJ (Rh h) #[])) (Ek l)
def rowP_in :z∈aQ l↔z∈l:=#[fun h=>qy (eA _ h),fun h=>pg _ (uniqG_in.mpr h)]
def t9 {a:DE}{b:DA}{s:DS}{x:DL.D}{xs:List DL.D}(h1:a s=some (x,s)) (h2:b s=some (xs,s)):a7 a b s=some (x::xs,s):=D3 h1 h2
def nM {l:List DL.D}{x:DL.D}(h:l[n]? = some x):D9 l (n:Int)=some x:=by
 have J:n<l.length:=(Qr.mp h).1;unfold D9 W6;rw[iR ∅,iR ∅];exact h
def A6 (a b c:Pt):Bool:=decide (u3 (b9 a b c)=1)
end T
namespace DL
open PySem L2
theorem Jk {x y u v:Rat}(h1:E9 x y) (h2:E9 u v):E9 (x+u) (y+v):=by
 unfold E9 at *;grind
theorem kO {x y u v a:Rat}(J:0<=a) (h1:E9 x y) (h2:E9 u v):E9 (a*x+u) (a*y+v):=by
 by_cases h:a=0
 .subst h;rw[Rm,Rm,Uz,Uz];exact h2
 .exact Jk ((dQ 'l').mpr h1) h2
theorem Az {Y Z vx vy J U:Rat}(hu:E9 Y Z) (hv:E9 vx vy) (hw:E9 J U) (h1:0<Y*vy - Z*vx) (h2:0<=vx*U - vy*J):0<Y*U - Z*J:=by
 by_cases c:0<Y*U - Z*J
 .exact c
 .have k:0 <= -(Y*U - Z*J):=by grind
  have a:=(dQ h1).mpr hw;have b:=kO k hv (kO h2 hu a);have e1:-(Y*U - Z*J)*vx+((vx*U - vy*J)*Y+(Y*vy - Z*vx)*J)=0:=by grind
  have e2:-(Y*U - Z*J)*vy+((vx*U - vy*J)*Z+(Y*vy - Z*vx)*U)=0:=by grind
  rw[e1,e2] at b;exact absurd b jK
def bH (h b o:Pt):Bool:=if b9 h b o=0 then decide (K5 h b<K5 h o) else decide (b9 h b o<0)
def bG (h:Pt) (b:Option Pt) (o:Pt):Option Pt:=if o=h then b else match b with
 |none=>some o
 |some r=>if bH h r o then some o else some r
def BZ (h:Pt) (b:Option Pt):bG h b h=b:=iR rfl
def xT {h o:Pt}(n:o≠h):bG h none o=some o:=iU n
def yj {h r o:Pt}(n:o≠h) (f:bH h r o=true):bG h (some r) o=some o:=(iU n).trans (iR f)
def Au {h r o:Pt}(n:o≠h) (f:bH h r o=false):bG h (some r) o=some r:=(iU n).trans (iU (by rw[f];exact PL))
def mF (f:Pt) (S:vT_) (b:Option Pt):Prop:=(b=none/\∀q∈S,q=f)\/∃p,b=some p/\p∈S/\p≠f/\∀q∈S,0<=b9 f p q/\(b9 f p q=0->K5 f q<=K5 f p)
def Lst (f:Pt) (q:Pt):Prop:=q=f\/E9 (q.1 - f.1) (q.2 - f.2)
def Lst.pos {f q:Pt}(h:Lst f q) (n:q≠f):E9 (q.1 - f.1) (q.2 - f.2):=h.resolve_left n
theorem pJ (f:Pt):K5 f f=0:=by unfold K5;grind
theorem aY (f p:Pt):b9 f p f=0:=by unfold b9;grind
theorem cF (f p:Pt):b9 f p p=0:=by unfold b9;grind
def rA (a b:Pt):0<=K5 a b:=by unfold K5;exact Rat.add_nonneg (aO _) (aO _)
theorem wB {f z:Pt}(J:p≠f) (Y:Lst f p) (Z:Lst f z) (c:b9 f p z=0):∃s:Rat,0<=s/\z=w9 f p s:=by
 by_cases e:z=f
 .exact#[0,by decide,by rw[eQ];exact e]
 .obtain⟨s,U⟩:=jq (a:=f) (b:=p) (fun z=>J z.symm) c;refine#[s,?_,U];have l:=Z.pos e;rw[U] at l;unfold w9 at l;simp only at l;have e1:f.1+s*(p.1 - f.1) - f.1=s*(p.1 - f.1):=by grind
  have e2:f.2+s*(p.2 - f.2) - f.2=s*(p.2 - f.2):=by grind
  rw[e1,e2] at l;exact QO ((HL (Y.pos J) s).mp l)
theorem NV {f:Pt}{S:vT_}{b:Option Pt}{o:Pt}(hS:∀q∈S,Lst f q) (ho:Lst f o) (h:mF f S b):mF f (S++[o]) (bG f b o):=by
 by_cases e:o=f
 .subst e;rw[BZ];rcases h with ⟨rfl,h⟩ | ⟨p,rfl,h1,h2,Z⟩
  .refine .inl #[rfl,fun q J=>?_];rcases PQ.mp J with J | J
   .exact h q J
   .exact PV.mp J
  .refine .inr #[p,rfl,QH _ h1,h2,fun q J=>?_];rcases PQ.mp J with J | J
   .exact Z q J
   .rw[PV.mp J,aY,pJ];exact#[QX,fun _=>rA _ _]
 .have lo:=ho.pos e;rcases h with ⟨rfl,h⟩ | ⟨p,rfl,h1,h2,Z⟩
  .rw[xT e];refine .inr #[o,rfl,Qu _ (PV.mpr rfl),e,fun q J=>?_];rcases PQ.mp J with J | J
   .rw[h q J,aY,pJ];exact#[QX,fun _=>rA _ _]
   .rw[PV.mp J,cF];exact#[QX,fun _=>QX]
  .have lp:=(hS p h1).pos h2;cases U:bH f p o with
   |true=>
    rw[yj e U];refine .inr #[o,rfl,Qu _ (PV.mpr rfl),e,fun q J=>?_];rcases PQ.mp J with J | J
    .obtain⟨c1,c2⟩:=Z q J;by_cases eq:q=f
     .rw[eq,aY,pJ];exact#[QX,fun _=>rA _ _]
     .have lq:=(hS q J).pos eq;unfold bH at U;by_cases Y:b9 f p o=0
      .rw[iR Y] at U;have hd:=Rb U;obtain⟨s,s0,hs⟩:=wB h2 (hS p h1) ho Y;have hc:b9 f o q=s*b9 f p q:=by rw[hs];unfold w9 b9;grind
       have s1:s≠0:=fun z=>e (by rw[hs,z,eQ])
       refine#[by rw[hc];exact PN s0 c1,fun z=>?_];rw[hc] at z;rcases QA.mp z with z | z
       .exact absurd z s1
       .exact Rat.le_trans (c2 z) (QO hd)
      .rw[iU Y] at U;have hd:=Rb U;have ht:=Az lo lp lq (by unfold b9 at hd;grind) (by unfold b9 at c1;grind);have:0<b9 f o q:=by unfold b9;grind
       exact#[QO this,fun z=>by rw[z] at this;exact absurd this SG]
    .rw[PV.mp J,cF];exact#[QX,fun _=>QX]
   |false=>
    rw[Au e U];refine .inr #[p,rfl,QH _ h1,h2,fun q J=>?_];rcases PQ.mp J with J | J
    .exact Z q J
    .rw[PV.mp J];unfold bH at U;by_cases Y:b9 f p o=0
     .rw[iR Y] at U;have:=Vv U;exact#[by rw[Y];exact QX,fun _=>by grind]
     .rw[iU Y] at U;have:=Vv U;exact#[by grind,fun z=>absurd z Y]
theorem vg {f:Pt}:∀(l S:vT_) (b:Option Pt),(∀q∈S++l,Lst f q)->mF f S b->mF f (S++l) (l.foldl (bG f) b)
 |[],S,b,_,h=>by rw[QB];exact h
 |o::r,S,b,hl,h=>by
  have e:S++o::r=(S++[o])++r:=by simp
  rw[Sa,e];rw[e] at hl;exact vg r (S++[o]) _ hl (NV (fun q J=>hl q (QH _ (QH _ J))) (hl o (QH _ (Qu _ (PV.mpr rfl)))) h)
def mC (f p:Pt) (S:vT_) (b:Option Pt):Prop:=(b=none/\∀q∈S,q=p)\/∃r,b=some r/\r∈S/\r≠p/\((∃q∈S,0<b9 f p q)->0<b9 f p r)
theorem BK {f z:Pt}(Y:p≠f) (Z:Lst f p) (lz:Lst f z) (c:b9 f p z=0) (hd:K5 f z<=K5 f p) (hz:z≠p):∃s:Rat,s<1/\z=w9 f p s:=by
 obtain⟨s,s0,U⟩:=wB Y Z lz c;refine#[s,?_,U];have d:=(Pe f p s).1;rw[<-U] at d;have J:=Md (fun z=>Y z.symm:f≠p);have ss:s*s<=1:=by
  rcases(Tn:s*s<=1\/1<=s*s) with q | q
  .exact q
  .have:K5 f p<=s*s*K5 f p:=by
    have:=Wc q (QO J)
    rwa [Sd] at this
   rw[<-d] at this;have e:s*s*K5 f p=1*K5 f p:=by rw[<-d,Sd];exact Rat.le_antisymm hd this
   have e2:(s*s - 1)*K5 f p=0:=by grind
   rcases QA.mp e2 with q | q
   .grind
   .rw[q] at J;exact absurd J SG
 have s1:=(Hi s).mp ss;have n1:s≠1:=fun z1=>hz (by rw[U,z1,lP])
 grind
theorem NT {f:Pt}{S:vT_}{b:Option Pt}{o:Pt}(hp:p≠f) (Z:∀q∈l,Lst f q) (pl:p∈l) (F:∀q∈l,0<=b9 f p q/\(b9 f p q=0->K5 f q<=K5 f p)) (hS:∀q∈S,q∈l) (ho:o∈l) (h:mC f p S b):mC f p (S++[o]) (bG p b o):=by
 by_cases e:o=p
 .subst e;rw[BZ];rcases h with ⟨rfl,h⟩ | ⟨r,rfl,h1,h2,Y⟩
  .refine .inl #[rfl,fun q J=>?_];rcases PQ.mp J with J | J
   .exact h q J
   .exact PV.mp J
  .refine .inr #[r,rfl,QH _ h1,h2,fun ⟨q,J,c⟩=>?_];rcases PQ.mp J with J | J
   .exact Y #[q,J,c]
   .rw[PV.mp J,cF] at c;exact absurd c SG
 .rcases h with ⟨rfl,h⟩ | ⟨r,rfl,h1,h2,Y⟩
  .rw[xT e];refine .inr #[o,rfl,Qu _ (PV.mpr rfl),e,fun ⟨q,J,c⟩=>?_];rcases PQ.mp J with J | J
   .rw[h q J,cF] at c;exact absurd c SG
   .rw[PV.mp J] at c;exact c
  .obtain⟨Gv,ro2⟩:=F r (hS r h1);obtain⟨oo1,oo2⟩:=F o ho;cases U:bH p r o with
   |true=>
    rw[yj e U];refine .inr #[o,rfl,Qu _ (PV.mpr rfl),e,fun ⟨q,J,c⟩=>?_];rcases PQ.mp J with J | J
    .have cr:=Y #[q,J,c];by_cases z:b9 f p o=0
     .obtain⟨s,s1,hs⟩:=BK hp (Z p pl) (Z o ho) z (oo2 z) e;have k:b9 p r o=(1 - s)*b9 f p r:=by rw[hs];unfold w9 b9;grind
      have k2:0<b9 p r o:=by rw[k];exact PR 'l' cr
      unfold bH at U;rw[iU 'l'] at U;have:=Rb U;grind
     .grind
    .rw[PV.mp J] at c;exact c
   |false=>
    rw[Au e U];refine .inr #[r,rfl,QH _ h1,h2,fun ⟨q,J,c⟩=>?_];rcases PQ.mp J with J | J
    .exact Y #[q,J,c]
    .rw[PV.mp J] at c;by_cases z:b9 f p r=0
     .obtain⟨s,s1,hs⟩:=BK hp (Z p pl) (Z r (hS r h1)) z (ro2 z) h2;have k:b9 p r o = -((1 - s)*b9 f p o):=by rw[hs];unfold w9 b9;grind
      have k1:0<(1 - s)*b9 f p o:=PR 'l' c;unfold bH at U;rw[iU 'l'] at U;have:=Vv U;grind
     .grind
theorem zB {f:Pt}{J:vT_}(Z:p≠f) (U:∀q∈J,Lst f q) (Y:p∈J) (F:∀q∈J,0<=b9 f p q/\(b9 f p q=0->K5 f q<=K5 f p)):∀(l S:vT_) (b:Option Pt),(∀q∈S++l,q∈J)->mC f p S b->mC f p (S++l) (l.foldl (bG p) b)
 |[],S,b,_,h=>by rw[QB];exact h
 |o::r,S,b,hm,h=>by
  have e:S++o::r=(S++[o])++r:=by simp
  rw[Sa,e];rw[e] at hm;exact zB Z U Y F r (S++[o]) _ hm (NT Z U Y F (fun q hq=>hm q (QH _ (QH _ hq))) (hm o (QH _ (Qu _ (PV.mpr rfl)))) h)
theorem yD {f b c:Pt}(J:p≠f) (h1:b9 f p a=0) (h2:b9 f p b=0) (U:b9 f p c=0):b9 a b c=0:=by
 obtain⟨s,rfl⟩:=jq (a:=f) (b:=p) (fun z=>J z.symm) h1;obtain⟨t,rfl⟩:=jq (a:=f) (b:=p) (fun z=>J z.symm) h2;obtain⟨u,rfl⟩:=jq (a:=f) (b:=p) (fun z=>J z.symm) U;unfold w9 b9;grind
def Bh (h:Pt) (l:vT_):Option Pt:=l.foldl (bG h) none
theorem rm {f:Pt}(hf:f∈l) (hl:∀q∈l,Lst f q) {b c:Pt}(ha:a∈l) (U:b∈l) (Y:c∈l) (h:b9 a b c≠0):∃p r,Bh f l=some p/\p≠f/\p∈l/\Bh p l=some r/\r≠f/\r∈l:=by
 have h1:=vg l [] none (by simpa using hl) (.inl #[rfl,fun q Z=>by cases Z]);rw[QW] at h1;rcases h1 with ⟨_,h1⟩ | ⟨p,e1,p1,p2,J⟩
 .exact absurd (by rw[h1 a ha,h1 b U,h1 c Y,aY]) h
 .have ex:∃q∈l,0<b9 f p q:=by
   by_cases z1:b9 f p a=0
   .by_cases z2:b9 f p b=0
    .by_cases z3:b9 f p c=0
     .exact absurd (yD p2 z1 z2 z3) h
     .have:=(J c Y).1;exact#[c,Y,by grind]
    .have:=(J b U).1;exact#[b,U,by grind]
   .have:=(J a ha).1;exact#[a,ha,by grind]
  have h2:=zB p2 hl p1 J l [] none 'g' (.inl #[rfl,fun q Z=>by cases Z]);rw[QW] at h2;rcases h2 with ⟨_,h2⟩ | ⟨r,e2,r1,r2,r3⟩
  .exact absurd (h2 f hf) (fun z=>p2 z.symm)
  .refine#[p,r,e1,p2,p1,e2,fun z=>?_,r1];have:=r3 ex;rw[z,aY] at this;exact absurd this SG
end DL
namespace T
open PySem L2 DL
theorem Bj {Y Z vx vy J U:Rat}(hu:E9 Y Z) (hv:E9 vx vy) (hw:E9 J U) (h1:0<=Y*vy - Z*vx) (h2:0<=vx*U - vy*J):0<=Y*U - Z*J:=by
 refine RQ.mp fun h=>?_
 have hs:0 < -(Y*U - Z*J):=by grind
 have a1:=(dQ hs).mpr hv;have a2:=kO h1 hw a1;have a3:=kO h2 hu a2;have e1:(vx*U - vy*J)*Y+((Y*vy - Z*vx)*J + -(Y*U - Z*J)*vx)=0:=by grind
 have e2:(vx*U - vy*J)*Z+((Y*vy - Z*vx)*U + -(Y*U - Z*J)*vy)=0:=by grind
 rw[e1,e2] at a3;exact jK a3
def Bk (r:Rat):u3 r=1↔0<r:=by
 unfold u3;by_cases h:0<r
 .rw[iR h];exact#[fun _=>h,fun _=>rfl]
 .rw[iU h];by_cases h2:r<0
  .rw[iR h2];exact#[fun z=>absurd z #[],fun z=>absurd z h]
  .rw[iU h2];exact#[fun z=>absurd z #[],fun z=>absurd z h]
def Z9 {b:Pt}(h:A3 a b=true):E9 (b.1 - a.1) (b.2 - a.2):=(cJ a b).mp h
def Ch (S:Pt->Prop):List Pt->Prop
 |b::a::r=>A3 a b=true/\(∀q,S q->0<=b9 a b q)/\(∀z r',r=z::r'->0<b9 z a b)/\Ch S (a::r)
 |_=>True
def Up (S:Pt->Prop) (x b:Pt):Prop:=(∀q,S q->q=b\/A3 q b=true)\/∃c,A3 b c=true/\(∀q,S q->0<=b9 b c q)/\¬ (0<b9 b c x)
theorem rS {x b q:Pt}(U:Up S x b) (J:S q) (Y:A3 b x=true) (h:q=b\/A3 b q=true):0<=b9 b x q:=by
 rcases h with rfl | h
 .have:b9 q x q=0:=aY q x;rw[this];exact QX
 .rcases U with U | ⟨c,bc,Uc,n⟩
  .rcases U q J with e | e
   .subst e;rw[aY];exact QX
   .have:=lsB_ord.tr _ _ _ h e;rw[lsB_ord.irr] at this;cases this
  .have k1:=Uc q J;have k2:0 <= -b9 b c x:=by have:=RQ.mp n;grind
   have:=Bj (Z9 Y) (Z9 bc) (Z9 h) (by rw[show (x.1 - b.1)*(c.2 - b.2) - (x.2 - b.2)*(c.1 - b.1) = -b9 b c x by unfold b9;grind];exact k2) (by unfold b9 at k1;exact k1);unfold b9;exact this
theorem FU {b x q:Pt}(ab:A3 a b=true) (J:A3 b x=true) (U:A3 q b=true) (h1:0<=b9 a b q) (h2:0<b9 a b x):0<=b9 b x q:=by
 have:=Bj (Z9 U) (Z9 ab) (Z9 J) (by rw[show (b.1 - q.1)*(b.2 - a.2) - (b.2 - q.2)*(b.1 - a.1)=b9 a b q by unfold b9;grind];exact h1)
  (by rw[show (b.1 - a.1)*(x.2 - b.2) - (b.2 - a.2)*(x.1 - b.1)=b9 a b x by unfold b9;grind];exact QO h2)
 have e:b9 b x q=(b.1 - q.1)*(x.2 - b.2) - (b.2 - q.2)*(x.1 - b.1):=by unfold b9;grind
 rw[e];exact this
theorem Pd {z b x:Pt}(J:A3 z a=true) (ab:A3 a b=true) (U:A3 b x=true) (h1:0<b9 z a b) (h2:0<b9 a b x):0<b9 z a x:=by
 have:=Az (Z9 J) (Z9 ab) (Z9 U) (by rw[show (a.1 - z.1)*(b.2 - a.2) - (a.2 - z.2)*(b.1 - a.1)=b9 z a b by unfold b9;grind];exact h1)
  (by rw[show (b.1 - a.1)*(x.2 - b.2) - (b.2 - a.2)*(x.1 - b.1)=b9 a b x by unfold b9;grind];exact QO h2)
 have e:b9 z a x=b9 z a b+((a.1 - z.1)*(x.2 - b.2) - (a.2 - z.2)*(x.1 - b.1)):=by unfold b9;grind
 rw[e];grind
theorem zI {x:Pt}:∀{r:vT_}{b a:Pt},Ch S (b::a::r)->0<b9 a b x->A3 b x=true->Ch (fun q=>S q\/q=x) (b::a::r)
 |r,b,a,⟨ab,L,T,R⟩,h,bx=>by
  refine#[ab,fun q J=>J.elim (L q) fun e=>by rw[e];exact QO h,T,?_];cases r with
  |nil=>trivial
  |cons z r'=>
   have t:=T z r' rfl;exact zI R (Pd R.1 ab bx t h) (lsB_ord.tr _ _ _ ab bx)
theorem Cb {x:Pt}(Z:∀q,S q->A3 q x=true):∀(r:vT_) (b:Pt),Ch S (b::r)->Up S x b->(∀p,(b::r).getLast? = some p->∀q,S q->q=p\/A3 p q=true)->(∀z∈b::r,S z)->Ch (fun q=>S q\/q=x) (x::P4 A6 x (b::r))
 |[],b,C,U,B,I=>by
  have Y:=Z b (I b 'g');refine#[Y,fun q J=>?_,fun z r' e=>(by cases e),trivial];rcases J with J | rfl
  .exact rS U J Y (B b rfl q J)
  .rw[cF];exact QX
 |a::r,b,C,U,B,I=>by
  obtain⟨ab,L,T,R⟩:=id C;have Y:=Z b (I b 'g');simp only[P4];by_cases t:A6 a b x=true
  .rw[iR t];have t:0<b9 a b x:=by
    unfold A6 at t;have:=Rb t;exact(Bk _).mp this
   refine#[Y,fun q J=>?_,fun z r' e=>(by cases e;exact t),zI C t Y];rcases J with J | rfl
   .by_cases n:q=b
    .exact rS U J Y (.inl n)
    .cases w:A3 q b with
     |true=>exact FU ab Y w (L q J) t
     |false=>exact rS U J Y (.inr (lsB_ord.tot q b w n))
   .rw[cF];exact QX
  .rw[iU t];have t:¬ (0<b9 a b x):=fun z=>t (by unfold A6;exact PU ((Bk _).mpr z))
   exact Cb Z r a R (.inr #[b,ab,L,t]) (fun p e=>B p (by rw[Tr];exact e)) fun z hz=>I z (Pz _ hz)
theorem nS {α:Type}{t:α->α->α->Bool}{x:α}:∀l:List α,(P4 t x l).getLast? = l.getLast?
 |[]=>rfl
 |[b]=>rfl
 |b::a::r=>by
  simp only[P4];split
  .rfl
  .rw[nS (a::r),Tr]
theorem rk {α:Type}{t:α->α->α->Bool}{x:α}:∀{l:List α},l≠[]->P4 t x l≠[]
 |[],h=>absurd rfl h
 |[b],_=>by simp[P4]
 |b::a::r,_=>by
  simp only[P4];split
  .simp
  .exact rk 'g'
structure Stk (S:Pt->Prop) (acc:vT_):Prop where
 ch:Ch S acc
 top:∀b r,acc=b::r->∀q,S q->q=b\/A3 q b=true
 bot:∀p,acc.getLast? = some p->∀q,S q->q=p\/A3 p q=true
 mem:∀z∈acc,S z
def IZ {J:vT_}{x:Pt}(h:Stk S J) (Z:J≠[]) (Y:∀q,S q->A3 q x=true):Stk (fun q=>S q\/q=x) (x::P4 A6 x J):=by
 cases J with
 |nil=>exact absurd rfl Z
 |cons b r=>
  have pn:P4 A6 x (b::r)≠[]:=rk Z;refine#[Cb Y r b h.ch (.inl (h.top b r rfl)) h.bot h.mem,fun b' r' e q U=>?_,fun p e q U=>?_,fun z hz=>?_]
  .cases e;exact U.elim (fun z=>.inr (Y q z)) .inl
  .have e2:(b::r).getLast? = some p:=by
    rw[<-nS (t:=A6) (x:=x) (b::r)];cases w:P4 A6 x (b::r) with
    |nil=>exact absurd w pn
    |cons c cs=>rw[w,Tr] at e;exact e
   rcases U with U | rfl
   .exact h.bot p e2 q U
   .exact .inr (Y p (h.mem p (List.mem_of_getLast? e2)))
  .rcases xo.mp hz with e | e
   .exact .inr e
   .exact .inl (h.mem z (ph e))
theorem Ch.sub {J:Pt->Prop}(h:∀q,J q->S q):∀{l:vT_},Ch S l->Ch J l
 |[],_=>trivial
 |[b],_=>trivial
 |b::a::r,⟨h1,h2,h3,h4⟩=>#[h1,fun q U=>h2 q (h q U),h3,Ch.sub h h4]
theorem Stk.sub {U:Pt->Prop}(h:Stk S l) (e:∀q,U q↔S q):Stk U l:=
 #[h.ch.sub fun q J=>(e q).mp J,fun b r g q J=>h.top b r g q ((e q).mp J),fun p g q J=>h.bot p g q ((e q).mp J),fun z Y=>(e z).mpr (h.mem z Y)]
theorem yp:∀(l acc:vT_) (S:Pt->Prop),Stk S acc->acc≠[]->(∀q,S q->∀x∈l,A3 q x=true)->T5 A3 l->Stk (fun q=>S q\/q∈l) (S5 A6 acc l)/\S5 A6 acc l≠[]/\(S5 A6 acc l).getLast? = acc.getLast?
 |[],acc,S,h,ne,_,_=>#[h.sub fun q=>by simp,ne,rfl]
 |x::xs,acc,S,h,ne,hl,hs=>by
  obtain⟨s1,s2⟩:=Rw.mp hs;have h1:=IZ h ne fun q J=>hl q J x (PD ..)
  obtain⟨Z,g2,Y⟩:=yp xs (x::P4 A6 x acc) _ h1 'g' (fun q J y U=>J.elim (fun z=>hl q z y (Pz _ U)) fun z=>z▸s1 y U) s2;refine#[Z.sub fun q=>by rw[xo,or_assoc],g2,?_];simp only[S5];rw[Y];cases w:P4 A6 x acc with
  |nil=>exact absurd w (rk ne)
  |cons c cs=>rw[Tr,<-w,nS]
def oU (h:T5 A3 (p::l)):Stk (fun q=>q∈p::l) (S5 A6 [] (p::l))/\(S5 A6 [] (p::l)).getLast? = some p/\S5 A6 [] (p::l)≠[]:=by
 obtain⟨h1,h2⟩:=Rw.mp h;have s0:Stk (fun q=>q=p) [p]:=#[trivial,fun b r e q J=>by cases e;exact .inl J,fun p' e q J=>by cases e;exact .inl J,fun z Z=>by simpa using Z]
 obtain⟨g1,g2,U⟩:=yp l [p] _ s0 'g' (fun q J x Y=>by rw[J];exact h1 x Y) h2;exact#[g1.sub fun q=>by rw[xo],U,g2]
def O7 (l:vT_):List Pt:=lK A3 A6 (dF l)
def Jm (h:z∈O7 l):z∈l:=by
 unfold O7 lK at h;rcases PQ.mp h with h | h
 .exact qy (eA _ (lX (List.dropLast_subset _ h)))
 .exact qy (eA _ (Tq.mp (lX (List.dropLast_subset _ h))))
structure Nx (S:Pt->Prop) (a b:Pt):Prop where
 ne:b≠a
 lf:∀q,S q->0<=b9 a b q
 far:∀q,S q->b9 a b q=0->∃s:Rat,0<=s/\s<=1/\q=w9 a b s
def iM {b:Pt}(h:A3 a b=true):b≠a:=fun e=>by rw[e,lsB_ord.irr] at h;cases h
theorem Fp {b:Pt}{s:Rat}(h:A3 a b=true) (Y:1<s):A3 b (w9 a b s)=true:=by
 rw[cJ];have U:(w9 a b s).1 - b.1=(s - 1)*(b.1 - a.1):=by unfold w9;grind
 have J:(w9 a b s).2 - b.2=(s - 1)*(b.2 - a.2):=by unfold w9;grind
 rw[U,J];exact(dQ 'l').mpr (Z9 h)
theorem JG {b:Pt}{s:Rat}(h:A3 a b=true) (Y:s<0):A3 (w9 a b s) a=true:=by
 rw[cJ];have U:a.1 - (w9 a b s).1=(-s)*(b.1 - a.1):=by unfold w9;grind
 have J:a.2 - (w9 a b s).2=(-s)*(b.2 - a.2):=by unfold w9;grind
 rw[U,J];exact(dQ 'l').mpr (Z9 h)
def vp {b:Pt}(h:A3 a b=true) (h2:A3 b a=true):False:=by
 have:=lsB_ord.tr _ _ _ h h2;rw[lsB_ord.irr] at this;cases this
def vI (S:Pt->Prop) (a b:Pt):Prop:=(∀q,S q->q=b\/A3 q b=true)\/∃c,0<b9 a b c/\∀q,S q->0<=b9 b c q
theorem Kd {b:Pt}{r:vT_}(C:Ch S (b::a::r)) (U:vI S a b) (B:r=[]->∀q,S q->q=a\/A3 a q=true):Nx S a b:=by
 obtain⟨ab,L,T,R⟩:=C;refine#[iM ab,L,fun q J Z=>?_];obtain⟨s,rfl⟩:=jq (fun e=>iM ab e.symm) Z;refine#[s,RQ.mp fun Y=>?_,RQ.mp fun Y=>?_,rfl]
 .have lo:=JG ab Y;cases r with
  |nil=>
   rcases B rfl _ J with e | e
   .rw[e,lsB_ord.irr] at lo;cases lo
   .exact vp lo e
  |cons z r'=>
   have t:=T z r' rfl;have k:=R.2.1 _ J;have e:b9 z a (w9 a b s)=s*b9 z a b:=by unfold b9 w9;grind
   rw[e] at k;have:=PR (show 0 < -s by grind) t;grind
 .have hi:=Fp ab Y;rcases U with U | ⟨w,t,k⟩
  .rcases U _ J with e | e
   .rw[e,lsB_ord.irr] at hi;cases hi
   .exact vp hi e
  .have k:=k _ J;have e:b9 b w (w9 a b s) = -((s - 1)*b9 a b w):=by unfold b9 w9;grind
   rw[e] at k;have:=PR (show 0<s - 1 by grind) t;grind
def T4 (R:Pt->Pt->Prop):List Pt->Prop
 |a::b::r=>R a b/\T4 R (b::r)
 |_=>True
theorem Am {R:Pt->Pt->Prop}{c:Pt}:∀{l:vT_}{b:Pt},T4 R (l++[b])->R b c->T4 R (l++[b]++[c])
 |[],b,_,h=>#[h,trivial]
 |[a],b,⟨h1,_⟩,h=>#[h1,h,trivial]
 |a::a'::l,b,⟨h1,h2⟩,h=>#[h1,Am (l:=a'::l) h2 h]
theorem wo :∀(r:vT_) (b:Pt),Ch S (b::r)->(∀a r',r=a::r'->vI S a b)->(∀p,(b::r).getLast? = some p->∀q,S q->q=p\/A3 p q=true)->T4 (Nx S) (b::r).reverse
 |[],b,_,_,_=>trivial
 |a::r,b,C,U,B=>by
  have n:=Kd C (U a r rfl) (fun e=>by subst e;exact B a rfl);have J:=wo r a C.2.2.2 (fun z r' e=>.inr #[b,C.2.2.1 z r' e,C.2.1]) (fun p e=>B p (by rw[Tr];exact e));rw[RF] at J;rw[RF,RF];exact Am J n
def vv (h:T5 A3 (p::l)):T4 (Nx fun q=>q∈p::l) (C4 A6 (p::l)):=by
 obtain⟨s,_,J⟩:=oU h;unfold C4;cases e:S5 A6 [] (p::l) with
 |nil=>exact absurd e J
 |cons b r=>
  rw[e] at s;exact wo r b s.ch (fun a r' _=>.inl (s.top b r rfl)) s.bot
def yb (h:T5 A3 (p::l)):(C4 A6 (p::l)).head? = some p:=by
 obtain⟨_,e,_⟩:=oU h;unfold C4;rw[List.head?_reverse];exact e
theorem yk {α:Type}{t:α->α->α->Bool}:∀(l acc:List α) (x:α),(S5 t acc (l++[x])).head? = some x
 |[],acc,x=>rfl
 |y::l,acc,x=>yk l _ x
def wN {x:Pt}:(C4 A6 (l++[x])).getLast? = some x:=by
 unfold C4;rw[List.getLast?_reverse];exact yk l [] x
def ng (p:Pt):Pt:=(-p.1,-p.2)
theorem eZ (p:Pt):ng (ng p)=p:=Qm (by unfold ng;grind) (by unfold ng;grind)
theorem pj (a b c:Pt):b9 (ng a) (ng b) (ng c)=b9 a b c:=by unfold b9 ng;grind
def ql (a b c:Pt):A6 (ng a) (ng b) (ng c)=A6 a b c:=by unfold A6;rw[pj]
theorem zc (a b:Pt):A3 (ng a) (ng b)=A3 b a:=by
 rw[RC,cJ,cJ];have U:(ng b).1 - (ng a).1=a.1 - b.1:=by unfold ng;grind
 have J:(ng b).2 - (ng a).2=a.2 - b.2:=by unfold ng;grind
 rw[U,J]
theorem Mh (a b:Pt) (s:Rat):ng (w9 a b s)=w9 (ng a) (ng b) s:=Qm (by unfold ng w9;grind) (by unfold ng w9;grind)
def CD {b:Pt}(h:Nx (fun q=>S (ng q)) (ng a) (ng b)):Nx S a b:=by
 refine#[fun e=>h.ne (by rw[e]),fun q J=>?_,fun q J c=>?_]
 .rw[<-pj];exact h.lf (ng q) (by rw[eZ];exact J)
 .rw[<-pj] at c;obtain⟨s,h1,h2,e⟩:=h.far (ng q) (by rw[eZ];exact J) c;refine#[s,h1,h2,?_];rw[<-Mh] at e;rw[<-eZ q,e,eZ]
theorem BW {R J:Pt->Pt->Prop}{f:Pt->Pt}(h:∀a b,R (f a) (f b)->J a b):∀{l:vT_},T4 R (l.map f)->T4 J l
 |[],_=>trivial
 |[a],_=>trivial
 |a::b::r,⟨h1,h2⟩=>#[h a b h1,BW (l:=b::r) h h2]
theorem ud {R J:Pt->Pt->Prop}(h:∀a b,R a b->J a b):∀{l:vT_},T4 R l->T4 J l
 |[],_=>trivial
 |[a],_=>trivial
 |a::b::r,⟨h1,h2⟩=>#[h a b h1,ud (l:=b::r) h h2]
def Nx.sub {U:Pt->Prop}{b:Pt}(h:Nx S a b) (e:∀q,U q->S q):Nx U a b:=#[h.ne,fun q J=>h.lf q (e q J),fun q J=>h.far q (e q J)]
def oW (h:T5 A3 l):T5 A3 (l.reverse.map ng):=by
 refine Vh.mpr ?_;have:l.reverse.Pairwise fun a b=>A3 b a=true:=We.mpr h
 exact this.imp fun {a b} e=>by rw[zc];exact e
def KY (h:T5 A3 l):T4 (Nx fun q=>q∈l) (C4 A6 l.reverse):=by
 have Y:=oW h;have e:C4 A6 (l.reverse.map ng)=(C4 A6 l.reverse).map ng:=oK (f:=ng) ql l.reverse;have m:∀q,q∈l->ng q∈l.reverse.map ng:=fun q U=>List.mem_map_of_mem (Tq.mpr U)
 cases w:l.reverse.map ng with
 |nil=>
  have:l=[]:=by simpa using w
  subst this;trivial
 |cons p r=>
  rw[w] at Y;have R:=vv Y;rw[<-w,e] at R;exact BW (fun a b J=>CD (J.sub fun q U=>by have z:=m _ U;rw[eZ] at z;exact z)) R
theorem DK {b:Pt}(h:b≠a) {s:Rat}(e:b=w9 a b s):s=1:=by
 unfold w9 at e;have Y:b.1=a.1+s*(b.1 - a.1):=congrArg Prod.fst e;have U:b.2=a.2+s*(b.2 - a.2):=congrArg Prod.snd e;by_cases z:b.1 - a.1=0
 .have J:b.2 - a.2≠0:=fun w=>h (Qm 'l' 'l')
  have:(s - 1)*(b.2 - a.2)=0:=by grind
  rcases QA.mp this with q | q
  .grind
  .exact absurd q J
 .have:(s - 1)*(b.1 - a.1)=0:=by grind
  rcases QA.mp this with q | q
  .grind
  .exact absurd q z
theorem DU (a b:Pt) (s t:Rat):w9 a (w9 a b s) t=w9 a b (t*s):=by
 unfold w9;exact Qm 'l' 'l'
theorem MN (a b c:Pt):b9 a c b = -b9 a b c:=by unfold b9;grind
theorem CW {b c:Pt}(U:S b) (Y:S c) (h1:Nx S a b) (h2:Nx S a c):b=c:=by
 have k1:=h1.lf c Y;have k2:=h2.lf b U;have e:=MN a b c;have z1:b9 a b c=0:=by grind
 have z2:b9 a c b=0:=by grind
 obtain⟨s,s0,s1,es⟩:=h1.far c Y z1;obtain⟨t,t0,Z,et⟩:=h2.far b U z2;have q:b=w9 a b (t*s):=by rw[<-DU,<-es];exact et
 have q:=DK h1.ne q;have J:s=1:=by
  have a1:t*s<=1*s:=Wc Z s0;grind
 rw[es,J,lP]
theorem zk {x:Pt}:∀{l m:vT_},T4 R (l++[x])->T4 R (x::m)->T4 R (l++x::m)
 |[],m,_,h=>h
 |[a],m,⟨h1,_⟩,h=>#[h1,h]
 |a::b::l,m,⟨h1,h2⟩,h=>#[h1,zk (l:=b::l) h2 h]
theorem kR {R:Pt->Pt->Prop}:∀{l:vT_}{i:Nat}{a b:Pt},T4 R l->l[i]? = some a->l[i+1]? = some b->R a b
 |[],i,a,b,_,h,_=>by simp at h
 |[c],i,a,b,_,_,h=>by simp at h
 |c::d::r,0,a,b,⟨h1,_⟩,e1,e2=>by simp at e1 e2;subst e1;subst e2;exact h1
 |c::d::r,i+1,a,b,⟨_,h2⟩,e1,e2=>kR (l:=d::r) h2 (by simpa using e1) (by simpa using e2)
structure Rnd (S:Pt->Prop) (p:Pt) (C:vT_):Prop where
 hd:C.head? = some p
 run:T4 (Nx S) (C++[p])
 mem:∀z∈C,S z
 nb:∀i,0<i->C[i]? ≠ some p
def Rnd.nodup {C:vT_}(h:Rnd S p C):C.Nodup:=by
 have sp:S p:=h.mem p (List.mem_of_mem_head? h.hd);have Y:∀i a,(C++[p])[i]? = some a->S a:=fun i a e=>by
  rcases PQ.mp (Rr e) with z | z
  .exact h.mem a z
  .rw[PV.mp z];exact sp
 have U:∀(t i j:Nat),i<j->j+t<=C.length->(C++[p])[i]? = (C++[p])[j]? -> (C++[p])[i+t]? = (C++[p])[j+t]?:=by
  intro t;induction t with
  |zero=>intro i j _ _ e;exact e
  |succ t ih=>
   intro i j J hl e;have e':=ih i j J ∅ e;have l:(C++[p]).length=C.length+1:=by simp
   obtain⟨a,ha⟩:∃a,(C++[p])[j+t]? = some a:=#[_,Qf ∅]
   obtain⟨b,hb⟩:∃b,(C++[p])[j+t+1]? = some b:=#[_,Qf ∅]
   obtain⟨c,hc⟩:∃c,(C++[p])[i+t+1]? = some c:=#[_,Qf ∅]
   have r1:=kR h.run ha hb;have r2:=kR h.run (e'.trans ha) hc;have:=CW (Y _ _ hb) (Y _ _ hc) r1 r2;show (C++[p])[i+t+1]? = (C++[p])[j+t+1]?;rw[hb,hc,this]
 refine Vw.mpr fun i j hi Z J e=>?_
 have e:C[i]? = C[j]?:=by rw[Qf hi,Qf Z,e]
 have g:∀k,k<C.length->(C++[p])[k]? = C[k]?:=fun k hk=>Rq hk
 have s:=U (C.length - j) i j J ∅ (by rw[g i ∅,g j Z];exact e);rw[show j+(C.length - j)=C.length by omega,Rp (tx _),Nat.sub_self,g _ ∅] at s;exact h.nb (i+(C.length - j)) ∅ s
def nN {α:Type}{l:List α}{x:α}(h:l.getLast? = some x):l.dropLast++[x]=l:=by
 obtain⟨m,rfl⟩:=Wf.mp h;simp
def LX {α:Type}{l:List α}{x:α}(h:l.head? = some x) (h2:2<=l.length):l.dropLast.head? = some x:=by
 match l,h2 with
 |a::b::r,_=>simpa using h
theorem As :∀{acc:vT_},Ch S acc->acc.Pairwise fun b a=>A3 a b=true
 |[],_=>List.Pairwise.nil
 |[b],_=>Wb _ _
 |b::a::r,⟨ab,_,_,R⟩=>by
  have J:=As R;refine Rw.mpr #[fun z U=>?_,J];rcases xo.mp U with q | q
  .exact q▸ab
  .exact lsB_ord.tr _ _ _ ((Rw.mp J).1 z q) ab
def Ad (h:T5 A3 (p::l)):T5 A3 (C4 A6 (p::l)):=We.mpr (As (oU h).1.ch)
def zT (hl:l.length<2 ^ 20) {r:vT_}(e:aQ l=p::r) (hr:r≠[]):Rnd (fun q=>q∈l) p (O7 l):=by
 have U:=OC hl;rw[e] at U;obtain⟨m,x,rx⟩:∃m x,r=m++[x]:=by
  obtain⟨x,hx⟩:∃x,r.getLast? = some x:=by
   cases q:r.getLast? with
   |none=>exact absurd (List.getLast?_eq_none_iff.mp q) hr
   |some x=>exact#[x,rfl]
  obtain⟨m,q⟩:=Wf.mp hx;exact#[m,x,q]
 have el:p::r=(p::m)++[x]:=by rw[rx];rfl
 have Z:(p::r).reverse=x::(p::m).reverse:=by rw[el];simp
 have px:∀z∈r,A3 p z=true:=(Rw.mp U).1;have xr:x∈r:=by rw[rx];simp
 have inl:∀z,z∈l↔z∈p::r:=fun z=>by rw[<-rowP_in,e]
 have eh:O7 l=(C4 A6 (p::r)).dropLast++(C4 A6 (p::r).reverse).dropLast:=by
  unfold O7 lK;show (C4 A6 (aQ l)).dropLast++(C4 A6 (aQ l).reverse).dropLast=_;rw[e]
 have R1:=vv U;have R2:=KY U;have H1:=yb U;have L1:(C4 A6 (p::r)).getLast? = some x:=by rw[el];exact wN
 have L2:(C4 A6 (p::r).reverse).getLast? = some p:=by rw[RF];exact wN
 have H2:(C4 A6 (p::r).reverse).head? = some x:=by
  have J:=oW U;have q:C4 A6 ((p::r).reverse.map ng)=(C4 A6 (p::r).reverse).map ng:=oK (f:=ng) ql _;rw[Z,PM] at J;have b:=yb J;rw[<-PM,<-Z,q,List.head?_map] at b;cases w:(C4 A6 (p::r).reverse).head? with
  |none=>rw[w] at b;cases b
  |some y=>
   rw[w] at b;have:ng y=ng x:=Qi b;rw[<-eZ y,this,eZ]
 have n1:2<=(C4 A6 (p::r)).length:=by
  match w:C4 A6 (p::r),H1,L1 with
  |[],h,_=>cases h
  |[a],h1,h2=>
   simp at h1 h2;exact absurd (h2▸h1▸rfl:x=p) (iM (px x xr))
  |a::b::c,_,_=>simp
 have mem1:∀z∈C4 A6 (p::r),z∈p::r:=fun z Y=>lX Y
 have mem2:∀z∈C4 A6 (p::r).reverse,z∈p::r:=fun z Y=>Tq.mp (lX Y)
 have cp:O7 l++[p]=(C4 A6 (p::r)).dropLast++C4 A6 (p::r).reverse:=by rw[eh,So,nN L2]
 refine#[?_,?_,fun z Y=>Jm Y,fun i hi q=>?_]
 .rw[eh,List.head?_append,LX H1 n1];rfl
 .rw[cp];cases w:C4 A6 (p::r).reverse with
  |nil=>rw[w] at H2;cases H2
  |cons y m2=>
   rw[w] at H2;have:y=x:=by simpa using H2
   subst this;refine ud (R:=Nx fun q=>q∈p::r) (fun a b h=>Nx.sub h fun q hq=>(inl q).mp hq) (zk (by rw[nN L1];exact R1) (by rw[<-w];exact R2))
 .have S1:=Ad U;have S2:(C4 A6 (p::r).reverse).Pairwise fun a b=>A3 b a=true:=by
   have J:=oW U;have q:C4 A6 ((p::r).reverse.map ng)=(C4 A6 (p::r).reverse).map ng:=oK (f:=ng) ql _;rw[Z,PM] at J;have b:=Ad J;rw[<-PM,<-Z,q] at b;exact(Vh.mp b).imp fun {a c} z=>by rw[zc] at z;exact z
  rw[<-nN L2] at S2;have B:∀z∈(C4 A6 (p::r).reverse).dropLast,z≠p:=fun z Y w=>iM ((Vu.mp S2).2.2 z Y p 'g') w
  have A:∀j,0<j->(C4 A6 (p::r)).dropLast[j]? ≠ some p:=fun j hj w=>by
   cases c:C4 A6 (p::r) with
   |nil=>rw[c] at H1;cases H1
   |cons a t=>
    rw[c] at H1 w S1;have ap:a=p:=by simpa using H1
    have m:p∈t:=by
     have w2:(a::t)[j]? = some p:=by
      rw[List.getElem?_dropLast] at w;split at w
      .exact w
      .cases w
     cases j with
     |zero=>omega
     |succ j=>exact Rr (by simpa using w2)
    exact iM ((Rw.mp S1).1 p m) ap.symm
  rw[eh] at q;by_cases hi2:i<(C4 A6 (p::r)).dropLast.length
  .rw[Rq hi2] at q;exact A i hi q
  .rw[Rp ∅] at q;exact B p (Rr q) rfl
end T
namespace DL
open PySem L2
structure Ok (k n:Nat) (d:D):Prop where
 pl:d.plain=true
 sh:d.py.showable=true
 la:d.py.canLay0=true
 dp:d.py.depth<=k
 le:d.py.leavesShort 1921=true
 bu:d.py.bulk<=n
structure OkL (k n:Nat) (ds:vD_):Prop where
 pl:D.plains ds=true
 sh:PyData.showableAll (D.pys ds)=true
 la:PyData.canLayAll0 (D.pys ds)=true
 dp:PyData.depthAll (D.pys ds)<=k
 le:PyData.leavesShortAll 1921 (D.pys ds)=true
 bu:PyData.bulkAll (D.pys ds)<=n
def Ok.mono {k' J:Nat}(h:Ok k n d) (U:k<=k') (Y:n<=J):Ok k' J d:=#[h.pl,h.sh,h.la,PJ h.dp U,h.le,PJ h.bu Y]
def OkL.mono {k' J:Nat}(h:OkL k n ds) (U:k<=k') (Y:n<=J):OkL k' J ds:=#[h.pl,h.sh,h.la,PJ h.dp U,h.le,PJ h.bu Y]
theorem Ok.non:Ok 0 0 .non:=#[rfl,rfl,rfl,tx _,rfl,tx _]
theorem Ok.bl (b:Bool):Ok 0 0 (.bl b):=#[rfl,rfl,rfl,tx _,rfl,tx _]
theorem Ok.int {i:Int}(h:Bd 1920 i):Ok 0 0 (.int i):=by
 have J:i.natAbs.log2<1920:=gm #[] h;refine#[rfl,?_,rfl,tx _,?_,tx _]
 .simp only[D.py,PyData.showable];exact PU J
 .simp only[D.py,PyData.leavesShort,PyData.shown];exact PU (Ja J)
theorem Ok.str (h:PyData.strOk x=true):Ok 0 x.length (.str x):=by
 refine#[rfl,rfl,?_,tx _,?_,tx _]
 .simp only[D.py,PyData.canLay0];exact h
 .exact PyData.leavesShort_of_canLay0 1921 (.str x) (by simp only[PyData.canLay0];exact h) rfl
def OkL.nil:OkL 0 0 []:=#[rfl,rfl,rfl,tx _,rfl,tx _]
def OkL.cons {l:Nat}(h:Ok k n d) (J:OkL l m ds):OkL (max k l) (n+1+m) (d::ds):=by
 refine#[?_,?_,?_,?_,?_,?_]
 .simp only[D.plains,h.pl,J.pl,QM]
 .simp only[D.pys,PyData.showableAll,h.sh,J.sh,QM]
 .simp only[D.pys,PyData.canLayAll0,h.la,J.la,QM]
 .have:=h.dp;have:=J.dp;simp only[D.pys,PyData.depthAll];omega
 .simp only[D.pys,PyData.leavesShortAll,h.le,J.le,QM]
 .have:=h.bu;have:=J.bu;simp only[D.pys,PyData.bulkAll];omega
theorem Ok.tup (h:OkL k n ds):Ok (k+1) n 'm':=by
 refine#[?_,?_,?_,?_,?_,?_]
 .simp only[D.plain,h.pl]
 .simp only[D.py,PyData.showable,h.sh]
 .simp only[D.py,PyData.canLay0,h.la]
 .have:=h.dp;simp only[D.py,PyData.depth];omega
 .simp only[D.py,PyData.leavesShort,h.le]
 .have:=h.bu;simp only[D.py,PyData.bulk];omega
theorem Ok.lst (h:OkL k n ds):Ok (k+1) n (.lst ds):=by
 refine#[?_,?_,?_,?_,?_,?_]
 .simp only[D.plain,h.pl]
 .simp only[D.py,PyData.showable,h.sh]
 .simp only[D.py,PyData.canLay0,h.la]
 .have:=h.dp;simp only[D.py,PyData.depth];omega
 .simp only[D.py,PyData.leavesShort,h.le]
 .have:=h.bu;simp only[D.py,PyData.bulk];omega
theorem OkL.all :∀{ds:vD_},(∀d∈ds,Ok k n d)->OkL k (ds.length*(n+1)) ds
 |[],_=>OkL.nil.mono ∅ ∅
 |d::r,h=>by
  have:=(OkL.cons (h d (PD ..)) (OkL.all (ds:=r) fun x J=>h x (Pz _ J)))
  refine this.mono ∅ ?_;rw[PX,Nat.add_mul,Nat.one_mul];omega
def Ok.show {k n:Nat}{d:D}(h:Ok k n d) (J:k<=64:=by decide) (U:n<=8000:=by decide):di d=true:=by
 have e:=PyData.shown_le_bulk 1921 #[] d.py h.le;have Y:(1921+2)*d.py.bulk<=1923*8000:=Ts #[] (PJ h.bu U);have:d.py.shown.length<=sizeLine:=by rw[QR];omega
 simp only[di,h.pl,h.sh,h.la,Rf,UA,PU this,PU (PJ h.dp J)]
def Ok.eq {k n:Nat}{d:D}(h:Ok k n d) (J:k<=64:=by decide):A9 d=true:=by
 simp only[A9,h.pl,SeqAt.shaped,h.la,Rf,PU (PJ h.dp J)]
def Ok.repr {k n:Nat}{d:D}(h:Ok k n d) (J:k<=64:=by decide) (U:n<=8000:=by decide):V5 d=some (.str d.py.shown):=KP (h.show J U)
theorem Ok.pt {k:Nat}{a:Pt}(h:Ps k a) (J:k<=1920:=by decide):Ok 1 3 (pt a):=Ok.tup ((OkL.cons (Ok.int (h.x.mono J)) (OkL.cons (Ok.int (h.y.mono J)) (OkL.cons (Ok.int (h.l.mono J)) OkL.nil))))
def B4 (ds:vD_) (i:Int):d7 'm' (.int i)=D9 ds i:=rfl
def B7 (ds:vD_) (i:Int):d7 (.lst ds) (.int i)=D9 ds i:=rfl
def C6 (p:Rat):d7 (DL.fr p) (.int 0)=some (.int p.num):=rfl
def C7 (p:Rat):d7 (DL.fr p) (.int 1)=some (.int p.den):=rfl
def C9 (a:Pt):d7 (DL.pt a) (.int 0)=some (.int (pX a)):=rfl
def D0 (a:Pt):d7 (DL.pt a) (.int 1)=some (.int (pY a)):=rfl
def C8 (a:Pt):d7 (DL.pt a) (.int 2)=some (.int (pL a)):=rfl
end DL
namespace T
open PySem L2 DL
theorem KU {b c d:Pt}(Y:S a) (U:S b) (N:Nx S c d) {s:Rat}(h0:0<s) (h1:s<1) (ab:b≠a) (e:c=w9 a b s):False:=by
 have k1:=N.lf a Y;have k2:=N.lf b U;have q:(1 - s)*b9 c d a+s*b9 c d b=0:=by
  rw[e];unfold b9 w9;grind
 have p1:0<=(1 - s)*b9 c d a:=PN 'l' k1;have p2:0<=s*b9 c d b:=PN 'l' k2;have z1:(1 - s)*b9 c d a=0:=by grind
 have z2:s*b9 c d b=0:=by grind
 have c1:b9 c d a=0:=by
  rcases QA.mp z1 with w | w
  .grind
  .exact w
 have c2:b9 c d b=0:=by
  rcases QA.mp z2 with w | w
  .grind
  .exact w
 obtain⟨u,u0,u1,J⟩:=N.far a Y c1;obtain⟨v,v0,v1,ev⟩:=N.far b U c2;have dn:=N.ne;have x1:(1 - s)*(a.1 - c.1)+s*(b.1 - c.1)=0:=by rw[e];unfold w9;grind
 have x2:(1 - s)*(a.2 - c.2)+s*(b.2 - c.2)=0:=by rw[e];unfold w9;grind
 have Z:((1 - s)*u+s*v)*(d.1 - c.1)=0:=by
  have:=congrArg Prod.fst J;have t:=congrArg Prod.fst ev
  unfold w9 at this t;simp only at this t;grind
 have y2:((1 - s)*u+s*v)*(d.2 - c.2)=0:=by
  have:=congrArg Prod.snd J;have t:=congrArg Prod.snd ev
  unfold w9 at this t;simp only at this t;grind
 have w0:(1 - s)*u+s*v=0:=by
  rcases QA.mp Z with w | w
  .exact w
  .rcases QA.mp y2 with w' | w'
   .exact w'
   .exact absurd (Qm 'l' 'l') dn
 have g1:0<=(1 - s)*u:=PN 'l' u0;have g2:0<=s*v:=PN 'l' v0;have u':u=0:=by
  have:(1 - s)*u=0:=by grind
  rcases QA.mp this with w | w
  .grind
  .exact w
 have v':v=0:=by
  have:s*v=0:=by grind
  rcases QA.mp this with w | w
  .grind
  .exact w
 rw[u',eQ] at J;rw[v',eQ] at ev;exact ab (ev.trans J.symm)
theorem Cu {b c d:Pt}(Y:S a) (U:S b) (J:S c) (N:Nx S a b) (N2:Nx S c d) (Z:c≠a) (cb:c≠b):0<b9 a b c:=by
 have k:=N.lf c J;by_cases z:b9 a b c=0
 .obtain⟨s,s0,s1,e⟩:=N.far c J z;have n0:s≠0:=fun w=>Z (by rw[e,w,eQ])
  have n1:s≠1:=fun w=>cb (by rw[e,w,lP])
  exact(KU Y U N2 'l' 'l' N.ne e).elim
 .grind
end T
namespace DL
open PySem L2
def R0 (x:Str):Prop:=∀c∈x.cps.toList,c<128
mutual
def Th (b:Nat):Nat->D->Prop
 |_,.non=>True
 |_,.bl _=>True
 |_,.int i=>Bd b i
 |_,.str x=>R0 x
 |k+1,.tup ds=>Ths b k ds
 |k+1,.lst ds=>Ths b k ds
 |_,_=>False
def Ths (b:Nat):Nat->List D->Prop
 |_,[]=>True
 |k,d::r=>Th b k d/\Ths b k r
end
def bk (d:D):Nat:=d.py.bulk
def K0 (ds:vD_):Nat:=PyData.bulkAll (D.pys ds)
def aS:K0 []=0:=rfl
def N7 (d:D) (r:vD_):K0 (d::r)=bk d+1+K0 r:=by simp only[K0,bk,D.pys,PyData.bulkAll]
theorem aZ:∀(a b:vD_),K0 (a++b)=K0 a+K0 b
 |[],b=>by rw[QW,aS,Ry]
 |d::r,b=>by rw[UT,N7,N7,aZ r b];omega
def V1 (ds:vD_):bk 'm'=K0 ds:=by simp only[K0,bk,D.py,PyData.bulk]
def Cc (ds:vD_):bk (.lst ds)=K0 ds:=by simp only[K0,bk,D.py,PyData.bulk]
def fV (i:Int):bk (.int i)=0:=rfl
def Jc (i:Bool):bk (.bl i)=0:=rfl
def jf (x:Str):bk (.str x)=x.length:=rfl
theorem lF:∀ds:List D,ds.length<=K0 ds
 |[]=>tx _
 |d::r=>by have:=lF r;rw[N7,PX];omega
def DN (n:Nat) (ds:vD_):K0 (ds.take n)<=K0 ds:=by
 have:=aZ (ds.take n) (ds.drop n);rw[SH] at this;omega
def Nw (n:Nat) (ds:vD_):K0 (ds.drop n)<=K0 ds:=by
 have:=aZ (ds.take n) (ds.drop n);rw[SH] at this;omega
theorem vU:∀ds:List D,K0 ds.reverse=K0 ds
 |[]=>rfl
 |d::r=>by rw[RF,aZ,vU r,N7,N7,aS];omega
def FT (h:d∈ds):bk d+1<=K0 ds:=by
 induction ds with
 |nil=>cases h
 |cons x r J=>
  rw[N7];rcases xo.mp h with z | z
  .subst z;omega
  .have:=J z;omega
section
variable {b b' k':Nat}
mutual
theorem Th.mono (J:b<=b'):∀{k k':Nat}(d:D),k<=k'->Th b k d->Th b' k' d
 |k,k',.non,_,_=>by unfold Th;trivial
 |k,k',.bl _,_,_=>by unfold Th;trivial
 |k,k',.int i,_,h=>by unfold Th at *;exact Bd.mono h J
 |k,k',.str x,_,h=>by unfold Th at *;exact h
 |0,k',.tup ds,_,h=>by unfold Th at h;exact h.elim
 |k+1,0,.tup ds,hk,h=>by omega
 |k+1,k'+1,.tup ds,hk,h=>by unfold Th at *;exact Ths.mono J ds ∅ h
 |0,k',.lst ds,_,h=>by unfold Th at h;exact h.elim
 |k+1,0,.lst ds,hk,h=>by omega
 |k+1,k'+1,.lst ds,hk,h=>by unfold Th at *;exact Ths.mono J ds ∅ h
 |k,k',.feed,_,h=>by unfold Th at h;exact h.elim
 |k,k',.scr _,_,h=>by unfold Th at h;exact h.elim
theorem Ths.mono (J:b<=b'):∀{k k':Nat}(ds:vD_),k<=k'->Ths b k ds->Ths b' k' ds
 |k,k',[],_,_=>by unfold Ths;trivial
 |k,k',d::r,hk,h=>by unfold Ths at *;exact#[Th.mono J d hk h.1,Ths.mono J r hk h.2]
end
theorem Ths.mem:∀{ds:vD_}{d:D},Ths b k ds->d∈ds->Th b k d
 |x::r,d,h,m=>by
  unfold Ths at h;rcases xo.mp m with z | z
  .subst z;exact h.1
  .exact Ths.mem h.2 z
theorem Ths.of:∀{ds:vD_},(∀d∈ds,Th b k d)->Ths b k ds
 |[],_=>by unfold Ths;trivial
 |d::r,h=>by unfold Ths;exact#[h d (PD ..),Ths.of fun x J=>h x (Pz _ J)]
def kg (h:R0 x):PyData.strOk x=true:=by
 unfold PyData.strOk;rw[Array.all_eq_true_iff_forall_mem];intro c J;have:=h c (Array.mem_toList_iff.mpr J);exact PU ∅
mutual
theorem Th.ok (J:b<=1920):∀{k:Nat}(d:D),Th b k d->Ok k (bk d) d
 |k,.non,_=>Ok.non.mono ∅ (Qx _)
 |k,.bl i,_=>(Ok.bl i).mono ∅ (Qx _)
 |k,.int i,h=>by unfold Th at h;exact(Ok.int (Bd.mono h J)).mono ∅ (Qx _)
 |k,.str x,h=>by unfold Th at h;exact(Ok.str (kg h)).mono ∅ (tx _)
 |0,.tup ds,h=>by unfold Th at h;exact h.elim
 |k+1,.tup ds,h=>by unfold Th at h;rw[V1];exact Ok.tup (Ths.ok J ds h)
 |0,.lst ds,h=>by unfold Th at h;exact h.elim
 |k+1,.lst ds,h=>by unfold Th at h;rw[Cc];exact Ok.lst (Ths.ok J ds h)
 |k,.feed,h=>by unfold Th at h;exact h.elim
 |k,.scr _,h=>by unfold Th at h;exact h.elim
theorem Ths.ok (J:b<=1920):∀{k:Nat}(ds:vD_),Ths b k ds->OkL k (K0 ds) ds
 |k,[],_=>OkL.nil.mono ∅ (Qx _)
 |k,d::r,h=>by
  unfold Ths at h;rw[N7];exact(OkL.cons (Th.ok J d h.1) (Ths.ok J r h.2)).mono ∅ (tx _)
end
end
def MU (i:Int):R0 (PySem.Str.ofString (toString i)):=by
 intro c U;rw[PyProof.Rows.signs_ofString] at U;obtain⟨ch,J,rfl⟩:=Qh.mp U;exact int_ascii i ch J
def Lf {b:Nat}{i:Int}(h:Bd b i) (J:0<b):(PySem.Str.ofString (toString i)).length<=b+1:=by
 rw[ofString_length];exact int_text_length_le10 J (Qb h (Nat.pow_le_pow_left #[] _))
def zE (ds:vD_) (n:Nat) (h:n<=ds.length):B1 ds none (some (n:Int))=ds.take n:=by
 unfold B1 HT.sIx;have h1:¬ (n:Int)<0:=by omega
 simp only[h1,QU,TX,SW,QT];rw[Tb h]
def yZ (ds:vD_) (n:Nat) (h:n<=ds.length):B1 ds (some (n:Int)) none=ds.drop n:=by
 unfold B1 HT.sIx;have h1:¬ (n:Int)<0:=by omega
 simp only[h1,QU,QT];rw[Tb h];exact Wg (by rw[Qn];omega)
def yA {l h:Option Int}(J:d∈B1 ds l h):d∈ds:=by
 unfold B1 at J;exact Tp (Uy J)
def zN (ds:vD_) (l h:Option Int):K0 (B1 ds l h)<=K0 ds:=by
 unfold B1;exact PJ (DN _ _) (Nw _ _)
def yt (ds:vD_) (l h:Option Int):(B1 ds l h).length<=ds.length:=by
 unfold B1;rw[QS,Qn];omega
end DL
namespace T
open PySem L2 DL
def ay (h:x.cps.toList.all (fun c=>decide (c<128))=true):R0 x:=fun c J=>Rb (QC.mp h c J)
def X3 (C:String) (ds:vD_):A2 C 'm'=some (.bl (D2 "tuple" C)):=rfl
def rE (C:String) (ds:vD_):A2 C (.lst ds)=some (.bl (D2 "list" C)):=rfl
def jJ (C:String) (i:Int):A2 C (.int i)=some (.bl (D2 "int" C)):=rfl
def qm (C:String) (i:Bool):A2 C (.bl i)=some (.bl (D2 "bool" C)):=rfl
def pw (C:String) (i:Str):A2 C (.str i)=some (.bl (D2 "str" C)):=rfl
def qu (C:String):A2 C .non=some (.bl (D2 "NoneType" C)):=rfl
def Dm (ds:vD_):PyData.eqv (D.py 'm') (D.py (.tup []))=decide (ds=[]):=by
 cases ds with
 |nil=>simp[D.py,D.pys,PyData.eqv,PyData.eqvAll]
 |cons d r=>simp[D.py,D.pys,PyData.eqv,PyData.eqvAll]
def Lr {b:Nat}(ds:vD_) (h:Th b k 'm') (U:b<=1920) (J:k<=64):A1 'm' (.tup [])=some (.bl (!decide (ds=[]))):=by
 have Y:=(Th.ok U _ h).eq J;have Z:A9 (.tup [])=true:=(Ok.tup OkL.nil).eq;have:A1 'm' (.tup [])=if A9 'm'&&A9 (.tup []) then some (.bl (!PyData.eqv (D.py 'm') (D.py (.tup [])))) else none:=rfl
 rw[this,Y,Z,Dm];rfl
end T
namespace DL
open PySem L2
theorem gU {idx:List Nat}{g:D->D}(caps:List Sl) (fs:vO_):∀(ds:vD_),(∀d∈ds,∃s,fe #[.v d::caps,fs]=some (g d,s)/\s.fs=fs)->G1 (fun d=>some (.v d::caps)) F4 fe ds fs=some (ds.map g,fs)
 |[],_=>rfl
 |d::r,h=>by
  obtain⟨s,e,q⟩:=h d (PD ..);have J:=gU (idx:=idx) caps fs r fun x U=>h x (Pz _ U)
  simp[G1,F4,e,q,J]
theorem zv (p:D->Bool):∀ds:List D,eR (ds.map fun d=>.bl (p d))=some (ds.all p)
 |[]=>rfl
 |d::r=>by simp[eR,zv p r]
def Jf (h:ds.length=2):∃a b,ds=[a,b]:=by
 match ds,h with
 |[a,b],_=>exact#[a,b,rfl]
def BQ (h:ds.length=3):∃a b c,ds=[a,b,c]:=by
 match ds,h with
 |[a,b,c],_=>exact#[a,b,c,rfl]
def whole:D->Bool
 |.int _=>true
 |_=>false
def dG (h:whole d=true):∃i,d = .int i:=by
 cases d with
 |int i=>exact#[i,rfl]
 |_=>cases h
def E5:D->Bool
 |.tup [.int x,.int y,.int d]=>decide (1<=d)&&decide (Int.gcd (Int.gcd x y:Int) d=1)
 |_=>false
def thing:D->Bool
 |.feed=>false
 |.scr _=>false
 |.fn _=>false
 |.exc _ _=>false
 |_=>true
theorem Th.thing {b:Nat}(h:Th b k d):thing d=true:=by
 cases d with
 |feed=>unfold Th at h;exact h.elim
 |scr _=>unfold Th at h;exact h.elim
 |fn _=>unfold Th at h;exact h.elim
 |exc _ _=>unfold Th at h;exact h.elim
 |_=>rfl
end DL
namespace T
open PySem L2 DL
def AG (d:D) (fs:vO_) (h:thing d=true):cG [d] fs=some (.bl (whole d),fs):=by
 refine v5 (s:=#[[.v d],fs]) ?_;show qc #[[.v d],fs]=_;cases d with
 |feed=>cases h
 |scr _=>cases h
 |fn _=>cases h
 |exc _ _=>cases h
 |non=>rfl
 |bl _=>rfl
 |int _=>rfl
 |str _=>rfl
 |tup _=>simp![qc,B4,B7,C6,C7,C9,D0,C8,X3,D2,whole]
 |lst _=>rfl
abbrev ma:c8:=BI (bJ T3) cG
def Q4 (J:Nat):D->Bool
 |.tup ds=>decide (ds.length=J)&&ds.all whole&&(match ds with
  |[.int a,.int b]=>decide (1<=b)&&decide (Int.gcd a b=1)
  |[.int x,.int y,.int d]=>decide (1<=d)&&decide (Int.gcd (Int.gcd x y:Int) d=1)
  |_=>false)
 |_=>false
def HE (d:D) (n:Nat) (fs:vO_) (hn:n=2\/n=3) (h:thing d=true) (hs:∀ds,d = .tup ds->(∀x∈ds,thing x=true)/\ds.length<=sizeLine):ma [d,.int n] fs=some (.bl (Q4 n d),fs):=by
 refine v5 (s:=#[[.v d,.v (.int n)],fs]) ?_;show iZ (bJ T3) cG #[[.v d,.v (.int n)],fs]=_;cases d with
 |feed=>cases h
 |scr _=>cases h
 |fn _=>cases h
 |exc _ _=>cases h
 |non=>rfl
 |bl _=>rfl
 |int _=>rfl
 |str _=>rfl
 |lst _=>rfl
 |tup ds=>
  obtain⟨ht,hl⟩:=hs ds rfl;have cm:G1 (fun d=>some (.v d::[])) F4 (d9 cG 'o') ds fs=some (ds.map (fun d=>.bl (whole d)),fs):=gU (idx:=[]) [] fs ds fun x hx=>#[#[[.v x],fs],by simp![B4,B7,C6,C7,C9,D0,C8,AG x fs (ht x hx)],rfl]
  have al:=zv whole ds;by_cases hz:ds.length=n
  .by_cases U:ds.all whole=true
   .have J:(ds.length:Int)=(n:Int):=by omega
    have pre:∀rest:DM,d6 (j7 (n9 (l8 (j8 (j4 (A2 "tuple") (dL 0)))) (dB (a9 A1 'n' 's'))) 't' j9) (d6 (j7 (l8 (j8 (i9 (one jC) (a7 (l5 (F5 [] (M8 (dV 0)) F4 (d9 cG 'o'))) a8)))) 't' j9) rest) #[[.v 'm',.v (.int n)],fs]=rest #[[.v 'm',.v (.int n)],fs]:=fun rest=>by
     rw[w6 (s1:=#[[.v 'm',.v (.int n)],fs]) (by simp![B4,B7,C6,C7,C9,D0,C8,X3,D2,T6,J])];rw[w6 (s1:=#[[.v 'm',.v (.int n)],fs]) (by simp![B4,B7,C6,C7,C9,D0,C8,F5,M8,hl,Q5,cm,jC,al,U])]
    unfold iZ;rw[pre];rcases hn with rfl | rfl
    .obtain⟨d1,d2,rfl⟩:=Jf hz
     .simp only[Se,Vx,UA,Qe] at U;obtain⟨a,rfl⟩:=dG U.1;obtain⟨c,rfl⟩:=dG U.2;refine A0 ?_;by_cases Z:1<=c
      .simp![B4,B7,C6,C7,C9,D0,C8,uN,Z,MI,aq,Q4,whole];omega
      .simp![B4,B7,C6,C7,C9,D0,C8,uN,Z,Q4,whole]
    .obtain⟨d1,d2,d3,rfl⟩:=BQ hz
     .simp only[Se,Vx,UA,Qe] at U;obtain⟨a,rfl⟩:=dG U.1;obtain⟨c,rfl⟩:=dG U.2.1;obtain⟨e,rfl⟩:=dG U.2.2;refine A0 ?_;by_cases Z:1<=e
      .simp![B4,B7,C6,C7,C9,D0,C8,oh,Z,yu,aq,Q4,whole];omega
      .simp![B4,B7,C6,C7,C9,D0,C8,oh,Z,Q4,whole]
   .have Y:ds.all whole=false:=by simpa using U
    have J:(ds.length:Int)=(n:Int):=by omega
    have:Q4 n 'm'=false:=by simp only[Q4,Y,Vy,Ro]
    rw[this];unfold iZ;rw[w6 (s1:=#[[.v 'm',.v (.int n)],fs]) (by simp![B4,B7,C6,C7,C9,D0,C8,X3,D2,T6,J])];refine D7 ?_;rw[Y] at al;simp![B4,B7,C6,C7,C9,D0,C8,F5,M8,hl,Q5,cm,jC,al]
  .have J:¬ (ds.length:Int)=(n:Int):=by omega
   have:Q4 n 'm'=false:=by simp only[Q4,PY hz,Ro]
   rw[this];unfold iZ;refine D7 ?_;simp![B4,B7,C6,C7,C9,D0,C8,X3,D2,T6,J]
def nR (d:D):Q4 3 d=E5 d:=by
 cases d with
 |tup ds=>
  match ds with
  |[]=>rfl
  |[d1]=>cases d1 <;> rfl
  |[d1,d2]=>simp[Q4,E5]
  |[d1,d2,d3]=>
   cases d1 with
   |int x=>
    cases d2 with
    |int y=>
     cases d3 with
     |int z=>simp[Q4,E5,whole]
     |_=>simp[Q4,E5,whole]
    |_=>simp[Q4,E5,whole]
   |_=>simp[Q4,E5,whole]
  |d1::d2::d3::d4::r=>simp[Q4,E5]
 |_=>rfl
abbrev mQ:c8:=zF ma
def Th.subs {b:Nat}(h:Th b k d) (J:bk d<=1000000):∀ds,d = .tup ds->(∀x∈ds,thing x=true)/\ds.length<=sizeLine:=fun ds e=>by
 subst e;refine#[fun x U=>?_,?_]
 .cases k with
  |zero=>unfold Th at h;exact h.elim
  |succ k=>unfold Th at h;exact(Ths.mem h U).thing
 .have:=lF ds;rw[V1] at J;rw[QR];omega
def Fd {b:Nat}(d:D) (fs:vO_) (h:Th b k d) (U:bk d<=1000000):mQ [d] fs=some (.bl (E5 d),fs):=by
 refine v5 (s:=#[[.v d],fs]) ?_;show kL ma #[[.v d],fs]=_;have e:=HE d 3 fs (.inr rfl) h.thing (Th.subs h U);rw[nR] at e;have J:ma [d,.int 3] fs=some (.bl (E5 d),fs):=e;simp![kL,B4,B7,C6,C7,C9,D0,C8,J]
def EZ {b:Nat}(h:Ps k a) (J:k<=b):Th b 1 (pt a):=by
 unfold pt Th;exact Ths.of (by
  intro d U;simp only[xo,Qj,Qk] at U;rcases U with rfl | rfl | rfl
  .unfold Th;exact h.x.mono J
  .unfold Th;exact h.y.mono J
  .unfold Th;exact h.l.mono J)
end T
namespace DL
open PySem L2
def k9 {α:Type}(c:Bool) (l:List α):List (α × α):=l.zip (if c then l.drop 1++l.take 1 else l.drop 1)
def dP (p:D × D):D:=.tup [p.1,p.2]
def W9:D->Pt
 |.tup [.int x,.int y,.int d]=>(Rat.divInt x d,Rat.divInt y d)
 |_=>(0,0)
def ID {x y d:Int}(hd:1<=d) (Y:Int.gcd (Int.gcd x y:Int) d=1):D.tup [.int x,.int y,.int d]=pt (Rat.divInt x d,Rat.divInt y d):=by
 have J:(d:Rat)≠0:=fun h=>by have:=Tf.mp h;omega
 have v:∀z:Int,(z:Rat)=Rat.divInt z d*(d:Rat):=fun z=>by rw[RO,Uu J]
 obtain⟨U,Z,q3⟩:=oV (a:=(Rat.divInt x d,Rat.divInt y d)) ∅ Y (v x) (v y);unfold pt;rw[<-U,<-Z,<-q3]
def Ak (h:E5 d=true):d=pt (W9 d):=by
 cases d with
 |tup ds=>
  match ds,h with
  |[.int x,.int y,.int c],h=>
   simp only[E5,Qe,Tj] at h;exact ID h.1 h.2
 |_=>cases h
def Mr {α β:Type}(f:α->β) (c:Bool) (l:List α):k9 c (l.map f)=(k9 c l).map fun p=>(f p.1,f p.2):=by
 unfold k9;cases c
 .simp only[RL,QU];rw[<-Vz,List.zip_map];rfl
 .simp only[Qs];rw[<-Vz,<-List.map_take,<-Tt,List.zip_map];rfl
def gf {α:Type}(c:Bool) (l:List α):(k9 c l).length<=l.length:=by
 unfold k9;rw[UB];exact SX ..
def V0 {α:Type}{c:Bool}{l:List α}{p:α × α}(h:p∈k9 c l):p.1∈l/\p.2∈l:=by
 unfold k9 at h;obtain⟨h1,h2⟩:=RY (a:=p.1) (b:=p.2) h;refine#[h1,?_];cases c
 .simp only[RL,QU] at h2;exact Tp h2
 .simp only[Qs] at h2;rcases PQ.mp h2 with h | h
  .exact Tp h
  .exact Uy h
theorem jb:∀(xs ys:vD_),List.zipWith U3 xs ys=(xs.zip ys).map dP
 |[],_=>by simp
 |_::_,[]=>by simp
 |x::xs,y::ys=>by
  rw[Ul,List.zip_cons_cons,PM,jb xs ys];rfl
def ug (a:Pt):W9 (pt a)=a:=by
 show (Rat.divInt (pX a) (pL a),Rat.divInt (pY a) (pL a))=a;rw[T.px_div,T.py_div]
def lo (c:Bool):Nat:=if c then 3 else 2
def hi (c:Bool):Nat:=if c then 8 else 9
def kS (ds:vD_):B1 ds (some 1) none=ds.drop 1:=by
 cases ds with
 |nil=>rfl
 |cons d r=>exact yZ (d::r) 1 'g'
def ue (ds:vD_):B1 ds none (some 1)=ds.take 1:=by
 cases ds with
 |nil=>rfl
 |cons d r=>exact zE (d::r) 1 'g'
end DL
namespace T
open PySem L2 DL
def LU (ds:vD_) (c:Bool) (fs:vO_) (J:ds.length+1<=sizeLine):kf [.tup ds,.bl c] fs=some (.lst ((k9 c ds).map dP),fs):=by
 refine v5 (s:=#[[.v 'm',.v (.bl c)],fs]) ?_;show fg #[[.v 'm',.v (.bl c)],fs]=_;have h1:ds.length - 1+min 1 ds.length<=sizeLine:=by omega
 cases c
 .simp![fg,B4,B7,C6,C7,C9,D0,C8,F6,G9,G7,W0,dJ,U7,kS,k9,jb]
 .simp![fg,B4,B7,C6,C7,C9,D0,C8,F6,G9,G7,W0,dJ,U7,kS,ue,k9,jb,h1]
def Ob {b:Nat}(h:∀d∈ds,Th b k d) (Z:ds.all E5=true):∀p∈ds.map W9,Ps b p:=fun p U=>by
 obtain⟨d,Y,rfl⟩:=Qh.mp U;have e:=Ak (QC.mp Z d Y);have J:=h d Y;rw[e] at J;cases k with
 |zero=>unfold pt Th at J;exact J.elim
 |succ k=>
  simp only[pt,Th,Ths] at J;exact#[J.1,J.2.1,J.2.2.1]
end T
namespace DL
open PySem L2
def me {α:Type}(c:Bool) (l:List α):(k9 c l).length=l.length - 1+(if c then min 1 l.length else 0):=by
 unfold k9;cases c
 .show (l.zip (l.drop 1)).length=l.length - 1+0;rw[UB,Qn,Vd (Nat.sub_le ..)];rfl
 .show (l.zip (l.drop 1++l.take 1)).length=l.length - 1+min 1 l.length;rw[UB,Qo,Qn,QS];exact Vd ∅
def CN {α:Type}{c:Bool}{l:List α}(h:j<(k9 c l).length):∃a b,l[j]? = some a/\l[(j+1) % l.length]? = some b/\(k9 c l)[j]? = some (a,b):=by
 have J:=me c l;have Z:j<l.length:=Qb h (gf c l);cases U:(k9 c l)[j]? with
 |none=>rw[List.getElem?_eq_none_iff] at U;omega
 |some p=>
  obtain⟨h1,h2⟩:=SA.mp (show (l.zip (if c then l.drop 1++l.take 1 else l.drop 1))[j]? = some p from U);refine#[p.1,p.2,h1,?_,rfl];cases c
  .simp only[RL,QU] at h2 J;rw[Tu] at h2;rw[Sf ∅,Rt];exact h2
  .simp only[Qs] at h2 J;by_cases Y:j+1<l.length
   .rw[Rq (by rw[Qn];omega),Tu] at h2;rw[Sf Y,Rt];exact h2
   .have e:j+1=l.length:=by omega
    rw[Rp (by rw[Qn];omega),Qn,show j - (l.length - 1)=0 by omega,List.getElem?_take] at h2;rw[e,Tv];simpa using h2
end DL
namespace T
open PySem L2 DL
def tk (l:vT_) (i:Nat):Pt:=(l[i % l.length]?).getD (0,0)
def pA (h:0<l.length):l[i % l.length]? = some (tk l i):=by
 unfold tk;rw[Qf (QN _ h)];rfl
def Z3 (h:i<l.length):l[i]? = some (tk l i):=by
 have:=pA (l:=l) (i:=i) ∅
 rwa [Sf h] at this
def Z2 (i:Nat) (h:0<l.length):tk l i∈l:=Rr (pA (i:=i) h)
def uh (h:0<l.length) (hi:i<=l.length):(l++[tk l 0])[i]? = some (tk l i):=by
 rcases Nat.lt_or_eq_of_le hi with w | w
 .rw[Rq w,Z3 w]
 .subst w;rw[Rp (tx _),Nat.sub_self];show some (tk l 0)=_;unfold tk;rw[Tv,Nat.zero_mod]
def R3 (i:Nat):tk l (i % l.length)=tk l i:=by unfold tk;rw[Nat.mod_mod]
def Pk (e:aQ l=[p]):O7 l=[]:=by
 unfold O7 lK;show (C4 A6 (aQ l)).dropLast++(C4 A6 (aQ l).reverse).dropLast=[];rw[e];rfl
def xx (h:0<l.length):∃p r,aQ l=p::r:=by
 cases e:aQ l with
 |cons p r=>exact#[p,r,rfl]
 |nil=>
  have:=rowP_in.mpr (Z2 (l:=l) 0 h);rw[e] at this;cases this
section
variable {C:vT_}(R:Rnd S p C)
include R
theorem dZ:0<C.length:=by
 have:=R.hd;cases C with
 |nil=>cases this
 |cons a r=>simp
theorem NK:tk C 0=p:=by
 have:=R.hd;rw[List.head?_eq_getElem?,Z3 (dZ R)] at this;exact Qi this
theorem jc (k:Nat):Nx S (tk C k) (tk C (k+1)):=by
 have J:=dZ R;have U:=QN k J;have run:=R.run;rw[<-NK R] at run;have:=kR run (uh J (Rh U)) (uh J U);rw[R3] at this;have e:tk C (k % C.length+1)=tk C (k+1):=by rw[<-R3,Tw,R3]
 rw[e] at this;exact this
theorem NS (w:tk C i=tk C j):i % C.length=j % C.length:=by
 have h0:=dZ R;have Z:∀i j,i<C.length->j<C.length->tk C i=tk C j->i=j:=fun i j hi J w=>by
  have nd:=R.nodup;have U:=Z3 hi;have Y:=Z3 J;rw[Qf hi] at U;rw[Qf J] at Y;rcases Nat.lt_trichotomy i j with q | q | q
  .exact absurd ((Qi U).trans (w.trans (Qi Y).symm)) (Vw.mp nd i j hi J q)
  .exact q
  .exact absurd ((Qi Y).trans (w.symm.trans (Qi U).symm)) (Vw.mp nd j i J hi q)
 exact Z _ _ (QN _ h0) (QN _ h0) (by rw[R3,R3];exact w)
theorem tP (h1:0<j) (h2:j<C.length):tk C (k+j)≠tk C k:=fun w=>by
 have J:=dZ R;have:=NS R w;rw[<-Tw] at this;have U:=QN k J;by_cases c:k % C.length+j<C.length
 .rw[Sf c] at this;omega
 .rw[Nat.mod_eq_sub_mod ∅,Sf ∅] at this;omega
theorem EX (k:Nat) (h1:2<=j) (h2:j<C.length):0<b9 (tk C k) (tk C (k+1)) (tk C (k+j)):=by
 have J:=dZ R;have m:∀i,S (tk C i):=fun i=>R.mem _ (Z2 i J)
 refine Cu (m _) (m _) (m _) (jc R k) (jc R (k+j)) (tP R ∅ h2) ?_;have:=tP R (k:=k+1) (j:=j - 1) ∅ ∅
 rwa [show k+1+(j - 1)=k+j by omega] at this
end
theorem DX (hl:l.length<2 ^ 20) {b c:Pt}(Y:a∈l) (Z:b∈l) (hc:c∈l) (h:b9 a b c≠0):3<=(O7 l).length:=by
 have h0:0<l.length:=UC Y;obtain⟨p,r,e⟩:=xx h0;have hr:r≠[]:=fun w=>by
  have U:∀q∈l,q=p:=fun q hq=>by
   have:=rowP_in.mpr hq;rw[e,w] at this;simpa using this
  rw[U a Y,U b Z,U c hc] at h;exact h (aY p p)
 have R:=zT hl e hr;have q0:=dZ R;have N:=jc R 0;have N2:=jc R 1;rcases Nat.lt_or_ge (O7 l).length 3 with w | w
 .exfalso;have J:(O7 l).length=1\/(O7 l).length=2:=by omega
  rcases J with q | q
  .have:tk (O7 l) 1=tk (O7 l) 0:=by rw[<-R3 1,q]
   exact N.ne this
  .have e2:tk (O7 l) 2=tk (O7 l) 0:=by rw[<-R3 2,q]
   rw[e2] at N2;generalize tk (O7 l) 0=x at *;rw[Ry] at N;generalize tk (O7 l) 1=y at *;have z:∀t∈l,b9 x y t=0:=fun t ht=>by
    have k1:=N.lf t ht;have k2:=N2.lf t ht;have:b9 y x t = -b9 x y t:=by unfold b9;grind
    grind
   exact h (yD N.ne (z a Y) (z b Z) (z c hc))
 .exact w
end T
namespace T
open DL
def P5 (u v:Pt):Rat:=u.1*v.2 - u.2*v.1
def E8 (a b:Pt):Pt:=(b.1 - a.1,b.2 - a.2)
def cX (a b c d:Pt):Rat:=(b.1 - a.1)*(c.1*d.2 - c.2*d.1) - (a.1*b.2 - a.2*b.1)*(d.1 - c.1)
def dD (a b c d:Pt):Rat:=(a.1*b.2 - a.2*b.1)*(c.2 - d.2) - (a.2 - b.2)*(c.1*d.2 - c.2*d.1)
def bK (a b c d:Pt):Pt:=(cX a b c d / P5 (E8 a b) (E8 c d),dD a b c d / P5 (E8 a b) (E8 c d))
end T
namespace T
open PySem L2 DL
def fF (A:vT_):Prop:=∀k,∀z∈A,0<=b9 (tk A k) (tk A (k+1)) z
def gv (d z:Pt):Rat:=d.1*z.2 - d.2*z.1
def Eo {A:vT_}(h:a∈A):∃i,i<A.length/\tk A i=a:=by
 obtain⟨i,hi⟩:=Ru h;have J:=(Qr.mp hi).1;refine#[i,J,?_];rw[Z3 J] at hi;exact Qi hi
theorem dU {d v:Pt}(Z:d≠(0,0)) (h:gv d v=0):∃t:Rat,v=(t*d.1,t*d.2):=by
 have n:0<d.1*d.1+d.2*d.2:=by
  have a:=aO d.1;have b:=aO d.2;by_cases z:d.1=0
  .have:d.2≠0:=fun y=>Z (Qm z y)
   have:=kC this;grind
  .have:=kC z;grind
 have Y:d.1*d.1+d.2*d.2≠0:=by grind
 refine#[(v.1*d.1+v.2*d.2) / (d.1*d.1+d.2*d.2),?_];unfold gv at h;generalize U:d.1*d.1+d.2*d.2=N at *;have J:N*N⁻¹=1:=UD _ Y;refine Qm ?_ ?_
 .show v.1=(v.1*d.1+v.2*d.2) / N*d.1;rw[QG];have e0:d.2*(d.1*v.2 - d.2*v.1)=0:=by rw[h,RR]
  have e:(v.1*d.1+v.2*d.2)*d.1=v.1*N:=by rw[<-U];grind
  have:(v.1*d.1+v.2*d.2)*N⁻¹*d.1=(v.1*d.1+v.2*d.2)*d.1*N⁻¹:=by grind
  rw[this,e,Tx,J,UE]
 .show v.2=(v.1*d.1+v.2*d.2) / N*d.2;rw[QG];have e0:d.1*(d.1*v.2 - d.2*v.1)=0:=by rw[h,RR]
  have e:(v.1*d.1+v.2*d.2)*d.2=v.2*N:=by rw[<-U];grind
  have:(v.1*d.1+v.2*d.2)*N⁻¹*d.2=(v.1*d.1+v.2*d.2)*d.2*N⁻¹:=by grind
  rw[this,e,Tx,J,UE]
theorem wu {A:vT_}{d J z:Pt}(C:fF A) (nd:∀k,tk A (k+1)≠tk A k) (hd:d≠(0,0)) (ha:a∈A) (U:J∈A) (hz:z∈A) (mn:∀x∈A,gv d a<=gv d x) (e:gv d J=gv d a) (ne:J≠a) (off:gv d a<gv d z) :
  ∃k,∃s:Rat,0<s/\∀w,b9 (tk A k) (tk A (k+1)) w=s*(gv d w - gv d a):=by
 have h0:0<A.length:=UC ha;obtain⟨i,il,ei⟩:=Eo ha;have Y:∀k,gv d (tk A k)=gv d a->gv d (tk A (k+1))=gv d a->∃k,∃s:Rat,0<s/\∀w,b9 (tk A k) (tk A (k+1)) w=s*(gv d w - gv d a):=fun k e1 e2=>by
  obtain⟨s,hs⟩:=dU (v:=((tk A (k+1)).1 - (tk A k).1,(tk A (k+1)).2 - (tk A k).2)) hd (by unfold gv at *;grind);have s1:(tk A (k+1)).1 - (tk A k).1=s*d.1:=congrArg Prod.fst hs;have s2:(tk A (k+1)).2 - (tk A k).2=s*d.2:=congrArg Prod.snd hs;have f:∀w,b9 (tk A k) (tk A (k+1)) w=s*(gv d w - gv d a):=fun w=>by
   rw[<-e1];unfold b9 gv;rw[s1,s2];grind
  refine#[k,s,?_,f];have c:=C k z hz;rw[f] at c;refine RB.mp fun q=>?_
  by_cases s0:s=0
  .rw[s0] at s1 s2;exact nd k (Qm 'l' 'l')
  .have:0 < -s*(gv d z - gv d a):=PR 'l' 'l';grind
 by_cases q1:gv d (tk A (i+1))=gv d a
 .exact Y i (by rw[ei]) q1
 have ep:tk A (i+(A.length - 1)+1)=a:=by
  rw[show i+(A.length - 1)+1=i+A.length by omega,<-R3,Nat.add_mod_right,R3,ei]
 by_cases q2:gv d (tk A (i+(A.length - 1)))=gv d a
 .exact Y (i+(A.length - 1)) q2 (by rw[ep])
 exfalso;have g1:=mn _ (Z2 (l:=A) (i+1) h0);have g2:=mn _ (Z2 (l:=A) (i+(A.length - 1)) h0);have c1:=C i J U;have c2:=C (i+(A.length - 1)) J U;rw[ei] at c1;rw[ep] at c2;generalize tk A (i+1)=n at *;generalize tk A (i+(A.length - 1))=p at *;obtain⟨t,ht⟩:=dU (v:=(J.1 - a.1,J.2 - a.2)) hd (by unfold gv at *;grind);have Z:J.1 - a.1=t*d.1:=congrArg Prod.fst ht;have t2:J.2 - a.2=t*d.2:=congrArg Prod.snd ht;have k1:b9 a n J = -(t*(gv d n - gv d a)):=by unfold b9 gv;rw[Z,t2];grind
 have k2:b9 p a J=t*(gv d p - gv d a):=by
  have:b9 p a J=(a.1 - p.1)*(J.2 - a.2) - (a.2 - p.2)*(J.1 - a.1):=by unfold b9;grind
  rw[this,Z,t2];unfold gv;grind
 rw[k1] at c1;rw[k2] at c2;have tz:t=0:=by
  by_cases tp:0<t
  .have:=PR tp (show 0<gv d n - gv d a by grind);grind
  .by_cases tn:t<0
   .have:=PR (show 0 < -t by grind) (show 0<gv d p - gv d a by grind);grind
   .grind
 rw[tz] at Z t2;exact ne (Qm 'l' 'l')
def mi (A:vT_):Prop:=∃a b c,a∈A/\b∈A/\c∈A/\b9 a b c≠0
theorem wF {A:vT_}(h:mi A) {d:Pt}(Z:d≠(0,0)) (mn:∀x∈A,gv d a<=gv d x):∃z∈A,gv d a<gv d z:=by
 obtain⟨x,y,w,hx,hy,hw,n⟩:=h;refine SI fun q=>n ?_
 have J:∀z∈A,gv d z=gv d a:=fun z Y=>by
  have:=mn z Y;have:¬ gv d a<gv d z:=fun t=>q #[z,Y,t]
  grind
 obtain⟨t,ht⟩:=dU (v:=(y.1 - x.1,y.2 - x.2)) Z (by have:=J x hx;have:=J y hy;unfold gv at *;grind);obtain⟨s,U⟩:=dU (v:=(w.1 - x.1,w.2 - x.2)) Z (by have:=J x hx;have:=J w hw;unfold gv at *;grind);have t1:y.1 - x.1=t*d.1:=congrArg Prod.fst ht;have t2:y.2 - x.2=t*d.2:=congrArg Prod.snd ht;have s1:w.1 - x.1=s*d.1:=congrArg Prod.fst U;have s2:w.2 - x.2=s*d.2:=congrArg Prod.snd U;unfold b9;rw[t1,t2,s1,s2];grind
def Ip (K:vT_) (p:Pt):Prop:=∀α β:Rat,∃k∈K,0<=α*(k.1 - p.1)+β*(k.2 - p.2)
def dE (A B:vT_):List Pt:=A.flatMap fun a=>B.map fun b=>(a.1 - b.1,a.2 - b.2)
def diffs_in {A:vT_}{q:Pt}:q∈dE A B↔∃a∈A,∃b∈B,q=(a.1 - b.1,a.2 - b.2):=by
 unfold dE;rw[UG];constructor
 .rintro⟨a,U,h⟩;obtain⟨b,J,rfl⟩:=Qh.mp h;exact#[a,U,b,J,rfl]
 .rintro⟨a,U,b,J,rfl⟩;exact#[a,U,Qh.mpr #[b,J,rfl]]
def Kg (A B:vT_):(dE A B).length=A.length*B.length:=by
 unfold dE;induction A with
 |nil=>simp
 |cons a r J=>rw[Tz,Qo,J,PH,PX,Nat.add_mul,Nat.one_mul,Rt]
theorem yx (s:Nat->Rat):∀n:Nat,0<=s 1->s (n+2)<=0->∃i,1<=i/\i<=n+1/\0<=s i/\s (i+1)<=0
 |0,h1,h2=>#[1,by omega,by omega,h1,h2]
 |n+1,h1,h2=>by
  by_cases q:0<=s (n+2)
  .exact#[n+2,by omega,by omega,q,h2]
  .obtain⟨i,a,b,c,d⟩:=yx s n h1 'l';exact#[i,a,by omega,c,d]
theorem Hg {A:vT_}(lA:A.length<=100) (lB:B.length<=100) (hB:B≠[]) (cA:fF A) (cB:fF B) (nA:∀k,tk A (k+1)≠tk A k) (nB:∀k,tk B (k+1)≠tk B k) (oA:mi A) (oB:mi B) :
  (∃p,Ip A p/\∀k,0<=b9 (tk B k) (tk B (k+1)) p)\/(∃k,∀z∈B,b9 (tk A k) (tk A (k+1)) z<0)\/∃k,∀z∈A,b9 (tk B k) (tk B (k+1)) z<0:=by
 obtain⟨b0,hb0⟩:=List.exists_mem_of_ne_nil B hB;have dl:(dE A B).length<2 ^ 20:=by
  rw[Kg];have:A.length*B.length<=100*100:=Ts lA lB;omega
 have rm:3<=(O7 (dE A B)).length:=by
  obtain⟨x,y,w,hx,hy,hw,n⟩:=oA;refine DX dl (diffs_in.mpr #[x,hx,b0,hb0,rfl]) (diffs_in.mpr #[y,hy,b0,hb0,rfl]) (diffs_in.mpr #[w,hw,b0,hb0,rfl]) fun z=>n ?_
  rw[<-z];unfold b9;grind
 obtain⟨x0,hx0⟩:∃x,x∈dE A B:=by
  obtain⟨x,y,w,hx,hy,hw,n⟩:=oA;exact#[_,diffs_in.mpr #[x,hx,b0,hb0,rfl]]
 obtain⟨q0,r0,er⟩:=xx (UC hx0);have hr:r0≠[]:=fun w=>by
  rw[Pk (by rw[er,w])] at rm;exact absurd rm #[]
 have R:=zT dl er hr;generalize O7 (dE A B)=C at *;have h0:=dZ R;have mem:∀i,∃a∈A,∃b∈B,tk C i=(a.1 - b.1,a.2 - b.2):=fun i=>diffs_in.mp (R.mem _ (Z2 i h0))
 by_cases all:∀k,0<=b9 (tk C k) (tk C (k+1)) (0,0)
 .left;obtain⟨m,hm⟩:∃m,C.length=m+3:=#[C.length - 3,by omega]
  have last:tk C (m+2+1)=tk C 0:=by
   rw[<-R3 (m+2+1),hm,Tv]
  obtain⟨i,i1,i2,s1,s2⟩:=yx (fun i=>b9 (tk C 0) (tk C i) (0,0)) m (all 0) (by
   have:=all (m+2);rw[last] at this;have e:b9 (tk C (m+2)) (tk C 0) (0,0) = -b9 (tk C 0) (tk C (m+2)) (0,0):=by unfold b9;grind
   show b9 (tk C 0) (tk C (m+2)) (0,0)<=0;grind)
  have st:=EX R i (j:=m+3 - i) ∅ ∅;have e0:tk C (i+(m+3 - i))=tk C 0:=by
   rw[show i+(m+3 - i)=m+2+1 by omega,last]
  rw[e0] at st;have s0:=all i;obtain⟨a0,ha0,J,hb0',E0⟩:=mem 0;obtain⟨U,ha1,b1,hb1,E1⟩:=mem i;obtain⟨Z,ha2,b2,hb2,E2⟩:=mem (i+1);simp only[E0,E1,E2] at st s0 s1 s2;generalize hw0:b9 (U.1 - b1.1,U.2 - b1.2) (Z.1 - b2.1,Z.2 - b2.2) (0,0)=w0 at *;generalize hw2:b9 (a0.1 - J.1,a0.2 - J.2) (U.1 - b1.1,U.2 - b1.2) (0,0)=w2 at *;generalize hw1:b9 (a0.1 - J.1,a0.2 - J.2) (Z.1 - b2.1,Z.2 - b2.2) (0,0)=v1 at *;have W:b9 (U.1 - b1.1,U.2 - b1.2) (Z.1 - b2.1,Z.2 - b2.2) (a0.1 - J.1,a0.2 - J.2)=w0+w2 - v1:=by
   rw[<-hw0,<-hw2,<-hw1];unfold b9;grind
  rw[W] at st;have X:w0*(a0.1 - J.1) + -v1*(U.1 - b1.1)+w2*(Z.1 - b2.1)=0:=by
   rw[<-hw0,<-hw2,<-hw1];unfold b9;grind
  have Y:w0*(a0.2 - J.2) + -v1*(U.2 - b1.2)+w2*(Z.2 - b2.2)=0:=by
   rw[<-hw0,<-hw2,<-hw1];unfold b9;grind
  clear hw0 hw1 hw2 W;have wn:w0+w2 - v1≠0:=by grind
  have ic:(w0+w2 - v1)*(w0+w2 - v1)⁻¹=1:=UD _ wn;have ip:0<(w0+w2 - v1)⁻¹:=SJ.mpr st;generalize (w0+w2 - v1)⁻¹=n at *;refine#[(n*(w0*a0.1 + -v1*U.1+w2*Z.1),n*(w0*a0.2 + -v1*U.2+w2*Z.2)),fun α β=>?_,fun k=>?_]
  .refine SI fun q=>?_
   have q':∀z∈A,α*(z.1 - n*(w0*a0.1 + -v1*U.1+w2*Z.1))+β*(z.2 - n*(w0*a0.2 + -v1*U.2+w2*Z.2))<0:=fun z hz=>RB.mp fun t=>q #[z,hz,t]
   have u0:=q' a0 ha0;have u1:=q' U ha1;have u2:=q' Z ha2;generalize hf0:α*(a0.1 - n*(w0*a0.1 + -v1*U.1+w2*Z.1))+β*(a0.2 - n*(w0*a0.2 + -v1*U.2+w2*Z.2))=F0 at *;generalize hf1:α*(U.1 - n*(w0*a0.1 + -v1*U.1+w2*Z.1))+β*(U.2 - n*(w0*a0.2 + -v1*U.2+w2*Z.2))=F1 at *;generalize hf2:α*(Z.1 - n*(w0*a0.1 + -v1*U.1+w2*Z.1))+β*(Z.2 - n*(w0*a0.2 + -v1*U.2+w2*Z.2))=F2 at *;have sum:w0*F0 + -v1*F1+w2*F2=0:=by
    rw[<-hf0,<-hf1,<-hf2];have e1:(w0+w2 - v1)*n*(w0*a0.1 + -v1*U.1+w2*Z.1)=w0*a0.1 + -v1*U.1+w2*Z.1:=by rw[ic,Sd]
    have e2:(w0+w2 - v1)*n*(w0*a0.2 + -v1*U.2+w2*Z.2)=w0*a0.2 + -v1*U.2+w2*Z.2:=by rw[ic,Sd]
    grind
   have y0:=PN s0 (show 0 <= -F0 by grind);have y1:=PN (show 0 <= -v1 by grind) (show 0 <= -F1 by grind);have y2:=PN s1 (show 0 <= -F2 by grind);have big:0<w0\/0 < -v1\/0<w2:=by
    by_cases z1:0<w0
    .exact .inl z1
    .by_cases z2:0 < -v1
     .exact .inr (.inl z2)
     .exact .inr (.inr 'l')
   rcases big with z | z | z
   .have:=PR z (show 0 < -F0 by grind);grind
   .have:=PR z (show 0 < -F1 by grind);grind
   .have:=PR z (show 0 < -F2 by grind);grind
  .have k0:=cB k J hb0';have k1:=cB k b1 hb1;have k2:=cB k b2 hb2;have px:n*(w0*a0.1 + -v1*U.1+w2*Z.1)=n*(w0*J.1 + -v1*b1.1+w2*b2.1):=by
    have:w0*a0.1 + -v1*U.1+w2*Z.1=w0*J.1 + -v1*b1.1+w2*b2.1:=by grind
    rw[this]
   have py:n*(w0*a0.2 + -v1*U.2+w2*Z.2)=n*(w0*J.2 + -v1*b1.2+w2*b2.2):=by
    have:w0*a0.2 + -v1*U.2+w2*Z.2=w0*J.2 + -v1*b1.2+w2*b2.2:=by grind
    rw[this]
   rw[px,py];have e:b9 (tk B k) (tk B (k+1)) (n*(w0*J.1 + -v1*b1.1+w2*b2.1),n*(w0*J.2 + -v1*b1.2+w2*b2.2))=n*(w0*b9 (tk B k) (tk B (k+1)) J + -v1*b9 (tk B k) (tk B (k+1)) b1+w2*b9 (tk B k) (tk B (k+1)) b2):=by
    generalize tk B k=u at *;generalize tk B (k+1)=v at *;have e1:(w0+w2 - v1)*n*u.1=u.1:=by rw[ic,Sd]
    have e2:(w0+w2 - v1)*n*u.2=u.2:=by rw[ic,Sd]
    unfold b9;grind
   rw[e];refine PN (QO ip) ?_;have y0:=PN s0 k0;have y1:=PN (show 0 <= -v1 by grind) k1;have y2:=PN s1 k2;grind
 .right;obtain⟨k,hk⟩:=Classical.not_forall.mp all;have hk:=RB.mp hk;have N:=jc R k;obtain⟨a,ha,b,hb,E1⟩:=mem k;obtain⟨a',ha',b',hb',E2⟩:=mem (k+1);rw[E1,E2] at hk N;have lf:∀x∈A,∀y∈B,0<=b9 (a.1 - b.1,a.2 - b.2) (a'.1 - b'.1,a'.2 - b'.2) (x.1 - y.1,x.2 - y.2):=fun x hx y hy=>N.lf _ (diffs_in.mpr #[x,hx,y,hy,rfl])
  generalize hd:((a'.1 - b'.1 - (a.1 - b.1),a'.2 - b'.2 - (a.2 - b.2)):Pt)=d at *;have d1:a'.1 - b'.1 - (a.1 - b.1)=d.1:=congrArg Prod.fst hd;have d2:a'.2 - b'.2 - (a.2 - b.2)=d.2:=congrArg Prod.snd hd;have dn:d≠(0,0):=fun z=>N.ne (by
   rw[z] at d1 d2;have d1:a'.1 - b'.1 - (a.1 - b.1)=0:=d1;have d2:a'.2 - b'.2 - (a.2 - b.2)=0:=d2;exact Qm (by show a'.1 - b'.1=a.1 - b.1;grind) (by show a'.2 - b'.2=a.2 - b.2;grind))
  have cf:∀q:Pt,b9 (a.1 - b.1,a.2 - b.2) (a'.1 - b'.1,a'.2 - b'.2) q=gv d q - (gv d a - gv d b):=fun q=>by
   unfold b9 gv;rw[d1,d2];grind
  have all':∀x∈A,∀y∈B,gv d a - gv d b<=gv d x - gv d y:=fun x hx y hy=>by
   have:=lf x hx y hy;rw[cf] at this;unfold gv at *;grind
  have mA:∀x∈A,gv d a<=gv d x:=fun x hx=>by have:=all' x hx b hb;grind
  have mB:∀y∈B,gv d y<=gv d b:=fun y hy=>by have:=all' a ha y hy;grind
  have ab:gv d b<gv d a:=by
   rw[cf] at hk;have:gv d ((0,0):Pt)=0:=by unfold gv;grind
   grind
  have on:gv d a' - gv d b'=gv d a - gv d b:=by
   have:=cf (a'.1 - b'.1,a'.2 - b'.2);rw[cF] at this;unfold gv at *;grind
  have ea:gv d a'=gv d a:=by have:=mA a' ha';have:=mB b' hb';grind
  have eb:gv d b'=gv d b:=by grind
  by_cases q:a'=a
  .have qb:b'≠b:=fun w=>dn (Qm (by rw[<-d1,q,w];show _=(0:Rat);grind) (by rw[<-d2,q,w];show _=(0:Rat);grind))
   have ng:∀z,gv (-d.1,-d.2) z = -gv d z:=fun z=>by unfold gv;grind
   have dn':((-d.1,-d.2):Pt)≠(0,0):=fun z=>dn (by
    have z1:-d.1=0:=congrArg Prod.fst z;have z2:-d.2=0:=congrArg Prod.snd z;exact Qm (by show d.1=0;grind) (by show d.2=0;grind))
   have mB':∀y∈B,gv (-d.1,-d.2) b<=gv (-d.1,-d.2) y:=fun y hy=>by rw[ng,ng];have:=mB y hy;grind
   obtain⟨z,hz,oz⟩:=wF oB dn' mB';obtain⟨k,s,sp,f⟩:=wu cB nB dn' hb hb' hz mB' (by rw[ng,ng,eb]) qb oz;right;refine#[k,fun x hx=>?_];rw[f,ng,ng];have:=mA x hx;have:=PR sp (show 0<gv d x - gv d b by grind);grind
  .obtain⟨z,hz,oz⟩:=wF oA dn mA;obtain⟨k,s,sp,f⟩:=wu cA nA dn ha ha' hz mA ea q oz;left;refine#[k,fun y hy=>?_];rw[f];have:=mB y hy;have:=PR sp (show 0<gv d a - gv d y by grind);grind
theorem nF (a b u w:Pt) (s:Rat):b9 a b (w9 u w s)=(1 - s)*b9 a b u+s*b9 a b w:=by unfold b9 w9;grind
def xq (a b u w:Pt):Pt:=w9 u w (b9 a b u / (b9 a b u - b9 a b w))
theorem dM {b u w:Pt}(h:b9 a b u*b9 a b w<0):∃s:Rat,0<s/\s<1/\xq a b u w=w9 u w s:=by
 refine#[_,?_,?_,rfl]
 .by_cases p:0<b9 a b u
  .have n:b9 a b w<0:=by
    refine RB.mp fun z=>?_
    have:=PN (QO p) z;grind
   rw[QG];exact PR p (SJ.mpr 'l')
  .have p':b9 a b u<=0:=by grind
   have U:b9 a b u≠0:=fun z=>by rw[z,Rm] at h;exact absurd h 'h'
   have n:0<b9 a b w:=by
    refine RB.mp fun z=>?_
    have:=PN (show 0 <= -b9 a b u by grind) (show 0 <= -b9 a b w by grind);grind
   have e:b9 a b u / (b9 a b u - b9 a b w)=(-b9 a b u)*(b9 a b w - b9 a b u)⁻¹:=by
    have h1:b9 a b u - b9 a b w≠0:=by grind
    have h2:b9 a b w - b9 a b u≠0:=by grind
    rw[QG];grind
   rw[e];exact PR 'l' (SJ.mpr 'l')
 .by_cases p:0<b9 a b u
  .have n:b9 a b w<0:=by
    refine RB.mp fun z=>?_
    have:=PN (QO p) z;grind
   have J:0<b9 a b u - b9 a b w:=by grind
   have e:1 - b9 a b u / (b9 a b u - b9 a b w)=(-b9 a b w)*(b9 a b u - b9 a b w)⁻¹:=by
    have h1:b9 a b u - b9 a b w≠0:=by grind
    rw[QG];grind
   have:=PR (show 0 < -b9 a b w by grind) (SJ.mpr J);rw[<-e] at this;grind
  .have p':b9 a b u<=0:=by grind
   have U:b9 a b u≠0:=fun z=>by rw[z,Rm] at h;exact absurd h 'h'
   have n:0<b9 a b w:=by
    refine RB.mp fun z=>?_
    have:=PN (show 0 <= -b9 a b u by grind) (show 0 <= -b9 a b w by grind);grind
   have J:0<b9 a b w - b9 a b u:=by grind
   have e:1 - b9 a b u / (b9 a b u - b9 a b w)=b9 a b w*(b9 a b w - b9 a b u)⁻¹:=by
    have h1:b9 a b u - b9 a b w≠0:=by grind
    have h2:b9 a b w - b9 a b u≠0:=by grind
    rw[QG];grind
   have:=PR n (SJ.mpr J);rw[<-e] at this;grind
def mV {x y:Rat}(h1:0<x) (h2:0<y):0<x*y:=PR h1 h2
def Gv:D->D
 |.tup es=>.tup (es.drop 1++es.take 1)
 |d=>d
abbrev Jb:DT:=dB (a9 (l7 (fun i j=>decide (j<i))) 's' (Wk 0))
abbrev Ic:DM:=u6 0 1 (a7 (dV 1) (a7 (a9 J0 (dL 0) 's') a8))
def EI (fs:vO_) (r:Nat):∀(g:Nat),V6 Jb Ic #[[.v (.int g),.v (.int r)],fs]=some (.next,#[[.v (.int (Nat.gcd g r)),.v (.int 0)],fs]):=by
 induction r using Nat.strongRecOn with
 |ind r U=>
  intro g;by_cases h:r=0
  .subst h;rw[Nat.gcd_zero_right];exact zJ (by simp![d7])
  .have e:((g:Int).fmod (r:Int))=((g % r:Nat):Int):=by rw[Ur _ ∅];rfl
   have J:=U (g % r) (QN _ ∅) r;have Y:Nat.gcd g r=Nat.gcd r (g % r):=by rw[Ut g r,Nat.gcd_rec,Ut]
   rw[Y];refine BC (s1:=#[[.v (.int g),.v (.int r)],fs]) (s2:=#[[.v (.int r),.v (.int ((g % r:Nat):Int))],fs]) (by simp![d7];omega) ?_ J;rw[<-e];simp[u6,a7,a8,dV,a9,dL,J0,h]
abbrev Ik:c8:=OF
def FJ (a b:Int) (fs:vO_):Ik [.int a,.int b] fs=some (.int (Int.gcd a b),fs):=by
 have J:=EI fs b.natAbs a.natAbs;refine v5 (s:=#[[.v (.int (Nat.gcd a.natAbs b.natAbs)),.v (.int 0)],fs]) ?_;show pk #[[.v (.int a),.v (.int b)],fs]=_;unfold pk;rw[w6 (s1:=#[[.v (.int a.natAbs),.v (.int b.natAbs)],fs]) (by simp![d7,ar,rP])];rw[w6 J];refine A0 ?_;simp[dV,Int.gcd]
def A8 (d:D) (a:Str):Bool:=match d with
 |.str x=>decide (x=a)
 |_=>false
def dY {a:Str}(h:A9 d=true) (J:thing d=true) (U:A9 (.str a)=true):F7 d (.str a)=some (.bl (A8 d a)):=by
 simp only[F7,h,U,QM,Qs];cases d with
 |feed=>cases J
 |scr _=>cases J
 |fn _=>cases J
 |exc _ _=>cases J
 |_=>simp[A8,D.py,PyData.eqv,Te,h,U]
def gP (d:D) (a b:Str):Bool:=match d with
 |.str x=>decide (a=x)||decide (b=x)
 |_=>false
end T
namespace DL
open PySem L2
def og (f:FS) (h:f.kind=2):f.tget 0=some (.lst (f.cells.map .int)):=by unfold FS.tget;rw[iU ∅,iR rfl]
def sx (f:FS) (h:f.kind=2):f.tget 1=some (.int f.pos):=by unfold FS.tget;rw[iU ∅,iU #[],iR rfl]
def AB (f:FS) (h:f.kind=2):f.tget 2=some (.int f.left):=by unfold FS.tget;rw[iU ∅,iU #[],iU #[],iR rfl]
def oM (f:FS) (h:f.kind=2):f.tget 3=some (.int f.turn):=by unfold FS.tget;rw[iU ∅,iU #[],iU #[],iU #[],iR #[rfl,by omega]]
def BN (f:FS) (v:Int) (h:f.kind=2):f.tput 1 v=some { f with pos:=v }:=by unfold FS.tput;rw[iU ∅,iR rfl]
def yi (f:FS) (v:Int) (h:f.kind=2):f.tput 2 v=some { f with left:=v }:=by unfold FS.tput;rw[iU ∅,iU #[],iR rfl]
def Gg (f:FS) (v:Int) (h:f.kind=2):f.tput 3 v=some { f with turn:=v }:=by unfold FS.tput;rw[iU ∅,iU #[],iU #[],iR #[rfl,by omega]]
end DL
namespace T
open PySem L2 DL
abbrev B8:c8:=BV
def Kk (f:FS) (J:Int) (hm:0<J) (hm2:J<2 ^ 100) (ht:0<=f.pos) (ht2:f.pos<2 ^ 40) (hu:0<=f.turn) (hu2:f.turn<2 ^ 40) (hk:f.kind=2) (hcn:f.cells≠[]) :
  ∃r f',B8 [.feed,.int J] (some f)=some (.int r,some f')/\0<=r/\r<J/\f.pos<=f'.pos/\f'.pos<=f.pos+1/\f'.turn=f.turn+1/\f'.kind=2/\f'.cells=f.cells:=by
 have dm:S9 J=true:=Iz ∅ ∅;have hne:J≠0:=by omega
 obtain⟨cs,ps,Y,U,kd⟩:=f;simp only at ht ht2 hu hu2 hk hcn ⊢;subst hk;have st0:V8 0 3 (a9 k6 (G6 0 3) (Wk 1)) #[[.v .feed,.v (.int J),.no,.no,.no,.no],some #[cs,ps,Y,U,2]]=some (.next,#[[.v .feed,.v (.int J),.no,.no,.no,.no],some #[cs,ps,Y,U+1,2]]):=by
  simp[V8,a9,G6,oM,Gg,dC,Wk,Wl,k6]
 by_cases hl:0<Y
 .refine#[Y.fmod J,#[cs,ps,Y.fdiv J,U+1,2],v5 (s:=#[[.v .feed,.v (.int J),.v (.int (Y.fmod J)),.no,.no,.no],some #[cs,ps,Y.fdiv J,U+1,2]]) ?_,(bp hm).1,(bp hm).2,by simp,by simp;omega,rfl,rfl,rfl];show cP #[[.v .feed,.v (.int J),.no,.no,.no,.no],some #[cs,ps,Y,U,2]]=_;unfold cP;rw[w6 st0];refine D7 ?_;simp[d6,u9,j5,a9,G6,V8,og,sx,AB,BN,yi,dC,Wk,Wl,dL,dV,f9,j7,dB,l7,J0,Q3,hl,hne,dm,i8,Option.bind]
 .have hc:0<cs.length:=UH.mpr hcn;have hi:=bp (a:=ps) (b:=(cs.length:Int)) ∅;obtain⟨c,hg⟩:∃c:Int,D9 (cs.map D.int) (ps.fmod (cs.length:Int))=some (.int c):=by
   have:(ps.fmod (cs.length:Int)).toNat<cs.length:=by omega
   refine#[cs[(ps.fmod (cs.length:Int)).toNat],?_];rw[mZ hi.1 (by rw[PH];exact hi.2),Qy,Qf this];rfl
  have hc1:=bp (a:=c) (b:=1000003) #[];have pre:∀rest:DM,d6 (V8 0 3 (a9 k6 (G6 0 3) (Wk 1))) (d6 (j7 (dB (a9 (l7 (fun i j=>decide (j<i))) (G6 0 2) (Wk 0))) (d6 (j5 (a9 J0 (G6 0 2) 's') (f9 2)) (d6 (V8 0 2 (a9 Q3 (G6 0 2) 's')) (i8 (dV 2)))) j9) (d6 (j5 (G6 0 1) (f9 3)) (d6 (V8 0 1 (a9 k6 (dL 3) (Wk 1))) (d6 (j5 (a9 d7 (G6 0 0) (a9 J0 (dL 3) (i9 (one j6) (a7 (G6 0 0) a8)))) (f9 4)) rest))))
    #[[.v .feed,.v (.int J),.no,.no,.no,.no],some #[cs,ps,Y,U,2]]=rest #[[.v .feed,.v (.int J),.no,.v (.int ps),.v (.int c),.no],some #[cs,ps+1,Y,U+1,2]]:=fun rest=>by
   rw[w6 st0];rw[w6 (s1:=#[[.v .feed,.v (.int J),.no,.no,.no,.no],some #[cs,ps,Y,U+1,2]]) (by simp[j7,dB,a9,G6,AB,dC,Wk,Wl,l7,hl,j9])];rw[w6 (s1:=#[[.v .feed,.v (.int J),.no,.v (.int ps),.no,.no],some #[cs,ps,Y,U+1,2]]) (by simp[j5,G6,sx,f9])];rw[w6 (s1:=#[[.v .feed,.v (.int J),.no,.v (.int ps),.no,.no],some #[cs,ps+1,Y,U+1,2]]) (by simp[V8,BN,a9,dL,dC,Wk,Wl,k6])];rw[w6 (s1:=#[[.v .feed,.v (.int J),.no,.v (.int ps),.v (.int c),.no],some #[cs,ps+1,Y,U+1,2]]) (by
    have hn:¬ (cs.length:Int)=0:=by omega
    simp[j5,a9,G6,og,dL,i9,one,j6,a7,a8,J0,d7,f9,hcn,hg])]
  have Z:o8 (dB (a9 (l7 (fun i j=>decide (j<=i))) (dL 4) (a9 eB (Wk 10) (Wk 18)))) (dB (a9 (l7 (fun i j=>decide (i<j))) (dL 3) (i9 (one j6) (a7 (G6 0 0) a8)))) #[[.v .feed,.v (.int J),.no,.v (.int ps),.v (.int c),.no],some #[cs,ps+1,Y,U+1,2]] =
    some (decide (1000000000000000000<=c)&&decide (ps<(cs.length:Int)),#[[.v .feed,.v (.int J),.no,.v (.int ps),.v (.int c),.no],some #[cs,ps+1,Y,U+1,2]]):=by
   by_cases h1:1000000000000000000<=c
   .simp[o8,dB,a9,dL,dC,Wk,Wl,eB,l7,G6,og,i9,one,j6,a7,a8,h1]
   .simp[o8,dB,a9,dL,dC,Wk,Wl,eB,l7,h1]
  by_cases hb:(decide (1000000000000000000<=c)&&decide (ps<(cs.length:Int)))=true
  .refine#[c.fmod J,#[cs,ps+1,c.fdiv J,U+1,2],v5 (s:=#[[.v .feed,.v (.int J),.no,.v (.int ps),.v (.int c),.no],some #[cs,ps+1,c.fdiv J,U+1,2]]) ?_,(bp hm).1,(bp hm).2,by simp;omega,by simp,rfl,rfl,rfl];show cP #[[.v .feed,.v (.int J),.no,.no,.no,.no],some #[cs,ps,Y,U,2]]=_;unfold cP;rw[pre];rw[hb] at Z;refine D7 ?_;rw[G2 Z];simp[d6,u9,V8,a9,dL,Q3,dm,yi,i8,J0,hne]
  .have hb':(decide (1000000000000000000<=c)&&decide (ps<(cs.length:Int)))=false:=by simpa using hb
   have b1:F8 48271=true:=by decide
   have b2:F8 (c.fmod 1000003)=true:=nI ∅;have b3:F8 7919=true:=by decide
   have b4:F8 (U+1)=true:=nI ∅;have b5:F8 69621=true:=by decide
   have b6:F8 31=true:=by decide
   have b7:F8 (31*(U+1))=true:=nI ∅;have d64:S9 64=true:=by decide
   obtain⟨M,hM,m1,m2⟩:∃M:Int,(c.fmod 1000003*48271+7919*(U+1)+104729).fmod 2147483647=M/\0<=M/\M<2147483647:=#[_,rfl,bp #[]]
   have hD:=VA M (show (0:Int)<=64 by decide);have b8:F8 (M.fdiv 64)=true:=nI (by rw[hD];omega);obtain⟨L,hL⟩:∃L:Int,(M.fdiv 64*69621+31*(U+1)*(U+1)+ps).fmod 2147483587=L:=#[_,rfl]
   refine#[(L.fdiv 64).fmod J,#[cs,ps+1,Y,U+1,2],v5 (s:=#[[.v .feed,.v (.int J),.no,.v (.int ps),.v (.int c),.v (.int L)],some #[cs,ps+1,Y,U+1,2]]) ?_,(bp hm).1,(bp hm).2,by simp;omega,by simp,rfl,rfl,rfl];show cP #[[.v .feed,.v (.int J),.no,.no,.no,.no],some #[cs,ps,Y,U,2]]=_;unfold cP;rw[pre];rw[hb'] at Z;rw[w6 (by rw[dW Z];rfl)];rw[w6 (s1:=#[[.v .feed,.v (.int J),.no,.v (.int ps),.v (.int c),.v (.int M)],some #[cs,ps+1,Y,U+1,2]]) (by
    simp[j5,a9,dL,dC,Wk,Wl,G6,oM,f9,J0,w8,k6,b1,b2,b3,b4,hM])]
   rw[w6 (s1:=#[[.v .feed,.v (.int J),.no,.v (.int ps),.v (.int c),.v (.int L)],some #[cs,ps+1,Y,U+1,2]]) (by
    simp[j5,a9,dL,dC,Wk,Wl,G6,oM,f9,J0,w8,k6,Q3,b4,b5,b6,b7,b8,d64,hL])]
   simp[i8,a9,dL,dC,Wk,Wl,J0,Q3,d64,hne]
def Fd4 (n:Nat) (f:FS):Prop:=0<=f.pos/\f.pos<=n/\0<=f.turn/\f.turn<=n/\f.kind=2/\f.cells≠[]
def Fd4.mono {f:FS}(h:Fd4 n f) (J:n<=m):Fd4 m f:=#[h.1,by have:=h.2.1;omega,h.2.2.1,by have:=h.2.2.2.1;omega,h.2.2.2.2]
def K9 {n:Nat}{f:FS}(J:Int) (h:Fd4 n f) (hm:0<J:=by omega) (hn:n<2 ^ 30:=by omega) (U:J<2 ^ 100:=by omega) :
  ∃r f',B8 [.feed,.int J] (some f)=some (.int r,some f')/\0<=r/\r<J/\Fd4 (n+1) f':=by
 refine gB_ fun G_ g_=>?_
 obtain⟨Z,a2,a3,a4,a5,Y⟩:=h;obtain⟨r,f',e,h0,h1,h2,h3,h4,h5,h6⟩:=Kk f J hm U Z ∅ a3 ∅ a5 Y;apply g_;exact#[r,f',e,h0,h1,by omega,by omega,by omega,by omega,h5,by rw[h6];exact Y]
def My (ns:List Int):U0 ns≠[]:=by
 unfold U0;cases ns with
 |nil=>simp
 |cons n r=>simp
def Nh {ns:List Int}(h:ns.length<=63):(U0 ns).length<=63:=by
 unfold U0;cases ns with
 |nil=>simp
 |cons n r=>simpa using h
def Kl (ns:List Int) (h:ns.length<=63):aW [.scr ns] none=some (.feed,some #[U0 ns,0,0,0,2]):=by
 refine v5 (s:=#[[.v (.scr ns)],some #[U0 ns,0,0,0,2]]) ?_;show pW #[[.v (.scr ns)],none]=_;have:=Nh h;simp[pW,i8,jR,this]
def Fd4.zero (ns:List Int):Fd4 0 #[U0 ns,0,0,0,2]:=#[by simp,by simp,by simp,by simp,rfl,My ns]
def Th.part {b:Nat}(h:Th b k 'm'):∀d∈ds,Th b k d:=fun d J=>by
 cases k with
 |zero=>unfold Th at h;exact h.elim
 |succ k=>unfold Th at h;exact Th.mono (tx _) d ∅ (Ths.mem h J)
def W5 {i j:Int}(h1:F8 i=true) (h2:F8 j=true):w8 (.int i) (.int j)=some (.int (i*j)):=by simp[w8,h1,h2]
def nk (a b:Int) (fs:vO_):gA [.int a,.int b] fs=some (.int (Int.gcd a b),fs):=FJ a b fs
abbrev fQ:c8:=Ap gA
def xI (x y d:Int) (fs:vO_) (J:d≠0) (h:Bd k d) (Y:k<=8000):fQ [.int x,.int y,.int d] fs=some (pt (Rat.divInt x d,Rat.divInt y d),fs):=by
 obtain⟨p0,p1,p2,p3⟩:=kW x y d J;have dg:=wm (x:=x) (y:=y) J h Y;have e1:=nk x y fs;have Z:=nk (Int.gcd x y:Int) d fs;refine v5 (s:=#[[.v (.int x),.v (.int y),.v (.int d),.v (.int (if d<0 then -(Int.gcd (Int.gcd x y:Int) d:Int) else (Int.gcd (Int.gcd x y:Int) d:Int)))],fs]) ?_;show nJ gA #[[.v (.int x),.v (.int y),.v (.int d),.no],fs]=_;unfold nJ;rw[w6 (s1:=#[[.v (.int x),.v (.int y),.v (.int d),.v (.int (Int.gcd (Int.gcd x y:Int) d))],fs]) (by simp![d7,e1,Z])];rw[w6 (s1:=#[[.v (.int x),.v (.int y),.v (.int d),.v (.int (if d<0 then -(Int.gcd (Int.gcd x y:Int) d:Int) else (Int.gcd (Int.gcd x y:Int) d:Int)))],fs]) (by
  by_cases U:d<0
  .simp![d7,U]
  .simp![d7,U])]
 generalize hg:(if d<0 then -(Int.gcd (Int.gcd x y:Int) d:Int) else (Int.gcd (Int.gcd x y:Int) d:Int))=gg at *;refine A0 ?_;unfold pt;rw[<-p1,<-p2,<-p3];have s3:(3:Nat)<=sizeLine:=by decide
 simp![d7,Q3,dg,s3]
end T
namespace DL
open PySem L2
def sC {α:Type}{xs:List α}{x:α}(h:xs[i]? = some x):D9 xs (i:Int)=some x:=by
 have hi:=(Qr.mp h).1;rw[mZ ∅ ∅];simpa using h
end DL
namespace T
open PySem L2 DL
def gn:List D:=[.non,.bl true,.bl false,.int 0,.int 1,.int (-1),.int 2,.str "",.str "a",.str "meet",.str "apart",.str "one",.str "other",.tup [],.lst [],.tup [.int 0],.tup [.int 0,.int 0,.int 1],.tup [.int 1,.int 2],
 .tup [.int 2,.int 4,.int 2],.tup [.int 0,.int 0,.int 0],.tup [.int 1,.int 1,.int (-1)],.tup [.tup [.int 0,.int 0,.int 1]],.tup [.str "one",.int 0],.int 1000000000000000000000000000000000000000]
def Fo:∀d∈gn,Th 131 2 d/\DL.bk d<=7:=by
 intro d J;have i:∀z:Int,z.natAbs<8->Bd 131 z:=fun z h=>(show Bd 3 z from nK h).mono #[]
 have U:R0 "one" := ay 'h';simp only[gn,xo,Qj,Qk] at J;rcases J with rfl | rfl | rfl | rfl | rfl | rfl | rfl | rfl | rfl | rfl | rfl | rfl | rfl | rfl | rfl | rfl | rfl | rfl | rfl | rfl | rfl | rfl | rfl | rfl
 all_goals first
  | exact#[by unfold Th;trivial,by decide]
  | exact#[by unfold Th;exact i _ #[],by decide]
  | exact#[by unfold Th;exact Bd.lit 'h',by decide]
  | exact#[by unfold Th;exact ay 'h',by decide +kernel]
  | exact#[by simp only[Th,Ths,Sg,Sh];exact i _ #[],by decide]
  | exact#[by simp only[Th,Ths,Sg,Sh];exact#[i _ #[],i _ #[]],by decide]
  | exact#[by simp only[Th,Ths,Sg,Sh];exact#[i _ #[],i _ #[],i _ #[]],by decide]
  | exact#[by simp only[Th,Ths,Sg,Sh];exact#[U,i _ #[]],by decide +kernel]
  | exact#[by simp only[Th,Ths],by decide]
abbrev aX:c8:=xw B8
def mP {f:FS}(h:Fd4 n f) (hn:n<2 ^ 29):∃d f',aX [.feed] (some f)=some (d,some f')/\Th 131 2 d/\DL.bk d<=7/\Fd4 (n+1) f':=by
 refine gB_ fun G_ g_=>?_
 obtain⟨r,f1,e1,Z,a2,h1⟩:=K9 24 h;obtain⟨d,hd,Y⟩:=Z0 (xs:=gn) Z (by show r<24;exact a2);obtain⟨t1,t2⟩:=Fo d hd;apply g_;refine#[d,f1,v5 (s:=#[[.v .feed,.own gn],some f1]) ?_,t1,t2,h1];show kn B8 #[[.v .feed,.no],some f]=_;have s1:(1:Nat)<=sizeLine:=by decide
 have s2:(2:Nat)<=sizeLine:=by decide
 have s3:(3:Nat)<=sizeLine:=by decide
 have s6:(6:Nat)<=sizeLine:=by decide
 have U:(18:Nat)<=sizeLine:=by decide
 have J:(24:Nat)<=sizeLine:=by decide
 simp only[gn] at Y;simp![kn,B4,B7,C6,C7,C9,D0,C8,E3,Q8,P9,eB,s1,s2,s3,s6,U,J,e1,Y,gn]
abbrev Q7 (N:Nat):c8:=qN aX B8 N
def lG {N:Nat}{f:FS}(d:D) (h:Fd4 n f) (hn:n<2 ^ 28) (Y:d = .non\/(∃ds,d = .lst ds)\/(∃c,d = .bl c)\/∃x,d = .str x):∃d' f',Q7 (N+1) [.feed,d] (some f)=some (d',some f')/\Th 131 2 d'/\DL.bk d'<=7/\Fd4 (n+4) f':=by
 refine gB_ fun G_ U=>?_
 obtain⟨r,f1,J,Z,a2,h1⟩:=K9 8 h;obtain⟨d',f',e,t,b,h'⟩:=mP h1 ∅;apply U;refine#[d',f',v5 (s:=#[[.v .feed,.v d,.no,.v (.int r),.no],some f']) ?_,t,b,h'.mono ∅];show U8 aX B8 (Q7 N) #[[.v .feed,.v d,.no,.no,.no],some f]=_;rcases Y with rfl | ⟨ds,rfl⟩ | ⟨c,rfl⟩ | ⟨x,rfl⟩
 .simp![U8,B4,B7,C6,C7,C9,D0,C8,qu,D2,e,J]
 .simp![U8,B4,B7,C6,C7,C9,D0,C8,rE,D2,e,J]
 .simp![U8,B4,B7,C6,C7,C9,D0,C8,qm,D2,e,J]
 .simp![U8,B4,B7,C6,C7,C9,D0,C8,pw,D2,e,J]
def Iv {N b:Nat}{f:FS}(i:Int) (hi:Bd b i) (hb:131<=b) (hb2:b<=1000) (h:Fd4 n f) (hn:n<2 ^ 28):∃d' f',Q7 (N+1) [.feed,.int i] (some f)=some (d',some f')/\Th (b+1) 2 d'/\DL.bk d'<=b+8/\Fd4 (n+4) f':=by
 obtain⟨r,f1,e1,a1,a2,h1⟩:=K9 8 h;have J:Bd 1 1:=Bd.lit #[];have s6:(6:Nat)<=sizeLine:=by decide
 have z1:F8 2=true:=by decide
 have z2:F8 i=true:=hi.bits ∅;have ll:=Lf hi ∅;have lg:i.natAbs.log2<1920:=gm #[] (hi.mono ∅);have l2:(toString i:Str).length<=sizeLine:=PJ ll (by rw[QR];omega);have ps:gL (.int i)=some (.str (toString i)):=by simp only[gL];rw[iR #[lg,l2]]
 have as:=MU i;generalize (PySem.Str.ofString (toString i))=T at *;by_cases Z:r<6
 .obtain⟨x,Y,hq⟩:=Z0 (xs:=[D.int (i+1),D.int (i - 1),D.int (0 - i),D.bl (decide (i=1)),D.int (2*i),D.str T]) a1 (by show r<6;exact Z);refine#[x,f1,v5 (s:=#[[.v .feed,.v (.int i),.no,.v (.int r),.no],some f1]) ?_,?_,?_,h1.mono ∅]
  .show U8 aX B8 (Q7 N) #[[.v .feed,.v (.int i),.no,.no,.no],some f]=_;have U:=hq;rw[Int.zero_sub] at U;simp![U8,B4,B7,C6,C7,C9,D0,C8,jJ,D2,e1,Z,aq,w8,z1,z2,ps,s6,U]
  .simp only[xo,Qj,Qk] at Y;rcases Y with rfl | rfl | rfl | rfl | rfl | rfl
   .unfold Th;exact(hi.add J).mono ∅
   .unfold Th;exact(hi.sub J).mono ∅
   .unfold Th;rw[Int.zero_sub];exact hi.neg.mono ∅
   .unfold Th;trivial
   .unfold Th;have:(2:Int)*i=i+i:=by omega
    rw[this];exact(hi.add hi).mono ∅
   .unfold Th;exact as
  .simp only[xo,Qj,Qk] at Y;rcases Y with rfl | rfl | rfl | rfl | rfl | rfl
   .rw[fV];omega
   .rw[fV];omega
   .rw[fV];omega
   .rw[Jc];omega
   .rw[fV];omega
   .rw[jf];omega
 .obtain⟨d',f',e,t,bb,h'⟩:=mP h1 ∅;refine#[d',f',v5 (s:=#[[.v .feed,.v (.int i),.no,.v (.int r),.no],some f']) ?_,Th.mono ∅ _ (tx _) t,by omega,h'.mono ∅];show U8 aX B8 (Q7 N) #[[.v .feed,.v (.int i),.no,.no,.no],some f]=_;simp![U8,B4,B7,C6,C7,C9,D0,C8,jJ,D2,e1,Z,e]
abbrev qo:DM:=(d6 (j5 (d9 B8 (a7 (dV 0) (a7 (Wk 8) a8))) (f9 3)) (d6 (j7 (o8 (j8 (j4 (A2 "tuple") 's')) (dB (a9 (l7 (fun i j=>decide (i<j))) (dL 3) (Wk 6)))) (d6 (j5 (d9 B8 (a7 (dV 0) (a7 (a9 k6 (i9 (one j6) (a7 's' a8)) (Wk 1)) a8))) (f9 2)) (d6 (E3 4 (n8 (a7 (l5 (W0 (one iP) (a7 's' a8))) (a7 (a9 k6 (F6 's' G7 (G9 (dL 2))) (F6 's' (G9 (a9 k6 (dL 2) (Wk 1))) G7)) (a7 (a9 k6 (F6 's' G7 (G9 (a9 k6 (dL 2) (Wk 1)))) (F6 's' (G9 (dL 2)) G7)) (a7 (jH 's' (j4 o9 (Wk 1))) a8)))))) (i8 (a9 d7 (l5 (Q8 P9 (dL 4) (l5 (n8 (a7 (a9 k6 (F6 's' (G9 (Wk 1)) G7) (F6 's' G7 (G9 (Wk 1)))) (a7 (a9 k6 's' (i7 (a7 (d9 aX 'o') a8))) a8)))))) (dL 3))))) j9) (d6 (j7 (o8 (j8 (j4 (A2 "int") 's')) (o8 (l8 (j8 (j4 (A2 "bool") 's'))) (dB (a9 (l7 (fun i j=>decide (i<j))) (dL 3) (Wk 6))))) (i8 (a9 d7 (l5 (n8 (a7 (a9 k6 's' (Wk 1)) (a7 (a9 p9 's' (Wk 1)) (a7 (a9 p9 (Wk 0) 's') (a7 (a9 F7 's' (Wk 1)) (a7 (a9 w8 (Wk 2) 's') (a7 (i9 (one gL) (a7 's' a8)) a8)))))))) (dL 3))) j9) (i8 (d9 aX 'o')))))
def JE {b:Nat}{f:FS}(ds:vD_) (U:Th b (k+1) 'm') (hb:131<=b) (hb2:b<=1000) (hs:K0 ds<=100000) (h:Fd4 n f) (hn:n<2 ^ 28) (x2:Sl) :
  ∃d' f' s',qo #[[.v .feed,.v 'm',x2,.no,.no],some f]=some (.ret d',s')/\s'.fs=some f'/\Th b (k+3) d'/\DL.bk d'<=2*K0 ds+8/\Fd4 (n+3) f':=by
 obtain⟨r,f1,e1,a1,a2,h1⟩:=K9 8 h;have hl:=lF ds;have hm:∀d∈ds,Th b k d:=fun d m=>Ths.mem (by unfold Th at U;exact U) m
 have um:∀d∈ds,Th b (k+2) d:=fun d U=>Th.mono (tx _) d ∅ (hm d U)
 have up:∀{es:vD_},(∀d∈es,Th b (k+2) d)->Th b (k+3) (.tup es):=fun he=>by
  unfold Th;exact Ths.of he
 by_cases hr:r<6
 .obtain⟨p,Z,e2,p1,p2,h2⟩:=K9 ((ds.length:Int)+1) h1 ∅ ∅ ∅;obtain⟨d',f3,e3,t,bd,h3⟩:=mP h2 ∅;have c2:ds.length+1<=sizeLine:=by rw[QR];omega
  have cc:∀a b c d,(B1 ds a b).length+(B1 ds c d).length<=sizeLine:=fun a b c d=>by
   have:=yt ds a b;have:=yt ds c d;rw[QR];omega
  have J:∀{a b c d:Option Int},∀x∈B1 ds a b++B1 ds c d,Th _ (k+2) x:=fun x hx=>by
   rcases PQ.mp hx with z | z
   .exact um x (yA z)
   .exact um x (yA z)
  have Y:∀a b c d,DL.bk (.tup (B1 ds a b++B1 ds c d))<=2*K0 ds+8:=fun a b c d=>by
   rw[V1,aZ];have:=zN ds a b;have:=zN ds c d;omega
  obtain⟨y,hy,hq⟩:=Z0 (xs:=[D.lst ds,D.tup (B1 ds none (some p)++B1 ds (some (p+1)) none),D.tup (B1 ds none (some (p+1))++B1 ds (some p) none),D.tup ds.reverse,D.tup (B1 ds (some 1) none++B1 ds none (some 1)),D.tup (ds++[d'])]) a1 (by show r<6;exact hr);refine#[y,f3,#[[.v .feed,.v 'm',.v (.int p),.v (.int r),.own [D.lst ds,D.tup (B1 ds none (some p)++B1 ds (some (p+1)) none),D.tup (B1 ds none (some (p+1))++B1 ds (some p) none),D.tup ds.reverse]],some f3],?_,rfl,?_,?_,h3]
  .have s4:(4:Nat)<=sizeLine:=by decide
   have s6:(6:Nat)<=sizeLine:=by decide
   have s1:(1:Nat)<=sizeLine:=by decide
   have q1:=cc none (some p) (some (p+1)) none;have q2:=cc none (some (p+1)) (some p) none;have q3:=cc (some 1) none none (some 1);unfold qo;rw[w6 (s1:=#[[.v .feed,.v 'm',x2,.v (.int r),.no],some f1]) (by simp![d7,e1])];refine D7 ?_;rw[G2 (s1:=#[[.v .feed,.v 'm',x2,.v (.int r),.no],some f1]) (by simp![d7,X3,D2,hr])];rw[w6 (s1:=#[[.v .feed,.v 'm',.v (.int p),.v (.int r),.no],some Z]) (by simp![d7,e2])];rw[w6 (s1:=#[[.v .feed,.v 'm',.v (.int p),.v (.int r),.own [D.lst ds,D.tup (B1 ds none (some p)++B1 ds (some (p+1)) none),D.tup (B1 ds none (some (p+1))++B1 ds (some p) none),D.tup ds.reverse]],some Z]) (by
    simp![d7,E3,W0,iP,F6,G9,G7,jH,q1,q2,s4])]
   refine A0 ?_;generalize B1 ds none (some p)++B1 ds (some (p+1)) none=A at *;generalize B1 ds none (some (p+1))++B1 ds (some p) none=B at *;simp![B4,B7,C6,C7,C9,D0,C8,Q8,P9,F6,G9,G7,q3,c2,e3,s1,yC,s4,s6,hq]
  .simp only[xo,Qj,Qk] at hy;rcases hy with rfl | rfl | rfl | rfl | rfl | rfl
   .unfold Th;exact Ths.of um
   .exact up J
   .exact up J
   .exact up fun d U=>um d (Tq.mp U)
   .exact up J
   .exact up fun d U=>by
     rcases PQ.mp U with z | z
     .exact um d z
     .rw[PV.mp z];exact Th.mono ∅ _ ∅ t
  .simp only[xo,Qj,Qk] at hy;rcases hy with rfl | rfl | rfl | rfl | rfl | rfl
   .rw[Cc];omega
   .exact Y _ _ _ _
   .exact Y _ _ _ _
   .rw[V1,vU];omega
   .exact Y _ _ _ _
   .rw[V1,aZ,N7,aS];omega
 .obtain⟨d',Z,e2,t,bd,h2⟩:=mP h1 ∅;refine#[d',Z,#[[.v .feed,.v 'm',x2,.v (.int r),.no],some Z],?_,rfl,Th.mono ∅ _ ∅ t,by omega,h2.mono ∅];simp![qo,d7,X3,D2,e1,e2,hr]
theorem lh:∀(N:Nat) {n b k:Nat}{f:FS}(d:D),k<N->N<=64->Th b k d->131<=b->b<=1000->bk d<=100000->Fd4 n f->n+4*(k+1)<2 ^ 27 ->
  ∃d' f',Q7 N [.feed,d] (some f)=some (d',some f')/\Th (b+1) (k+2) d'/\bk d'<=2*bk d+b+10/\Fd4 (n+4*(k+1)) f'
 |0,n,b,k,f,d,hk,_,_,_,_,_,_,_=>by omega
 |N+1,n,b,k,f,.feed,hk,hN,h,_,_,_,_,_=>by unfold Th at h;exact h.elim
 |N+1,n,b,k,f,.scr _,hk,hN,h,_,_,_,_,_=>by unfold Th at h;exact h.elim
 |N+1,n,b,k,f,.fn _,hk,hN,h,_,_,_,_,_=>by unfold Th at h;exact h.elim
 |N+1,n,b,k,f,.exc _ _,hk,hN,h,_,_,_,_,_=>by unfold Th at h;exact h.elim
 |N+1,n,b,k,f,.non,hk,hN,h,hb,hb2,hs,hf,hn=>by
  obtain⟨d',f',e,t,s,g⟩:=lG (N:=N) .non hf ∅ (.inl rfl);exact#[d',f',e,Th.mono ∅ _ ∅ t,by omega,g.mono ∅]
 |N+1,n,b,k,f,.lst ds,hk,hN,h,hb,hb2,hs,hf,hn=>by
  obtain⟨d',f',e,t,s,g⟩:=lG (N:=N) (.lst ds) hf ∅ (.inr (.inl #[ds,rfl]));exact#[d',f',e,Th.mono ∅ _ ∅ t,by omega,g.mono ∅]
 |N+1,n,b,k,f,.bl c,hk,hN,h,hb,hb2,hs,hf,hn=>by
  obtain⟨d',f',e,t,s,g⟩:=lG (N:=N) (.bl c) hf ∅ (.inr (.inr (.inl #[c,rfl])));exact#[d',f',e,Th.mono ∅ _ ∅ t,by omega,g.mono ∅]
 |N+1,n,b,k,f,.str x,hk,hN,h,hb,hb2,hs,hf,hn=>by
  obtain⟨d',f',e,t,s,g⟩:=lG (N:=N) (.str x) hf ∅ (.inr (.inr (.inr #[x,rfl])));exact#[d',f',e,Th.mono ∅ _ ∅ t,by omega,g.mono ∅]
 |N+1,n,b,k,f,.int i,hk,hN,h,hb,hb2,hs,hf,hn=>by
  unfold Th at h;obtain⟨d',f',e,t,s,g⟩:=Iv (N:=N) i h hb hb2 hf ∅;exact#[d',f',e,Th.mono ∅ _ ∅ t,by omega,g.mono ∅]
 |N+1,n,b,0,f,.tup ds,hk,hN,h,_,_,_,_,_=>by unfold Th at h;exact h.elim
 |N+1,n,b,k+1,f,.tup ds,hk,hN,h,hb,hb2,hs,hf,hn=>by
  have U:=Lr ds h ∅ ∅;rw[V1] at hs ⊢;have J:∀{m:Nat}{g:FS}(x2:Sl),Fd4 m g->m<2 ^ 28->j7 (o8 (j8 (j4 (A2 "tuple") 's')) (o8 (dB (a9 A1 's' (i7 a8))) (dB (a9 (l7 (fun i j=>decide (j<i))) (d9 B8 (a7 (dV 0) (a7 (Wk 6) a8))) (Wk 0))))) (d6 (j5 (d9 B8 (a7 (dV 0) (a7 (i9 (one j6) (a7 's' a8)) a8))) (f9 2)) (i8 (a9 k6 (a9 k6 (F6 's' G7 (G9 (dL 2))) (i7 (a7 (d9 (Q7 N) (a7 (dV 0) (a7 (a9 d7 's' (dL 2)) a8))) a8))) (F6 's' (G9 (a9 k6 (dL 2) (Wk 1))) G7)))) j9
    #[[.v .feed,.v 'm',.no,.no,.no],some f]=some (.next,#[[.v .feed,.v 'm',x2,.no,.no],some g])->∃d' f',Q7 (N+1) [.feed,.tup ds] (some f)=some (d',some f')/\Th b (k+3) d'/\bk d'<=2*K0 ds+8/\Fd4 (m+3) f':=by
   intro m g x2 hg hm e;obtain⟨d',f',s',Z,e2,t,s,q⟩:=JE ds h hb hb2 hs hg hm x2;refine#[d',f',?_,t,s,q];rw[<-e2];refine v5 ?_;show U8 aX B8 (Q7 N) #[[.v .feed,.v 'm',.no,.no,.no],some f]=_;unfold U8;rw[w6 e];exact Z
  have s0:(0:Nat)<=sizeLine:=by decide
  by_cases hz:ds=[]
  .rw[PU hz] at U;obtain⟨d',f',e,t,s,q⟩:=J .no hf ∅ (by simp![B4,B7,C6,C7,C9,D0,C8,X3,D2,U]);exact#[d',f',e,Th.mono ∅ _ ∅ t,by omega,q.mono ∅]
  .rw[PY hz] at U;obtain⟨r,f1,Z,a1,a2,h1⟩:=K9 6 hf;by_cases hr:0<r
   .have hlen:0<ds.length:=by cases ds with | nil=>exact absurd rfl hz | cons _ _=>simp
    have hbl:=lF ds;obtain⟨p,f2,e2,p1,p2,h2⟩:=K9 (ds.length:Int) h1 ∅ ∅ ∅;obtain⟨P,rfl⟩:=Uw p1;have Y:P<ds.length:=by omega
    have hat:D9 ds (P:Int)=some ds[P]:=by rw[mZ ∅ p2];simp[Y]
    have hc:Th b k ds[P]:=Ths.mem (by unfold Th at h;exact h) (Rl Y);have hcb:=FT (Rl Y);obtain⟨c',f3,e3,t3,s3,h3⟩:=lh N ds[P] ∅ ∅ hc hb hb2 ∅ h2 ∅;have k1:B1 ds none (some (P:Int))=ds.take P:=zE ds P ∅;have k2:B1 ds (some ((P:Int)+1)) none=ds.drop (P+1):=by
     have:=yZ ds (P+1) ∅
     rwa [Int.natCast_add] at this
    have l1:(ds.take P).length+1<=sizeLine:=by rw[QS,QR];omega
    have l2:(ds.take P++[c']).length+(ds.drop (P+1)).length<=sizeLine:=by
     rw[Qo,QS,Qn,QR];simp;omega
    have s1:(1:Nat)<=sizeLine:=by decide
    refine#[.tup (ds.take P++[c']++ds.drop (P+1)),f3,v5 (s:=#[[.v .feed,.v 'm',.v (.int P),.no,.no],some f3]) ?_,?_,?_,h3.mono ∅]
    .show U8 aX B8 (Q7 N) #[[.v .feed,.v 'm',.no,.no,.no],some f]=_;unfold U8;refine D7 ?_;rw[G2 (s1:=#[[.v .feed,.v 'm',.no,.no,.no],some f1]) (by simp![B4,B7,C6,C7,C9,D0,C8,X3,D2,U,Z,hr])];rw[w6 (s1:=#[[.v .feed,.v 'm',.v (.int P),.no,.no],some f2]) (by simp![B4,B7,C6,C7,C9,D0,C8,e2])];refine A0 ?_;simp only[Qo,QS,Qn,RG] at l1 l2;simp![B4,B7,C6,C7,C9,D0,C8,F6,G9,G7,k1,k2,hat,e3,s1,l1,l2]
    .have hm:∀d∈ds,Th b k d:=fun d m=>Ths.mem (by unfold Th at h;exact h) m
     unfold Th;refine Ths.of fun d hd=>?_
     rcases PQ.mp hd with z | z
     .rcases PQ.mp z with z | z
      .exact Th.mono ∅ d ∅ (hm d (Uy z))
      .rw[PV.mp z];exact t3
     .exact Th.mono ∅ d ∅ (hm d (Tp z))
    .rw[V1,aZ,aZ,N7,aS];have q1:=aZ (ds.take P) (ds.drop P);rw[SH,VF Y,N7] at q1;omega
   .obtain⟨d',f',e,t,s,q⟩:=J .no h1 ∅ (by simp![B4,B7,C6,C7,C9,D0,C8,X3,D2,U,Z,hr]);exact#[d',f',e,Th.mono ∅ _ ∅ t,by omega,q.mono ∅]
end T
namespace DL
open PySem L2
theorem BS (caps:List Sl) (p:D->Bool) (fs:vO_):∀ds:List D,(∀d∈ds,fc #[.v d::caps,fs]=some (p d,#[.v d::caps,fs]))->G1 (fun d=>some (.v d::caps)) fc (dV 0) ds fs=some (ds.filter p,fs)
 |[],_=>rfl
 |d::r,h=>by
  have e:=h d (PD ..);have U:=BS caps p fs r fun x Y=>h x (Pz _ Y)
  cases J:p d
  .rw[J] at e;simp[G1,e,J,U]
  .rw[J] at e;simp[G1,e,J,U,dV]
def EG (ds:vD_):PyData.eqv (D.py (.lst ds)) (D.py (.lst []))=decide (ds=[]):=by
 cases ds with
 |nil=>rfl
 |cons d r=>simp[D.py,D.pys,PyData.eqv,PyData.eqvAll]
def kT {b:Nat}(ds:vD_) (h:∀d∈ds,Th b k d) (U:b<=1920) (J:k+1<=64):A1 (.lst ds) (.lst [])=some (.bl (!decide (ds=[]))):=by
 have t:Th b (k+1) (.lst ds):=by unfold Th;exact Ths.of h
 have Y:=(Th.ok U _ t).eq J;have Z:A9 (.lst [])=true:=by decide +kernel
 have:A1 (.lst ds) (.lst [])=if A9 (.lst ds)&&A9 (.lst []) then some (.bl (!PyData.eqv (D.py (.lst ds)) (D.py (.lst [])))) else none:=rfl
 rw[this,Y,Z,EG];rfl
def Dq (bs:List Bool):ek (.bl false) (.lst (bs.map .bl))=some (.bl (!bs.all id))/\ez (.bl false) (.lst (bs.map .bl))=some (.bl (bs.all id)):=by
 have h1:A9 (.bl false)=true:=rfl;have h2:A9 (.lst (bs.map .bl))=true:=by
  have:=Ok.lst (OkL.all (k:=0) (n:=0) (ds:=bs.map D.bl) (fun d Y=>by
   obtain⟨b,_,rfl⟩:=Qh.mp Y;exact Ok.bl b))
  exact this.eq
 have U:az (.bl false) (bs.map .bl) = !bs.all id:=by
  clear h2;induction bs with
  |nil=>rfl
  |cons b r J=>
   simp only[PM,az,D.pys,D.py,SE,Se] at J ⊢;cases b
   .rfl
   .simpa [PyData.eqv] using J
 constructor
 .simp only[ek,bw,h1,h2,QM,Qs,id,U]
 .simp only[ez,bw,h1,h2,QM,Qs,U,Bool.not_not]
end DL
namespace T
open PySem L2 DL
def Lk (d:D) (fs:vO_) (h:thing d=true):n9 (l8 (j8 (j4 (A2 "int") (dL 0)))) (j8 (j4 (A2 "bool") (dL 0))) #[[.v d],fs]=some (!DL.whole d,#[[.v d],fs]):=by
 cases d with
 |feed=>cases h
 |scr _=>cases h
 |fn _=>cases h
 |exc _ _=>cases h
 |non=>simp![d7,qu,D2,DL.whole]
 |bl _=>simp![d7,qm,D2,DL.whole]
 |int _=>simp![d7,jJ,D2,DL.whole]
 |str _=>simp![d7,pw,D2,DL.whole]
 |tup _=>simp![d7,X3,D2,DL.whole]
 |lst _=>simp![d7,rE,D2,DL.whole]
abbrev Z7:c8:=uf gA
def Oh :decide (ds.filter (fun d=>!DL.whole d)=[])=ds.all DL.whole:=by
 rw[RC,Tj,List.filter_eq_nil_iff,QC];simp
def NC {b:Nat}(d:D) (fs:vO_) (h:Th b k d) (hb:b<=1900) (hk:k<=60) (hs:bk d<=1000000):Z7 [d] fs=some (.bl (E5 d),fs):=by
 refine v5 (s:=#[[.v d],fs]) ?_;show bM gA #[[.v d],fs]=_;have J:=h.thing;cases d with
 |feed=>cases J
 |scr _=>cases J
 |fn _=>cases J
 |exc _ _=>cases J
 |non=>simp![bM,B4,B7,C6,C7,C9,D0,C8,qu,D2,E5]
 |bl _=>simp![bM,B4,B7,C6,C7,C9,D0,C8,qm,D2,E5]
 |int _=>simp![bM,B4,B7,C6,C7,C9,D0,C8,jJ,D2,E5]
 |str _=>simp![bM,B4,B7,C6,C7,C9,D0,C8,pw,D2,E5]
 |lst _=>simp![bM,B4,B7,C6,C7,C9,D0,C8,rE,D2,E5]
 |tup ds=>
  obtain⟨ht,hl⟩:=Th.subs h hs ds rfl;have hpt:=Th.part h;by_cases hz:ds.length=3
  .have Z:(ds.length:Int)=3:=by omega
   have cf:=BS (fc:=n9 (l8 (j8 (j4 (A2 "int") (dL 0)))) (j8 (j4 (A2 "bool") (dL 0)))) [] (fun d=>!DL.whole d) fs ds (fun d hd=>Lk d fs (ht d hd));have hc:F5 [] (M8 (dV 0)) (n9 (l8 (j8 (j4 (A2 "int") (dL 0)))) (j8 (j4 (A2 "bool") (dL 0)))) (dV 0) #[[.v 'm'],fs]=some (ds.filter (fun d=>!DL.whole d),#[[.v 'm'],fs]):=by
    simp only[F5,M8,dV,VL,xu,iR hl,Q5,Rj] at cf ⊢;rw[cf];rfl
   have ne:=kT (ds.filter (fun d=>!DL.whole d)) (fun d hd=>hpt d (TC.mp hd).1) ∅ ∅;rw[Oh] at ne;have s0:(0:Nat)<=sizeLine:=by decide
   unfold bM;rw[w6 (s1:=#[[.v 'm'],fs]) (by simp![d7,X3,D2,T6,Z])];cases U:ds.all DL.whole
   .rw[U] at ne;have:E5 'm'=false:=by rw[<-nR];simp[Q4,U]
    rw[this];refine D7 ?_;generalize (F5 [] (M8 (dV 0)) (n9 (l8 (j8 (j4 (A2 "int") (dL 0)))) (j8 (j4 (A2 "bool") (dL 0)))) (dV 0))=F at *;generalize ds.filter (fun d=>!DL.whole d)=L at *;simp![d7,hc,ne]
   .rw[U] at ne;obtain⟨d1,d2,d3,rfl⟩:=BQ hz;simp only[Se,Vx,UA,Qe] at U;obtain⟨x,rfl⟩:=dG U.1;obtain⟨y,rfl⟩:=dG U.2.1;obtain⟨c,rfl⟩:=dG U.2.2;generalize (F5 [] (M8 (dV 0)) (n9 (l8 (j8 (j4 (A2 "int") (dL 0)))) (j8 (j4 (A2 "bool") (dL 0)))) (dV 0))=F at *;generalize List.filter (fun d=>!DL.whole d) [D.int x,D.int y,D.int c]=L at *;by_cases hc1:c<1
    .have Y:¬ 1<=c:=by omega
     refine D7 ?_;simp![B4,B7,C6,C7,C9,D0,C8,hc,ne,lN,hc1,E5,Y]
    .have Y:1<=c:=by omega
     rw[w6 (s1:=#[[.v (.tup [.int x,.int y,.int c])],fs]) (by simp![B4,B7,C6,C7,C9,D0,C8,hc,ne,lN,hc1])];have g1:=nk x y fs;have g2:=nk (Int.gcd x y:Int) c fs;refine A0 ?_;have e:decide ((Int.gcd (Int.gcd x y:Int) c:Int)=1)=decide (Int.gcd (Int.gcd x y:Int) c=1):=by rw[RC];simp;omega
     simp![B4,B7,C6,C7,C9,D0,C8,sZ,sS,lN,g1,g2,aq,E5,Y,e]
  .have Z:¬ (ds.length:Int)=3:=by omega
   have:E5 'm'=false:=by rw[<-nR];simp[Q4,hz]
   rw[this];simp![bM,B4,B7,C6,C7,C9,D0,C8,X3,D2,T6,Z]
def gO (S:vD_):D->D
 |.int k=>.tup [(S[k.toNat]?).getD .non,(S[(k.toNat+1) % S.length]?).getD .non]
 |_=>.non
def EK (S:vD_) (fs:vO_):∀d∈B3 0 S.length,∃s,i7 (a7 (a9 d7 's' (dL 0)) (a7 (a9 d7 's' (a9 J0 (a9 k6 (dL 0) (Wk 1)) (i9 (one j6) (a7 's' a8)))) a8)) #[.v d::[.v (.tup S)],fs]=some (gO S d,s)/\s.fs=fs:=by
 intro d Z;obtain⟨i,hi⟩:=Ru Z;obtain⟨rfl,U⟩:=dH hi;rw[TB];have J:(i+1) % S.length<S.length:=QN _ ∅;have Y:D9 S (i:Int)=some S[i]:=sC (xs:=S) (i:=i) (x:=S[i]) (by rw[Qf ∅]);have fm:((i:Int)+1).fmod (S.length:Int)=(((i+1) % S.length:Nat):Int):=by
  rw[Ur _ ∅];simp
 have a2:D9 S (((i:Int)+1).fmod (S.length:Int))=some S[(i+1) % S.length]:=by
  rw[fm];exact sC (xs:=S) (i:=(i+1) % S.length) (x:=S[(i+1) % S.length]) (by rw[Qf J])
 have n0:¬ (S.length:Int)=0:=by omega
 refine#[#[[.v 'u',.v (.tup S)],fs],?_,rfl];have eg:gO S 'u' = .tup [S[i],S[(i+1) % S.length]]:=by
  simp only[gO,QT];rw[Qf ∅,Qf J];rfl
 rw[eg];have pm:J0 (.int ((i:Int)+1)) (.int (S.length:Int))=some (.int (((i:Int)+1).fmod (S.length:Int))):=by simp only[J0,ne_eq,n0,not_false_eq_true,Qs]
 generalize S[i]=x at *;generalize S[(i+1) % S.length]=y at *;generalize ((i:Int)+1).fmod (S.length:Int)=z at *;simp![B4,B7,C6,C7,C9,D0,C8,Y,a2,pm,yC]
def Gi (ds:vD_):(B3 0 ds.length).map (gO ds)=(k9 true ds).map dP:=by
 have U:(k9 true ds).length=ds.length:=by
  rw[me];simp only[Qs];omega
 apply UW;intro i;by_cases hi:i<(k9 true ds).length
 .obtain⟨a,b,Y,Z,q3⟩:=CN hi;have u:(B3 0 ds.length)[i]? = some 'u':=by
   unfold B3;rw[Qy,List.getElem?_range ∅];simp
  rw[Qy,u,Qy,q3];simp only[US,gO,QT,Y,Z];rfl
 .have J:(k9 true ds).length<=i:=by omega
  rw[UI (by rw[PH];unfold B3;rw[PH,List.length_range];omega)];rw[UI (by rw[PH];exact J)]
def Ka (ds:vD_) (fs:vO_) (hl:ds.length<=1000000):V7 [.tup ds] fs=some (.lst ((k9 true ds).map dP),fs):=by
 have J:=gU (idx:=[0]) (g:=gO ds) [.v 'm'] fs (B3 0 ds.length) (EK ds fs);rw[Gi] at J;have rg:T8 [.int (ds.length:Int)]=some (B3 0 ds.length):=bR ∅;have hz:(B3 0 ds.length).length<=sizeLine:=by
  unfold B3;rw[PH,List.length_range,QR];omega
 have Z:a7 'n' a8 #[[.v 'm'],fs]=some ([.int (ds.length:Int)],#[[.v 'm'],fs]):=by
  simp![d7]
 have Y:R8 (a7 'n' a8) #[[.v 'm'],fs]=some (B3 0 ds.length,#[[.v 'm'],fs]):=by
  unfold R8;rw[Z,xu];show (T8 [.int (ds.length:Int)]).map _=_;rw[rg];rfl
 have U:F5 [0] (R8 (a7 'n' a8)) F4 (i7 (a7 (a9 d7 's' (dL 0)) (a7 (a9 d7 's' (a9 J0 (a9 k6 (dL 0) (Wk 1)) (i9 (one j6) (a7 's' a8)))) a8))) #[[.v 'm'],fs]=some ((k9 true ds).map dP,#[[.v 'm'],fs]):=by
  unfold F5;rw[Y,xu];simp only[iR hz];have cp:Q5 [0] [Sl.v 'm']=[.v 'm']:=rfl;rw[cp,J];rfl
 refine v5 (s:=#[[.v 'm'],fs]) ?_;show pQ #[[.v 'm'],fs]=_;unfold pQ;refine A0 ?_;generalize (F5 [0] (R8 (a7 'n' a8)) F4 (i7 (a7 (a9 d7 's' (dL 0)) (a7 (a9 d7 's' (a9 J0 (a9 k6 (dL 0) (Wk 1)) (i9 (one j6) (a7 's' a8)))) a8))))=F at *;generalize (k9 true ds).map dP=W at *;simp[l5,U]
def bQ {i:Int}(h:D9 ds i=some d):d7 (.lst ds) (.int i)=some d:=(B7 ds i).trans h
def gK {s:DS}{R:vD_}(h:fi s=some (ds,s1)) (hz:ds.length<=sizeLine) (c:G1 (fun d=>some (.v d::Q5 idx s1.sl)) fc fe ds s1.fs=some (R,fs')):F5 idx fi fc fe s=some (R,{ s1 with fs:=fs' }):=by
 unfold F5;rw[h,xu,iR hz,c];rfl
def cr (a b:Pt):Rat:=a.1*b.2 - a.2*b.1
def qU {a:Int}{g:Nat}:(a.fdiv (g:Int)).natAbs<=a.natAbs:=by
 rw[VA _ ∅];exact Wh a g
def LD (x y:Int) {d:Int}(h:1<=d):(pX (Rat.divInt x d,Rat.divInt y d)).natAbs<=x.natAbs/\(pY (Rat.divInt x d,Rat.divInt y d)).natAbs<=y.natAbs/\(pL (Rat.divInt x d,Rat.divInt y d)).natAbs<=d.natAbs:=by
 obtain⟨U,p1,p2,J⟩:=kW x y d ∅;rw[iU ∅] at p1 p2 J;rw[<-p1,<-p2,<-J];exact#[qU,qU,qU]
abbrev oG:c8:=Bc fQ
def BP {i j:Nat}{f:DA}{s s1 s2:DS}{a b:D}(h:f s=some ([a,b],s1)) (e:{ s1 with sl:=(s1.sl.set i (.v a)).set j (.v b) }=s2):u6 i j f s=some (.next,s2):=by
 unfold u6;rw[h,<-e];rfl
def cT {i:Nat}{f:DA}{s s1 s2:DS}{ds:vD_}(h:f s=some (ds,s1)) (hi:i<s1.sl.length) (e:{ s1 with sl:=s1.sl.set i (.own ds) }=s2):E3 i f s=some (.next,s2):=by
 unfold E3;rw[h,xu,iR hi,<-e]
def bW {s:DS}(h:f s=some (ds,s1)) (hz:ds.length<=sizeLine):n8 f s=some (ds,s1):=by
 unfold n8;rw[h,xu,iR hz]
def AZ {s:DS}(h:f s=some (ds,s1)) (hz:ds.length<=sizeLine):i7 f s=some (.tup ds,s1):=by
 unfold i7;rw[h,xu,iR hz]
def T7 {p q:DE}{s:DS}{x:D}{w:Bool}(h1:p s=some (x,s1)) (h2:q s1=some (y,s2)) (J:A1 x y=some (.bl w)):dB (a9 A1 p q) s=some (w,s2):=by
 unfold dB;rw[d8 h1 h2 J];rfl
def br {a b:DT}{s:DS}(h1:a s=some (false,s1)) (h2:b s1=some (false,s2)):n9 a b s=some (false,s2):=by
 unfold n9;rw[h1,xu];exact h2
def C5 {p:List D->Option D}{a:DA}{s:DS}{xs:vD_}(J:a s=some (xs,s1)) (U:p xs=some d):i9 p a s=some (d,s1):=by
 unfold i9;rw[J,xu,U];rfl
def kU {s:DS}(h:f s=some (ds,s1)):l5 f s=some (.lst ds,s1):=by
 unfold l5;rw[h];rfl
abbrev fv (x y l:Int):D:=.tup [.int x,.int y,.int l]
def wW {x y l Y U J:Int}(fs:vO_) (hx:Bd k x) (hy:Bd k y) (hl:Bd k l) (hx':Bd k Y) (Z:Bd k U) (hl':Bd k J) (hk:k<=2000):kN [fv x y l,fv Y U J] fs=some (fv (y*J - l*U) (l*Y - x*J) (x*U - y*Y),fs):=by
 have b1:=hx.bits ∅;have b2:=hy.bits ∅;have b3:=hl.bits ∅;have c1:=hx'.bits ∅;have c2:=Z.bits ∅;have c3:=hl'.bits ∅;refine v5 (s:=#[[.v (fv x y l),.v (fv Y U J)],fs]) (A0 ?_);exact mO (d8 (d8 'e' 'e' (T1 b2 c3)) (d8 'e' 'e' (T1 b3 c2)) rfl) (d8 (d8 'e' 'e' (T1 b3 c1)) (d8 'e' 'e' (T1 b1 c3)) rfl) (d8 (d8 'e' 'e' (T1 b1 c2)) (d8 'e' 'e' (T1 b2 c1)) rfl)
abbrev eK:c8:=uZ kN
def O5 (a b:Pt):Int:=pY a*pL b - pL a*pY b
def O6 (a b:Pt):Int:=pL a*pX b - pX a*pL b
def S0 (a b:Pt):Int:=pX a*pY b - pY a*pX b
abbrev G5 (a b:Pt):D:=fv (O5 a b) (O6 a b) (S0 a b)
def jU {b:Pt}(U:Ps k a) (J:Ps k b):Bd (k+k+1) (O5 a b)/\Bd (k+k+1) (O6 a b)/\Bd (k+k+1) (S0 a b):=
 #[((U.y.mul J.l).sub (U.l.mul J.y)).mono ∅,((U.l.mul J.x).sub (U.x.mul J.l)).mono ∅,((U.x.mul J.y).sub (U.y.mul J.x)).mono ∅]
def zZ {b:Pt}(fs:vO_) (U:Ps k a) (J:Ps k b) (Y:k<=900):eK [pt a,pt b] fs=some (G5 a b,fs):=by
 have e:=wW fs U.x U.y U.l J.x J.y J.l ∅;exact v5 (s:=#[[.v (pt a),.v (pt b)],fs]) (A0 (w5 rfl e))
theorem vf {q a b:Rat}(Y:q≠0) (J:b≠0):(q*a) / (q*b)=a / b:=by
 have U:q*b≠0:=fun z=>by
  rcases QA.mp z with z | z
  .exact Y z
  .exact J z
 have e1:=Uu (a:=q*a) U;have Z:=Uu (a:=a) J;have:(q*a / (q*b) - a / b)*(q*b)=0:=by grind
 rcases QA.mp this with z | z
 .grind
 .exact absurd z U
theorem uJ {b c d:Pt}(U:P5 (E8 a b) (E8 c d)≠0):O5 a b*O6 c d - O6 a b*O5 c d≠0/\(Rat.divInt (O6 a b*S0 c d - S0 a b*O6 c d) (O5 a b*O6 c d - O6 a b*O5 c d),Rat.divInt (S0 a b*O5 c d - O5 a b*S0 c d) (O5 a b*O6 c d - O6 a b*O5 c d))=bK a b c d:=by
 have P:(pL a:Rat)*pL b*(pL c*pL d)≠0:=fun z=>by
  rcases QA.mp z with z | z
  .rcases QA.mp z with z | z
   .exact fD a z
   .exact fD b z
  .rcases QA.mp z with z | z
   .exact fD c z
   .exact fD d z
 have J:((O5 a b*O6 c d - O6 a b*O5 c d:Int):Rat)=((pL a:Rat)*pL b*(pL c*pL d))*P5 (E8 a b) (E8 c d):=by
  unfold O5 O6 P5 E8;simp only[RP,Qw,bj,bV];grind
 have Z:((O6 a b*S0 c d - S0 a b*O6 c d:Int):Rat)=((pL a:Rat)*pL b*(pL c*pL d))*cX a b c d:=by
  unfold O6 S0 cX;simp only[RP,Qw,bj,bV];grind
 have Y:((S0 a b*O5 c d - O5 a b*S0 c d:Int):Rat)=((pL a:Rat)*pL b*(pL c*pL d))*dD a b c d:=by
  unfold O5 S0 dD;simp only[RP,Qw,bj,bV];grind
 refine#[fun z=>?_,?_]
 .rw[z] at J;rcases QA.mp J.symm with q | q
  .exact P q
  .exact U q
 .unfold bK;rw[RO,RO,J,Z,Y,vf P U,vf P U]
def MA {b c d:Pt}(ha:Ps k a) (hb:Ps k b) (hc:Ps k c) (hd:Ps k d) (hW:P5 (E8 a b) (E8 c d)≠0):PtS (4*k+3) (bK a b c d):=by
 obtain⟨h1,h2,Y⟩:=jU ha hb;obtain⟨U,J,Z⟩:=jU hc hd;obtain⟨hz,q⟩:=uJ hW;rw[<-q];exact#[Sz.of_divInt hz (((h2.mul Z).sub (Y.mul J)).mono ∅) (((h1.mul J).sub (h2.mul U)).mono ∅),Sz.of_divInt hz (((Y.mul U).sub (h1.mul Z)).mono ∅) (((h1.mul J).sub (h2.mul U)).mono ∅)]
abbrev fq:c8:=sR FL kN
def Hf {b c d:Pt}(fs:vO_) (ha:Ps k a) (Y:Ps k b) (hc:Ps k c) (hd:Ps k d) (hk:k<=400) (hW:P5 (E8 a b) (E8 c d)≠0):fq [G5 a b,G5 c d] fs=some (pt (bK a b c d),fs):=by
 refine gB_ fun G_ g_=>?_
 obtain⟨h1,h2,h3⟩:=jU ha Y;obtain⟨J,U,Z⟩:=jU hc hd;have e:=wW fs h1 h2 h3 J U Z ∅;obtain⟨hz,q⟩:=uJ hW;have l:=Gn (O6 a b*S0 c d - S0 a b*O6 c d) (S0 a b*O5 c d - O5 a b*S0 c d) (O5 a b*O6 c d - O6 a b*O5 c d) fs hz ((h1.mul U).sub (h2.mul J)) ∅;rw[q] at l;apply g_;exact v5 (s:=#[[.v (G5 a b),.v (G5 c d)],fs]) (A0 (w5 (D3 (w5 rfl e) rfl) l))
def AF (x:Rat):F8 (u3 x)=true:=by
 unfold u3;split
 .decide
 .split <;> decide
theorem xV (a b u w:Pt):P5 (E8 a b) (E8 u w)=b9 a b w - b9 a b u:=by unfold P5 E8 b9;grind
theorem LV {b u w:Pt}(h:b9 a b u*b9 a b w<0):P5 (E8 a b) (E8 u w)≠0/\bK a b u w=xq a b u w:=by
 have J:b9 a b w - b9 a b u≠0:=fun z=>by
  have e:b9 a b w=b9 a b u:=by grind
  rw[e] at h;have:=aO (b9 a b u);grind
 refine#[by rw[xV];exact J,?_];have U:b9 a b u - b9 a b w≠0:=by grind
 unfold bK xq w9;rw[xV];have s:b9 a b u / (b9 a b u - b9 a b w) = -b9 a b u / (b9 a b w - b9 a b u):=by
  rw[QG,QG];grind
 rw[s];refine Qm ?_ ?_
 .show cX a b u w / (b9 a b w - b9 a b u)=u.1 + -b9 a b u / (b9 a b w - b9 a b u)*(w.1 - u.1);have e:cX a b u w=u.1*(b9 a b w - b9 a b u) - b9 a b u*(w.1 - u.1):=by unfold cX b9;grind
  rw[e,QG,QG];generalize b9 a b w - b9 a b u=W at *;grind
 .show dD a b u w / (b9 a b w - b9 a b u)=u.2 + -b9 a b u / (b9 a b w - b9 a b u)*(w.2 - u.2);have e:dD a b u w=u.2*(b9 a b w - b9 a b u) - b9 a b u*(w.2 - u.2):=by unfold dD b9;grind
  rw[e,QG,QG];generalize b9 a b w - b9 a b u=W at *;grind
theorem aC (x:Rat):u3 x = -1↔x<0:=by
 unfold u3;by_cases h:0<x
 .rw[iR h];exact#[fun z=>absurd z #[],fun z=>by grind]
 .rw[iU h];by_cases h2:x<0
  .rw[iR h2];exact#[fun _=>h2,fun _=>rfl]
  .rw[iU h2];exact#[fun z=>absurd z #[],fun z=>absurd z h2]
theorem AR (x:Rat):(0<x/\u3 x=1)\/(x<0/\u3 x = -1)\/(x=0/\u3 x=0):=by
 unfold u3;by_cases h:0<x
 .rw[iR h];exact .inl #[h,rfl]
 .rw[iU h];by_cases h2:x<0
  .rw[iR h2];exact .inr (.inl #[h2,rfl])
  .rw[iU h2];exact .inr (.inr #[by grind,rfl])
theorem W3 (x y:Rat):u3 x*u3 y = -1↔x*y<0:=by
 rcases AR x with ⟨a,e⟩ | ⟨a,e⟩ | ⟨a,e⟩ <;> rcases AR y with ⟨b,J⟩ | ⟨b,J⟩ | ⟨b,J⟩ <;> rw[e,J]
 .have:=PR a b;exact#[fun z=>absurd z #[],fun z=>by grind]
 .have:=PR a (show 0 < -y by grind);exact#[fun _=>by grind,fun _=>rfl]
 .rw[b];exact#[fun z=>absurd z #[],fun z=>by grind]
 .have:=PR (show 0 < -x by grind) b;exact#[fun _=>by grind,fun _=>rfl]
 .have:=PR (show 0 < -x by grind) (show 0 < -y by grind);exact#[fun z=>absurd z #[],fun z=>by grind]
 .rw[b];exact#[fun z=>absurd z #[],fun z=>by grind]
 .rw[a];exact#[fun z=>absurd z #[],fun z=>by grind]
 .rw[a];exact#[fun z=>absurd z #[],fun z=>by grind]
 .rw[a];exact#[fun z=>absurd z #[],fun z=>by grind]
def P0 (a b:Pt) (q:Pt × Pt):List Pt:=(if u3 (b9 a b q.1) = -1 then [] else [q.1])++(if u3 (b9 a b q.1)*u3 (b9 a b q.2) = -1 then [xq a b q.1 q.2] else [])
def D6 (a b:Pt) (J:List (Pt × Pt)):List Pt:=J.flatMap (P0 a b)
def sO (a b:Pt) (q:Pt × Pt):(P0 a b q).length<=2:=by
 unfold P0;rw[Qo];split <;> split <;> simp
theorem uo (a b:Pt):∀qs:List (Pt × Pt),(D6 a b qs).length<=2*qs.length
 |[]=>tx _
 |q::r=>by
  have h:=uo a b r;have h1:=sO a b q;unfold D6 at *;rw[Tz,Qo,PX];omega
abbrev N6:c8:=tU kf
abbrev iH:c8:=yw P7 fq eK N6
abbrev qS (x0:Sl) (a b:Pt) (ln:D) (acc:vT_) (x5 x6 x7:Sl) (fs:vO_):DS:=#[[x0,.v (pt a),.v (pt b),.v ln,.own (acc.map pt),x5,x6,x7],fs]
def GN {b u w:Pt}(Y x7:Sl) (U:vT_) (fs:vO_) (ha:PtS 120 a) (hb:PtS 120 b) (hu:PtS 120 u) (hw:PtS 120 w) (hl:U.length<=1000) :
  kM P7 fq eK N6 (qS Y a b (G5 a b) U (.v (pt u)) (.v (pt w)) x7 fs)=some (.next,qS Y a b (G5 a b) (U++P0 a b (u,w)) (.v (pt u)) (.v (pt w)) 'v' fs):=by
 have t1:=kA a b u fs ha.ps hb.ps hu.ps #[];have t2:=kA a b w fs ha.ps hb.ps hw.ps #[];have Z:=AF (b9 a b u);have bits2:=AF (b9 a b w);have ls:∀l:List Pt,l.length<=1001->(l.map pt).length<sizeLine:=fun l h=>by rw[PH];exact Qz h #[]
 unfold kM;rw[w6 (s1:=qS Y a b (G5 a b) U (.v (pt u)) (.v (pt w)) 'v' fs) (C0 (w5 rfl t1) rfl)];have c1:dB (a9 A1 (dL 7) (j4 o9 (Wk 1))) (qS Y a b (G5 a b) U (.v (pt u)) (.v (pt w)) 'v' fs)=some (!decide (u3 (b9 a b u) = -1),qS Y a b (G5 a b) U (.v (pt u)) (.v (pt w)) 'v' fs):=B6 (d8 rfl rfl (T6 _ (-1)));have st:∀J:List Pt,J.length<=1001->j7 (dB (a9 F7 (a9 w8 (dL 7) (d9 P7 (a7 (dV 1) (a7 (dV 2) (a7 (dV 6) a8))))) (j4 o9 (Wk 1)))) (N8 4 (d9 fq (a7 (dV 3) (a7 (d9 eK (a7 (dV 5) (a7 (dV 6) a8))) a8)))) j9 (qS Y a b (G5 a b) J (.v (pt u)) (.v (pt w)) 'v' fs)
   = some (.next,qS Y a b (G5 a b) (J++(if u3 (b9 a b u)*u3 (b9 a b w) = -1 then [xq a b u w] else [])) (.v (pt u)) (.v (pt w)) 'v' fs):=fun J h1=>by
  have c2:dB (a9 F7 (a9 w8 (dL 7) (d9 P7 (a7 (dV 1) (a7 (dV 2) (a7 (dV 6) a8))))) (j4 o9 (Wk 1))) (qS Y a b (G5 a b) J (.v (pt u)) (.v (pt w)) 'v' fs)=some (decide (u3 (b9 a b u)*u3 (b9 a b w) = -1),qS Y a b (G5 a b) J (.v (pt u)) (.v (pt w)) 'v' fs):=
   B6 (d8 (d8 rfl (w5 rfl t2) (T1 Z bits2)) rfl (aq _ (-1)))
  by_cases h:u3 (b9 a b u)*u3 (b9 a b w) = -1
  .rw[PU h] at c2;rw[G2 c2,iR h];obtain⟨q1,q2⟩:=LV ((W3 _ _).mp h);have e1:=zZ fs hu.ps hw.ps #[];have e2:=Hf fs ha.ps hb.ps hu.ps hw.ps #[] q1;rw[q2] at e2;have:=Y4 (i:=4) (s:=qS Y a b (G5 a b) J (.v (pt u)) (.v (pt w)) 'v' fs) (s1:=qS Y a b (G5 a b) J (.v (pt u)) (.v (pt w)) 'v' fs) (ds:=J.map pt) (ds0:=J.map pt) (d:=pt (xq a b u w)) (f:=d9 fq (a7 (dV 3) (a7 (d9 eK (a7 (dV 5) (a7 (dV 6) a8))) a8))) rfl (w5 (t9 rfl (t9 (w5 rfl e1) rfl)) e2) rfl (ls J h1);rw[this];show _=some (Fl.next,qS Y a b (G5 a b) (J++[xq a b u w]) (.v (pt u)) (.v (pt w)) 'v' fs);unfold qS;rw[Tt];rfl
  .rw[PY h] at c2;rw[dW c2,iU h,QB];rfl
 unfold P0;by_cases h:u3 (b9 a b u) = -1
 .rw[PU h] at c1;rw[w6 (D8 c1),st U ∅];show _=some (Fl.next,qS Y a b (G5 a b) (U++((if u3 (b9 a b u) = -1 then [] else [u])++_)) _ _ _ fs);rw[iR h,QW]
 .rw[PY h] at c1;have ap:j7 (dB (a9 A1 (dL 7) (j4 o9 (Wk 1)))) (N8 4 (dV 5)) j9 (qS Y a b (G5 a b) U (.v (pt u)) (.v (pt w)) 'v' fs)=some (.next,qS Y a b (G5 a b) (U++[u]) (.v (pt u)) (.v (pt w)) 'v' fs):=by
   rw[G2 c1];have:=Y4 (i:=4) (s:=qS Y a b (G5 a b) U (.v (pt u)) (.v (pt w)) 'v' fs) (s1:=qS Y a b (G5 a b) U (.v (pt u)) (.v (pt w)) 'v' fs) (ds:=U.map pt) (ds0:=U.map pt) (d:=pt u) (f:=dV 5) rfl rfl rfl (ls U ∅);rw[this];unfold qS;rw[Tt];rfl
  rw[w6 ap,st (U++[u]) (by rw[Qo,RG];omega)];show _=some (Fl.next,qS Y a b (G5 a b) (U++((if u3 (b9 a b u) = -1 then [] else [u])++_)) _ _ _ fs);rw[iU h,So]
theorem sE {b:Pt}(J:Sl) (fs:vO_) (Y:PtS 120 a) (U:PtS 120 b):∀(qs:List (Pt × Pt)) (acc:vT_) (x5 x6 x7:Sl),(∀q∈qs,PtS 120 q.1/\PtS 120 q.2)->acc.length+2*qs.length<=1000->∃y5 y6 y7,C3 (r8 2 (o6 (f9 5) (o6 (f9 6) t6))) (kM P7 fq eK N6) (qs.map fun q=>.tup [pt q.1,pt q.2]) (qS J a b (G5 a b) acc x5 x6 x7 fs)=some (.next,qS J a b (G5 a b) (acc++D6 a b qs) y5 y6 y7 fs)
 |[],acc,x5,x6,x7,_,_=>#[x5,x6,x7,by unfold D6;rw[List.flatMap_nil,QB];rfl]
 |q::r,acc,x5,x6,x7,h,hl=>by
  obtain⟨h1,h2⟩:=h q (PD ..);rw[PX] at hl;have l1:=sO a b q;obtain⟨y5,y6,y7,e⟩:=sE J fs Y U r (acc++P0 a b q) (.v (pt q.1)) (.v (pt q.2)) (.v (.int (u3 (b9 a b q.1)))) (fun z Z=>h z (Pz _ Z)) (by rw[Qo];omega);refine#[y5,y6,y7,?_];rw[PM,U6 (s1:=qS J a b (G5 a b) acc (.v (pt q.1)) (.v (pt q.2)) x7 fs) rfl (GN J x7 acc fs Y U h1 h2 ∅),e];unfold D6;rw[Tz,So]
def lZ {fd:vT_}(J:0<fd.length) (q:Pt × Pt):q∈k9 true fd↔∃k,q=(tk fd k,tk fd (k+1)):=by
 have l2:(fd.drop 1++fd.take 1).length=fd.length:=by rw[Qo,Qn,QS];omega
 have Y:∀i,i<fd.length->(fd.drop 1++fd.take 1)[i]? = some (tk fd (i+1)):=fun i hi=>by
  by_cases c:i+1<fd.length
  .rw[Rq (by rw[Qn];omega),Tu,Rt 1 i,Z3 c]
  .have Z:i+1=fd.length:=by omega
   rw[Rp (by rw[Qn];omega),Qn,show i - (fd.length - 1)=0 by omega,TK #[],Z3 J];rw[<-R3 (i+1),Z,Tv]
 unfold k9;simp only[Qs];constructor
 .intro h;obtain⟨i,hi⟩:=Ru h;have U:=(Qr.mp hi).1;rw[UB,l2,Nat.min_self] at U;rw[SA] at hi;refine#[i,Qm ?_ ?_]
  .have:=hi.1;rw[Z3 U] at this;exact(Qi this).symm
  .have:=hi.2;rw[Y i U] at this;exact(Qi this).symm
 .rintro⟨k,rfl⟩;have kl:=QN k J;refine Rr (i:=k % fd.length) (SA.mpr #[pA J,?_]);rw[Y _ kl];show some (tk fd (k % fd.length+1))=some (tk fd (k+1));rw[<-R3 (k % fd.length+1),Tw,R3]
def ji (K:vT_):Prop:=∀q∈k9 true K,∀k∈K,0<=b9 q.1 q.2 k
theorem cU {b o w:Pt}(h:b9 a b o*b9 a b w<0):b9 a b (xq a b o w)=0:=by
 have n:b9 a b o - b9 a b w≠0:=fun z=>by
  have e:b9 a b w=b9 a b o:=by grind
  rw[e] at h;have:=aO (b9 a b o);grind
 unfold xq;rw[nF];generalize b9 a b o=x at *;generalize b9 a b w=y at *;have J:(x - y)*(x - y)⁻¹=1:=UD _ n;rw[QG];grind
section
variable {K:vT_}{b:Pt}
def nQ {k:Pt}(J:k∈D6 a b (k9 true K)):(k∈K/\0<=b9 a b k)\/∃q∈k9 true K,b9 a b q.1*b9 a b q.2<0/\k=xq a b q.1 q.2:=by
 unfold D6 at J;obtain⟨q,U,J⟩:=UG.mp J;unfold P0 at J;rcases PQ.mp J with w | w
 .by_cases c:u3 (b9 a b q.1) = -1
  .rw[iR c] at w;cases w
  .rw[iU c] at w;rw[PV.mp w];exact .inl #[(V0 U).1,RQ.mp fun z=>c ((aC _).mpr z)]
 .by_cases c:u3 (b9 a b q.1)*u3 (b9 a b q.2) = -1
  .rw[iR c] at w;exact .inr #[q,U,(W3 _ _).mp c,PV.mp w]
  .rw[iU c] at w;cases w
theorem qY {u v:Pt}(h:∀k∈K,0<=b9 u v k):∀k∈D6 a b (k9 true K),0<=b9 u v k:=fun k U=>by
 rcases nQ U with ⟨m,_⟩ | ⟨q,J,c,rfl⟩
 .exact h k m
 .obtain⟨s,s0,s1,e⟩:=dM c;rw[e,nF];have Y:=PN (show 0<=1 - s by grind) (h _ (V0 J).1);have Z:=PN (QO s0) (h _ (V0 J).2);grind
def uv:∀k∈D6 a b (k9 true K),0<=b9 a b k:=fun k J=>by
 rcases nQ J with ⟨_,m⟩ | ⟨q,_,c,rfl⟩
 .exact m
 .rw[cU c];exact QX
def qO {k:Pt}(U:k∈K):∃w,(k,w)∈k9 true K:=by
 obtain⟨i,hi⟩:=Ru U;have Y:=(Qr.mp hi).1;have:i<(k9 true K).length:=by rw[me,iR rfl];omega
 have e:=Qf this;have z:=e;unfold k9 at z;have J:=(SA.mp z).1;rw[hi] at J;refine#[((k9 true K)[i]).2,?_];have:(k9 true K)[i]=(k,((k9 true K)[i]).2):=Qm (Qi J).symm rfl;rw[<-this];exact Rl _
def nq {k:Pt}(J:k∈K) (h:0<=b9 a b k):k∈D6 a b (k9 true K):=by
 obtain⟨w,U⟩:=qO J;refine UG.mpr #[_,U,?_];unfold P0;refine QH _ ?_;show k∈(if u3 (b9 a b k) = -1 then [] else [k]);rw[iU fun z=>absurd ((aC _).mp z) (RQ.mpr h)];simp
def qP (J:q∈k9 true K) (c:b9 a b q.1*b9 a b q.2<0):xq a b q.1 q.2∈D6 a b (k9 true K):=by
 refine UG.mpr #[q,J,?_];unfold P0;refine Qu _ ?_;rw[iR ((W3 _ _).mpr c)];simp
end
def W4 (G:Pt->Pt->Prop):Option Pt->List Pt->Prop
 |_,[]=>True
 |pv,x::r=>(∀z,pv=some z->G z x)/\W4 G (some x) r
def Y2:Option Pt->List Pt->Option Pt
 |pv,[]=>pv
 |_,x::r=>Y2 (some x) r
theorem qZ (G:Pt->Pt->Prop):∀(l m:vT_) (pv:Option Pt),W4 G pv l->W4 G (Y2 pv l) m->W4 G pv (l++m)
 |[],m,pv,_,h=>h
 |x::r,m,pv,h1,h2=>#[h1.1,qZ G r m (some x) h1.2 h2]
theorem qd:∀(l m:vT_) (pv:Option Pt),Y2 pv (l++m)=Y2 (Y2 pv l) m
 |[],m,pv=>rfl
 |x::r,m,pv=>qd r m (some x)
def bN:Pt->List (Pt × Pt)->Pt->Prop
 |o,[],e=>o=e
 |o,q::r,e=>q.1=o/\bN q.2 r e
theorem kG:∀(r:vT_) (o e:Pt),bN o ((o::r).zip (r++[e])) e
 |[],o,e=>#[rfl,rfl]
 |x::r,o,e=>#[rfl,kG r x e]
def iA (x:Pt) (r:vT_):k9 true (x::r)=(x::r).zip (r++[x]):=rfl
theorem pH (G:Pt->Pt->Prop):∀(r:vT_) (x e:Pt),W4 G (some x) r->(∀z,Y2 (some x) r=some z->G z e)->∀q∈(x::r).zip (r++[e]),G q.1 q.2
 |[],x,e,_,h,q,hq=>by
  have:q=(x,e):=by simpa using hq
  rw[this];exact h x rfl
 |y::r,x,e,h1,h2,q,hq=>by
  rcases xo.mp hq with rfl | hq
  .exact h1.1 x rfl
  .exact pH G r y e h1.2 h2 q hq
section
variable {K:vT_}{b:Pt}(ab:a≠b) (C:ji K)
def eE (K:vT_) (a b r s:Pt):Prop:=∀k∈D6 a b (k9 true K),0<=b9 r s k
def Lv (K:vT_) (a b z:Pt):Prop:=∀s∈D6 a b (k9 true K),b9 a b s=0->eE K a b z s
def lT (K:vT_) (a b:Pt) (J:Option Pt) (o:Pt):Prop:=∀z,J=some z->(0<=b9 a b o->eE K a b z o)/\(b9 a b o<0->Lv K a b z)
include ab C
theorem zy (hq:q∈k9 true K) {x:Pt}{s:Rat}(ex:x=w9 q.1 q.2 s) (Z:b9 a b x=0) (h:b9 a b q.2<b9 a b q.1):Lv K a b x:=by
 intro t ht h0 k U;have f:=qY (fun k U=>C q hq k U) t ht;have J:=uv k U;have D:((b.1 - a.1,b.2 - a.2):Pt)≠(0,0):=fun z=>ab (by
  have z1:b.1 - a.1=0:=congrArg Prod.fst z;have z2:b.2 - a.2=0:=congrArg Prod.snd z;exact Qm 'l' 'l')
 obtain⟨m,Y⟩:=dU (v:=(t.1 - x.1,t.2 - x.2)) D (by unfold gv b9 at *;grind);have m1:t.1 - x.1=m*(b.1 - a.1):=congrArg Prod.fst Y;have m2:t.2 - x.2=m*(b.2 - a.2):=congrArg Prod.snd Y;have e1:b9 x t k=m*b9 a b k:=by
  have:b9 x t k=(t.1 - x.1)*(k.2 - x.2) - (t.2 - x.2)*(k.1 - x.1):=rfl;rw[this,m1,m2];unfold b9 at Z ⊢;have:m*((b.1 - a.1)*(x.2 - a.2) - (b.2 - a.2)*(x.1 - a.1))=0:=by rw[Z,RR]
  grind
 have e2:b9 q.1 q.2 t=m*(b9 a b q.1 - b9 a b q.2):=by
  have z:b9 q.1 q.2 t=(q.2.1 - q.1.1)*(t.2 - x.2) - (q.2.2 - q.1.2)*(t.1 - x.1):=by
   rw[ex];unfold b9 w9;grind
  rw[z,m1,m2];unfold b9;grind
 rw[e2] at f;have mp:0<=m:=RQ.mp fun z=>by
  have:=PR (show 0 < -m by grind) (show 0<b9 a b q.1 - b9 a b q.2 by grind);grind
 rw[e1];exact PN mp J
theorem IC (hq:q∈k9 true K) {pv:Option Pt}(I:lT K a b pv q.1):W4 (eE K a b) pv (P0 a b q)/\lT K a b (Y2 pv (P0 a b q)) q.2:=by
 have F:∀k∈D6 a b (k9 true K),0<=b9 q.1 q.2 k:=qY (fun k Z=>C q hq k Z);obtain⟨m1,m2⟩:=V0 hq;unfold P0;by_cases U:b9 a b q.1<0
 .rw[iR ((aC _).mpr U),QW];by_cases Y:0<b9 a b q.2
  .have c:b9 a b q.1*b9 a b q.2<0:=by
    have:=PR (show 0 < -b9 a b q.1 by grind) Y;grind
   rw[iR ((W3 _ _).mpr c)];obtain⟨s,s0,s1,e⟩:=dM c;refine#[#[fun z J=>((I z J).2 U) _ (qP hq c) (cU c),trivial],fun z J=>?_];cases J;refine#[fun _ k Z=>?_,fun n=>absurd Y 'l'];rw[e];have:b9 (w9 q.1 q.2 s) q.2 k=(1 - s)*b9 q.1 q.2 k:=by unfold b9 w9;grind
   rw[this];exact PN 'l' (F k Z)
  .have nc:¬ u3 (b9 a b q.1)*u3 (b9 a b q.2) = -1:=fun z=>by
    have:=(W3 _ _).mp z;have:=PN (show 0 <= -b9 a b q.1 by grind) (show 0 <= -b9 a b q.2 by grind);grind
   rw[iU nc];refine#[trivial,fun z J=>#[fun n=>?_,fun n=>(I z J).2 U]];have z0:b9 a b q.2=0:=by grind
   exact(I z J).2 U _ (nq m2 n) z0
 .rw[iU fun z=>U ((aC _).mp z)];have U:0<=b9 a b q.1:=by grind
  by_cases Y:0<=b9 a b q.2
  .have nc:¬ u3 (b9 a b q.1)*u3 (b9 a b q.2) = -1:=fun z=>by
    have:=(W3 _ _).mp z;have:=PN U Y;grind
   rw[iU nc,QB];refine#[#[fun z J=>(I z J).1 U,trivial],fun z J=>?_];cases J;exact#[fun _=>F,fun n=>absurd Y 'l']
  .have Y:b9 a b q.2<0:=by grind
   by_cases oz:b9 a b q.1=0
   .have nc:¬ u3 (b9 a b q.1)*u3 (b9 a b q.2) = -1:=fun z=>by
     have:=(W3 _ _).mp z;rw[oz,Rm] at this;exact absurd this 'h'
    rw[iU nc,QB];refine#[#[fun z J=>(I z J).1 U,trivial],fun z J=>?_];cases J;exact#[fun n=>absurd Y 'l',fun _=>zy ab C hq (s:=0) (by rw[eQ]) oz 'l']
   .have c:b9 a b q.1*b9 a b q.2<0:=by
     have:=PR (show 0<b9 a b q.1 by grind) (show 0 < -b9 a b q.2 by grind);grind
    rw[iR ((W3 _ _).mpr c)];obtain⟨s,s0,s1,e⟩:=dM c;refine#[#[fun z J=>(I z J).1 U,#[fun z J=>?_,trivial]],fun z J=>?_]
    .cases J;intro k Z;rw[e];have:b9 q.1 (w9 q.1 q.2 s) k=s*b9 q.1 q.2 k:=by unfold b9 w9;grind
     rw[this];exact PN (QO s0) (F k Z)
    .cases J;exact#[fun n=>absurd Y 'l',fun _=>zy ab C hq e (cU c) 'l']
theorem rW:∀(es:List (Pt × Pt)) (o e:Pt) (pv:Option Pt),(∀q∈es,q∈k9 true K)->bN o es e->lT K a b pv o->W4 (eE K a b) pv (es.flatMap (P0 a b))/\lT K a b (Y2 pv (es.flatMap (P0 a b))) e
 |[],o,e,pv,_,p,I=>by
  have p:o=e:=p;subst p;exact#[trivial,I]
 |q::r,o,e,pv,hq,p,I=>by
  obtain⟨p1,p2⟩:=p;subst p1;obtain⟨J,Y⟩:=IC ab C (hq q (PD ..)) I;obtain⟨Z,U⟩:=rW r q.2 e _ (fun z hz=>hq z (Pz _ hz)) p2 Y;rw[Tz];exact#[qZ _ _ _ _ J Z,by rw[qd];exact U]
theorem Ib:ji (D6 a b (k9 true K)):=by
 cases K with
 |nil=>intro q J;cases J
 |cons o r=>
  have P:bN o (k9 true (o::r)) o:=by rw[iA];exact kG r o o
  obtain⟨U,I1⟩:=rW ab C _ o o none (fun q J=>J) P (fun z Z=>by cases Z);obtain⟨Y,_⟩:=rW ab C _ o o _ (fun q J=>J) P I1;have U:W4 (eE (o::r) a b) none (D6 a b (k9 true (o::r))):=U;have Y:W4 (eE (o::r) a b) (Y2 none (D6 a b (k9 true (o::r)))) (D6 a b (k9 true (o::r))):=Y;intro q J;show eE (o::r) a b q.1 q.2;cases e:D6 a b (k9 true (o::r)) with
  |nil=>rw[e] at J;cases J
  |cons x t=>
   rw[e] at J U Y;rw[iA] at J;exact pH _ t x x U.2 (fun z Z=>Y.1 z Z) q J
end
theorem qT {P:Pt->Prop}:∀(es:List (Pt × Pt)) (o e:Pt),bN o es e->(∀q∈es,P q.1->P q.2)->P o->(∀q∈es,P q.1)/\P e
 |[],o,e,p,_,h=>by
  have p:o=e:=p;subst p;exact#[fun q U=>(by cases U),h]
 |q::r,o,e,p,st,h=>by
  obtain⟨p1,p2⟩:=p;subst p1;obtain⟨a,b⟩:=qT r q.2 e p2 (fun z J=>st z (Pz _ J)) (st q (PD ..) h);refine#[fun z J=>?_,b];rcases xo.mp J with rfl | J
  .exact h
  .exact a z J
theorem AH {P:Pt->Prop}:∀(es:List (Pt × Pt)) (o e:Pt),bN o es e->(∀q∈es,P q.1->P q.2)->(∃q∈es,P q.1)->P e
 |[],o,e,_,_,⟨q,hq,_⟩=>by cases hq
 |q::r,o,e,p,st,⟨z,U,h⟩=>by
  obtain⟨p1,p2⟩:=p;have J:∀q∈r,P q.1->P q.2:=fun z U=>st z (Pz _ U)
  rcases xo.mp U with rfl | U
  .exact(qT r _ e p2 J (st _ (PD ..) h)).2
  .exact AH r q.2 e p2 J #[z,U,h]
def AX {P:Pt->Prop}{K:vT_}{x y:Pt}(U:x∈K) (px:P x) (hy:y∈K) (py:¬ P y):∃q∈k9 true K,P q.1/\¬ P q.2:=by
 cases K with
 |nil=>cases U
 |cons o r=>
  refine SI fun n=>?_
  have st:∀q∈k9 true (o::r),P q.1->P q.2:=fun q hq h=>SI fun z=>n #[q,hq,h,z]
  have J:bN o (k9 true (o::r)) o:=by rw[iA];exact kG r o o
  obtain⟨w,Z⟩:=qO U;obtain⟨v,Y⟩:=qO hy;have po:=AH _ o o J st #[_,Z,px];exact py ((qT _ o o J st po).1 _ Y)
section
variable {K:vT_}{b:Pt}
theorem iL {A l α β:Rat}{x:Pt}{e:Pt->Rat}(I:Ip K p) (hp:0<=b9 a b p) (Z:0<l) (hx:α*(x.1 - p.1)+β*(x.2 - p.2)<0)
  (U:∀z,e z=A*b9 a b z - l*(α*(z.1 - x.1)+β*(z.2 - x.2))) (pos:∀k∈K,0<=e k) (Y:∀k∈K,0<=b9 a b k->α*(k.1 - p.1)+β*(k.2 - p.2)<0):False:=by
 by_cases hA:0<=A
 .obtain⟨k,J,q⟩:=I α β;by_cases h:0<=b9 a b k
  .have:=Y k J h;grind
  .have z:=pos k J;rw[U] at z;have t:=PN hA (show 0 <= -b9 a b k by grind);have:α*(k.1 - x.1)+β*(k.2 - x.2)<=0:=RQ.mp fun w=>by
    have:=PR Z w;grind
   grind
 .obtain⟨k,J,q⟩:=I (A*(b.2 - a.2)+l*α) (-A*(b.1 - a.1)+l*β);have z:=pos k J;have ep:e p<0:=by
   rw[U];have t:=PN (show 0 <= -A by grind) hp;have u:=PR Z (show 0 < -(α*(x.1 - p.1)+β*(x.2 - p.2)) by grind);grind
  have d:(A*(b.2 - a.2)+l*α)*(k.1 - p.1)+(-A*(b.1 - a.1)+l*β)*(k.2 - p.2) = -(e k - e p):=by
   rw[U,U];unfold b9;grind
  rw[d] at q;grind
theorem CP (ab:a≠b) (C:ji K) (I:Ip K p) (hp:0<=b9 a b p):Ip (D6 a b (k9 true K)) p:=by
 intro α β;refine SI fun n=>?_
 have Z:∀k∈D6 a b (k9 true K),α*(k.1 - p.1)+β*(k.2 - p.2)<0:=fun k J=>RB.mp fun z=>n #[k,J,z]
 have Y:∀k∈K,0<=b9 a b k->α*(k.1 - p.1)+β*(k.2 - p.2)<0:=fun k J h=>Z k (nq J h)
 obtain⟨u,hu,cu⟩:∃u∈K,0<=b9 a b u:=by
  obtain⟨k,J,q⟩:=I (-(b.2 - a.2)) (b.1 - a.1);refine#[k,J,?_];have:b9 a b k=b9 a b p+(-(b.2 - a.2)*(k.1 - p.1)+(b.1 - a.1)*(k.2 - p.2)):=by unfold b9;grind
  grind
 obtain⟨v,hv,cv⟩:∃v∈K,¬ 0<=b9 a b v:=by
  obtain⟨k,J,q⟩:=I α β;exact#[k,J,fun z=>by have:=Y k J z;grind]
 have D:((b.1 - a.1,b.2 - a.2):Pt)≠(0,0):=fun z=>ab (by
  have z1:b.1 - a.1=0:=congrArg Prod.fst z;have z2:b.2 - a.2=0:=congrArg Prod.snd z;exact Qm 'l' 'l')
 obtain⟨q,hq,q1,q2⟩:=AX (P:=fun z=>0<=b9 a b z) hu cu hv cv;have q2:b9 a b q.2<0:=by grind
 obtain⟨x,s,ex,hx,mx⟩:∃x s,x=w9 q.1 q.2 s/\b9 a b x=0/\x∈D6 a b (k9 true K):=by
  by_cases z:b9 a b q.1=0
  .exact#[q.1,0,by rw[eQ],z,nq (V0 hq).1 q1]
  .have c:b9 a b q.1*b9 a b q.2<0:=by
    have:=PR (show 0<b9 a b q.1 by grind) (show 0 < -b9 a b q.2 by grind);grind
   obtain⟨s,_,_,e⟩:=dM c;exact#[_,s,e,cU c,qP hq c]
 obtain⟨r,hr,r1,r2⟩:=AX (P:=fun z=>¬ 0<=b9 a b z) hv cv hu (fun z=>z cu);have r1:b9 a b r.1<0:=by grind
 have r2:0<=b9 a b r.2:=SI r2;obtain⟨y,t,ey,hy,my⟩:∃y s,y=w9 r.1 r.2 s/\b9 a b y=0/\y∈D6 a b (k9 true K):=by
  by_cases z:b9 a b r.2=0
  .exact#[r.2,1,by rw[lP],z,nq (V0 hr).2 r2]
  .have c:b9 a b r.1*b9 a b r.2<0:=by
    have:=PR (show 0 < -b9 a b r.1 by grind) (show 0<b9 a b r.2 by grind);grind
   obtain⟨s,_,_,e⟩:=dM c;exact#[_,s,e,cU c,qP hr c]
 have fx:=Z x mx;have fy:=Z y my;have U:∀(q:Pt × Pt) (x:Pt) (s:Rat),x=w9 q.1 q.2 s->b9 a b x=0->∀z,-(α*(b.1 - a.1)+β*(b.2 - a.2))*b9 q.1 q.2 z=(-(α*(q.2.1 - q.1.1)+β*(q.2.2 - q.1.2)))*b9 a b z+(b9 a b q.2 - b9 a b q.1)*(α*(z.1 - x.1)+β*(z.2 - x.2)):=fun q x s e h z=>by
  have e1:b9 q.1 q.2 z=(q.2.1 - q.1.1)*(z.2 - x.2) - (q.2.2 - q.1.2)*(z.1 - x.1):=by rw[e];unfold b9 w9;grind
  have e2:b9 a b z=(b.1 - a.1)*(z.2 - x.2) - (b.2 - a.2)*(z.1 - x.1):=by
   have:b9 a b z=b9 a b x+((b.1 - a.1)*(z.2 - x.2) - (b.2 - a.2)*(z.1 - x.1)):=by unfold b9;grind
   rw[this,h,Uz]
  have e3:b9 a b q.2 - b9 a b q.1=(b.1 - a.1)*(q.2.2 - q.1.2) - (b.2 - a.2)*(q.2.1 - q.1.1):=by unfold b9;grind
  rw[e1,e2,e3];grind
 generalize hδ:-(α*(b.1 - a.1)+β*(b.2 - a.2))=δ at *;by_cases dp:0<δ
 .refine iL (A:=-(α*(q.2.1 - q.1.1)+β*(q.2.2 - q.1.2))) (l:=b9 a b q.1 - b9 a b q.2) (x:=x) (e:=fun z=>δ*b9 q.1 q.2 z) I hp 'l' fx (fun z=>?_) (fun k J=>PN (QO dp) (C q hq k J)) Y;rw[U q x s ex hx z];grind
 .by_cases dn:δ<0
  .refine iL (A:=α*(r.2.1 - r.1.1)+β*(r.2.2 - r.1.2)) (l:=b9 a b r.2 - b9 a b r.1) (x:=y) (e:=fun z=>-δ*b9 r.1 r.2 z) I hp 'l' fy (fun z=>?_) (fun k J=>PN 'l' (C r hr k J)) Y;have:=U r y t ey hy z;grind
  .have dz:δ=0:=by grind
   obtain⟨c,hc⟩:=dU (v:=(β,-α)) D (by unfold gv;grind);have c1:β=c*(b.1 - a.1):=congrArg Prod.fst hc;have c2:-α=c*(b.2 - a.2):=congrArg Prod.snd hc;have f:∀z:Pt,α*(z.1 - x.1)+β*(z.2 - x.2)=c*b9 a b z:=fun z=>by
    have e2:b9 a b z=(b.1 - a.1)*(z.2 - x.2) - (b.2 - a.2)*(z.1 - x.1):=by
     have:b9 a b z=b9 a b x+((b.1 - a.1)*(z.2 - x.2) - (b.2 - a.2)*(z.1 - x.1)):=by unfold b9;grind
     rw[this,hx,Uz]
    have c3:α = -(c*(b.2 - a.2)):=by grind
    rw[e2,c1,c3];grind
   have cp:0<c:=by
    have:=f p;refine RB.mp fun z=>?_
    have:=PN (show 0 <= -c by grind) hp;grind
   obtain⟨k,J,w⟩:=I α β;by_cases h:0<=b9 a b k
   .have:=Y k J h;grind
   .have:=PR cp (show 0 < -b9 a b k by grind);have:=f k;grind
end
def cD (A:vT_) (es:List (Pt × Pt)):List Pt:=es.foldl (fun K e=>D6 e.1 e.2 (k9 true K)) A
theorem zt :∀(es:List (Pt × Pt)) (A:vT_),ji A->Ip A p->(∀e∈es,e.1≠e.2/\0<=b9 e.1 e.2 p) ->
  Ip (cD A es) p/\(∀u v,(∀k∈A,0<=b9 u v k)->∀k∈cD A es,0<=b9 u v k)/\∀e∈es,∀k∈cD A es,0<=b9 e.1 e.2 k
 |[],A,_,I,_=>#[I,fun u v h=>h,fun e U=>(by cases U)]
 |e::r,A,C,I,h=>by
  obtain⟨h1,h2⟩:=h e (PD ..);obtain⟨a,b,c⟩:=zt r (D6 e.1 e.2 (k9 true A)) (Ib h1 C) (CP h1 C I h2) fun z J=>h z (Pz _ J)
  refine#[a,fun u v q=>b u v (qY q),fun z J=>?_];rcases xo.mp J with rfl | J
  .exact b _ _ uv
  .exact c z J
def Ga {A:vT_}(h:fF A):ji A:=fun q U k J=>by
 have Y:0<A.length:=UC J;obtain⟨i,rfl⟩:=(lZ Y q).mp U;exact h i k J
def Dp {A:vT_}(U:fF A) (hB:B≠[]) (Z:∀k,tk B (k+1)≠tk B k) (I:Ip A p) (hp:∀k,0<=b9 (tk B k) (tk B (k+1)) p) :
  ∃k r,cD A (k9 true B)=k::r/\(∀i,0<=b9 (tk A i) (tk A (i+1)) k)/\∀i,0<=b9 (tk B i) (tk B (i+1)) k:=by
 have Y:0<B.length:=UH.mpr hB;obtain⟨a,b,c⟩:=zt (k9 true B) A (Ga U) I (fun e he=>by
  obtain⟨i,rfl⟩:=(lZ Y e).mp he;exact#[fun z=>Z i z.symm,hp i])
 obtain⟨k,J,_⟩:=a 0 0;cases e:cD A (k9 true B) with
 |nil=>rw[e] at J;cases J
 |cons x r=>
  refine#[x,r,rfl,fun i=>b _ _ (fun k J=>U i k J) x (by rw[e];exact PD ..),fun i=>?_];exact c (tk B i,tk B (i+1)) ((lZ Y _).mpr #[i,rfl]) x (by rw[e];exact PD ..)
def aJ (Ls:List (Pt × Pt)) (r s:Pt):Prop:=∃c∈Ls,c.1≠c.2/\b9 c.1 c.2 r=0/\b9 c.1 c.2 s=0
section
variable {K:vT_}{b:Pt}(ab:a≠b) (hL:(a,b)∈Ls) (O:∀q∈k9 true K,aJ Ls q.1 q.2)
def jG (Ls:List (Pt × Pt)) (a b:Pt) (J:Option Pt) (o:Pt):Prop:=∀z,J=some z->(0<=b9 a b o->aJ Ls z o)/\(b9 a b o<0->b9 a b z=0)
include ab hL O
theorem JL (hq:q∈k9 true K) {pv:Option Pt}(I:jG Ls a b pv q.1):W4 (aJ Ls) pv (P0 a b q)/\jG Ls a b (Y2 pv (P0 a b q)) q.2:=by
 obtain⟨c,hc,cn,c1,c2⟩:=O q hq;have sub:∀s:Rat,b9 c.1 c.2 (w9 q.1 q.2 s)=0:=fun s=>by rw[nF,c1,c2];grind
 have Z:∀{r s:Pt},b9 a b r=0->b9 a b s=0->aJ Ls r s:=fun h1 h2=>#[(a,b),hL,ab,h1,h2]
 unfold P0;by_cases U:b9 a b q.1<0
 .rw[iR ((aC _).mpr U),QW];by_cases Y:0<b9 a b q.2
  .have c:b9 a b q.1*b9 a b q.2<0:=by
    have:=PR (show 0 < -b9 a b q.1 by grind) Y;grind
   rw[iR ((W3 _ _).mpr c)];obtain⟨s,s0,s1,e⟩:=dM c;refine#[#[fun z J=>Z ((I z J).2 U) (cU c),trivial],fun z J=>?_];cases J;exact#[fun _=>#[_,hc,cn,by rw[e];exact sub s,c2],fun n=>absurd Y 'l']
  .have nc:¬ u3 (b9 a b q.1)*u3 (b9 a b q.2) = -1:=fun z=>by
    have:=(W3 _ _).mp z;have:=PN (show 0 <= -b9 a b q.1 by grind) (show 0 <= -b9 a b q.2 by grind);grind
   rw[iU nc];exact#[trivial,fun z J=>#[fun n=>Z ((I z J).2 U) 'l',fun _=>(I z J).2 U]]
 .rw[iU fun z=>U ((aC _).mp z)];have U:0<=b9 a b q.1:=by grind
  by_cases Y:0<=b9 a b q.2
  .have nc:¬ u3 (b9 a b q.1)*u3 (b9 a b q.2) = -1:=fun z=>by
    have:=(W3 _ _).mp z;have:=PN U Y;grind
   rw[iU nc,QB];refine#[#[fun z J=>(I z J).1 U,trivial],fun z J=>?_];cases J;exact#[fun _=>#[_,hc,cn,c1,c2],fun n=>absurd Y 'l']
  .have Y:b9 a b q.2<0:=by grind
   by_cases oz:b9 a b q.1=0
   .have nc:¬ u3 (b9 a b q.1)*u3 (b9 a b q.2) = -1:=fun z=>by
     have:=(W3 _ _).mp z;rw[oz,Rm] at this;exact absurd this 'h'
    rw[iU nc,QB];refine#[#[fun z J=>(I z J).1 U,trivial],fun z J=>?_];cases J;exact#[fun n=>absurd Y 'l',fun _=>oz]
   .have c':b9 a b q.1*b9 a b q.2<0:=by
     have:=PR (show 0<b9 a b q.1 by grind) (show 0 < -b9 a b q.2 by grind);grind
    rw[iR ((W3 _ _).mpr c')];obtain⟨s,s0,s1,e⟩:=dM c';refine#[#[fun z J=>(I z J).1 U,#[fun z J=>?_,trivial]],fun z J=>?_]
    .cases J;exact#[_,hc,cn,c1,by rw[e];exact sub s]
    .cases J;exact#[fun n=>absurd Y 'l',fun _=>cU c']
theorem qw:∀(es:List (Pt × Pt)) (o e:Pt) (pv:Option Pt),(∀q∈es,q∈k9 true K)->bN o es e->jG Ls a b pv o->W4 (aJ Ls) pv (es.flatMap (P0 a b))/\jG Ls a b (Y2 pv (es.flatMap (P0 a b))) e
 |[],o,e,pv,_,p,I=>by
  have p:o=e:=p;subst p;exact#[trivial,I]
 |q::r,o,e,pv,hq,p,I=>by
  obtain⟨p1,p2⟩:=p;subst p1;obtain⟨J,Y⟩:=JL ab hL O (hq q (PD ..)) I;obtain⟨Z,U⟩:=qw r q.2 e _ (fun z hz=>hq z (Pz _ hz)) p2 Y;rw[Tz];exact#[qZ _ _ _ _ J Z,by rw[qd];exact U]
theorem Lm:∀q∈k9 true (D6 a b (k9 true K)),aJ Ls q.1 q.2:=by
 cases K with
 |nil=>intro q J;cases J
 |cons o r=>
  have P:bN o (k9 true (o::r)) o:=by rw[iA];exact kG r o o
  obtain⟨U,I1⟩:=qw ab hL O _ o o none (fun q J=>J) P (fun z Z=>by cases Z);obtain⟨Y,_⟩:=qw ab hL O _ o o _ (fun q J=>J) P I1;have U:W4 (aJ Ls) none (D6 a b (k9 true (o::r))):=U;have Y:W4 (aJ Ls) (Y2 none (D6 a b (k9 true (o::r)))) (D6 a b (k9 true (o::r))):=Y;intro q J;cases e:D6 a b (k9 true (o::r)) with
  |nil=>rw[e] at J;cases J
  |cons x t=>
   rw[e] at J U Y;rw[iA] at J;exact pH _ t x x U.2 (fun z Z=>Y.1 z Z) q J
end
theorem KD {b c d q:Pt}(J:P5 (E8 a b) (E8 c d)≠0) (h1:b9 a b q=0) (h2:b9 c d q=0):bK a b c d=q:=by
 have k1:cX a b c d=q.1*P5 (E8 a b) (E8 c d):=by
  unfold b9 at h1 h2;unfold cX P5 E8;have U:(d.1 - c.1)*((b.1 - a.1)*(q.2 - a.2) - (b.2 - a.2)*(q.1 - a.1))=0:=by rw[h1,RR]
  have Y:(b.1 - a.1)*((d.1 - c.1)*(q.2 - c.2) - (d.2 - c.2)*(q.1 - c.1))=0:=by rw[h2,RR]
  show (b.1 - a.1)*(c.1*d.2 - c.2*d.1) - (a.1*b.2 - a.2*b.1)*(d.1 - c.1)=q.1*((b.1 - a.1)*(d.2 - c.2) - (b.2 - a.2)*(d.1 - c.1));grind
 have k2:dD a b c d=q.2*P5 (E8 a b) (E8 c d):=by
  unfold b9 at h1 h2;unfold dD P5 E8;have U:(d.2 - c.2)*((b.1 - a.1)*(q.2 - a.2) - (b.2 - a.2)*(q.1 - a.1))=0:=by rw[h1,RR]
  have Y:(b.2 - a.2)*((d.1 - c.1)*(q.2 - c.2) - (d.2 - c.2)*(q.1 - c.1))=0:=by rw[h2,RR]
  show (a.1*b.2 - a.2*b.1)*(c.2 - d.2) - (a.2 - b.2)*(c.1*d.2 - c.2*d.1)=q.2*((b.1 - a.1)*(d.2 - c.2) - (b.2 - a.2)*(d.1 - c.1));grind
 unfold bK;rw[k1,k2,QG,QG,Tx,Tx,UD _ J,UE,UE]
theorem DV {b u w c d:Pt}(h:b9 a b u*b9 a b w<0) (cd:c≠d) (U:b9 c d u=0) (cw:b9 c d w=0):P5 (E8 a b) (E8 c d)≠0/\xq a b u w=bK a b c d:=by
 obtain⟨s,_,_,e⟩:=dM h;have D:((d.1 - c.1,d.2 - c.2):Pt)≠(0,0):=fun z=>cd (by
  have z1:d.1 - c.1=0:=congrArg Prod.fst z;have z2:d.2 - c.2=0:=congrArg Prod.snd z;exact Qm 'l' 'l')
 obtain⟨t,J⟩:=dU (v:=(w.1 - u.1,w.2 - u.2)) D (by unfold gv b9 at *;grind);have Y:w.1 - u.1=t*(d.1 - c.1):=congrArg Prod.fst J;have Z:w.2 - u.2=t*(d.2 - c.2):=congrArg Prod.snd J;have W:P5 (E8 a b) (E8 c d)≠0:=fun z=>by
  have k:b9 a b w - b9 a b u=t*P5 (E8 a b) (E8 c d):=by
   have:b9 a b w - b9 a b u=(b.1 - a.1)*(w.2 - u.2) - (b.2 - a.2)*(w.1 - u.1):=by unfold b9;grind
   rw[this,Y,Z];unfold P5 E8;grind
  rw[z,RR] at k;have e:b9 a b w=b9 a b u:=by grind
  rw[e] at h;have:=aO (b9 a b u);grind
 refine#[W,(KD W (cU h) ?_).symm];rw[e,nF,U,cw];grind
def OK {K:vT_}{b:Pt}(J:∀c∈Ls,Ps k c.1/\Ps k c.2) (hL:(a,b)∈Ls) (O:∀q∈k9 true K,aJ Ls q.1 q.2) (hm:4*k+3<=m) (hK:∀z∈K,PtS m z):∀z∈D6 a b (k9 true K),PtS m z:=fun z hz=>by
 rcases nQ hz with ⟨w,_⟩ | ⟨q,Z,c,rfl⟩
 .exact hK z w
 .obtain⟨l,U,Y,l1,l2⟩:=O q Z;obtain⟨W,e⟩:=DV c Y l1 l2;rw[e];exact(MA (J _ hL).1 (J _ hL).2 (J l U).1 (J l U).2 W).mono hm
def DQ (ds:vD_) (c:Bool) (fs:vO_) (J:ds.length+1<=sizeLine):kf [.lst ds,.bl c] fs=some (.lst ((k9 c ds).map dP),fs):=by
 refine v5 (s:=#[[.v (.lst ds),.v (.bl c)],fs]) ?_;show fg #[[.v (.lst ds),.v (.bl c)],fs]=_;have h1:ds.length - 1+min 1 ds.length<=sizeLine:=by omega
 cases c
 .simp! only[]
 .simp! only[ue,h1]
def ee {t:D->DS->Option DS}{b:DM}{x:D}{r:vD_}{s:DS}(h1:t d s=some s1) (h2:b s1=some (.ret x,s2)):C3 t b (d::r) s=some (.ret x,s2):=by simp[C3,h1,h2]
def pq (q:Pt × Pt):D:=.tup [pt q.1,pt q.2]
def rM (K:vT_):(k9 true 'r').map dP=(k9 true K).map pq:=by
 rw[Mr,List.map_map];rfl
def rh (K:vT_) (fs:vO_) (J:K.length<=1000):N6 [.tup 'r'] fs=some (.lst ((k9 true K).map pq),fs):=by
 have e:=LU 'r' true fs (by rw[PH];exact PJ (by omega:K.length+1<=1001) #[]);rw[rM] at e;exact v5 (s:=#[[.v (.tup 'r')],fs]) (A0 (w5 rfl e))
def HF (K:vT_) (fs:vO_) (J:K.length<=1000):N6 [.lst 'r'] fs=some (.lst ((k9 true K).map pq),fs):=by
 have e:=DQ 'r' true fs (by rw[PH];exact PJ (by omega:K.length+1<=1001) #[]);rw[rM] at e;exact v5 (s:=#[[.v (.lst 'r')],fs]) (A0 (w5 rfl e))
def Mg {b:Pt}{K:vT_}(fs:vO_) (U:PtS 120 a) (J:PtS 120 b) (Y:∀p∈K,PtS 120 p) (hl:K.length<=400):iH [.lst 'r',pt a,pt b] fs=some (.lst ((D6 a b (k9 true K)).map pt),fs):=by
 have nl:=gf true K;obtain⟨y5,y6,y7,e⟩:=sE (.v (.lst 'r')) fs U J (k9 true K) [] .no .no .no (fun q Z=>#[Y _ (V0 Z).1,Y _ (V0 Z).2]) (by rw[RN];omega);rw[QW] at e;have s:=zZ fs U.ps J.ps #[];refine v5 (s:=#[[.v (.lst 'r'),.v (pt a),.v (pt b),.v (G5 a b),.v (.lst ((D6 a b (k9 true K)).map pt)),y5,y6,y7],fs]) ?_;show nD P7 fq eK N6 #[[.v (.lst 'r'),.v (pt a),.v (pt b),.no,.no,.no,.no,.no],fs]=_;unfold nD;rw[w6 (s1:=#[[.v (.lst 'r'),.v (pt a),.v (pt b),.v (G5 a b),.no,.no,.no,.no],fs]) (C0 (w5 rfl s) rfl)];rw[w6 (s1:=qS (.v (.lst 'r')) a b (G5 a b) [] .no .no .no fs) (ck (i:=4) (s1:=#[[.v (.lst 'r'),.v (pt a),.v (pt b),.v (G5 a b),.no,.no,.no,.no],fs]) (ds:=[]) rfl (by show 4<8;decide))];rw[w6 ((mY (ds:=(k9 true K).map fun q=>.tup [pt q.1,pt q.2]) (w5 rfl (HF K fs ∅))).trans e)];exact A0 rfl
def O0 (A:vT_) (p:Pt):Bool:=(k9 true A).all fun q=>!decide (u3 (b9 q.1 q.2 p) = -1)
abbrev eU:c8:=sm P7 N6
theorem AV (J:Sl) (fs:vO_) (Y:Ps k p) (U:k<=2000):∀(qs:List (Pt × Pt)) (x2 x3:Sl),(∀q∈qs,Ps k q.1/\Ps k q.2)->∃y2 y3,C3 (r8 2 (o6 (f9 2) (o6 (f9 3) t6))) (mE P7 N6) (qs.map pq) #[[J,.v (pt p),x2,x3],fs]=some (if qs.all (fun q=>!decide (u3 (b9 q.1 q.2 p) = -1)) then .next else .ret (.bl false),#[[J,.v (pt p),y2,y3],fs])
 |[],x2,x3,_=>#[x2,x3,rfl]
 |q::r,x2,x3,h=>by
  obtain⟨h1,h2⟩:=h q (PD ..);have t:=kA q.1 q.2 p fs h1 h2 Y U;have c:dB (a9 F7 (d9 P7 (a7 (dV 2) (a7 (dV 3) (a7 (dV 1) a8)))) (j4 o9 (Wk 1))) #[[J,.v (pt p),.v (pt q.1),.v (pt q.2)],fs]=some (decide (u3 (b9 q.1 q.2 p) = -1),#[[J,.v (pt p),.v (pt q.1),.v (pt q.2)],fs]):=B6 (d8 (w5 rfl t) rfl (aq _ (-1)));rw[PM,Se];by_cases n:u3 (b9 q.1 q.2 p) = -1
  .rw[PU n] at c ⊢;refine#[.v (pt q.1),.v (pt q.2),?_];have B:mE P7 N6 #[[J,.v (pt p),.v (pt q.1),.v (pt q.2)],fs]=some (.ret (.bl false),#[[J,.v (pt p),.v (pt q.1),.v (pt q.2)],fs]):=(G2 c).trans (A0 rfl);rw[ee (s1:=#[[J,.v (pt p),.v (pt q.1),.v (pt q.2)],fs]) rfl B];rfl
  .rw[PY n] at c ⊢;obtain⟨y2,y3,e⟩:=AV J fs Y U r (.v (pt q.1)) (.v (pt q.2)) fun z Z=>h z (Pz _ Z)
   refine#[y2,y3,?_];rw[U6 (s1:=#[[J,.v (pt p),.v (pt q.1),.v (pt q.2)],fs]) rfl (D8 c),e];rfl
def MK {A:vT_}(fs:vO_) (hp:Ps k p) (hA:∀z∈A,Ps k z) (U:k<=2000) (hl:A.length<=1000):eU [.tup (A.map pt),pt p] fs=some (.bl (O0 A p),fs):=by
 obtain⟨Y,Z,e⟩:=AV (.v (.tup (A.map pt))) fs hp U (k9 true A) .no .no fun q J=>#[hA _ (V0 J).1,hA _ (V0 J).2]
 refine v5 (s:=#[[.v (.tup (A.map pt)),.v (pt p),Y,Z],fs]) ?_;show nG P7 N6 #[[.v (.tup (A.map pt)),.v (pt p),.no,.no],fs]=_;unfold nG O0;have f:=(mY (b:=mE P7 N6) (t:=r8 2 (o6 (f9 2) (o6 (f9 3) t6))) (f:=d9 N6 'o') (s:=#[[.v (.tup (A.map pt)),.v (pt p),.no,.no],fs]) (s1:=#[[.v (.tup (A.map pt)),.v (pt p),.no,.no],fs]) (ds:=(k9 true A).map pq) (w5 rfl (rh A fs hl))).trans e;cases c:(k9 true A).all fun q=>!decide (u3 (b9 q.1 q.2 p) = -1) with
 |true=>
  rw[c,iR rfl] at f;rw[w6 f];exact A0 rfl
 |false=>
  rw[c,iU PL] at f;exact D7 f
abbrev jv:c8:=vE eU
def c7 (A:vT_):D:=.tup (A.map pt)
theorem wc (J:Sl) (fs:vO_) (Y:Ps k p) (U:k<=2000):∀(Ss:List (List Pt)) (x2:Sl),(∀A∈Ss,A.length<=1000/\∀z∈A,Ps k z)->∃y2,C3 (f9 2) (mU eU) (Ss.map c7) #[[J,.v (pt p),x2],fs]=some (if Ss.any (O0 · p) then .ret (.bl true) else .next,#[[J,.v (pt p),y2],fs])
 |[],x2,_=>#[x2,rfl]
 |A::r,x2,h=>by
  obtain⟨h1,h2⟩:=h A (PD ..);have t:=MK fs Y h2 U h1;rw[PM,SE];have c:j8 (d9 eU (a7 (dV 2) (a7 (dV 1) a8))) #[[J,.v (pt p),.v (c7 A)],fs]=some (O0 A p,#[[J,.v (pt p),.v (c7 A)],fs]):=B9 (w5 rfl t);cases n:O0 A p with
  |true=>
   rw[n] at c;refine#[.v (c7 A),?_];have B:mU eU #[[J,.v (pt p),.v (c7 A)],fs]=some (.ret (.bl true),#[[J,.v (pt p),.v (c7 A)],fs]):=(G2 c).trans (A0 rfl);rw[ee (s1:=#[[J,.v (pt p),.v (c7 A)],fs]) rfl B];rfl
  |false=>
   rw[n] at c;obtain⟨y2,e⟩:=wc J fs Y U r (.v (c7 A)) fun z Z=>h z (Pz _ Z)
   refine#[y2,?_];rw[U6 (s1:=#[[J,.v (pt p),.v (c7 A)],fs]) rfl (D8 c),e];rfl
def Ca (fs:vO_) (Z:Ps k p) (Y:∀A∈Ss,A.length<=1000/\∀z∈A,Ps k z) (J:k<=2000):jv [.tup (Ss.map c7),pt p] fs=some (.bl (Ss.any (O0 · p)),fs):=by
 obtain⟨U,e⟩:=wc (.v 'c') fs Z J Ss .no Y;refine v5 (s:=#[[.v 'c',.v (pt p),U],fs]) ?_;show nH eU #[[.v 'c',.v (pt p),.no],fs]=_;unfold nH;have f:=(fE (b:=mU eU) (t:=f9 2) (f:=dV 0) (s:=#[[.v 'c',.v (pt p),.no],fs]) (s1:=#[[.v 'c',.v (pt p),.no],fs]) (ds:=Ss.map c7) rfl).trans e;cases c:Ss.any (O0 · p) with
 |true=>
  rw[c,iR rfl] at f;exact D7 f
 |false=>
  rw[c,iU PL] at f;rw[w6 f];exact A0 rfl
def N9 (A:vT_) (i:Nat) (B:vT_):Bool:=B.all fun z=>decide (u3 (b9 (tk A i) (tk A (i+1)) z) = -1)
abbrev ak:c8:=tQ P7 N6
theorem zw {u v:Pt}(J x1 x2:Sl) (fs:vO_) (Z:Ps k u) (Y:Ps k v) (U:k<=2000):∀(B:vT_) (x4:Sl),(∀z∈B,Ps k z)->∃y4,C3 (f9 4) (kH P7 N6) (B.map pt) #[[J,x1,x2,.v (pq (u,v)),x4],fs]=some (if B.all (fun z=>decide (u3 (b9 u v z) = -1)) then .next else .ret (.bl false),#[[J,x1,x2,.v (pq (u,v)),y4],fs])
 |[],x4,_=>#[x4,rfl]
 |z::r,x4,h=>by
  have t:=kA u v z fs Z Y (h z (PD ..)) U;have c:dB (a9 A1 (d9 P7 (a7 (Wl 3 0) (a7 (Wl 3 1) (a7 (dV 4) a8)))) (j4 o9 (Wk 1))) #[[J,x1,x2,.v (pq (u,v)),.v (pt z)],fs]=some (!decide (u3 (b9 u v z) = -1),#[[J,x1,x2,.v (pq (u,v)),.v (pt z)],fs]):=B6 (d8 (w5 (t9 (d8 (x:=pq (u,v)) rfl rfl rfl) (t9 (d8 (x:=pq (u,v)) rfl rfl rfl) rfl)) t) rfl (T6 _ (-1)));rw[PM,Se];by_cases n:u3 (b9 u v z) = -1
  .rw[PU n] at c ⊢;obtain⟨y4,e⟩:=zw J x1 x2 fs Z Y U r (.v (pt z)) fun z hz=>h z (Pz _ hz)
   refine#[y4,?_];rw[U6 (s1:=#[[J,x1,x2,.v (pq (u,v)),.v (pt z)],fs]) rfl (D8 c),e];rfl
  .rw[PY n] at c ⊢;refine#[.v (pt z),?_];have B:kH P7 N6 #[[J,x1,x2,.v (pq (u,v)),.v (pt z)],fs]=some (.ret (.bl false),#[[J,x1,x2,.v (pq (u,v)),.v (pt z)],fs]):=(G2 c).trans (A0 rfl);rw[ee (s1:=#[[J,x1,x2,.v (pq (u,v)),.v (pt z)],fs]) rfl B];rfl
def jP {A:vT_}(h:i<A.length):(k9 true A)[i]? = some (tk A i,tk A (i+1)):=by
 have U:i<(k9 true A).length:=by rw[me,iR rfl];omega
 have l2:(A.drop 1++A.take 1).length=A.length:=by rw[Qo,Qn,QS];omega
 unfold k9;rw[iR rfl,SA];refine#[Z3 h,?_];by_cases c:i+1<A.length
 .rw[Rq (by rw[Qn];omega),Tu,Rt 1 i,Z3 c]
 .have J:i+1=A.length:=by omega
  rw[Rp (by rw[Qn];omega),Qn,show i - (A.length - 1)=0 by omega,TK #[],Z3 ∅];rw[<-R3 (i+1),J,Tv]
def uK {A:vT_}(fs:vO_) (hA:∀z∈A,Ps k z) (hB:∀z∈B,Ps k z) (Y:k<=2000) (hi:i<A.length) (Z:A.length<=1000):ak [c7 A,.int (i:Int),c7 B] fs=some (.bl (N9 A i B),fs):=by
 have J:0<A.length:=by omega
 obtain⟨y4,e⟩:=zw (.v (c7 A)) (.v 'u') (.v (c7 B)) fs (hA _ (Z2 (l:=A) i J)) (hA _ (Z2 (l:=A) (i+1) J)) Y B .no hB;refine v5 (s:=#[[.v (c7 A),.v 'u',.v (c7 B),.v (pq (tk A i,tk A (i+1))),y4],fs]) ?_;show ki P7 N6 #[[.v (c7 A),.v 'u',.v (c7 B),.no,.no],fs]=_;unfold ki N9;have U:d7 (.lst ((k9 true A).map pq)) 'u'=some (pq (tk A i,tk A (i+1))):=(B7 _ _).trans (nM (by rw[Qy,jP hi];rfl));rw[w6 (s1:=#[[.v (c7 A),.v 'u',.v (c7 B),.v (pq (tk A i,tk A (i+1))),.no],fs]) (C0 (d8 (w5 rfl (rh A fs Z)) rfl U) rfl)];have f:=(fE (b:=kH P7 N6) (t:=f9 4) (f:=dV 2) (s:=#[[.v (c7 A),.v 'u',.v (c7 B),.v (pq (tk A i,tk A (i+1))),.no],fs]) (s1:=#[[.v (c7 A),.v 'u',.v (c7 B),.v (pq (tk A i,tk A (i+1))),.no],fs]) (ds:=B.map pt) rfl).trans e;cases c:B.all (fun z=>decide (u3 (b9 (tk A i) (tk A (i+1)) z) = -1)) with
 |true=>
  rw[c,iR rfl] at f;rw[w6 f];exact A0 rfl
 |false=>
  rw[c,iU PL] at f;exact D7 f
structure ShC (A:vT_):Prop where
 cv:fF A
 ne:∀k,tk A (k+1)≠tk A k
 nc:mi A
 lo:3<=A.length
 hi:A.length<=6
 sz:∀z∈A,Ps 8 z/\PtS 35 z
def ShC.ps {A:vT_}(h:ShC A):∀z∈A,Ps 70 z:=fun z J=>(h.sz z J).1.mono #[]
def K8 (A B:vT_) (lo:Nat):Nat->Option Nat
 |0=>none
 |m+1=>if N9 A lo B then some lo else K8 A B (lo+1) m
def Ft:Option Nat->D
 |none=>.non
 |some i=>.int (i:Int)
abbrev iT:c8:=Bf ak
def uD (lo:Nat) (n:Nat):B3 (lo:Int) (n+1) = .int (lo:Int)::B3 ((lo+1:Nat):Int) n:=by
 unfold B3;rw[VJ,PM,List.map_map];rw[List.cons.injEq];refine#[by simp,List.map_congr_left fun i _=>?_];show D.int ((lo:Int)+((i+1:Nat):Int))=D.int (((lo+1:Nat):Int)+(i:Int));congr 1;omega
section
variable {A:vT_}(hA:ShC A) (hB:ShC B) (fs:vO_)
include hA hB
theorem yB:∀(m lo:Nat) (x2:Sl),lo+m<=A.length->∃y2,C3 (f9 2) (mI ak) (B3 (lo:Int) m) #[[.v (c7 A),.v (c7 B),x2],fs]=some ((match K8 A B lo m with | some i=>.ret 'u' | none=>.next),#[[.v (c7 A),.v (c7 B),y2],fs])
 |0,lo,x2,_=>#[x2,rfl]
 |m+1,lo,x2,h=>by
  have t:=uK fs hA.ps hB.ps #[] (i:=lo) ∅ (by have:=hA.hi;omega);rw[uD];unfold K8;have c:j8 (d9 ak (a7 (dV 0) (a7 (dV 2) (a7 (dV 1) a8)))) #[[.v (c7 A),.v (c7 B),.v (.int (lo:Int))],fs]=some (N9 A lo B,#[[.v (c7 A),.v (c7 B),.v (.int (lo:Int))],fs]):=B9 (w5 rfl t);cases n:N9 A lo B with
  |true=>
   rw[n] at c;refine#[.v (.int (lo:Int)),?_];have J:mI ak #[[.v (c7 A),.v (c7 B),.v (.int (lo:Int))],fs]=some (.ret (.int (lo:Int)),#[[.v (c7 A),.v (c7 B),.v (.int (lo:Int))],fs]):=(G2 c).trans (A0 rfl);rw[ee (s1:=#[[.v (c7 A),.v (c7 B),.v (.int (lo:Int))],fs]) rfl J];rfl
  |false=>
   rw[n] at c;obtain⟨y2,e⟩:=yB m (lo+1) (.v (.int (lo:Int))) ∅;refine#[y2,?_];rw[U6 (s1:=#[[.v (c7 A),.v (c7 B),.v (.int (lo:Int))],fs]) rfl (D8 c),e];rfl
theorem wD:iT [c7 A,c7 B] fs=some (Ft (K8 A B 0 A.length),fs):=by
 obtain⟨U,e⟩:=yB hA hB fs A.length 0 .no ∅;refine v5 (s:=#[[.v (c7 A),.v (c7 B),U],fs]) ?_;show jS ak #[[.v (c7 A),.v (c7 B),.no],fs]=_;unfold jS;have hi:=hA.hi;have J:i9 (one j6) (a7 (dL 0) a8) #[[.v (c7 A),.v (c7 B),.no],fs]=some (.int (A.length:Int),#[[.v (c7 A),.v (c7 B),.no],fs]):=by
  refine kB (x:=c7 A) rfl ?_;show some (D.int ((A.map pt).length:Nat))=_;rw[PH]
 have f:=(gs (b:=mI ak) (t:=f9 2) (f:=a7 'n' a8) (t9 J rfl) (bR ∅)).trans e;cases c:K8 A B 0 A.length with
 |some i=>
  rw[c] at f;exact D7 f
 |none=>
  rw[c] at f;rw[w6 f];exact A0 rfl
end
def K7 (A B:vT_):D:=match K8 A B 0 A.length with
 |some i=>.tup [.str "one",.int (i:Int)]
 |none=>match K8 B A 0 B.length with
  |some i=>.tup [.str "other",.int (i:Int)]
  |none=>.non
abbrev R9:c8:=uk iT
def JA {A:vT_}(hA:ShC A) (hB:ShC B) (fs:vO_):R9 [c7 A,c7 B] fs=some (K7 A B,fs):=by
 have J:=wD hA hB fs;have U:=wD hB hA fs;unfold K7;cases Y:K8 A B 0 A.length with
 |some i=>
  rw[Y] at J;refine v5 (s:=#[[.v (c7 A),.v (c7 B),.v 'u'],fs]) ?_;show dk iT #[[.v (c7 A),.v (c7 B),.no],fs]=_;unfold dk;rw[w6 (s1:=#[[.v (c7 A),.v (c7 B),.v 'u'],fs]) (C0 (w5 rfl J) rfl)];exact D7 ((G2 (s1:=#[[.v (c7 A),.v (c7 B),.v 'u'],fs]) (B6 'e')).trans (A0 (G8 rfl rfl)))
 |none=>
  rw[Y] at J;cases Z:K8 B A 0 B.length with
  |some i=>
   rw[Z] at U;refine v5 (s:=#[[.v (c7 A),.v (c7 B),.v 'u'],fs]) ?_;show dk iT #[[.v (c7 A),.v (c7 B),.no],fs]=_;unfold dk;rw[w6 (s1:=#[[.v (c7 A),.v (c7 B),.v .non],fs]) (C0 (w5 rfl J) rfl)];rw[w6 (s1:=#[[.v (c7 A),.v (c7 B),.v .non],fs]) (D8 (B6 'e'))];rw[w6 (s1:=#[[.v (c7 A),.v (c7 B),.v 'u'],fs]) (C0 (w5 rfl U) rfl)];exact D7 ((G2 (s1:=#[[.v (c7 A),.v (c7 B),.v 'u'],fs]) (B6 'e')).trans (A0 (G8 rfl rfl)))
  |none=>
   rw[Z] at U;refine v5 (s:=#[[.v (c7 A),.v (c7 B),.v .non],fs]) ?_;show dk iT #[[.v (c7 A),.v (c7 B),.no],fs]=_;unfold dk;rw[w6 (s1:=#[[.v (c7 A),.v (c7 B),.v .non],fs]) (C0 (w5 rfl J) rfl)];rw[w6 (s1:=#[[.v (c7 A),.v (c7 B),.v .non],fs]) (D8 (B6 'e'))];rw[w6 (s1:=#[[.v (c7 A),.v (c7 B),.v .non],fs]) (C0 (w5 rfl U) rfl)];rw[w6 (s1:=#[[.v (c7 A),.v (c7 B),.v .non],fs]) (D8 (B6 'e'))];exact A0 rfl
theorem vq {A:vT_}:∀(m lo:Nat),K8 A B lo m=none->∀i,lo<=i->i<lo+m->N9 A i B=false
 |0,lo,_,i,h1,h2=>by omega
 |m+1,lo,h,i,h1,h2=>by
  unfold K8 at h;cases c:N9 A lo B with
  |true=>rw[c,iR rfl] at h;cases h
  |false=>
   rw[c,iU PL] at h;by_cases q:i=lo
   .rw[q];exact c
   .exact vq m (lo+1) h i ∅ ∅
theorem qf {A:vT_}:∀(m lo i:Nat),K8 A B lo m=some i->lo<=i/\i<lo+m/\N9 A i B=true
 |0,lo,i,h=>by cases h
 |m+1,lo,i,h=>by
  unfold K8 at h;cases c:N9 A lo B with
  |true=>
   rw[c,iR rfl] at h;cases h;exact#[tx _,by omega,c]
  |false=>
   rw[c,iU PL] at h;obtain⟨a,b,d⟩:=qf m (lo+1) i h;exact#[by omega,by omega,d]
def yd {A:vT_}(h:N9 A i B=false):¬ ∀z∈B,b9 (tk A i) (tk A (i+1)) z<0:=fun q=>by
 have:N9 A i B=true:=by
  unfold N9;rw[QC];exact fun z J=>PU ((aC _).mpr (q z J))
 rw[this] at h;cases h
def Ef {A:vT_}(hA:ShC A) (hB:ShC B) (h1:K8 A B 0 A.length=none) (h2:K8 B A 0 B.length=none):∃p,Ip A p/\∀k,0<=b9 (tk B k) (tk B (k+1)) p:=by
 have a3:=hA.lo;have b3:=hB.lo;have J:∀{A B:vT_},0<A.length->K8 A B 0 A.length=none->¬ ∃k,∀z∈B,b9 (tk A k) (tk A (k+1)) z<0:=fun {A B} Y h ⟨k,U⟩=>by
  have m:=QN k Y;refine yd (vq _ 0 h (k % A.length) ∅ ∅) fun z Z=>?_
  have:=U z Z;rw[R3,<-R3 (k % A.length+1),Tw,R3];exact this
 rcases Hg (by have:=hA.hi;omega) (by have:=hB.hi;omega) (UH.mp ∅) hA.cv hB.cv hA.ne hB.ne hA.nc hB.nc with q | q | q
 .exact q
 .exact absurd q (J ∅ h1)
 .exact absurd q (J ∅ h2)
abbrev R5:c8:=uX iH N6
theorem Ar (J x1:Sl) (fs:vO_) (hS:∀c∈Ls,Ps 8 c.1/\Ps 8 c.2):∀(es:List (Pt × Pt)) (K:vT_) (x2 x3 x4:Sl),(x2 = .own 'r'\/x2 = .v (.lst 'r'))->(∀e∈es,e∈Ls/\e.1≠e.2)->(∀q∈k9 true K,aJ Ls q.1 q.2)->(∀z∈K,PtS 35 z)->K.length*2 ^ es.length<=400 ->
  ∃y2 y3 y4,C3 (r8 2 (o6 (f9 3) (o6 (f9 4) t6))) (rD iH N6) (es.map pq) #[[J,x1,x2,x3,x4],fs]=some (.next,#[[J,x1,y2,y3,y4],fs])/\(y2 = .own ((cD K es).map pt)\/y2 = .v (.lst ((cD K es).map pt)))/\∀z∈cD K es,PtS 35 z
 |[],K,x2,x3,x4,h,_,_,U,_=>#[x2,x3,x4,rfl,h,U]
 |e::r,K,x2,x3,x4,h,he,O,U,hl=>by
  obtain⟨eL,en⟩:=he e (PD ..);obtain⟨s1,s2⟩:=hS e eL;have Y:∀{z:Pt},Ps 8 z->PtS 120 z:=fun {z} h=>by
   have b1:=h.x;have b3:=h.l;have b2:=h.y
   refine#[?_,?_]
   .rw[<-px_div z];exact(Sz.of_divInt (qD z) b1 b3).mono #[]
   .rw[<-py_div z];exact(Sz.of_divInt (qD z) b2 b3).mono #[]
  have Z:K.length<=400:=PJ (Nat.le_mul_of_pos_right _ (Nat.pow_pos #[])) hl;have c:=Mg fs (Y s1) (Y s2) (fun z hz'=>(U z hz').mono #[]) Z;have O':=Lm en eL O;have z':=OK (m:=35) hS eL O #[] U;have l1:=uo e.1 e.2 (k9 true K);have l2:=gf true K;obtain⟨y2,y3,y4,q,hy,sz⟩:=Ar J x1 fs hS r (D6 e.1 e.2 (k9 true K)) (.v (.lst ((D6 e.1 e.2 (k9 true K)).map pt))) (.v (pt e.1)) (.v (pt e.2)) (.inr rfl) (fun z U=>he z (Pz _ U)) O' z' (by
   rw[PX,Vp] at hl;refine PJ (Nat.mul_le_mul_right (2 ^ r.length) (show (D6 e.1 e.2 (k9 true K)).length<=K.length*2 by omega)) ?_;rw[Nat.mul_assoc,UR 2];exact hl)
  refine#[y2,y3,y4,?_,hy,sz];have st:rD iH N6 #[[J,x1,x2,.v (pt e.1),.v (pt e.2)],fs]=some (.next,#[[J,x1,.v (.lst ((D6 e.1 e.2 (k9 true K)).map pt)),.v (pt e.1),.v (pt e.2)],fs]):=by
   rcases h with rfl | rfl
   .exact C0 (nE (sl':=[J,x1,.v (.lst 'r'),.v (pt e.1),.v (pt e.2)]) rfl c) rfl
   .exact C0 (w5 rfl c) rfl
  rw[PM,U6 (s1:=#[[J,x1,x2,.v (pt e.1),.v (pt e.2)],fs]) rfl st,q]
def NI {A:vT_}(hA:ShC A) (hB:ShC B) (h1:K8 A B 0 A.length=none) (h2:K8 B A 0 B.length=none) (fs:vO_):∃p,R5 [c7 A,c7 B] fs=some (pt p,fs)/\Ps 70 p/\(∀i,0<=b9 (tk A i) (tk A (i+1)) p)/\∀i,0<=b9 (tk B i) (tk B (i+1)) p:=by
 refine gB_ fun G_ g_=>?_
 obtain⟨p0,I,hp⟩:=Ef hA hB h1 h2;have b3:=hB.lo;have a3:=hA.lo;obtain⟨k,r,e,c1,c2⟩:=Dp hA.cv (UH.mp ∅) hB.ne I hp;have nl:=gf true B;have J:∀{A:vT_},ShC A->∀q∈k9 true A,q.1≠q.2/\Ps 8 q.1/\Ps 8 q.2:=fun {A} hA q U=>by
  have h0:0<A.length:=by have:=hA.lo;omega
  refine#[?_,(hA.sz _ (V0 U).1).1,(hA.sz _ (V0 U).2).1];obtain⟨i,rfl⟩:=(lZ h0 q).mp U;exact fun z=>hA.ne i z.symm
 obtain⟨y2,y3,y4,q,Z,sz⟩:=Ar (Ls:=k9 true A++k9 true B) (.v (c7 A)) (.v (c7 B)) fs (fun c hc=>by
   rcases PQ.mp hc with w | w
   .exact(J hA c w).2
   .exact(J hB c w).2) (k9 true B) A (.own (A.map pt)) .no .no (.inl rfl) (fun e he=>#[Qu _ he,(J hB e he).1]) (fun q U=>#[q,QH _ U,(J hA q U).1,aY _ _,cF _ _]) (fun z hz=>(hA.sz z hz).2) (by
   have h6:(k9 true B).length<=6:=by have:=hB.hi;omega
   have:A.length*2 ^ (k9 true B).length<=6*2 ^ 6:=Ts hA.hi (Us #[] h6);omega)
 apply g_;refine#[k,?_,(sz k (by rw[e];exact PD ..)).ps,c1,c2];refine v5 (s:=#[[.v (c7 A),.v (c7 B),y2,y3,y4],fs]) ?_;show oF iH N6 #[[.v (c7 A),.v (c7 B),.no,.no,.no],fs]=_;unfold oF;have hi:=hA.hi;rw[w6 (s1:=#[[.v (c7 A),.v (c7 B),.own (A.map pt),.no,.no],fs]) (ck (i:=2) (s1:=#[[.v (c7 A),.v (c7 B),.no,.no,.no],fs]) (ds:=A.map pt) rfl (by show 2<5;decide))];rw[w6 ((mY (s1:=#[[.v (c7 A),.v (c7 B),.own (A.map pt),.no,.no],fs]) (ds:=(k9 true B).map pq) (w5 rfl (rh B fs (by have:=hB.hi;omega)))).trans q)];rw[e] at Z;have Y:d7 (.lst ((k::r).map pt)) (.int 0)=some (pt k):=(B7 _ _).trans (nM (n:=0) (by rw[PM];rfl));rcases Z with rfl | rfl
 .exact A0 (d8 (x:=.lst ((k::r).map pt)) rfl rfl Y)
 .exact A0 (d8 (x:=.lst ((k::r).map pt)) rfl rfl Y)
structure MeP (A B:vT_) (p:Pt):Prop where
 sz:Ps 70 p
 a:∀i,0<=b9 (tk A i) (tk A (i+1)) p
 b:∀i,0<=b9 (tk B i) (tk B (i+1)) p
def eJ (p:Pt):D:=.tup [.str "meet",pt p]
abbrev au:c8:=sW R5 R9
def Ee {A:vT_}(h:K7 A B = .non):K8 A B 0 A.length=none/\K8 B A 0 B.length=none:=by
 unfold K7 at h;cases J:K8 A B 0 A.length with
 |some i=>rw[J] at h;cases h
 |none=>
  cases U:K8 B A 0 B.length with
  |some i=>rw[J,U] at h;cases h
  |none=>exact#[rfl,rfl]
def MY {A:vT_}(h:K7 A B ≠ .non):∃ds,K7 A B = .tup ds:=by
 unfold K7 at *;cases J:K8 A B 0 A.length with
 |some i=>exact#[_,rfl]
 |none=>
  cases U:K8 B A 0 B.length with
  |some i=>exact#[_,rfl]
  |none=>rw[J,U] at h;exact absurd rfl h
abbrev O8 (x0 x1 x2:Sl) (A:vT_) (row:vD_) (x5 x6:Sl) (fs:vO_):DS:=#[[x0,x1,x2,.v (c7 A),.own row,x5,x6],fs]
theorem wL {A:vT_}(hA:ShC A) (J x1 x2:Sl) (fs:vO_):∀(Os:List (List Pt)) (row:vD_) (x5 x6:Sl),(∀B∈Os,ShC B)->row.length+Os.length<=100 ->
  ∃fl y5 y6 row',C3 (f9 5) (cz R5 R9) (Os.map c7) (O8 J x1 x2 A row x5 x6 fs)=some (fl,O8 J x1 x2 A row' y5 y6 fs)/\((fl = .next/\row'=row++Os.map (K7 A)/\∀B∈Os,K7 A B ≠ .non)\/∃B∈Os,∃p,fl = .ret (eJ p)/\MeP A B p)
 |[],row,x5,x6,_,_=>#[.next,x5,x6,row,rfl,.inl #[rfl,by rw[Rj,QB],fun B hB=>by cases hB]]
 |B::r,row,x5,x6,h,hl=>by
  have hB:=h B (PD ..);have e:=JA hA hB fs;rw[PX] at hl;by_cases q:K7 A B = .non
  .obtain⟨q1,q2⟩:=Ee q;obtain⟨p,c,s,c1,c2⟩:=NI hA hB q1 q2 fs;rw[q] at e;refine#[.ret (eJ p),.v (c7 B),.v .non,row,?_,.inr #[B,PD ..,p,rfl,s,c1,c2]];have st:cz R5 R9 (O8 J x1 x2 A row (.v (c7 B)) x6 fs)=some (.ret (eJ p),O8 J x1 x2 A row (.v (c7 B)) (.v .non) fs):=by
    unfold cz;rw[w6 (s1:=O8 J x1 x2 A row (.v (c7 B)) (.v .non) fs) (C0 (w5 rfl e) rfl)];exact D7 ((G2 (s1:=O8 J x1 x2 A row (.v (c7 B)) (.v .non) fs) (B6 'e')).trans (A0 (G8 rfl (w5 rfl c))))
   rw[PM,ee (s1:=O8 J x1 x2 A row (.v (c7 B)) x6 fs) rfl st]
  .obtain⟨ds,hd⟩:=MY q;obtain⟨fl,y5,y6,row',f,g⟩:=wL hA J x1 x2 fs r (row++[K7 A B]) (.v (c7 B)) (.v (K7 A B)) (fun z U=>h z (Pz _ U)) (by rw[Qo,RG];omega);refine#[fl,y5,y6,row',?_,?_]
   .have st:cz R5 R9 (O8 J x1 x2 A row (.v (c7 B)) x6 fs)=some (.next,O8 J x1 x2 A (row++[K7 A B]) (.v (c7 B)) (.v (K7 A B)) fs):=by
     unfold cz;rw[w6 (s1:=O8 J x1 x2 A row (.v (c7 B)) (.v (K7 A B)) fs) (C0 (w5 rfl e) rfl)];rw[hd];rw[w6 (s1:=O8 J x1 x2 A row (.v (c7 B)) (.v 'm') fs) (D8 (B6 'e'))];exact Y4 (i:=4) (s:=O8 J x1 x2 A row (.v (c7 B)) (.v 'm') fs) (s1:=O8 J x1 x2 A row (.v (c7 B)) (.v 'm') fs) (ds:=row) (ds0:=row) (d:=.tup ds) (f:=dV 6) rfl rfl rfl (Qz (by omega:row.length<=100) #[])
    rw[PM,U6 (s1:=O8 J x1 x2 A row (.v (c7 B)) x6 fs) rfl st,f]
   .rcases g with ⟨g1,Y,g3⟩ | ⟨B',Z,p,g1,Y⟩
    .refine .inl #[g1,by rw[Y,So];rfl,fun z U=>?_];rcases xo.mp U with rfl | U
     .exact q
     .exact g3 z U
    .exact .inr #[B',Pz _ Z,p,g1,Y]
abbrev T2 (Ss Os:List (List Pt)) (rows:vD_) (x3 x4 x5 x6:Sl) (fs:vO_):DS:=#[[.v 'c',.v 'b',.own rows,x3,x4,x5,x6],fs]
def eN (Os:List (List Pt)) (A:vT_):D:=.tup (Os.map (K7 A))
theorem sv (hO:∀B∈Os,ShC B) (lO:Os.length<=50) (fs:vO_):∀(Rs:List (List Pt)) (rows:vD_) (x3 x4 x5 x6:Sl),(∀A∈Rs,ShC A)->rows.length+Rs.length<=100 ->
  ∃fl y3 y4 y5 y6 rows',C3 (f9 3) (du R5 R9) (Rs.map c7) (T2 Ss Os rows x3 x4 x5 x6 fs)=some (fl,T2 Ss Os rows' y3 y4 y5 y6 fs)/\((fl = .next/\rows'=rows++Rs.map (eN Os)/\∀A∈Rs,∀B∈Os,K7 A B ≠ .non)\/∃A∈Rs,∃B∈Os,∃p,fl = .ret (eJ p)/\MeP A B p)
 |[],rows,x3,x4,x5,x6,_,_=>#[.next,x3,x4,x5,x6,rows,rfl,.inl #[rfl,by rw[Rj,QB],fun A hA=>by cases hA]]
 |A::r,rows,x3,x4,x5,x6,h,hl=>by
  have hA:=h A (PD ..);rw[PX] at hl;obtain⟨fl,y5,y6,J,f,g⟩:=wL hA (.v 'c') (.v 'b') (.own rows) fs Os [] x5 x6 hO (by rw[RN];omega);have Y:du R5 R9 (T2 Ss Os rows (.v (c7 A)) x4 x5 x6 fs)=d6 (M1 (dV 1) (f9 5) (cz R5 R9)) (N8 2 (i9 (one Z5) (a7 (dL 4) a8))) (O8 (.v 'c') (.v 'b') (.own rows) A [] x5 x6 fs):=by
   unfold du;rw[w6 (s1:=O8 (.v 'c') (.v 'b') (.own rows) A [] x5 x6 fs) (ck (i:=4) (s1:=T2 Ss Os rows (.v (c7 A)) x4 x5 x6 fs) (ds:=[]) rfl (by show 4<7;decide))]
  have fo:=(fE (b:=cz R5 R9) (t:=f9 5) (f:=dV 1) (s:=O8 (.v 'c') (.v 'b') (.own rows) A [] x5 x6 fs) (s1:=O8 (.v 'c') (.v 'b') (.own rows) A [] x5 x6 fs) (ds:=Os.map c7) rfl).trans f;rcases g with ⟨g1,Z,g3⟩ | ⟨B,hB,p,g1,Z⟩
  .subst g1;rw[QW] at Z;subst Z;obtain⟨fl,z3,z4,z5,z6,rows',q,w⟩:=sv hO lO fs r (rows++[eN Os A]) (.v (c7 A)) (.own (Os.map (K7 A))) y5 y6 (fun z U=>h z (Pz _ U)) (by rw[Qo,RG];omega);refine#[fl,z3,z4,z5,z6,rows',?_,?_]
   .have st:du R5 R9 (T2 Ss Os rows (.v (c7 A)) x4 x5 x6 fs)=some (.next,T2 Ss Os (rows++[eN Os A]) (.v (c7 A)) (.own (Os.map (K7 A))) y5 y6 fs):=by
     rw[Y,w6 fo];exact Y4 (i:=2) (s:=O8 (.v 'c') (.v 'b') (.own rows) A (Os.map (K7 A)) y5 y6 fs) (s1:=O8 (.v 'c') (.v 'b') (.own rows) A (Os.map (K7 A)) y5 y6 fs) (ds:=rows) (ds0:=rows) (d:=eN Os A) rfl (kB (x:=.lst (Os.map (K7 A))) rfl rfl) rfl (Qz (by omega:rows.length<=100) #[])
    rw[PM,U6 (s1:=T2 Ss Os rows (.v (c7 A)) x4 x5 x6 fs) rfl st,q]
   .rcases w with ⟨w1,w2,w3⟩ | ⟨A',hA',B,hB,p,w1,w2⟩
    .refine .inl #[w1,by rw[w2,So];rfl,fun z U=>?_];rcases xo.mp U with rfl | U
     .exact g3
     .exact w3 z U
    .exact .inr #[A',Pz _ hA',B,hB,p,w1,w2]
  .subst g1;refine#[.ret (eJ p),.v (c7 A),.own J,y5,y6,rows,?_,.inr #[A,PD ..,B,hB,p,rfl,Z]];have st:du R5 R9 (T2 Ss Os rows (.v (c7 A)) x4 x5 x6 fs)=some (.ret (eJ p),T2 Ss Os rows (.v (c7 A)) (.own J) y5 y6 fs):=by
    rw[Y];exact D7 fo
   rw[PM,ee (s1:=T2 Ss Os rows (.v (c7 A)) x4 x5 x6 fs) rfl st]
def Jd (Ss Os:List (List Pt)):D:=.tup [.str "apart",.tup (Ss.map (eN Os))]
def Ii (hS:∀A∈Ss,ShC A) (hO:∀B∈Os,ShC B) (lS:Ss.length<=50) (lO:Os.length<=50) (fs:vO_) :
  (au [.tup (Ss.map c7),.tup (Os.map c7)] fs=some (Jd Ss Os,fs)/\∀A∈Ss,∀B∈Os,K7 A B ≠ .non)\/∃A∈Ss,∃B∈Os,∃p,au [.tup (Ss.map c7),.tup (Os.map c7)] fs=some (eJ p,fs)/\MeP A B p:=by
 refine gB_ fun G_ g_=>?_
 obtain⟨fl,y3,y4,y5,y6,J,f,g⟩:=sv (Ss:=Ss) hO lO fs Ss [] .no .no .no .no hS (by rw[RN];omega);have fo:=(fE (b:=du R5 R9) (t:=f9 3) (f:=dV 0) (s:=T2 Ss Os [] .no .no .no .no fs) (s1:=T2 Ss Os [] .no .no .no .no fs) (ds:=Ss.map c7) rfl).trans f;have U:fH R5 R9 #[[.v 'c',.v 'b',.no,.no,.no,.no,.no],fs]=d6 (M1 (dV 0) (f9 3) (du R5 R9)) (i8 (i7 (a7 (dC (.str "apart")) (a7 (i9 (one Z5) (a7 (dL 2) a8)) a8)))) (T2 Ss Os [] .no .no .no .no fs):=by
  unfold fH;rw[w6 (s1:=T2 Ss Os [] .no .no .no .no fs) (ck (i:=2) (s1:=#[[.v 'c',.v 'b',.no,.no,.no,.no,.no],fs]) (ds:=[]) rfl (by show 2<7;decide))]
 apply g_;rcases g with ⟨Z,Y,g3⟩ | ⟨A,hA,B,hB,p,Z,Y⟩
 .subst Z;rw[QW] at Y;subst Y;refine .inl #[v5 (s:=T2 Ss Os (Ss.map (eN Os)) y3 y4 y5 y6 fs) ?_,g3];show fH R5 R9 #[[.v 'c',.v 'b',.no,.no,.no,.no,.no],fs]=_;rw[U,w6 fo];exact A0 (G8 rfl (kB (x:=.lst (Ss.map (eN Os))) rfl rfl))
 .subst Z;refine .inr #[A,hA,B,hB,p,v5 (s:=T2 Ss Os J y3 y4 y5 y6 fs) ?_,Y];show fH R5 R9 #[[.v 'c',.v 'b',.no,.no,.no,.no,.no],fs]=_;rw[U];exact D7 fo
def t7 {a b:DM}{s:DS}{r:Option (Fl × DS)}(h:a s=some (.next,s1)) (k:b s1=r):d6 a b s=r:=(w6 h).trans k
def M5 {p:D->Option D}{a:DE}{s:DS}{x z:D}(h1:a s=some (x,s1)) (J:p x=some z):j4 p a s=some (z,s1):=by
 simp[j4,h1,J]
def pU {a b:DE}{s:DS}{r:Option (D × DS)}(h1:a s=some (.bl true,s1)) (h2:b s1=r):u4 a b s=r:=by
 unfold u4;rw[B6 h1];exact h2
def rJ {p:D->D->Option D}{fa fb fc:DE}{s:DS}{x z w:D}(h1:fa s=some (x,s)) (h2:fb s=some (y,s)) (Y:p x y=some (.bl true)) (U:fc s=some (z,s)) (J:p' y z=some w):ao p p' fa fb fc s=some (w,s):=by
 unfold ao;rw[h1,xu,h2,xu,Y,xu];show ((fc s).bind fun w=>(p' y w.1).map fun d=>(d,w.2))=_;rw[U,xu,J];rfl
def fK (i:Int):A1 (.int i) (.int i)=some (.bl false):=by rw[T6,PU rfl];rfl
def yc {x:D}{fs:vO_}(h:dL i #[sl,fs]=some (.tup [x,y],#[sl,fs])):n9 (l8 (j8 (j4 (A2 "tuple") (dL i)))) (dB (a9 A1 (i9 (one j6) (a7 (dL i) a8)) (Wk 2))) #[sl,fs]=some (false,#[sl,fs]):=
 br (E6 (b:=true) (B9 (M5 h rfl))) (T7 (C5 (t9 h rfl) rfl) rfl rfl)
abbrev iW:c8:=vo mQ
abbrev jn:c8:=zD cG
abbrev bL:c8:=vN ak jn
inductive PpI (A B:vT_):D->Prop
 | one {i:Nat}(h:i<A.length) (p:N9 A i B=true):PpI A B (.tup [.str "one",.int (i:Int)])
 | oth {i:Nat}(h:i<B.length) (p:N9 B i A=true):PpI A B (.tup [.str "other",.int (i:Int)])
def Ky {A:vT_}(h:K7 A B ≠ .non):PpI A B (K7 A B):=by
 unfold K7 at *;cases J:K8 A B 0 A.length with
 |some i=>
  obtain⟨_,b,d⟩:=qf _ _ _ J;exact .one ∅ d
 |none=>
  cases U:K8 B A 0 B.length with
  |some i=>
   obtain⟨_,b,d⟩:=qf _ _ _ U;exact .oth ∅ d
  |none=>rw[J,U] at h;exact absurd rfl h
theorem tB {n:Int}{r:Rat}(h:U9 n=u3 r):(n<0↔r<0)/\(n=0↔r=0)/\(0<n↔0<r):=by
 unfold U9 u3 at h;by_cases a:0<n
 .by_cases b:0<r
  .exact#[by constructor <;> intro <;> grind,by constructor <;> intro <;> grind,by simp[a,b]]
  .rw[iR a,iU b] at h;split at h <;> omega
 .by_cases b:0<r
  .rw[iU a,iR b] at h;split at h <;> omega
  .rw[iU a,iU b] at h;by_cases c:n<0
   .by_cases d:r<0
    .exact#[by simp[c,d],by constructor <;> intro <;> grind,by simp[a,b]]
    .rw[iR c,iU d] at h;omega
   .by_cases d:r<0
    .rw[iU c,iR d] at h;omega
    .exact#[by simp[c,d],by constructor <;> intro <;> grind,by simp[a,b]]
theorem FZ (A B:Pt):U9 (pX A*pL B - pX B*pL A)=u3 (A.1 - B.1):=kc (c:=(pL A:Rat)*pL B) (mV (aF A) (aF B)) (by
 rw[RP,Qw,Qw,bj,bj];grind)
theorem Me (A B:Pt):U9 (pY A*pL B - pY B*pL A)=u3 (A.2 - B.2):=kc (c:=(pL A:Rat)*pL B) (mV (aF A) (aF B)) (by
 rw[RP,Qw,Qw,bV,bV];grind)
abbrev L4 (A B P:Pt):Int:=pX A*(pY B*pL P - pL B*pY P) - pY A*(pX B*pL P - pL B*pX P)+pL A*(pX B*pY P - pY B*pX P)
theorem qi (A B P:Pt):U9 (L4 A B P)=u3 (b9 A B P):=kc (c:=(pL A:Rat)*pL B*pL P) (mV (mV (aF A) (aF B)) (aF P)) (by
 unfold L4 b9;simp only[RP,Vs,Qw,bj,bV];grind)
theorem Jl (A B:Pt):(decide (pX A*pL B - pX B*pL A<0)||(decide (pX A*pL B - pX B*pL A=0)&&decide (pY A*pL B<pY B*pL A)))=A3 A B:=by
 obtain⟨h1,h2,_⟩:=tB (FZ A B);obtain⟨J,_,_⟩:=tB (Me A B);unfold A3;congr 1
 .rw[VB,h1];constructor <;> intro <;> grind
 .congr 1
  .rw[VB,h2];constructor <;> intro <;> grind
  .rw[VB];constructor
   .intro h;have:=J.mp ∅;grind
   .intro h;have:=J.mpr 'l';omega
def Oq {x y z u v w:Int}(fs:vO_) (m1:w8 (.int x) (.int w)=some (.int (x*w))) (m2:w8 (.int u) (.int z)=some (.int (u*z))) (m3:w8 (.int y) (.int w)=some (.int (y*w))) (m4:w8 (.int v) (.int z)=some (.int (v*z))) :
  eM [.tup [.int x,.int y,.int z],.tup [.int u,.int v,.int w]] fs=some (.bl (decide (x*w - u*z<0)||(decide (x*w - u*z=0)&&decide (y*w<v*z))),fs):=by
 refine v5 (s:=#[[.v (.tup [.int x,.int y,.int z]),.v (.tup [.int u,.int v,.int w]),.v (.int (x*w - u*z))],fs]) ?_;show mW #[[.v (.tup [.int x,.int y,.int z]),.v (.tup [.int u,.int v,.int w]),.no],fs]=_;unfold mW;rw[w6 (s1:=#[[.v (.tup [.int x,.int y,.int z]),.v (.tup [.int u,.int v,.int w]),.v (.int (x*w - u*z))],fs]) (C0 (d8 (d8 rfl rfl m1) (d8 rfl rfl m2) rfl) rfl)];refine A0 ?_;generalize x*w - u*z=n;by_cases h1:n<0
 .simp![B4,B7,C6,C7,C9,D0,C8,h1]
 .by_cases h2:n=0
  .subst h2;simp![B4,B7,C6,C7,C9,D0,C8,aq,sZ,sS,lN,m3,m4]
  .simp![B4,B7,C6,C7,C9,D0,C8,h1,h2,aq]
def JH (A B:Pt) (fs:vO_) (hA:Ps k A) (hB:Ps k B) (J:k<=1000):eM [pt A,pt B] fs=some (.bl (A3 A B),fs):=by
 have b:∀{i:Int},Bd k i->F8 i=true:=fun h=>h.bits ∅
 rw[<-Jl];exact Oq fs (W5 (b hA.x) (b hB.l)) (W5 (b hB.x) (b hA.l)) (W5 (b hA.y) (b hB.l)) (W5 (b hB.y) (b hA.l))
def IB {x y z u v w a b c:Int}(hj:j<=400) (hx:Bd j x) (hy:Bd j y) (hz:Bd j z) (hu:Bd j u) (U:Bd j v) (Y:Bd j w) (ha:Bd j a) (J:Bd j b) (Z:Bd j c) (fs:vO_) :
  U5 [.tup [.int x,.int y,.int z],.tup [.int u,.int v,.int w],.tup [.int a,.int b,.int c]] fs=some (.int (x*(v*c - w*b) - y*(u*c - w*a)+z*(u*b - v*a)),fs):=by
 have m:∀{i l:Int},Bd j i->Bd j l->w8 (.int i) (.int l)=some (.int (i*l)):=fun h1 h2=>W5 (h1.bits ∅) (h2.bits ∅)
 have q:∀{i l k n:Int},Bd j i->Bd j l->Bd j k->Bd j n->F8 (i*l - k*n)=true:=fun h1 h2 h3 h4=>((h1.mul h2).sub (h3.mul h4)).bits ∅
 have mq:∀{e i l k n:Int},Bd j e->Bd j i->Bd j l->Bd j k->Bd j n->w8 (.int e) (.int (i*l - k*n))=some (.int (e*(i*l - k*n))):=fun h0 h1 h2 h3 h4=>W5 (h0.bits ∅) (q h1 h2 h3 h4)
 refine v5 (s:=#[[.v (.tup [.int x,.int y,.int z]),.v (.tup [.int u,.int v,.int w]),.v (.tup [.int a,.int b,.int c]),.v (.int (x*(v*c - w*b))),.v (.int (y*(u*c - w*a)))],fs]) ?_;show kZ #[[.v (.tup [.int x,.int y,.int z]),.v (.tup [.int u,.int v,.int w]),.v (.tup [.int a,.int b,.int c]),.no,.no],fs]=_;unfold kZ;rw[w6 (s1:=#[[.v (.tup [.int x,.int y,.int z]),.v (.tup [.int u,.int v,.int w]),.v (.tup [.int a,.int b,.int c]),.v (.int (x*(v*c - w*b))),.no],fs])
  (C0 (d8 rfl (d8 (d8 rfl rfl (m U Z)) (d8 rfl rfl (m Y J)) rfl) (mq hx U Z Y J)) rfl),
  w6 (s1:=#[[.v (.tup [.int x,.int y,.int z]),.v (.tup [.int u,.int v,.int w]),.v (.tup [.int a,.int b,.int c]),.v (.int (x*(v*c - w*b))),.v (.int (y*(u*c - w*a)))],fs])
  (C0 (d8 rfl (d8 (d8 rfl rfl (m hu Z)) (d8 rfl rfl (m Y ha)) rfl) (mq hy hu Z Y ha)) rfl)]
 exact A0 (d8 'e' (d8 rfl (d8 (d8 rfl rfl (m hu J)) (d8 rfl rfl (m U ha)) rfl) (mq hz hu J U ha)) rfl)
def tH (A B P:Pt) (fs:vO_) (hA:Ps k A) (hB:Ps k B) (J:Ps k P) (U:k<=400):U5 [pt A,pt B,pt P] fs=some (.int (L4 A B P),fs):=
 IB U hA.x hA.y hA.l hB.x hB.y hB.l J.x J.y J.l fs
def GU (bs:List Bool):ek (.bl true) (.lst (bs.map .bl))=some (.bl (bs.any id)):=by
 have h1:A9 (.bl true)=true:=rfl;have h2:A9 (.lst (bs.map .bl))=true:=by
  have:=Ok.lst (OkL.all (k:=0) (n:=0) (ds:=bs.map D.bl) (fun d U=>by
   obtain⟨b,_,rfl⟩:=Qh.mp U;exact Ok.bl b))
  exact this.eq
 have Y:az (.bl true) (bs.map .bl)=bs.any id:=by
  clear h2;induction bs with
  |nil=>rfl
  |cons b r J=>
   simp only[PM,az,D.pys,D.py,SE] at J ⊢;cases b
   .simpa [PyData.eqv] using J
   .rfl
 simp only[ek,bw,h1,h2,QM,Qs,id,Y]
def Kj (h:0<is.length):one oY [.lst (is.map D.int)]=some (.int (Y3 is)):=by
 show ((Z4 (is.map D.int)).bind fun is=>if 0<is.length then some (D.int (Y3 is)) else none)=_;rw[pV,xu,iR h]
def Ol (h:0<is.length):one mH [.lst (is.map D.int)]=some (.int (W2 is)):=by
 show ((Z4 (is.map D.int)).bind fun is=>if 0<is.length then some (D.int (W2 is)) else none)=_;rw[pV,xu,iR h]
def Kv (h:0<is.length):Y3 is∈is:=by
 cases is with
 |nil=>cases h
 |cons i r=>
  show r.foldl min i∈i::r;rcases(kI r i).1 with q | q
  .rw[q];exact PD ..
  .exact Pz _ q
def OE (h:0<is.length):W2 is∈is:=by
 cases is with
 |nil=>cases h
 |cons i r=>
  show r.foldl max i∈i::r;rcases(kD r i).1 with q | q
  .rw[q];exact PD ..
  .exact Pz _ q
def Eh {b:Pt}(h:b9 a b p<0):L4 a b p<0:=by
 have e:=qi a b p;rw[(aC _).mpr h] at e;unfold U9 at e;split at e
 .cases e
 .split at e
  .assumption
  .cases e
abbrev mG:c8:=Bt V7 U5
def gJ (A:vT_) (p:Pt):Bool:=decide (0<=Y3 ((k9 true A).map fun q=>L4 q.1 q.2 p))
def V0 {A:vT_}(U:q∈k9 true A):∃i,i<A.length/\q=(tk A i,tk A (i+1)):=by
 obtain⟨i,hi⟩:=Ru U;have J:i<A.length:=Qb (Qr.mp hi).1 (gf true A);rw[jP J] at hi;exact#[i,J,(Qi hi).symm]
def vS (K:vT_) (fs:vO_) (J:K.length<=1000):V7 [c7 K] fs=some (.lst ((k9 true K).map pq),fs):=by
 have e:=Ka 'r' fs (by rw[PH];omega);rw[rM] at e;exact e
def BL {A:vT_}(h:3<=A.length):0<(k9 true A).length:=by
 have:=jP (A:=A) (i:=0) ∅;exact(Qr.mp this).1
abbrev X8:c8:=tR mG
abbrev Q2:c8:=vW U5 V7
def Hc {b:Pt}(U:3<=B.length) (h:∀z∈B,b9 a b z<0):W2 (B.map fun z=>L4 a b z)<0:=by
 obtain⟨z,J,e⟩:=Qh.mp (OE (is:=B.map fun z=>L4 a b z) (by rw[PH];omega));rw[<-e];exact Eh (h z J)
theorem uT {b:Pt}(fs:vO_) (U:Ps 70 a) (J:Ps 70 b):∀B:List Pt,(∀z∈B,Ps 70 z)->G1 (fun d=>some (.v d::[.v (pt a),.v (pt b)])) F4 (d9 U5 (a7 (dV 1) (a7 (dV 2) 'o'))) (B.map pt) fs=some ((B.map fun z=>L4 a b z).map D.int,fs)
 |[],_=>rfl
 |z::r,h=>by
  have e:=tH a b z fs U J (h z (PD ..)) #[];have i:=uT fs U J r fun z Y=>h z (Pz _ Y)
  rw[PM,G1,xu,show F4 #[[.v (pt z),.v (pt a),.v (pt b)],fs]=some (true,#[[.v (pt z),.v (pt a),.v (pt b)],fs]) from rfl,xu,iR rfl,w5 rfl e,xu,i];rfl
def Cw {A:vT_}(p:N9 A i B=true):∀z∈B,b9 (tk A i) (tk A (i+1)) z<0:=fun z J=>by
 unfold N9 at p;exact(aC _).mp (Rb (QC.mp p z J))
abbrev aR:c8:=Co Q2 Z7 X8
def Y7 (h:ds.length=n):one j6 [.tup ds]=some (.int (n:Int)):=by
 show some (D.int (ds.length:Int))=_;rw[h]
def pG {a b:DE}{s:DS}(h1:a s=some (.bl false,s1)):u4 a b s=some (.bl false,s1):=by
 unfold u4;rw[B6 h1];rfl
def Bs {p:D->D->Option D}{fa fb fc:DE}{s:DS}{x:D}(h1:fa s=some (x,s)) (h2:fb s=some (y,s)) (J:p x y=some (.bl false)):ao p p' fa fb fc s=some (.bl false,s):=by
 unfold ao;rw[h1,xu,h2,xu,J,xu]
def aL (n:Nat):D->Bool
 |.int i=>decide (0<=i)&&decide (i<(n:Int))
 |_=>false
def OP (h:aL n d=true):∃i:Nat,d = .int (i:Int)/\i<n:=by
 cases d with
 |int i=>
  simp only[aL,Qe,Rk] at h;exact#[i.toNat,by rw[Int.toNat_of_nonneg h.1],by omega]
 |_=>cases h
def JO {A:vT_}(h:thing d=true) (fs:vO_):jn [c7 A,d] fs=some (.bl (aL A.length d),fs):=by
 have e:cG [d] fs=some (.bl (whole d),fs):=AG d fs h;have l:one j6 [c7 A]=some (.int (A.length:Int)):=by
  show some (D.int ((A.map pt).length:Int))=_;rw[PH]
 generalize c7 A=S at *;refine v5 (s:=#[[.v S,.v d],fs]) (A0 ?_);cases d with
 |int i=>
  refine pU (w5 rfl e) ?_;by_cases J:0<=i
  .have U:l7 (fun i j=>decide (i<=j)) (.int 0) (.int i)=some (.bl true):=by
    show some (D.bl (decide ((0:Int)<=i)))=_;rw[PU J]
   refine(rJ rfl rfl U (C5 rfl l) (w:=.bl (decide (i<(A.length:Int)))) rfl).trans ?_;simp only[aL,PU J,Rf];rfl
  .have U:l7 (fun i j=>decide (i<=j)) (.int 0) (.int i)=some (.bl false):=by
    show some (D.bl (decide ((0:Int)<=i)))=_;rw[PY J]
   refine(Bs rfl rfl U).trans ?_;simp only[aL,PY J,Ro];rfl
 |feed=>cases h
 |scr _=>cases h
 |fn _=>cases h
 |exc _ _=>cases h
 |_=>exact pG (w5 rfl e)
def R4 (A:vT_) (d:D) (B:vT_):Bool:=aL A.length d&&match d with
 |.int i=>N9 A i.toNat B
 |_=>false
def M3 (A B:vT_):D->Bool
 |.tup [x,y]=>if A8 x "one" = true then R4 A y B else if A8 x "other" = true then R4 B y A else false
 |_=>false
def uj {A B:vT_}(hA:ShC A) (hB:ShC B) {a b c:DE}{s:DS}{d:D}(h:thing d=true) (Y:a s=some (c7 A,s)) (U:b s=some (d,s)) (ec:c s=some (c7 B,s)) (fs:s.fs=s.fs:=rfl):u4 (d9 jn (a7 a (a7 b a8))) (d9 ak (a7 a (a7 b (a7 c a8)))) s=some (.bl (R4 A d B),s):=by
 have J:=JO (A:=A) h s.fs;by_cases q:aL A.length d=true
 .obtain⟨i,rfl,il⟩:=OP q;rw[q] at J;have Z:=uK s.fs hA.ps hB.ps #[] il (by have:=hA.hi;omega);refine(pU (w5 (t9 Y (t9 U rfl)) J) (w5 (t9 Y (t9 U (t9 ec rfl))) Z)).trans ?_;simp only[R4,q,Rf,QT]
 .rw[Qp] at q;rw[q] at J;refine(pG (w5 (t9 Y (t9 U rfl)) J)).trans ?_;simp only[R4,q,Ro]
def Y6:D->Bool
 |.tup [_,_]=>true
 |_=>false
def fY (h:Y6 d=true):∃x y,d = .tup [x,y]:=by
 cases d with
 |tup ds=>
  match ds,h with
  |[x,y],_=>exact#[x,y,rfl]
 |_=>cases h
def uq {fs:vO_}(J:thing d=true) (Y:Y6 d=false) (h:dL i #[sl,fs]=some (d,#[sl,fs])):n9 (l8 (j8 (j4 (A2 "tuple") (dL i)))) (dB (a9 A1 (i9 (one j6) (a7 (dL i) a8)) (Wk 2))) #[sl,fs]=some (true,#[sl,fs]):=by
 cases d with
 |tup ds=>
  have U:A1 (.int (ds.length:Int)) (.int 2)=some (.bl true):=by
   rw[T6,PY];rfl;intro q;have:ds.length=2:=by omega
   match ds,this with
   |[x,y],_=>cases Y
  exact aB (E6 (b:=true) (B9 (M5 h rfl))) (T7 (C5 (t9 h rfl) rfl) rfl U)
 |feed=>cases J
 |scr _=>cases J
 |fn _=>cases J
 |exc _ _=>cases J
 |_=>exact bo (E6 (b:=false) (B9 (M5 h rfl)))
def bP {a:Str}(h:R0 a):A9 (.str a)=true:=(Ok.str (kg h)).eq #[]
def kr:R0 "one" := ay 'h'
def rN:R0 "other" := ay 'h'
def gh:R0 "meet" := ay 'h'
def jg:R0 "apart" := ay 'h'
def bA {b:Nat}(h:Th b k d) (U:b<=1900) (J:k<=60):A9 d=true:=(Th.ok ∅ _ h).eq ∅
def HY {A:vT_}(hA:ShC A) (hB:ShC B) {b:Nat}(h:Th b k d) (hb:b<=1900) (hk:k<=60) (fs:vO_):bL [c7 A,c7 B,d] fs=some (.bl (M3 A B d),fs):=by
 have ht:=h.thing;by_cases c:Y6 d=true
 .obtain⟨x,y,rfl⟩:=fY c;have hx:=Th.part h x 'g';have hy:=Th.part h y 'g';have Z:=dY (bA hx hb hk) hx.thing (bP kr);have q2:=dY (bA hx hb hk) hx.thing (bP rN);have e1:=uj hA hB (a:=dV 0) (b:=Wl 2 1) (c:=dV 1) (s:=#[[.v (c7 A),.v (c7 B),.v (.tup [x,y])],fs]) hy.thing rfl 'e' rfl;have e2:=uj hB hA (a:=dV 1) (b:=Wl 2 1) (c:=dV 0) (s:=#[[.v (c7 A),.v (c7 B),.v (.tup [x,y])],fs]) hy.thing rfl 'e' rfl;have v:M3 A B (.tup [x,y])=if A8 x "one" = true then R4 A y B else if A8 x "other" = true then R4 B y A else false:=rfl
  generalize M3 A B (.tup [x,y])=z at *;generalize c7 A=X at *;generalize c7 B=Y at *;refine v5 (s:=#[[.v X,.v Y,.v (.tup [x,y])],fs]) ?_;show jy ak jn #[[.v X,.v Y,.v (.tup [x,y])],fs]=_;unfold jy;refine t7 (D8 (yc rfl)) ?_;by_cases J:A8 x "one" = true
  .rw[J] at Z;rw[v,iR J];exact D7 ((G2 (B6 (d8 'e' rfl Z))).trans (A0 e1))
  .rw[v,iU J];rw[Qp] at J;rw[J] at Z;refine t7 (D8 (B6 (d8 'e' rfl Z))) ?_;by_cases U:A8 x "other" = true
   .rw[U] at q2;rw[iR U];exact D7 ((G2 (B6 (d8 'e' rfl q2))).trans (A0 e2))
   .rw[iU U];rw[Qp] at U;rw[U] at q2;exact t7 (D8 (B6 (d8 'e' rfl q2))) (A0 rfl)
 .rw[Qp] at c;have v:M3 A B d=false:=by
   cases d with
   |tup ds=>
    match ds,c with
    |[],_=>rfl
    |[_],_=>rfl
    |_::_::_::_,_=>rfl
   |_=>rfl
  rw[v];generalize c7 A=X at *;generalize c7 B=Y at *;refine v5 (s:=#[[.v X,.v Y,.v d],fs]) ?_;show jy ak jn #[[.v X,.v Y,.v d],fs]=_;unfold jy;exact D7 ((G2 (uq ht c rfl)).trans (A0 rfl))
def Mz {a b:Str}(h:A9 d=true) (J:thing d=true) (U:A9 (.tup [.str a,.str b])=true):ez d (.tup [.str a,.str b])=some (.bl (!gP d a b)):=by
 have:az d [.str a,.str b]=gP d a b:=by
  cases d with
  |feed=>cases J
  |scr _=>cases J
  |fn _=>cases J
  |exc _ _=>cases J
  |_=>simp[az,gP,D.pys,D.py,PyData.eqv,Te]
 simp only[ez,bw,h,U,QM,Qs,this]
def OJ {A:vT_}(U:3<=B.length):decide (W2 (B.map fun z=>L4 (tk A i) (tk A (i+1)) z)<0)=N9 A i B:=by
 by_cases p:N9 A i B=true
 .rw[p,PU (Hc U (Cw p))]
 .rw[Qp] at p;rw[p,PY];intro q;refine yd p fun z J=>?_
  have:L4 (tk A i) (tk A (i+1)) z<0:=by
   have m:L4 (tk A i) (tk A (i+1)) z∈B.map fun z=>L4 (tk A i) (tk A (i+1)) z:=Qh.mpr #[z,J,rfl]
   revert m q;generalize (B.map fun z=>L4 (tk A i) (tk A (i+1)) z)=l;intro q m;cases l with
   |nil=>cases m
   |cons y r=>
    have f:=kD r y;have q:r.foldl max y<0:=q;rcases xo.mp m with w | w
    .rw[w];omega
    .have:=f.2.2 _ w;omega
  have e:=qi (tk A i) (tk A (i+1)) z;rw[show U9 (L4 (tk A i) (tk A (i+1)) z) = -1 from by unfold U9;rw[iU ∅,iR this]] at e;exact(aC _).mp e.symm
def zq {A:vT_}(hA:ShC A) (hB:ShC B) {i:Int}(J x1:Sl) {w:D}{fs:vO_}(hw:d7 w (.int 1)=some (.int i)) (x5 Z:Sl) :
  ∃y5 y6,d6 (j7 (l8 (dB (ao (l7 (fun i j=>decide (i<=j))) (l7 (fun i j=>decide (i<j))) (Wk 0) (Wl 2 1) (i9 (one j6) (a7 (dL 3) a8))))) 't' j9) (d6 (j5 (a9 d7 (d9 V7 (a7 (dV 3) a8)) (Wl 2 1)) (r8 2 (o6 (f9 5) (o6 (f9 6) t6)))) (i8 (a9 (l7 (fun i j=>decide (i<j))) (i9 (one mH) (a7 (l5 (F5 [5,6] (M8 (dV 4)) F4 (d9 U5 (a7 (dV 1) (a7 (dV 2) 'o'))))) a8)) (Wk 0)))) #[[J,x1,.v w,.v (c7 A),.v (c7 B),x5,Z],fs]=some (.ret (.bl (R4 A (.int i) B)),#[[J,x1,.v w,.v (c7 A),.v (c7 B),y5,y6],fs]):=by
 have a6:=hA.hi;have ed:=vS A fs ∅;have l:one j6 [c7 A]=some (.int (A.length:Int)):=by
  show some (D.int ((A.map pt).length:Int))=_;rw[PH]
 by_cases U:0<=i
 .have Y:l7 (fun i j=>decide (i<=j)) (.int 0) (.int i)=some (.bl true):=by
   show some (D.bl (decide ((0:Int)<=i)))=_;rw[PU U]
  by_cases h1:i<(A.length:Int)
  .have c2:l7 (fun i j=>decide (i<j)) (.int i) (.int (A.length:Int))=some (.bl true):=by
    show some (D.bl (decide (i<(A.length:Int))))=_;rw[PU h1]
   have v:R4 A (.int i) B=N9 A i.toNat B:=by
    unfold R4 aL;simp only[PU U,PU h1,Rf]
   rw[v];obtain⟨n,rfl⟩:=Uw U;have hi:n<A.length:=by omega
   rw[QT];have ix:d7 (.lst ((k9 true A).map pq)) (.int (n:Int))=some (pq (tk A n,tk A (n+1))):=bQ (bF (by rw[Qy,jP hi];rfl));have row:=uT fs (hA.ps _ (Z2 n ∅)) (hA.ps _ (Z2 (n+1) ∅)) B hB.ps;have mx:=Ol (is:=B.map fun z=>L4 (tk A n) (tk A (n+1)) z) (by rw[PH];have:=hB.lo;omega);have lt:l7 (fun i j=>decide (i<j)) (.int (W2 (B.map fun z=>L4 (tk A n) (tk A (n+1)) z))) (.int 0)=some (.bl (N9 A n B)):=by
    show some (D.bl (decide (_<(0:Int))))=_;rw[OJ hB.lo]
   have lz:(B.map pt).length<=sizeLine:=by rw[PH];exact PJ hB.hi #[]
   refine#[.v (pt (tk A n)),.v (pt (tk A (n+1))),?_];refine t7 (s1:=#[[J,x1,.v w,.v (c7 A),.v (c7 B),x5,Z],fs]) (D8 (E6 (b:=true) (B6 (rJ rfl (d8 rfl rfl hw) Y (C5 rfl l) c2)))) ?_;refine t7 (s1:=#[[J,x1,.v w,.v (c7 A),.v (c7 B),.v (pt (tk A n)),.v (pt (tk A (n+1)))],fs]) (C0 (d8 (w5 rfl ed) (d8 rfl rfl hw) ix) rfl) ?_;exact A0 (d8 (C5 (t9 (bB (gK (s1:=#[[J,x1,.v w,.v (c7 A),.v (c7 B),.v (pt (tk A n)),.v (pt (tk A (n+1)))],fs]) rfl lz row)) rfl) mx) rfl lt)
  .have c2:l7 (fun i j=>decide (i<j)) (.int i) (.int (A.length:Int))=some (.bl false):=by
    show some (D.bl (decide (i<(A.length:Int))))=_;rw[PY h1]
   have v:R4 A (.int i) B=false:=by
    unfold R4 aL;simp only[PY h1,Vy,Ro]
   rw[v];exact#[x5,Z,D7 ((G2 (E6 (b:=false) (B6 (rJ rfl (d8 rfl rfl hw) Y (C5 rfl l) c2)))).trans (A0 rfl))]
 .have Y:l7 (fun i j=>decide (i<=j)) (.int 0) (.int i)=some (.bl false):=by
   show some (D.bl (decide ((0:Int)<=i)))=_;rw[PY U]
  have v:R4 A (.int i) B=false:=by
   unfold R4 aL;simp only[PY U,Ro]
  rw[v];exact#[x5,Z,D7 ((G2 (E6 (b:=false) (B6 (Bs rfl (d8 rfl rfl hw) Y)))).trans (A0 rfl))]
def MD:A9 (.tup [.str "one",.str "other"])=true:=(Ok.tup (OkL.cons (Ok.str (kg kr)) (OkL.cons (Ok.str (kg rN)) OkL.nil))).eq #[]
def sX {A:vT_}(h:∀i,y ≠ .int i):R4 A y B=false:=by
 cases y with
 |int i=>exact absurd rfl (h i)
 |_=>rfl
def wz {fs:vO_}(U:thing d=true) (Z:∀w y,d ≠ .tup [.str w,y]) (J:∀x y,d = .tup [x,y]->thing x=true) (h:dL 2 #[sl,fs]=some (d,#[sl,fs])) :
  n9 (l8 (j8 (j4 (A2 "tuple") (dL 2)))) (n9 (dB (a9 A1 (i9 (one j6) (a7 (dL 2) a8)) (Wk 2))) (l8 (j8 (j4 (A2 "str") (Wl 2 0))))) #[sl,fs]=some (true,#[sl,fs]):=by
 by_cases c:Y6 d=true
 .obtain⟨x,y,rfl⟩:=fY c;have J:=J x y rfl;refine aB (E6 (b:=true) (B9 (M5 h rfl))) (aB (T7 (C5 (t9 h rfl) rfl) rfl (fK 2)) (E6 (b:=false) (B9 (M5 (d8 h rfl rfl) ?_))));cases x with
  |str w=>exact absurd rfl (Z w y)
  |feed=>cases J
  |scr _=>cases J
  |fn _=>cases J
  |exc _ _=>cases J
  |_=>rfl
 .rw[Qp] at c;cases d with
  |tup ds=>
   have Y:A1 (.int (ds.length:Int)) (.int 2)=some (.bl true):=by
    rw[T6,PY];rfl;intro q;have:ds.length=2:=by omega
    match ds,this with
    |[x,y],_=>cases c
   exact aB (E6 (b:=true) (B9 (M5 h rfl))) (bo (T7 (C5 (t9 h rfl) rfl) rfl Y))
  |feed=>cases U
  |scr _=>cases U
  |fn _=>cases U
  |exc _ _=>cases U
  |_=>exact bo (E6 (b:=false) (B9 (M5 h rfl)))
def je {w:Str}{fs:vO_}(h:dL 2 #[sl,fs]=some (.tup [.str w,y],#[sl,fs])) :
  n9 (l8 (j8 (j4 (A2 "tuple") (dL 2)))) (n9 (dB (a9 A1 (i9 (one j6) (a7 (dL 2) a8)) (Wk 2))) (l8 (j8 (j4 (A2 "str") (Wl 2 0))))) #[sl,fs]=some (false,#[sl,fs]):=
 br (E6 (b:=true) (B9 (M5 h rfl))) (br (T7 (C5 (t9 h rfl) rfl) rfl (fK 2)) (E6 (b:=true) (B9 (M5 (d8 h rfl rfl) rfl))))
def Al (d:D):(∃w y,d = .tup [.str w,y])\/∀w y,d ≠ .tup [.str w,y]:=by
 by_cases h:∃w y,d = .tup [.str w,y]
 .exact .inl h
 .exact .inr fun w y e=>h #[w,y,e]
def FE {A:vT_}(h:∀w y,d ≠ .tup [.str w,y]):M3 A B d=false:=by
 cases d with
 |tup ds=>
  match ds,h with
  |[],_=>rfl
  |[_],_=>rfl
  |[x,y],h=>
   cases x with
   |str w=>exact absurd rfl (h w y)
   |_=>rfl
  |_::_::_::_,_=>rfl
 |_=>rfl
def sM {A:vT_}(hA:ShC A) (hB:ShC B) {b:Nat}(h:Th b k d) (hb:b<=1900) (hk:k<=60) (fs:vO_):Q2 [c7 A,c7 B,d] fs=some (.bl (M3 A B d),fs):=by
 have ht:=h.thing;rcases Al d with ⟨w,y,rfl⟩ | no
 .have U:=Th.part h (.str w) 'g';have hy:=(Th.part h y 'g').thing;have q1:=dY (bA U hb hk) U.thing (bP kr);have n:=Mz (bA U hb hk) U.thing MD;have v:M3 A B (.tup [.str w,y])=if A8 (.str w) "one" = true then R4 A y B else if A8 (.str w) "other" = true then R4 B y A else false:=rfl
  by_cases c:gP (.str w) "one" "other" = true
  .rw[c] at n;by_cases ci:∃i,y = .int i
   .obtain⟨i,rfl⟩:=ci;have e1:=zq hA hB (.v (c7 A)) (.v (c7 B)) (w:=.tup [.str w,.int i]) (fs:=fs) rfl .no .no;have e2:=zq hB hA (.v (c7 A)) (.v (c7 B)) (w:=.tup [.str w,.int i]) (fs:=fs) rfl .no .no;generalize M3 A B (.tup [.str w,.int i])=z at *;generalize c7 A=X at *;generalize c7 B=Y at *;have Z:∀{r:DM},d6 (j7 (n9 (l8 (j8 (j4 (A2 "tuple") (dL 2)))) (n9 (dB (a9 A1 (i9 (one j6) (a7 (dL 2) a8)) (Wk 2))) (l8 (j8 (j4 (A2 "str") (Wl 2 0)))))) 't' j9) (d6 (j7 (n9 (dB (a9 ez (Wl 2 0) (i7 (a7 (dC (.str "one")) (a7 (dC (.str "other")) a8))))) (n9 (l8 (j8 (j4 (A2 "int") (Wl 2 1)))) (j8 (j4 (A2 "bool") (Wl 2 1))))) 't' j9) r) #[[.v X,.v Y,.v (.tup [.str w,.int i]),.no,.no,.no,.no],fs]=r #[[.v X,.v Y,.v (.tup [.str w,.int i]),.no,.no,.no,.no],fs]:=fun {r}=>
     t7 (D8 (je rfl)) (t7 (D8 (br (B6 (d8 'e' (G8 rfl rfl) n)) (br (E6 (b:=true) (B9 (M5 'e' rfl))) (B9 (M5 'e' rfl))))) rfl)
    by_cases J:A8 (.str w) "one" = true
    .obtain⟨y5,y6,e⟩:=e1;rw[J] at q1;rw[v,iR J];refine v5 (s:=#[[.v X,.v Y,.v (.tup [.str w,.int i]),.v X,.v Y,y5,y6],fs]) ?_;show af U5 V7 #[[.v X,.v Y,.v (.tup [.str w,.int i]),.no,.no,.no,.no],fs]=_;unfold af;rw[Z];exact t7 (s1:=#[[.v X,.v Y,.v (.tup [.str w,.int i]),.v X,.v Y,.no,.no],fs]) (C0 ((qF (B6 (d8 'e' rfl q1))).trans (G8 rfl rfl)) rfl) e
    .obtain⟨y5,y6,e⟩:=e2;rw[v,iU J];rw[Qp] at J;rw[J] at q1;have c2:A8 (.str w) "other" = true:=by
      simp only[gP,A8,Bool.or_eq_true,Rk,Wi] at c J ⊢;rcases c with c | c
      .exact absurd c.symm J
      .exact c.symm
     rw[iR c2];refine v5 (s:=#[[.v X,.v Y,.v (.tup [.str w,.int i]),.v Y,.v X,y5,y6],fs]) ?_;show af U5 V7 #[[.v X,.v Y,.v (.tup [.str w,.int i]),.no,.no,.no,.no],fs]=_;unfold af;rw[Z];exact t7 (s1:=#[[.v X,.v Y,.v (.tup [.str w,.int i]),.v Y,.v X,.no,.no],fs]) (C0 ((mL (B6 (d8 'e' rfl q1))).trans (G8 rfl rfl)) rfl) e
   .have ni:∀i,y ≠ .int i:=fun i e=>ci #[i,e]
    rw[v,sX ni,sX ni,ite_self,ite_self];generalize c7 A=X at *;generalize c7 B=Y at *;refine v5 (s:=#[[.v X,.v Y,.v (.tup [.str w,y]),.no,.no,.no,.no],fs]) ?_;show af U5 V7 #[[.v X,.v Y,.v (.tup [.str w,y]),.no,.no,.no,.no],fs]=_;unfold af;refine t7 (D8 (je rfl)) (D7 ((G2 (aB (B6 (d8 'e' (G8 rfl rfl) n)) ?_)).trans (A0 rfl)));cases y with
    |int i=>exact absurd rfl (ni i)
    |bl z=>exact aB (E6 (b:=true) (B9 (M5 'e' rfl))) (B9 (M5 'e' rfl))
    |feed=>cases hy
    |scr _=>cases hy
    |fn _=>cases hy
    |exc _ _=>cases hy
    |_=>exact bo (E6 (b:=false) (B9 (M5 'e' rfl)))
  .rw[Qp] at c;rw[c] at n;have J:A8 (.str w) "one" = false/\A8 (.str w) "other" = false:=by
    simp only[gP,A8,Bool.or_eq_false_iff,Wi] at c ⊢;exact#[fun e=>c.1 e.symm,fun e=>c.2 e.symm]
   rw[v,J.1,J.2,iU PL,iU PL];generalize c7 A=X at *;generalize c7 B=Y at *;refine v5 (s:=#[[.v X,.v Y,.v (.tup [.str w,y]),.no,.no,.no,.no],fs]) ?_;show af U5 V7 #[[.v X,.v Y,.v (.tup [.str w,y]),.no,.no,.no,.no],fs]=_;unfold af;exact t7 (D8 (je rfl)) (D7 ((G2 (bo (B6 (d8 'e' (G8 rfl rfl) n)))).trans (A0 rfl)))
 .rw[FE no];have U:∀x y,d = .tup [x,y]->thing x=true:=fun x y e=>by subst e;exact(Th.part h x 'g').thing
  generalize c7 A=X at *;generalize c7 B=Y at *;refine v5 (s:=#[[.v X,.v Y,.v d,.no,.no,.no,.no],fs]) ?_;show af U5 V7 #[[.v X,.v Y,.v d,.no,.no,.no,.no],fs]=_;unfold af;exact D7 ((G2 (wz ht no U rfl)).trans (A0 rfl))
theorem yz (J:Sl) (fs:vO_) (Y:Ps k p) (U:k<=400):∀qs:List (Pt × Pt),(∀q∈qs,Ps k q.1/\Ps k q.2)->G1 (mk2 [1] [J,.v (pt p)]) F4 (d9 U5 (a7 (dV 0) (a7 (dV 1) (a7 (dV 2) a8)))) (qs.map pq) fs=some ((qs.map fun q=>L4 q.1 q.2 p).map D.int,fs)
 |[],_=>rfl
 |z::r,h=>by
  obtain⟨h1,h2⟩:=h z (PD ..);have e:=tH z.1 z.2 p fs h1 h2 Y U;have i:=yz J fs Y U r fun z Z=>h z (Pz _ Z)
  rw[PM,G1,show mk2 [1] [J,.v (pt p)] (pq z)=some [.v (pt z.1),.v (pt z.2),.v (pt p)] from rfl,xu,show F4 #[[.v (pt z.1),.v (pt z.2),.v (pt p)],fs]=some (true,#[[.v (pt z.1),.v (pt z.2),.v (pt p)],fs]) from rfl,xu,iR rfl,w5 rfl e,xu,i];rfl
def CY {A:vT_}(hA:ShC A) (hp:Ps k p) (J:70<=k) (hk:k<=400) (fs:vO_):mG [c7 A,pt p] fs=some (.bl (gJ A p),fs):=by
 have hi:=hA.hi;have Z:=vS A fs ∅;have hn:=BL hA.lo;have c:=yz (p:=p) (.v (c7 A)) fs hp hk (k9 true A) fun q hq=>by
  obtain⟨i,il,rfl⟩:=V0 hq;exact#[(hA.ps _ (Z2 i ∅)).mono J,(hA.ps _ (Z2 (i+1) ∅)).mono J]
 have mn:=Kj (is:=(k9 true A).map fun q=>L4 q.1 q.2 p) (by rw[PH];exact hn);have U:((k9 true A).map pq).length<=sizeLine:=by
  rw[PH];exact PJ (PJ (gf true A) hi) #[]
 refine v5 (s:=#[[.v (c7 A),.v (pt p)],fs]) ?_;show ox V7 U5 #[[.v (c7 A),.v (pt p)],fs]=_;unfold ox;have Y:M8 (d9 V7 'o') #[[.v (c7 A),.v (pt p)],fs]=some ((k9 true A).map pq,#[[.v (c7 A),.v (pt p)],fs]):=by
  unfold M8;rw[w5 rfl Z];rfl
 exact A0 (d8 (C5 (t9 (bB (BG Y U c)) rfl) mn) rfl rfl)
def sN (hS:∀A∈Ss,ShC A) (hl:Ss.length<=50) (hp:Ps k p) (J:70<=k) (Z:k<=400) (fs:vO_):X8 [.tup (Ss.map c7),pt p] fs=some (.bl (Ss.any (gJ · p)),fs):=by
 have c:∀Ss:List (List Pt),(∀A∈Ss,ShC A)->G1 (fun d=>some (.v d::[.v (pt p)])) F4 (d9 mG (a7 (dV 0) (a7 (dV 1) a8))) (Ss.map c7) fs=some ((Ss.map (gJ · p)).map D.bl,fs):=fun Ss=>by
  induction Ss with
  |nil=>exact fun _=>rfl
  |cons A r Y=>
   intro h;have e:=CY (h A (PD ..)) hp J Z fs;have i:=Y fun z hz=>h z (Pz _ hz)
   rw[PM,G1,xu,show F4 #[[.v (c7 A),.v (pt p)],fs]=some (true,#[[.v (c7 A),.v (pt p)],fs]) from rfl,xu,iR rfl,w5 rfl e,xu,i];rfl
 have t:=GU (Ss.map (gJ · p));rw[List.any_map] at t;have U:(Ss.map c7).length<=sizeLine:=by rw[PH];exact PJ hl #[]
 have c:=c Ss hS;refine v5 (s:=#[[.v 'c',.v (pt p)],fs]) ?_;show pR mG #[[.v 'c',.v (pt p)],fs]=_;unfold pR;exact A0 (d8 rfl (bB (gK (idx:=[1]) (s1:=#[[.v 'c',.v (pt p)],fs]) rfl U c)) t)
def xW (a b p:Pt):0<=L4 a b p↔u3 (b9 a b p) ≠ -1:=by
 have e:=qi a b p;rw[<-e];unfold U9;constructor
 .intro h;rcases Int.lt_or_eq_of_le h with q | q
  .rw[iR q];decide
  .rw[iU ∅,iU ∅];decide
 .intro h;rcases Vr (L4 a b p) 0 with q | q
  .rw[iU ∅,iR q] at h;exact absurd rfl h
  .exact q
def Nf {A:vT_}(hA:ShC A) (p:Pt):gJ A p=O0 A p:=by
 have U:0<((k9 true A).map fun q=>L4 q.1 q.2 p).length:=by rw[PH];exact BL hA.lo
 by_cases c:O0 A p=true
 .rw[c];refine PU ?_;obtain⟨q,J,e⟩:=Qh.mp (Kv U);rw[<-e,xW];unfold O0 at c;have:=QC.mp c q J;simpa using this
 .have c':=c;rw[Qp] at c';rw[c'];refine PY fun h=>c ?_
  unfold O0;rw[QC];intro q J;have m:L4 q.1 q.2 p∈(k9 true A).map fun q=>L4 q.1 q.2 p:=Qh.mpr #[q,J,rfl]
  have:0<=L4 q.1 q.2 p:=by
   revert h m;generalize ((k9 true A).map fun q=>L4 q.1 q.2 p)=l;intro h m;cases l with
   |nil=>cases m
   |cons y r=>
    have f:=kI r y;have h:0<=r.foldl min y:=h;rcases xo.mp m with w | w
    .rw[w];omega
    .have:=f.2.2 _ w;omega
  have:=(xW _ _ _).mp this;simpa using this
def yG (J:∀A∈Ss,ShC A) (p:Pt):Ss.any (gJ · p)=Ss.any (O0 · p):=by
 induction Ss with
 |nil=>rfl
 |cons A r U=>rw[SE,SE,Nf (J A (PD ..)),U fun z Y=>J z (Pz _ Y)]
def sQ {b:Nat}(h:Th b k d) (J:E5 d=true):∃p,d=pt p/\Ps b p:=by
 have:=Ob (ds:=[d]) (fun x U=>by rw[PV.mp U];exact h) (by simp[J]) (W9 d) 'g';exact#[_,Ak J,this]
def qg {b:DM}{fs:vO_}{s:DS}(h:b #[ds.map .v++List.replicate (n - ds.length) .no,fs]=some (.ret d,s)):aP n b ds fs=some (.inl d,s.fs):=by simp[aP,h]
def fG {b:DM}{es:vD_}{fs:vO_}{s:DS}(h:b #[ds.map .v++List.replicate (n - ds.length) .no,fs]=some (.thr c es,s)):aP n b ds fs=some (.inr (c,es),s.fs):=by simp[aP,h]
def uH {t:DA}{s:DS}(h:t s=some (ds,s1)):aD c t s=some (.thr c ds,s1):=by simp[aD,h]
def cS {a b:DM}{s:DS}(h:a s=some (.thr c ds,s1)):d6 a b s=some (.thr c ds,s1):=by simp[d6,h,u9]
def rT {m:M6}{s:DS}{xs:vD_}{fs:vO_}{r:Rx}(h1:f s=some (xs,#[sl,fs])) (h2:m xs fs=some (r,fs')):eP m f s=some (r,#[sl,fs']):=by simp[eP,h1,h2]
def fR {c:DT}{w:Str}{t:DA}{b:DM}{s:DS}(h:c s=some (true,s1)) (k:t s1=some (ds,s2)):j7 c (aD w t) b s=some (.thr w ds,s2):=(G2 h).trans (uH k)
def Bw {t:D->DS->Option DS}{b:DM}{es:vD_}{r:vD_}{s:DS}(h1:t d s=some s1) (h2:b s1=some (.thr c es,s2)):C3 t b (d::r) s=some (.thr c es,s2):=by simp[C3,h1,h2]
def dh (w:Str) (k:Nat):Fl:=.thr "NoPaper" [.str w,.int (k:Int)]
def aG (Os:List (List Pt)) (A:vT_):D->Option Str
 |.tup ds=>if ds.length=Os.length then if (List.zipWith (M3 A) Os ds).all id=true then none else some "pair" else some "rows"
 |_=>some "rows"
def nr (Os:List (List Pt)) (A:vT_) (ds:vD_):aG Os A 'm'=if ds.length=Os.length then if (List.zipWith (M3 A) Os ds).all id=true then (none:Option Str) else some (("pair" : Str)) else some (("rows" : Str)):=rfl
def X7 (Os:List (List Pt)):List (List Pt)->List D->Nat->Option (Str × Nat)
 |A::Ss,r::rs,k=>match aG Os A r with
  |some w=>some (w,k)
  |none=>X7 Os Ss rs (k+1)
 |_,_,_=>none
def xD:Option (Str × Nat)->Fl
 |none=>.next
 |some (w,k)=>dh w k
theorem tJ {A:vT_}(hA:ShC A) {b:Nat}(hb:b<=1900) (hj:j<=60) (U x1 x2 J:Sl) (fs:vO_) (Y:∀x1 x2 J x5 x6:Sl,a9 d7 (dL 0) (dL 3) #[[U,x1,x2,.v (.int (k:Int)),J,x5,x6],fs]=some (c7 A,#[[U,x1,x2,.v (.int (k:Int)),J,x5,x6],fs])):∀(Os:List (List Pt)) (ds:vD_) (x5 x6:Sl),(∀B∈Os,ShC B)->(∀d∈ds,Th b j d) ->
  ∃y5 y6,C3 (r8 2 (o6 (f9 5) (o6 (f9 6) t6))) (su bL) (List.zipWith U3 ds (Os.map c7)) #[[U,x1,x2,.v (.int (k:Int)),J,x5,x6],fs]=some (if (List.zipWith (M3 A) Os ds).all id=true then .next else dh "pair" k,#[[U,x1,x2,.v (.int (k:Int)),J,y5,y6],fs])
 |[],ds,x5,x6,_,_=>#[x5,x6,by cases ds <;> rfl]
 |_::_,[],x5,x6,_,_=>#[x5,x6,rfl]
 |B::r,d::ds,x5,x6,h,hd=>by
  have hB:=h B (PD ..);have e:=HY hA hB (hd d (PD ..)) hb hj fs;obtain⟨y5,y6,f⟩:=tJ hA hb hj U x1 x2 J fs Y r ds (.v d) (.v (c7 B)) (fun z Z=>h z (Pz _ Z)) fun z Z=>hd z (Pz _ Z)
  rw[PM,Ul,Ul,Se];by_cases c:M3 A B d=true
  .refine#[y5,y6,?_];rw[c] at e;rw[c];exact(U6 (s1:=#[[U,x1,x2,.v (.int (k:Int)),J,.v d,.v (c7 B)],fs]) rfl (D8 (E6 (b:=true) (B9 (w5 (t9 (Y ..) rfl) e))))).trans f
  .rw[Qp] at c;rw[c] at e;rw[c];refine#[.v d,.v (c7 B),?_];exact Bw (s1:=#[[U,x1,x2,.v (.int (k:Int)),J,.v d,.v (c7 B)],fs]) rfl ((G2 (E6 (b:=false) (B9 (w5 (t9 (Y ..) rfl) e)))).trans (uH rfl))
def Hb {t:D->DS->Option DS}{b:DM}{s:DS}{xs ys:vD_}(h:f s=some ([.tup xs,.tup ys],s1)):ie f t b s=C3 t b (List.zipWith U3 xs ys) s1:=by
 unfold ie;rw[h];rfl
def MQ {A:vT_}(hA:ShC A) {b:Nat}(hb:b<=1900) (hj:j<=60) (hO:∀B∈Os,ShC B) {X R r:D}(fs:vO_) (hr:Th b j r) (ix:d7 X (.int (k:Int))=some (c7 A)) (U J:Sl) :
  ∃y5 y6,mz bL #[[.v X,.v 'b',.v R,.v (.int (k:Int)),.v r,U,J],fs]=some ((match aG Os A r with | some w=>dh w k | none=>.next),#[[.v X,.v 'b',.v R,.v (.int (k:Int)),.v r,y5,y6],fs]):=by
 have Y:=hr.thing;have lo:one j6 [.tup (Os.map c7)]=some (.int (Os.length:Int)):=Y7 (by rw[PH]);cases r with
 |tup ds=>
  obtain⟨y5,y6,f⟩:=tJ hA hb hj (.v X) (.v 'b') (.v R) (.v 'm') (k:=k) fs (fun _ _ _ _ _=>d8 rfl rfl ix) Os ds U J hO fun d hd=>Th.part hr d hd
  by_cases c:ds.length=Os.length
  .have Z:one j6 [.tup ds]=some (.int (Os.length:Int)):=Y7 c;refine#[y5,y6,?_];have v:(match aG Os A 'm' with | some w=>dh w k | none=>.next)=if (List.zipWith (M3 A) Os ds).all id=true then .next else dh "pair" k:=by
    rw[nr,iR c];by_cases q:(List.zipWith (M3 A) Os ds).all id=true
    .rw[iR q,iR q]
    .rw[iU q,iU q]
   rw[v];exact t7 (D8 (br (E6 (b:=true) (B9 (M5 rfl rfl))) (T7 (C5 rfl Z) (C5 rfl lo) (fK _)))) ((Hb rfl).trans f)
  .have Z:one j6 [.tup ds]=some (.int (ds.length:Int)):=Y7 rfl;have ne:A1 (.int (ds.length:Int)) (.int (Os.length:Int))=some (.bl true):=by
    rw[T6,PY ∅];rfl
   refine#[U,J,?_];have v:(match aG Os A 'm' with | some w=>dh w k | none=>.next)=dh "rows" k:=by
    rw[nr,iU c]
   rw[v];exact cS (fR (aB (E6 (b:=true) (B9 (M5 rfl rfl))) (T7 (C5 rfl Z) (C5 rfl lo) ne)) rfl)
 |feed=>cases Y
 |scr _=>cases Y
 |fn _=>cases Y
 |exc _ _=>cases Y
 |_=>exact#[U,J,cS (fR (bo (E6 (b:=false) (B9 (M5 rfl rfl)))) rfl)]
theorem tu {b q:Nat}(U:b<=1900) (Z:q<=60) (Y:∀B∈Os,ShC B) {X R:D}(fs:vO_):∀(Ss:List (List Pt)) (rs:vD_) (j:Nat) (x3 x4 x5 x6:Sl),(∀A∈Ss,ShC A)->(∀r∈rs,Th b q r)->(∀i A,Ss[i]? = some A->d7 X (.int ((j+i:Nat):Int))=some (c7 A))->rs.length=Ss.length ->
  ∃y3 y4 y5 y6,C3 (r8 2 (o6 (f9 3) (o6 (f9 4) t6))) (mz bL) ((rs.zipIdx j).map fun p=>.tup [.int (p.2:Int),p.1]) #[[.v X,.v 'b',.v R,x3,x4,x5,x6],fs]=some (xD (X7 Os Ss rs j),#[[.v X,.v 'b',.v R,y3,y4,y5,y6],fs])
 |[],[],j,x3,x4,x5,x6,_,_,_,_=>#[x3,x4,x5,x6,rfl]
 |A::Ss,r::rs,j,x3,x4,x5,x6,hS,hr,hi,hl=>by
  obtain⟨y5,y6,e⟩:=MQ (hS A (PD ..)) U Z Y (X:=X) (R:=R) fs (hr r (PD ..)) (hi 0 A rfl) x5 x6;rw[UZ,PM];unfold X7;cases w:aG Os A r with
  |some w'=>
   rw[w] at e;exact#[_,_,y5,y6,Bw (s1:=#[[.v X,.v 'b',.v R,.v (.int (j:Int)),.v r,x5,x6],fs]) rfl e]
  |none=>
   rw[w] at e;obtain⟨z3,z4,z5,z6,f⟩:=tu U Z Y (X:=X) (R:=R) fs Ss rs (j+1) (.v (.int (j:Int))) (.v r) y5 y6 (fun z J=>hS z (Pz _ J)) (fun z J=>hr z (Pz _ J)) (fun i B hB=>by
    have:=hi (i+1) B (by rw[SU];exact hB);rw[show j+1+i=j+(i+1) by omega];exact this) (by simpa using hl)
   exact#[z3,z4,z5,z6,(U6 (s1:=#[[.v X,.v 'b',.v R,.v (.int (j:Int)),.v r,x5,x6],fs]) rfl e).trans f]
def gC:Option (Str × Nat)->Rx
 |none=>.inl (.bl true)
 |some (w,k)=>.inr ("NoPaper",[.str w,.int (k:Int)])
def ag (Ss Os:List (List Pt)) (rs:vD_):Option (Str × Nat):=if rs.length=Ss.length then X7 Os Ss rs 0 else some ("rows",0)
abbrev jr:M6:=AE bL
def Lg (hS:∀A∈Ss,ShC A) (hO:∀B∈Os,ShC B) {b q:Nat}(hb:b<=1900) (hq:q<=60) {rs:vD_}(hr:∀r∈rs,Th b q r) (fs:vO_):jr [.tup (Ss.map c7),.tup (Os.map c7),.tup rs] fs=some (gC (ag Ss Os rs),fs):=by
 have ls:one j6 [.tup (Ss.map c7)]=some (.int (Ss.length:Int)):=Y7 (by rw[PH]);have Y:one j6 [.tup rs]=some (.int (rs.length:Int)):=Y7 rfl;by_cases c:rs.length=Ss.length
 .have v:ag Ss Os rs=X7 Os Ss rs 0:=by unfold ag;rw[iR c]
  rw[v];obtain⟨Z,y4,U,J,e⟩:=tu hb hq hO (X:=.tup (Ss.map c7)) (R:=.tup rs) fs Ss rs 0 .no .no .no .no hS hr (fun i A hA=>by
   rw[Ry];exact(B4 _ _).trans (bF (by rw[Qy,hA];rfl))) c
  rw[c] at Y;have s1:∀r:DM,d6 (j7 (dB (a9 A1 (i9 (one j6) (a7 (dL 2) a8)) 'n')) (aD "NoPaper" (a7 (dC (.str "rows")) (a7 (Wk 0) a8))) j9) r #[[.v 'c',.v 'b',.v (.tup rs),.no,.no,.no,.no],fs]=r #[[.v 'c',.v 'b',.v (.tup rs),.no,.no,.no,.no],fs]:=fun r=>t7 (D8 (T7 (C5 rfl Y) (C5 rfl ls) (fK _))) rfl
  have f:fJ (a7 (dV 2) a8) (r8 2 (o6 (f9 3) (o6 (f9 4) t6))) (mz bL) #[[.v 'c',.v 'b',.v (.tup rs),.no,.no,.no,.no],fs]=some (xD (X7 Os Ss rs 0),#[[.v 'c',.v 'b',.v (.tup rs),Z,y4,U,J],fs]):=(Ew rfl).trans e;cases w:X7 Os Ss rs 0 with
  |none=>
   rw[w] at f;refine qg (s:=#[[.v 'c',.v 'b',.v (.tup rs),Z,y4,U,J],fs]) ?_;show eS bL #[[.v 'c',.v 'b',.v (.tup rs),.no,.no,.no,.no],fs]=_;unfold eS;rw[s1];exact t7 f (A0 rfl)
  |some wk=>
   rw[w] at f;refine fG (s:=#[[.v 'c',.v 'b',.v (.tup rs),Z,y4,U,J],fs]) ?_;show eS bL #[[.v 'c',.v 'b',.v (.tup rs),.no,.no,.no,.no],fs]=_;unfold eS;rw[s1];exact cS f
 .have v:ag Ss Os rs=some (("rows" : Str),0):=by unfold ag;rw[iU c]
  rw[v];have ne:A1 (.int (rs.length:Int)) (.int (Ss.length:Int))=some (.bl true):=by
   rw[T6,PY ∅];rfl
  refine fG (s:=#[[.v 'c',.v 'b',.v (.tup rs),.no,.no,.no,.no],fs]) ?_;show eS bL #[[.v 'c',.v 'b',.v (.tup rs),.no,.no,.no,.no],fs]=_;unfold eS;exact cS (fR (T7 (C5 rfl Y) (C5 rfl ls) ne) rfl)
def bh (Ss Os:List (List Pt)) (p:Pt):Option (Str × Nat):=if (Ss.any (O0 · p)&&Os.any (O0 · p))=true then none else some ("place",0)
abbrev ik:M6:=wV jv
def CQ (hS:∀A∈Ss,ShC A) (hO:∀B∈Os,ShC B) (J:70<=k) (hk:k<=400) (hp:Ps k p) (fs:vO_):ik [.tup (Ss.map c7),.tup (Os.map c7),pt p] fs=some (gC (bh Ss Os p),fs):=by
 have g:∀{Ss:List (List Pt)},(∀A∈Ss,ShC A)->∀A∈Ss,A.length<=1000/\∀z∈A,Ps k z:=fun h A hA=>#[by have:=(h A hA).hi;omega,fun z hz=>((h A hA).ps z hz).mono J]
 have U:=Ca fs hp (g hS) ∅;have Z:=Ca fs hp (g hO) ∅;unfold bh;generalize D.tup (Ss.map c7)=X at *;generalize D.tup (Os.map c7)=Y at *;generalize Ss.any (O0 · p)=u at *;generalize Os.any (O0 · p)=v at *;cases u with
 |false=>
  refine fG (s:=#[[.v X,.v Y,.v (pt p)],fs]) ?_;show ef jv #[[.v X,.v Y,.v (pt p)],fs]=_;unfold ef;exact cS (fR (bo (E6 (b:=false) (B9 (w5 rfl U)))) rfl)
 |true=>
  cases v with
  |false=>
   refine fG (s:=#[[.v X,.v Y,.v (pt p)],fs]) ?_;show ef jv #[[.v X,.v Y,.v (pt p)],fs]=_;unfold ef;exact cS (fR (aB (E6 (b:=true) (B9 (w5 rfl U))) (E6 (b:=false) (B9 (w5 rfl Z)))) rfl)
  |true=>
   refine qg (s:=#[[.v X,.v Y,.v (pt p)],fs]) ?_;show ef jv #[[.v X,.v Y,.v (pt p)],fs]=_;unfold ef;exact t7 (D8 (br (E6 (b:=true) (B9 (w5 rfl U))) (E6 (b:=true) (B9 (w5 rfl Z))))) (A0 rfl)
def eV:D->Bool
 |.tup _=>true
 |_=>false
def yL (h:thing y=true):A2 "tuple" y=some (.bl (eV y)):=by
 cases y with
 |feed=>cases h
 |scr _=>cases h
 |fn _=>cases h
 |exc _ _=>cases h
 |_=>rfl
def cK:D->Bool
 |.tup [x,y]=>if A8 x "meet" = true then E5 y else (A8 x "apart" && eV y)
 |_=>false
def om (c:Y6 d=false):cK d=false:=by
 cases d with
 |tup ds=>
  match ds,c with
  |[],_=>rfl
  |[_],_=>rfl
  |_::_::_::_,_=>rfl
 |_=>rfl
def vz {x:D}(h:bk (.tup [x,y])<=m):bk x<=m/\bk y<=m:=by
 rw[V1,N7,N7,aS] at h;omega
def Im {b:Nat}(h:Th b k d) (hb:b<=1900) (hk:k<=60) (hs:bk d<=1000000) (fs:vO_):iW [d] fs=some (.bl (cK d),fs):=by
 have ht:=h.thing;by_cases c:Y6 d=true
 .obtain⟨x,y,rfl⟩:=fY c;have hx:=Th.part h x 'g';have hy:=Th.part h y 'g';have Y:=dY (bA hx hb hk) hx.thing (bP gh);have Z:=dY (bA hx hb hk) hx.thing (bP jg);have e:=Fd y fs hy (vz hs).2;have t:=yL hy.thing;have v:cK (.tup [x,y])=if A8 x "meet" = true then E5 y else (A8 x "apart" && eV y):=rfl
  rw[v];refine v5 (s:=#[[.v (.tup [x,y])],fs]) ?_;show ja mQ #[[.v (.tup [x,y])],fs]=_;unfold ja;refine t7 (D8 (yc rfl)) ?_;by_cases J:A8 x "meet" = true
  .rw[J] at Y;rw[iR J];exact D7 ((G2 (B6 (d8 'e' rfl Y))).trans (A0 (w5 (t9 'e' rfl) e)))
  .rw[iU J];rw[Qp] at J;rw[J] at Y;refine t7 (D8 (B6 (d8 'e' rfl Y))) (A0 ?_);by_cases U:A8 x "apart" = true
   .rw[U] at Z;rw[U,Rf];exact pU (d8 'e' rfl Z) (M5 'e' t)
   .rw[Qp] at U;rw[U] at Z;rw[U,Ro];exact pG (d8 'e' rfl Z)
 .rw[Qp] at c;rw[om c];refine v5 (s:=#[[.v d],fs]) ?_;show ja mQ #[[.v d],fs]=_;unfold ja;exact D7 ((G2 (uq ht c rfl)).trans (A0 rfl))
def fO (Ss Os:List (List Pt)):D->Option (Str × Nat)
 |.tup rs=>ag Ss Os rs
 |_=>some ("shape",0)
def U4 (Ss Os:List (List Pt)):D->Option (Str × Nat)
 |.tup [x,y]=>if A8 x "meet" = true then (if E5 y=true then bh Ss Os (W9 y) else some ("shape",0)) else if A8 x "apart" = true then fO Ss Os y else some ("shape",0)
 |_=>some ("shape",0)
def qI (c:cK d=false):U4 Ss Os d=some (("shape" : Str),0):=by
 by_cases t:Y6 d=true
 .obtain⟨x,y,rfl⟩:=fY t;have v:cK (.tup [x,y])=if A8 x "meet" = true then E5 y else (A8 x "apart" && eV y):=rfl
  rw[v] at c;show (if A8 x "meet" = true then (if E5 y=true then bh Ss Os (W9 y) else some (("shape" : Str),0)) else if A8 x "apart" = true then fO Ss Os y else some (("shape" : Str),0))=_;by_cases U:A8 x "meet" = true
  .rw[iR U] at c ⊢;rw[c,iU PL]
  .rw[iU U] at c ⊢;by_cases J:A8 x "apart" = true
   .rw[iR J];rw[J,Rf] at c;cases y with
    |tup Y=>cases c
    |_=>rfl
   .rw[iU J]
 .rw[Qp] at t;cases d with
  |tup ds=>
   match ds,t with
   |[],_=>rfl
   |[_],_=>rfl
   |_::_::_::_,_=>rfl
  |_=>rfl
def mD:Option (Str × Nat)->Fl
 |none=>.ret (.bl true)
 |some (w,k)=>dh w k
abbrev kY:M6:=yh jr ik iW
def so {m:M6}{t:DA}{fs:vO_}{s:DS}{xs:vD_}{o:Option (Str × Nat)}(h1:t s=some (xs,#[sl,fs])) (h2:m xs fs=some (gC o,fs')):ij (eP m t) s=some (mD o,#[sl,fs']):=by
 unfold ij;rw[rT h1 h2];cases o with
 |none=>rfl
 |some J=>rfl
def zm {b:DM}{fs:vO_}{o:Option (Str × Nat)}{s:DS}(h:b #[ds.map .v++List.replicate (n - ds.length) .no,fs]=some (mD o,s)):aP n b ds fs=some (gC o,s.fs):=by
 cases o with
 |none=>exact qg h
 |some J=>exact fG h
def Nv {a c:DM}{s:DS}{o:Option (Str × Nat)}(h:a s=some (mD o,s1)):d6 a c s=some (mD o,s1):=by
 cases o with
 |none=>exact D7 h
 |some J=>exact cS h
def Ez (hS:∀A∈Ss,ShC A) (hO:∀B∈Os,ShC B) {b:Nat}(h:Th b k d) (h70:70<=b) (hb:b<=400) (hk:k<=60) (hs:bk d<=1000000) (fs:vO_):kY [.tup (Ss.map c7),.tup (Os.map c7),d] fs=some (gC (U4 Ss Os d),fs):=by
 have J:=Im h ∅ hk hs fs;by_cases c:cK d=true
 .rw[c] at J;have t2:Y6 d=true:=by
   by_cases t:Y6 d=true
   .exact t
   .rw[Qp] at t;rw[om t] at c;cases c
  obtain⟨x,y,rfl⟩:=fY t2;have hx:=Th.part h x 'g';have hy:=Th.part h y 'g';have Z:=dY (bA hx ∅ hk) hx.thing (bP gh);have v:cK (.tup [x,y])=if A8 x "meet" = true then E5 y else (A8 x "apart" && eV y):=rfl
  rw[v] at c;have tv:U4 Ss Os (.tup [x,y])=(if A8 x "meet" = true then (if E5 y=true then bh Ss Os (W9 y) else some (("shape" : Str),0)) else if A8 x "apart" = true then fO Ss Os y else some (("shape" : Str),0)):=rfl;rw[tv];by_cases c1:A8 x "meet" = true
  .rw[iR c1] at c ⊢;rw[iR c];rw[c1] at Z;obtain⟨p,rfl,hp⟩:=sQ hy c;have ep:W9 (pt p)=p:=ug p;rw[ep];have e1:=CQ hS hO h70 hb hp fs;generalize D.tup (Ss.map c7)=X at *;generalize D.tup (Os.map c7)=Y at *;refine zm (s:=#[[.v X,.v Y,.v (.tup [x,pt p])],fs]) ?_;show fk jr ik iW #[[.v X,.v Y,.v (.tup [x,pt p])],fs]=_;unfold fk;exact t7 (D8 (E6 (b:=true) (B9 (w5 rfl J)))) (Nv ((G2 (B6 (d8 'e' rfl Z))).trans (so (t9 rfl (t9 rfl (t9 'e' rfl))) e1)))
  .rw[iU c1] at c ⊢;have U:=c1;rw[Qp] at U;rw[U] at Z;rw[Qe] at c;rw[iR c.1];cases y with
   |tup rs=>
    have e1:=Lg hS hO (b:=b) (q:=k) ∅ hk (fun r hr=>Th.part hy r hr) fs (rs:=rs);show _=some (gC (ag Ss Os rs),fs);generalize D.tup (Ss.map c7)=X at *;generalize D.tup (Os.map c7)=Y at *;refine zm (s:=#[[.v X,.v Y,.v (.tup [x,.tup rs])],fs]) ?_;show fk jr ik iW #[[.v X,.v Y,.v (.tup [x,.tup rs])],fs]=_;unfold fk;exact t7 (D8 (E6 (b:=true) (B9 (w5 rfl J)))) (t7 (D8 (B6 (d8 'e' rfl Z))) (so (t9 rfl (t9 rfl (t9 'e' rfl))) e1))
   |_=>exact absurd c.2 PL
 .rw[Qp] at c;rw[c] at J;rw[qI c];generalize D.tup (Ss.map c7)=X at *;generalize D.tup (Os.map c7)=Y at *;refine fG (s:=#[[.v X,.v Y,.v d],fs]) ?_;show fk jr ik iW #[[.v X,.v Y,.v d],fs]=_;unfold fk;exact cS (fR (E6 (b:=false) (B9 (w5 rfl J))) rfl)
def X9:Option (Str × Nat)->D
 |none=>.non
 |some (w,k)=>.tup [.str w,.int (k:Int)]
def Jh {b h:DM}{s:DS}(h1:b s=some (.next,s1)):fW cs i b h s=some (.next,s1):=by simp[fW,h1]
def Kh {cs:List Str}{i:Nat}{b h:DM}{s s1 s2:DS}{c:Str}{ds:vD_}(h1:b s=some (.thr c ds,s1)) (J:cs.contains c=true/\ds.length<=2) (h2:h { s1 with sl:=s1.sl.set i (.v (.exc c ds)) }=some (.next,s2)):fW cs i b h s=some (.next,{ s2 with sl:=s2.sl.set i .no }):=by
 unfold fW;rw[h1,xu];show (if cs.contains c=true/\ds.length<=2 then _ else none)=_;rw[iR J,h2];rfl
abbrev cM:c8:=rH kY
def Ct (hS:∀A∈Ss,ShC A) (Z:∀B∈Os,ShC B) {b:Nat}(h:Th b k d) (J:70<=b) (hb:b<=400) (U:k<=60) (hs:bk d<=1000000) (fs:vO_):cM [.tup (Ss.map c7),.tup (Os.map c7),d] fs=some (X9 (U4 Ss Os d),fs):=by
 have e:=Ez hS Z h J hb U hs fs;generalize U4 Ss Os d=o at *;generalize D.tup (Ss.map c7)=X at *;generalize D.tup (Os.map c7)=Y at *;show rH kY [X,Y,d] fs=_;generalize kY=m at *;cases o with
 |none=>
  refine v5 (s:=#[[.v X,.v Y,.v d,.v .non,.no,.no],fs]) ?_;show gY m #[[.v X,.v Y,.v d,.no,.no,.no],fs]=_;unfold gY;refine t7 (s1:=#[[.v X,.v Y,.v d,.v (.str "other"),.no,.no],fs]) rfl (t7 (s1:=#[[.v X,.v Y,.v d,.v .non,.no,.no],fs]) (Jh ?_) rfl);unfold lE;rw[rT (sl:=[.v X,.v Y,.v d,.v (.str "other"),.no,.no]) rfl e];rfl
 |some wk=>
  obtain⟨w,n⟩:=wk;refine v5 (s:=#[[.v X,.v Y,.v d,.v (.tup [.str w,.int (n:Int)]),.no,.v (.bl false)],fs]) ?_;show gY m #[[.v X,.v Y,.v d,.no,.no,.no],fs]=_;unfold gY;refine t7 (s1:=#[[.v X,.v Y,.v d,.v (.str "other"),.no,.no],fs]) rfl (t7 (s1:=#[[.v X,.v Y,.v d,.v (.tup [.str w,.int (n:Int)]),.no,.v (.bl false)],fs]) (Kh (s1:=#[[.v X,.v Y,.v d,.v (.str "other"),.no,.no],fs]) (s2:=#[[.v X,.v Y,.v d,.v (.tup [.str w,.int (n:Int)]),.v (.exc "NoPaper" [.str w,.int (n:Int)]),.v (.bl false)],fs]) (c := "NoPaper") (ds:=[.str w,.int (n:Int)]) ?_ #[by decide +kernel,tx _] ?_) rfl)
  .unfold lE;rw[rT (sl:=[.v X,.v Y,.v d,.v (.str "other"),.no,.no]) rfl e];rfl
  .rfl
def oE (bs:List Bool):D->D
 |.int i=>.bl ((bs[i.toNat]?).getD false)
 |_=>.non
def Df (bs:List Bool) (h:bs.length=n):(B3 0 n).map (oE bs)=bs.map D.bl:=by
 refine UW fun i=>?_
 rw[Qy,Qy];by_cases c:i<n
 .have l:i<(B3 0 n).length:=by rw[Y5];exact c
  have g:(B3 0 n)[i]? = some (B3 0 n)[i]:=Qf l;obtain⟨e,_⟩:=dH g;rw[g,e];have J:bs[i]? = some bs[i]:=Qf ∅;rw[J];show some (D.bl ((bs[((0:Int)+(i:Int)).toNat]?).getD false))=_;rw[TB,QT,J];rfl
 .rw[UI (by rw[Y5];omega),UI ∅];rfl
def cy {c:DT}{e:DE}{b:DM}{s:DS}(h:c s=some (true,s1)) (k:e s1=some (d,s2)):j7 c (i8 e) b s=some (.ret d,s2):=(G2 h).trans (A0 k)
def HP {A:vT_}(hA:ShC A) (hO:∀B∈Os,ShC B) (lO:Os.length<=50) (g:Ss[i]? = some A) {b:Nat}(hb:b<=1900) (hk:k<=60) {rs:vD_}{r x:D}(gr:rs[i]? = some r) (hr:Th b k r) (x4:Sl) (fs:vO_) :
  iw Q2 Z7 X8 #[[.v 'c',.v 'b',.v (.tup [x,.tup rs]),.v 'u',x4],fs]=some ((match aG Os A r with | some w=>.ret (X9 (some (w,i))) | none=>.next),#[[.v 'c',.v 'b',.v (.tup [x,.tup rs]),.v 'u',.v r],fs]):=by
 have J:=hr.thing;have ix:d7 'c' 'u'=some (c7 A):=(B4 _ _).trans (bF (by rw[Qy,g];rfl));have ir:d7 (.tup rs) 'u'=some r:=(B4 _ _).trans (bF gr);have lo:one j6 [.tup (Os.map c7)]=some (.int (Os.length:Int)):=Y7 (by rw[PH]);unfold iw;refine t7 (s1:=#[[.v 'c',.v 'b',.v (.tup [x,.tup rs]),.v 'u',.v r],fs]) (C0 (d8 (d8 rfl rfl (show d7 (.tup [x,.tup rs]) (.int 1)=some (.tup rs) from rfl)) rfl ir) rfl) ?_;cases r with
 |tup ds=>
  rw[nr];by_cases c:ds.length=Os.length
  .rw[iR c];have U:one j6 [.tup ds]=some (.int (Os.length:Int)):=Y7 c;refine t7 (D8 (br (E6 (b:=true) (B9 (M5 rfl rfl))) (T7 (C5 rfl U) (C5 rfl lo) (fK _)))) ?_;have zl:(List.zipWith (M3 A) Os ds).length=Os.length:=by rw[Uk,c,Nat.min_self]
   have Y:=gU (idx:=[0,3,1,4]) (g:=oE (List.zipWith (M3 A) Os ds)) (fe:=d9 Q2 (a7 (a9 d7 's' (dL 2)) (a7 (a9 d7 (dL 3) (dL 0)) (a7 (a9 d7 (dL 4) (dL 0)) a8)))) [.v 'c',.v 'u',.v 'b',.v 'm'] fs (B3 0 Os.length) fun d hd=>by
    obtain⟨j,hj⟩:=Ru hd;obtain⟨rfl,jl⟩:=dH hj;rw[TB];have gj:Os[j]? = some Os[j]:=Qf jl;have jm:Os[j]∈Os:=Rl jl;have jd:j<ds.length:=by omega
    have gd:ds[j]? = some ds[j]:=Qf jd;have i1:d7 'b' (.int (j:Int))=some (c7 Os[j]):=(B4 _ _).trans (bF (by rw[Qy,gj];rfl));have i2:d7 'm' (.int (j:Int))=some ds[j]:=(B4 _ _).trans (bF gd);refine#[#[[.v (.int (j:Int)),.v 'c',.v 'u',.v 'b',.v 'm'],fs],(w5 (t9 (d8 rfl rfl ix) (t9 (d8 rfl rfl i1) (t9 (d8 rfl rfl i2) rfl))) (sM hA (hO _ jm) (Th.part hr _ (Rl jd)) hb hk fs)).trans ?_,rfl];have e:oE (List.zipWith (M3 A) Os ds) (.int (j:Int)) = .bl (M3 A Os[j] ds[j]):=by
     show D.bl (((List.zipWith (M3 A) Os ds)[((j:Int)).toNat]?).getD false)=_;rw[QT,Vi,gj,gd];rfl
    rw[e]
   rw[Df _ zl] at Y;have fi:=(Dq (List.zipWith (M3 A) Os ds)).1;have rg:R8 (a7 (i9 (one j6) (a7 's' a8)) a8) #[[.v 'c',.v 'b',.v (.tup [x,.tup rs]),.v 'u',.v 'm'],fs]=some (B3 0 Os.length,#[[.v 'c',.v 'b',.v (.tup [x,.tup rs]),.v 'u',.v 'm'],fs]):=by
    unfold R8;rw[t9 (C5 rfl lo) rfl,xu,show T8 [.int (Os.length:Int)]=some (B3 0 Os.length) from bR ∅];rfl
   have Z:(B3 0 Os.length).length<=sizeLine:=by rw[Y5];exact PJ lO #[]
   by_cases q:(List.zipWith (M3 A) Os ds).all id=true
   .rw[iR q];rw[q] at fi;exact D8 (B6 (d8 rfl (bB (gK rg Z Y)) fi))
   .rw[iU q];rw[Qp] at q;rw[q] at fi;exact cy (B6 (d8 rfl (bB (gK rg Z Y)) fi)) (G8 rfl rfl)
  .rw[iU c];have U:one j6 [.tup ds]=some (.int (ds.length:Int)):=Y7 rfl;have ne:A1 (.int (ds.length:Int)) (.int (Os.length:Int))=some (.bl true):=by
    rw[T6,PY ∅];rfl
   exact D7 (cy (aB (E6 (b:=true) (B9 (M5 rfl rfl))) (T7 (C5 rfl U) (C5 rfl lo) ne)) (G8 rfl rfl))
 |feed=>cases J
 |scr _=>cases J
 |fn _=>cases J
 |exc _ _=>cases J
 |_=>exact D7 (cy (bo (E6 (b:=false) (B9 (M5 rfl rfl)))) (G8 rfl rfl))
def OT:Option (Str × Nat)->Fl
 |none=>.next
 |some J=>.ret (X9 (some J))
theorem AN {Ss0:List (List Pt)}(Y:∀B∈Os,ShC B) (lO:Os.length<=50) {b:Nat}(Z:b<=1900) (U:k<=60) {rs0:vD_}{x:D}(fs:vO_):∀(Ss:List (List Pt)) (rs:vD_) (j:Nat) (x3 x4:Sl),(∀A∈Ss,ShC A)->(∀r∈rs,Th b k r)->(∀i A,Ss[i]? = some A->Ss0[j+i]? = some A)->(∀i r,rs[i]? = some r->rs0[j+i]? = some r)->rs.length=Ss.length ->
  ∃y3 y4,C3 (f9 3) (iw Q2 Z7 X8) (B3 (j:Int) Ss.length) #[[.v (.tup (Ss0.map c7)),.v 'b',.v (.tup [x,.tup rs0]),x3,x4],fs]=some (OT (X7 Os Ss rs j),#[[.v (.tup (Ss0.map c7)),.v 'b',.v (.tup [x,.tup rs0]),y3,y4],fs])
 |[],[],j,x3,x4,_,_,_,_,_=>#[x3,x4,rfl]
 |A::Ss,r::rs,j,x3,x4,hS,hr,hi,hri,hl=>by
  have e:=HP (hS A (PD ..)) Y lO (hi 0 A rfl) Z U (x:=x) (hri 0 r rfl) (hr r (PD ..)) x4 fs;rw[Nat.add_zero] at e;rw[PX,uD];unfold X7;cases w:aG Os A r with
  |some w'=>
   rw[w] at e;exact#[_,_,ee (s1:=#[[.v (.tup (Ss0.map c7)),.v 'b',.v (.tup [x,.tup rs0]),.v (.int (j:Int)),x4],fs]) rfl e]
  |none=>
   rw[w] at e;obtain⟨z3,z4,f⟩:=AN (Ss0:=Ss0) Y lO Z U (rs0:=rs0) (x:=x) fs Ss rs (j+1) (.v (.int (j:Int))) (.v r) (fun z J=>hS z (Pz _ J)) (fun z J=>hr z (Pz _ J)) (fun i B hB=>by
    have:=hi (i+1) B (by rw[SU];exact hB);rw[show j+1+i=j+(i+1) by omega];exact this) (fun i B hB=>by
    have:=hri (i+1) B (by rw[SU];exact hB);rw[show j+1+i=j+(i+1) by omega];exact this) (by simpa using hl)
   exact#[z3,z4,(U6 (s1:=#[[.v (.tup (Ss0.map c7)),.v 'b',.v (.tup [x,.tup rs0]),.v (.int (j:Int)),x4],fs]) rfl e).trans f]
def GP {x:D}{a:Str}(h:A8 x a=true):x = .str a:=by
 cases x with
 |str w=>simp only[A8,Rk] at h;rw[h]
 |_=>cases h
def Mk {w a:Str}(J:R0 w) (U:R0 a):A1 (.str w) (.str a)=some (.bl (!A8 (.str w) a)):=by
 simp only[A1,bP J,bP U,QM,Qs,A8,D.py,PyData.eqv,Te]
def Kx (hS:∀A∈Ss,ShC A) (hO:∀B∈Os,ShC B) (lS:Ss.length<=50) (lO:Os.length<=50) {b:Nat}(h:Th b k d) (h70:70<=b) (hb:b<=400) (hk:k<=60) (hs:bk d<=1000000) (fs:vO_):aR [.tup (Ss.map c7),.tup (Os.map c7),d] fs=some (X9 (U4 Ss Os d),fs):=by
 have ht:=h.thing;rcases Al d with ⟨w,y,rfl⟩ | no
 .have hx:=Th.part h (.str w) 'g';have hy:=Th.part h y 'g';have aw:R0 w:=by cases k <;> exact hx
  have q1:=dY (bA hx ∅ hk) hx.thing (bP gh);have q2:=Mk aw jg;have e0:=NC y fs hy ∅ hk (vz hs).2;have t:=yL hy.thing;have tv:U4 Ss Os (.tup [.str w,y])=(if A8 (.str w) "meet" = true then (if E5 y=true then bh Ss Os (W9 y) else some (("shape" : Str),0)) else if A8 (.str w) "apart" = true then fO Ss Os y else some (("shape" : Str),0)):=rfl;rw[tv];have rest:∀{r:DM},(A8 (.str w) "meet" && E5 y)=false->d6 (j7 (n9 (l8 (j8 (j4 (A2 "tuple") (dL 2)))) (n9 (dB (a9 A1 (i9 (one j6) (a7 (dL 2) a8)) (Wk 2))) (l8 (j8 (j4 (A2 "str") (Wl 2 0)))))) (i8 (i7 (a7 (dC (.str "shape")) (a7 (Wk 0) a8)))) j9) (d6 (j7 (o8 (dB (a9 F7 (Wl 2 0) (dC (.str "meet")))) (j8 (d9 Z7 (a7 (Wl 2 1) a8)))) (i8 (u7 (o8 (j8 (d9 X8 (a7 (dV 0) (a7 (Wl 2 1) a8)))) (j8 (d9 X8 (a7 (dV 1) (a7 (Wl 2 1) a8))))) (dC .non) (i7 (a7 (dC (.str "place")) (a7 (Wk 0) a8))))) j9) r) #[[.v 'c',.v 'b',.v (.tup [.str w,y]),.no,.no],fs]=r #[[.v 'c',.v 'b',.v (.tup [.str w,y]),.no,.no],fs]:=fun {r} c=>by
   refine t7 (D8 (je rfl)) (t7 (D8 ?_) rfl);by_cases c1:A8 (.str w) "meet" = true
   .rw[c1] at q1;rw[c1,Rf] at c;rw[c] at e0;exact fX (B6 (d8 'e' rfl q1)) (B9 (w5 (t9 'e' rfl) e0))
   .rw[Qp] at c1;rw[c1] at q1;exact pD (B6 (d8 'e' rfl q1))
  by_cases Z:(A8 (.str w) "meet" && E5 y)=true
  .rw[Qe] at Z;rw[iR Z.1,iR Z.2];rw[Z.1] at q1;rw[Z.2] at e0;obtain⟨p,rfl,hp⟩:=sQ hy Z.2;rw[ug];have e1:=sN hS lS hp h70 hb fs;have e2:=sN hO lO hp h70 hb fs;rw[yG hS] at e1;rw[yG hO] at e2;unfold bh;generalize D.tup (Ss.map c7)=X at *;generalize D.tup (Os.map c7)=Y at *;refine v5 (s:=#[[.v X,.v Y,.v (.tup [.str w,pt p]),.no,.no],fs]) ?_;show ai Q2 Z7 X8 #[[.v X,.v Y,.v (.tup [.str w,pt p]),.no,.no],fs]=_;unfold ai;refine t7 (D8 (je rfl)) (D7 (cy (fX (B6 (d8 'e' rfl q1)) (B9 (w5 (t9 'e' rfl) e0))) ?_));generalize Ss.any (O0 · p)=u at *;generalize Os.any (O0 · p)=v at *;cases u with
   |false=>exact(mL (pD (B9 (w5 (t9 rfl (t9 'e' rfl)) e1)))).trans (G8 rfl rfl)
   |true=>
    cases v with
    |false=>exact(mL (fX (B9 (w5 (t9 rfl (t9 'e' rfl)) e1)) (B9 (w5 (t9 rfl (t9 'e' rfl)) e2)))).trans (G8 rfl rfl)
    |true=>exact(qF (fX (B9 (w5 (t9 rfl (t9 'e' rfl)) e1)) (B9 (w5 (t9 rfl (t9 'e' rfl)) e2)))).trans rfl
  .rw[Qp] at Z;have U:(A8 (.str w) "apart" && eV y)=false->aR [.tup (Ss.map c7),.tup (Os.map c7),.tup [.str w,y]] fs=some (X9 (some (("shape" : Str),0)),fs):=fun c=>by
    refine v5 (s:=#[[.v 'c',.v 'b',.v (.tup [.str w,y]),.no,.no],fs]) ?_;show ai Q2 Z7 X8 #[[.v 'c',.v 'b',.v (.tup [.str w,y]),.no,.no],fs]=_;unfold ai;rw[rest Z];by_cases c2:A8 (.str w) "apart" = true
    .rw[c2] at q2;rw[c2,Rf] at c;rw[c] at t;exact D7 (cy (aB (B6 (d8 'e' rfl q2)) (E6 (b:=false) (B9 (M5 'e' t)))) (G8 rfl rfl))
    .rw[Qp] at c2;rw[c2] at q2;exact D7 (cy (bo (B6 (d8 'e' rfl q2))) (G8 rfl rfl))
   by_cases c1:A8 (.str w) "meet" = true
   .rw[iR c1];rw[c1,Rf] at Z;rw[Z,iU PL];refine U ?_;have:=GP c1;cases this;rfl
   .rw[iU c1];by_cases c2:A8 (.str w) "apart" = true
    .rw[iR c2];by_cases c3:eV y=true
     .cases y with
      |tup J=>
       show _=some (X9 (ag Ss Os J),fs);have ls:one j6 [.tup (Ss.map c7)]=some (.int (Ss.length:Int)):=Y7 (by rw[PH]);have lr:one j6 [.tup J]=some (.int (J.length:Int)):=Y7 rfl;rw[c2] at q2;have pre:∀{r:DM},d6 (j7 (n9 (dB (a9 A1 (Wl 2 0) (dC (.str "apart")))) (l8 (j8 (j4 (A2 "tuple") (Wl 2 1))))) (i8 (i7 (a7 (dC (.str "shape")) (a7 (Wk 0) a8)))) j9) r #[[.v 'c',.v 'b',.v (.tup [.str w,.tup J]),.no,.no],fs]=r #[[.v 'c',.v 'b',.v (.tup [.str w,.tup J]),.no,.no],fs]:=fun {r}=>t7 (D8 (br (B6 (d8 'e' rfl q2)) (E6 (b:=true) (B9 (M5 'e' rfl))))) rfl
       unfold ag;by_cases cl:J.length=Ss.length
       .rw[iR cl];rw[cl] at lr;obtain⟨y3,y4,e⟩:=AN (Ss0:=Ss) hO lO (b:=b) (k:=k) ∅ hk (rs0:=J) (x:=.str w) fs Ss J 0 .no .no hS (fun r hr=>Th.part hy r hr) (fun i A q=>by rw[Ry];exact q) (fun i A q=>by rw[Ry];exact q) cl;have rr:T8 [.int (Ss.length:Int)]=some (B3 ((0:Nat):Int) Ss.length):=bR ∅;refine v5 (s:=#[[.v 'c',.v 'b',.v (.tup [.str w,.tup J]),y3,y4],fs]) ?_;show ai Q2 Z7 X8 #[[.v 'c',.v 'b',.v (.tup [.str w,.tup J]),.no,.no],fs]=_;unfold ai;rw[rest Z,pre];refine t7 (D8 (T7 (C5 (t9 'e' rfl) lr) (C5 rfl ls) (fK _))) ?_;have f:=(gs (f:=a7 'n' a8) (t:=f9 3) (b:=iw Q2 Z7 X8) (s:=#[[.v 'c',.v 'b',.v (.tup [.str w,.tup J]),.no,.no],fs]) (t9 (C5 rfl ls) rfl) rr).trans e;cases wk:X7 Os Ss J 0 with
        |none=>rw[wk] at f;exact t7 f (A0 rfl)
        |some p=>rw[wk] at f;exact D7 f
       .rw[iU cl];have ne:A1 (.int (J.length:Int)) (.int (Ss.length:Int))=some (.bl true):=by
         rw[T6,PY ∅];rfl
        refine v5 (s:=#[[.v 'c',.v 'b',.v (.tup [.str w,.tup J]),.no,.no],fs]) ?_;show ai Q2 Z7 X8 #[[.v 'c',.v 'b',.v (.tup [.str w,.tup J]),.no,.no],fs]=_;unfold ai;rw[rest Z,pre];exact D7 (cy (T7 (C5 (t9 'e' rfl) lr) (C5 rfl ls) ne) (G8 rfl rfl))
      |_=>cases c3
     .rw[Qp] at c3;have:fO Ss Os y=some (("shape" : Str),0):=by
       cases y with
       |tup J=>cases c3
       |_=>rfl
      rw[this];exact U (by rw[c3,Vy])
    .rw[iU c2];rw[Qp] at c2;exact U (by rw[c2,Ro])
 .have s0:U4 Ss Os d=some (("shape" : Str),0):=qI (by
   cases d with
   |tup ds=>
    match ds,no with
    |[],_=>rfl
    |[_],_=>rfl
    |[x,y],no=>
     cases x with
     |str w=>exact absurd rfl (no w y)
     |_=>rfl
    |_::_::_::_,_=>rfl
   |_=>rfl)
  rw[s0];have hx:∀x y,d = .tup [x,y]->thing x=true:=fun x y e=>by subst e;exact(Th.part h x 'g').thing
  generalize D.tup (Ss.map c7)=X at *;generalize D.tup (Os.map c7)=Y at *;refine v5 (s:=#[[.v X,.v Y,.v d,.no,.no],fs]) ?_;show ai Q2 Z7 X8 #[[.v X,.v Y,.v d,.no,.no],fs]=_;unfold ai;exact D7 (cy (wz ht no hx rfl) (G8 rfl rfl))
structure PK (kx kz:Nat) (p:Pt):Prop where
 x:Bd kx (pX p)
 y:Bd kx (pY p)
 l:Bd kz (pL p)
def KI {J U:Nat}(x y d:Int) (fs:vO_) (hd:1<=d) (bx:Bd J x) (Y:Bd J y) (Z:Bd U d) (hk:U<=100):∃p,fQ [.int x,.int y,.int d] fs=some (pt p,fs)/\PK J U p:=by
 obtain⟨l1,l2,l3⟩:=LD x y hd;exact#[_,xI x y d fs ∅ Z ∅,Qz l1 bx,Qz l2 Y,Qz l3 Z]
def CB {kx Y lx U:Nat}{A B:Pt}(hA:PK kx Y A) (hB:PK lx U B) (h1:kx+U<=n) (h2:lx+Y<=n) (hn:n<=90) (hz:Y+U<=50) (fs:vO_):∃M,oG [pt A,pt B] fs=some (pt M,fs)/\PK (n+1) (2+Y+U) M:=by
 have Z:Bd 2 2:=Bd.lit #[];have J:∀{k:Nat}{i:Int},Bd k i->k<=1000->F8 i=true:=fun h h'=>h.bits ∅
 have m1:=W5 (J hA.x ∅) (J hB.l ∅);have m2:=W5 (J hB.x ∅) (J hA.l ∅);have m3:=W5 (J hA.y ∅) (J hB.l ∅);have m4:=W5 (J hB.y ∅) (J hA.l ∅);have m5:=W5 (J Z ∅) (J hA.l ∅);have b3:=Z.mul hA.l;have m6:=W5 (J b3 ∅) (J hB.l ∅);have bX:Bd (n+1) (pX A*pL B+pX B*pL A):=((hA.x.mul hB.l).mono h1).add ((hB.x.mul hA.l).mono h2) |>.mono ∅
 have bY:Bd (n+1) (pY A*pL B+pY B*pL A):=((hA.y.mul hB.l).mono h1).add ((hB.y.mul hA.l).mono h2) |>.mono ∅
 have bD:Bd (2+Y+U) (2*pL A*pL B):=b3.mul hB.l;have dp:0<2*pL A*pL B:=Int.mul_pos (Int.mul_pos #[] (nv A)) (nv B);obtain⟨M,e,hM⟩:=KI (pX A*pL B+pX B*pL A) (pY A*pL B+pY B*pL A) (2*pL A*pL B) fs ∅ bX bY bD ∅;refine#[M,?_,hM];refine v5 (s:=#[[.v (pt A),.v (pt B),.v (.int (pX A*pL B+pX B*pL A))],fs]) ?_;show lD fQ #[[.v (pt A),.v (pt B),.no],fs]=_;unfold lD;rw[w6 (s1:=#[[.v (pt A),.v (pt B),.v (.int (pX A*pL B+pX B*pL A))],fs]) (C0 (d8 (d8 rfl rfl m1) (d8 rfl rfl m2) rfl) rfl)];exact A0 (iy (s1:=#[[.v (pt A),.v (pt B),.v (.int (pX A*pL B+pX B*pL A))],fs]) (D3 rfl (D3 (d8 (d8 rfl rfl m3) (d8 rfl rfl m4) rfl) (D3 (d8 (d8 rfl rfl m5) rfl m6) rfl))) e)
abbrev IP:=Int × Int
structure Nt where
 a:Int
 b:Int
 c:Int
 d:Int
 x:Int
 y:Int
 l:Int
def L0 (n:Nt):D:=.tup [.int n.a,.int n.b,.int n.c,.int n.d,.int n.x,.int n.y,.int n.l]
structure NtOk (n:Nt):Prop where
 a:0<=n.a/\n.a<=3
 b:-4<=n.b/\n.b<=1
 c:0<=n.c/\n.c<=4
 d:0<=n.d/\n.d<=3
 x:-9<=n.x/\n.x<=9
 y:-9<=n.y/\n.y<=9
 l:1<=n.l/\n.l<=7
 det:0<n.a*n.d - n.b*n.c
def nX (n:Nt) (z:IP):Int:=n.a*z.1+n.b*z.2+n.x
def nY (n:Nt) (z:IP):Int:=n.c*z.1+n.d*z.2+n.y
def nP (n:Nt) (z:IP):Pt:=(Rat.divInt (nX n z) n.l,Rat.divInt (nY n z) n.l)
structure InU (z:IP):Prop where
 u:0<=z.1/\z.1<=27
 v:0<=z.2/\z.2<=13
def ku {p q m k:Int}(h1:-m<=p/\p<=m) (h2:0<=q/\q<=k):-(m*k)<=p*q/\p*q<=m*k:=by
 have a:=Wj h1.1 h2.1;have b:=Wj h1.2 h2.1;have c:=VZ h2.2 (show 0<=m by omega);rw[Int.neg_mul] at a;omega
def wt {n:Nt}(h:NtOk n) (hz:InU z):(nX n z).natAbs<2 ^ 8:=by
 have h1:=ku (m:=3) (k:=27) #[by have:=h.a;omega,h.a.2] hz.u;have h2:=ku (m:=4) (k:=13) #[h.b.1,by have:=h.b;omega] hz.v;have:=h.x;unfold nX;omega
def wH {n:Nt}(h:NtOk n) (hz:InU z):(nY n z).natAbs<2 ^ 8:=by
 have h1:=ku (m:=4) (k:=27) #[by have:=h.c;omega,h.c.2] hz.u;have h2:=ku (m:=3) (k:=13) #[by have:=h.d;omega,h.d.2] hz.v;have:=h.y;unfold nY;omega
def qH {x g:Int}(J:0<g) (h:x.natAbs<2 ^ k):Bd k (x.fdiv g):=by
 rw[VA _ ∅];exact Qz (Wh x g) h
def Pa {n:Nt}(h:NtOk n) (hz:InU z):Ps 8 (nP n z)/\PtS 35 (nP n z):=by
 have Y:n.l≠0:=by have:=h.l;omega
 have J:n.l.natAbs<2 ^ 8:=by have:=h.l;omega
 obtain⟨g0,e1,e2,Z⟩:=kW (nX n z) (nY n z) n.l Y;have ng:¬ n.l<0:=by have:=h.l;omega
 rw[iU ng] at g0 e1 e2 Z;have U:0<(Int.gcd (Int.gcd (nX n z) (nY n z):Int) n.l:Int):=by omega
 refine#[#[?_,?_,?_],?_,?_]
 .show Bd 8 (pX (Rat.divInt (nX n z) n.l,Rat.divInt (nY n z) n.l));rw[<-e1];exact qH U (wt h hz)
 .show Bd 8 (pY (Rat.divInt (nX n z) n.l,Rat.divInt (nY n z) n.l));rw[<-e2];exact qH U (wH h hz)
 .show Bd 8 (pL (Rat.divInt (nX n z) n.l,Rat.divInt (nY n z) n.l));rw[<-Z];exact qH U J
 .exact(Sz.of_divInt Y (wt h hz) J).mono #[]
 .exact(Sz.of_divInt Y (wH h hz) J).mono #[]
def U1 (p q r:IP):Int:=(q.1 - p.1)*(r.2 - p.2) - (q.2 - p.2)*(r.1 - p.1)
theorem Ig {n:Nt}(h:NtOk n) (p q r:IP):b9 (nP n p) (nP n q) (nP n r)=((n.a*n.d - n.b*n.c:Int):Rat) / ((n.l:Rat)*n.l)*(U1 p q r:Rat):=by
 have J:(n.l:Rat)≠0:=by
  have:=h.l;intro z;have:n.l=0:=by exact_mod_cast z
  omega
 unfold b9 nP nX nY U1;simp only[RO];simp only[RP,Qw,Vs];grind
def IV {n:Nt}(h:NtOk n):(0:Rat)<((n.a*n.d - n.b*n.c:Int):Rat) / ((n.l:Rat)*n.l):=by
 have J:(0:Rat)<(n.l:Rat):=by
  have:=h.l
  exact_mod_cast (show 0<n.l by omega)
 have U:(0:Rat)<((n.a*n.d - n.b*n.c:Int):Rat):=by exact_mod_cast h.det
 rw[QG];exact PR U (SJ.mpr (PR J J))
def E7 (l:List IP) (i:Nat):IP:=(l[i % l.length]?).getD (0,0)
def eI (F:List IP):Bool:=decide (3<=F.length)&&decide (F.length<=6)&&(List.range F.length).all (fun k=>F.all (fun z=>decide (0<=U1 (E7 F k) (E7 F (k+1)) z))&&decide (E7 F (k+1)≠E7 F k))&&decide (0<U1 (E7 F 0) (E7 F 1) (E7 F 2))&&F.all fun z=>decide (0<=z.1)&&decide (z.1<=8)&&decide (0<=z.2)&&decide (z.2<=8)
def M7 (w h:Int):List (List IP):=[[(0,0),(w,0),(w,h),(0,h)],[(0,0),(w,0),(0,h)],[(0,0),(w,0),(w,h)],[(0,0),(w,h),(0,h)],[(0,0),(w+1,1),(1,h+1)],[(0,0),(w,0),(w,h),(0,h)],[(0,h),(w,0),(2*w,h),(w,2*h)],[(0,1),(1,0),(w+1,0),(w+2,1),(w+1,2),(1,2)]]
def Lq:((List.range 4).all fun w=>(List.range 4).all fun h=>(M7 ((w:Int)+1) ((h:Int)+1)).all eI)=true:=by decide +kernel
def Oe {w h:Int}(Z:1<=w/\w<=4) (hh:1<=h/\h<=4) (U:F∈M7 w h):eI F=true:=by
 have k:=QC.mp Lq (w.toNat - 1) (RS.mpr ∅);have k:=QC.mp k (h.toNat - 1) (RS.mpr ∅);have Y:((w.toNat - 1:Nat):Int)+1=w:=by omega
 have J:((h.toNat - 1:Nat):Int)+1=h:=by omega
 rw[Y,J] at k;exact QC.mp k F U
def gD (x y:Int) (z:IP):IP:=(z.1+x,z.2+y)
def Lb (x y:Int) (p q r:IP):U1 (gD x y p) (gD x y q) (gD x y r)=U1 p q r:=by
 unfold U1 gD;show (q.1+x - (p.1+x))*(r.2+y - (p.2+y)) - (q.2+y - (p.2+y))*(r.1+x - (p.1+x))=_;rw[show q.1+x - (p.1+x)=q.1 - p.1 by omega,show r.2+y - (p.2+y)=r.2 - p.2 by omega,show q.2+y - (p.2+y)=q.2 - p.2 by omega,show r.1+x - (p.1+x)=r.1 - p.1 by omega]
def R7 (n:Nt) (x y:Int) (z:IP):Pt:=nP n (gD x y z)
def nu {n:Nt}{x y:Int}{F:List IP}(h:3<=F.length) (i:Nat):tk (F.map (R7 n x y)) i=R7 n x y (E7 F i):=by
 unfold tk E7;rw[PH,Qy,Qf (QN _ ∅)];rfl
def Nb (F:List IP) (i:Nat):E7 F (i % F.length)=E7 F i:=by
 unfold E7;rw[Nat.mod_mod]
def KJ (F:List IP) (i:Nat):E7 F (i % F.length+1)=E7 F (i+1):=by
 unfold E7;rw[Tw]
def oH {F:List IP}(h:3<=F.length) (i:Nat):E7 F i∈F:=by
 unfold E7;rw[Qf (QN _ ∅)];exact Rl _
theorem GV {n:Nt}{x y:Int}{F:List IP}(hn:NtOk n) (hF:eI F=true) (hx:0<=x/\x<=19) (hy:0<=y/\y<=5):ShC (F.map (R7 n x y)):=by
 unfold eI at hF;simp only[Qe,Rk] at hF;obtain⟨⟨⟨⟨J,h6⟩,hk⟩,h0⟩,hz⟩:=hF;have ps:=IV hn;have Y:∀p q r:IP,b9 (R7 n x y p) (R7 n x y q) (R7 n x y r)=((n.a*n.d - n.b*n.c:Int):Rat) / ((n.l:Rat)*n.l)*(U1 p q r:Rat):=fun p q r=>by
  unfold R7;rw[Ig hn,Lb]
 have K:∀k,(∀z∈F,0<=U1 (E7 F k) (E7 F (k+1)) z)/\E7 F (k+1)≠E7 F k:=fun k=>by
  have q:=QC.mp hk (k % F.length) (RS.mpr (QN _ ∅));rw[Qe,Nb,KJ] at q;exact#[fun z hz=>Rb (QC.mp q.1 z hz),Rb q.2]
 have inj:∀p q:IP,R7 n x y p=R7 n x y q->∀a b:IP,U1 a b p=U1 a b q:=fun p q e a b=>by
  have e1:=Y a b p;have e2:=Y a b q;rw[e,e2] at e1;have e3:((U1 a b q:Int):Rat)=((U1 a b p:Int):Rat):=by
   have Z:=Rat.ne_of_gt ps;generalize ((n.a*n.d - n.b*n.c:Int):Rat) / ((n.l:Rat)*n.l)=c at *;have:=congrArg (fun t=>c⁻¹*t) e1;simp only[<-Tx,Rat.inv_mul_cancel _ Z,Sd] at this;exact this
  exact_mod_cast e3.symm
 refine#[?_,?_,?_,by rw[PH];exact J,by rw[PH];exact h6,?_]
 .intro k z U;obtain⟨w,hw,rfl⟩:=Qh.mp U;rw[nu J,nu J,Y];exact PN (QO ps) (by exact_mod_cast (K k).1 w hw)
 .intro k e;rw[nu J,nu J] at e;have i:=inj _ _ e;have i1:=i (E7 F k) ((E7 F k).1+1,(E7 F k).2);have i2:=i (E7 F k) ((E7 F k).1,(E7 F k).2+1);unfold U1 at i1 i2;simp only at i1 i2;refine(K k).2 (Qm ?_ ?_)
  .grind
  .grind
 .refine#[R7 n x y (E7 F 0),R7 n x y (E7 F 1),R7 n x y (E7 F 2),Qh.mpr #[_,oH J 0,rfl],Qh.mpr #[_,oH J 1,rfl],Qh.mpr #[_,oH J 2,rfl],?_];rw[Y];have:(0:Rat)<(U1 (E7 F 0) (E7 F 1) (E7 F 2):Rat):=by exact_mod_cast h0
  exact Rat.ne_of_gt (PR ps this)
 .intro z U;obtain⟨w,hw,rfl⟩:=Qh.mp U;have q:=QC.mp hz w hw;simp only[Qe,Rk] at q;obtain⟨⟨⟨q1,q2⟩,q3⟩,q4⟩:=q;exact Pa hn #[by show 0<=w.1+x/\w.1+x<=27;omega,by show 0<=w.2+y/\w.2+y<=13;omega]
def tq {K:vT_}(h:ShC K) (i:Nat) (hi:i<K.length):ShC (K.drop i++K.take i):=by
 have l:(K.drop i++K.take i).length=K.length:=by
  rw[Qo,Qn,QS];omega
 have m:∀z,z∈K.drop i++K.take i↔z∈K:=fun z=>by
  rw[PQ,Or.comm,<-PQ,SH]
 have t:∀k,tk (K.drop i++K.take i) k=tk K (i+k):=fun k=>by
  unfold tk;rw[l];have kl:=QN k (show 0<K.length by omega);rw[<-Nat.add_mod_mod];generalize k % K.length=j at *;by_cases c:j<K.length - i
  .rw[Rq (by rw[Qn];exact c),Tu,Sf (show i+j<K.length by omega)]
  .rw[Rp (by rw[Qn];omega),Qn,TK ∅];rw[Nat.mod_eq_sub_mod ∅,Sf ∅];rw[show i+j - K.length=j - (K.length - i) by omega]
 refine#[?_,?_,?_,by rw[l];exact h.lo,by rw[l];exact h.hi,fun z J=>h.sz z ((m z).mp J)]
 .intro k z J;rw[t,t];exact h.cv (i+k) z ((m z).mp J)
 .intro k;rw[t,t];exact h.ne (i+k)
 .obtain⟨a,b,c,Z,U,Y,q⟩:=h.nc;exact#[a,b,c,(m a).mpr Z,(m b).mpr U,(m c).mpr Y,q]
def netsI:List (Int × Int × Int × Int):=[(1,0,0,1),(1,-1,1,1),(3,-4,4,3),(1,1,0,1),(0,-1,1,0),(2,1,1,1)]
def q4 (q:Int × Int × Int × Int):D:=.tup [.int q.1,.int q.2.1,.int q.2.2.1,.int q.2.2.2]
def Ij:∀q∈netsI,(0<=q.1/\q.1<=3)/\(-4<=q.2.1/\q.2.1<=1)/\(0<=q.2.2.1/\q.2.2.1<=4)/\(0<=q.2.2.2/\q.2.2.2<=3)/\0<q.1*q.2.2.2 - q.2.1*q.2.2.1:=by decide
abbrev rZ:c8:=yH B8
def MF {f:FS}(h:Fd4 n f) (hn:n<2 ^ 28):∃t f',rZ [.feed] (some f)=some (L0 t,some f')/\NtOk t/\Fd4 (n+4) f':=by
 refine gB_ fun G_ g_=>?_
 obtain⟨r1,f1,e1,a1,a2,h1⟩:=K9 6 h;obtain⟨z,hz,hq⟩:=Z0 (xs:=netsI.map q4) a1 (by show r1<6;exact a2);obtain⟨q,Y,rfl⟩:=Qh.mp hz;obtain⟨J,f2,e2,b1,b2,h2⟩:=K9 19 h1;obtain⟨U,f3,e3,c1,c2,h3⟩:=K9 19 h2;obtain⟨r4,Z,e4,d1,d2,h4⟩:=K9 4 h3;obtain⟨w,hw,hr⟩:=Z0 (xs:=[(1:Int),2,3,7].map D.int) d1 (by show r4<4;exact d2);obtain⟨l,hl,rfl⟩:=Qh.mp hw;obtain⟨g1,g2,g3,g4,g5⟩:=Ij q Y;have lb:1<=l/\l<=7:=(by decide:∀l∈[(1:Int),2,3,7],1<=l/\l<=7) l hl;apply g_;refine#[#[q.1,q.2.1,q.2.2.1,q.2.2.2,J - 9,U - 9,l],Z,v5 (s:=#[[.v .feed,.own (netsI.map q4),.v (q4 q),.v (.int (J - 9)),.v (.int (U - 9))],some Z]) ?_,#[g1,g2,g3,g4,by show -9<=J - 9/\J - 9<=9;omega,by show -9<=U - 9/\U - 9<=9;omega,lb,g5],h4];show mh B8 #[[.v .feed,.no,.no,.no,.no],some f]=_;unfold mh;refine t7 (s1:=#[[.v .feed,.own (netsI.map q4),.no,.no,.no],some f]) (ck (i:=1) (s1:=#[[.v .feed,.no,.no,.no,.no],some f]) (ds:=netsI.map q4) rfl (by show 1<5;decide)) ?_;refine t7 (s1:=#[[.v .feed,.own (netsI.map q4),.v (q4 q),.no,.no],some f1]) (C0 (d8 rfl (K4 rfl e1) (bQ hq)) rfl) ?_;refine t7 (s1:=#[[.v .feed,.own (netsI.map q4),.v (q4 q),.v (.int (J - 9)),.no],some f2]) (C0 (d8 (K4 rfl e2) rfl rfl) rfl) ?_;refine t7 (s1:=#[[.v .feed,.own (netsI.map q4),.v (q4 q),.v (.int (J - 9)),.v (.int (U - 9))],some f3]) (C0 (d8 (K4 rfl e3) rfl rfl) rfl) ?_;exact A0 (d8 (x:=q4 q) (y:=.tup [.int (J - 9),.int (U - 9),.int l]) rfl (AZ (D3 rfl (D3 rfl (D3 (d8 (x:=.lst ([(1:Int),2,3,7].map D.int)) rfl (K4 rfl e4) (bQ hr)) rfl))) (by show 3<=sizeLine;decide)) rfl)
abbrev eW:c8:=vb fQ
def fA {i j:Int}(hi:i.natAbs<2 ^ 10) (J:j.natAbs<2 ^ 10):w8 (.int i) (.int j)=some (.int (i*j)):=W5 (Bd.bits (k:=10) hi #[]) (Bd.bits (k:=10) J #[])
def EC {t:Nt}(J:NtOk t) (hz:InU z) (fs:vO_):eW [L0 t,.int z.1,.int z.2] fs=some (pt (nP t z),fs):=by
 have hu:=hz.u;have hv:=hz.v;have hl:=J.l;have m1:=fA (i:=t.a) (j:=z.1) (by have:=J.a;omega) ∅;have m2:=fA (i:=t.b) (j:=z.2) (by have:=J.b;omega) ∅;have m3:=fA (i:=t.c) (j:=z.1) (by have:=J.c;omega) ∅;have m4:=fA (i:=t.d) (j:=z.2) (by have:=J.d;omega) ∅;have w:=xI (k:=8) (nX t z) (nY t z) t.l fs ∅ (show t.l.natAbs<2 ^ 8 by omega) #[];have U:d7 (L0 t) (.int 0)=some (.int t.a):=rfl;have i1:d7 (L0 t) (.int 1)=some (.int t.b):=rfl;have i2:d7 (L0 t) (.int 2)=some (.int t.c):=rfl;have Z:d7 (L0 t) (.int 3)=some (.int t.d):=rfl;have i4:d7 (L0 t) (.int 4)=some (.int t.x):=rfl;have i5:d7 (L0 t) (.int 5)=some (.int t.y):=rfl;have Y:d7 (L0 t) (.int 6)=some (.int t.l):=rfl;generalize L0 t=N at *;refine v5 (s:=#[[.v N,.v (.int z.1),.v (.int z.2),.v (.int (nX t z))],fs]) ?_;show lW fQ #[[.v N,.v (.int z.1),.v (.int z.2),.no],fs]=_;unfold lW;exact t7 (s1:=#[[.v N,.v (.int z.1),.v (.int z.2),.v (.int (nX t z))],fs]) (C0 (d8 (d8 (d8 (d8 rfl rfl U) rfl m1) (d8 (d8 rfl rfl i1) rfl m2) rfl) (d8 rfl rfl i4) rfl) rfl)
  (A0 (w5 (t9 rfl (t9 (d8 (d8 (d8 (d8 rfl rfl i2) rfl m3) (d8 (d8 rfl rfl Z) rfl m4) rfl) (d8 rfl rfl i5) rfl) (t9 (d8 rfl rfl Y) rfl))) w))
def bf (z:IP):D:=.tup [.int z.1,.int z.2]
def E4 (F:List IP):D:=.tup (F.map bf)
abbrev ej:c8:=Aa B8
def jo {p:D->D->Option (List D)}{a b:DE}{s:DS}{x:D}{z:vD_}(h1:a s=some (x,s1)) (h2:b s1=some (y,s2)) (J:p x y=some z):Q8 p a b s=some (z,s2):=by
 unfold Q8;rw[h1,xu,h2,xu,J];rfl
def Ho {f:FS}(h:Fd4 n f) (hn:n<2 ^ 28):∃F f',ej [.feed] (some f)=some (E4 F,some f')/\eI F=true/\Fd4 (n+3) f':=by
 refine gB_ fun G_ g_=>?_
 obtain⟨J,f1,e1,a1,a2,h1⟩:=K9 4 h;obtain⟨Y,U,e2,b1,b2,h2⟩:=K9 4 h1;obtain⟨r3,Z,e3,c1,c2,h3⟩:=K9 8 h2;obtain⟨z,hz,hq⟩:=Z0 (xs:=(M7 (1+J) (1+Y)).map E4) c1 (by show r3<8;exact c2);obtain⟨F,hF,rfl⟩:=Qh.mp hz;apply g_;refine#[F,Z,?_,Oe ∅ ∅ hF,h3];have m1:=fA (i:=2) (j:=1+J) #[] ∅;have m2:=fA (i:=2) (j:=1+Y) #[] ∅;have hf:(M7 (1+J) (1+Y)).map E4=((M7 (1+J) (1+Y)).take 6).map E4++[E4 [(0,1+Y),(1+J,0),(2*(1+J),1+Y),(1+J,2*(1+Y))]]++[E4 [(0,1),(1,0),(1+J+1,0),(1+J+2,1),(1+J+1,2),(1,2)]]:=rfl;rw[hf] at hq;have w1:∀s,u6 1 2 (a7 (a9 k6 (Wk 1) (d9 B8 (a7 (dV 0) (a7 (Wk 4) a8)))) (a7 (a9 k6 (Wk 1) (d9 B8 (a7 (dV 0) (a7 (Wk 4) a8)))) a8)) #[[.v .feed,.no,.no,s],some f]=some (.next,#[[.v .feed,.v (.int (1+J)),.v (.int (1+Y)),s],some U]):=fun s=>BP (D3 (d8 rfl (K4 rfl e1) rfl) (D3 (d8 rfl (K4 rfl e2) rfl) rfl)) rfl
 generalize 1+J=w at *;generalize 1+Y=v at *;refine v5 (s:=#[[.v .feed,.v (.int w),.v (.int v),.own (((M7 w v).take 6).map E4++[E4 [(0,v),(w,0),(2*w,v),(w,2*v)]]++[E4 [(0,1),(1,0),(w+1,0),(w+2,1),(w+1,2),(1,2)]])],some Z]) ?_;show jE B8 #[[.v .feed,.no,.no,.no],some f]=_;unfold jE;refine t7 (w1 _) ?_;refine t7 (s1:=#[[.v .feed,.v (.int w),.v (.int v),.own (((M7 w v).take 3).map E4)],some U]) (ck (i:=3) (s1:=#[[.v .feed,.v (.int w),.v (.int v),.no],some U]) (ds:=((M7 w v).take 3).map E4) rfl (by show 3<4;decide)) ?_;refine t7 (s1:=#[[.v .feed,.v (.int w),.v (.int v),.own (((M7 w v).take 6).map E4)],some U]) (ck (i:=3) (s1:=#[[.v .feed,.v (.int w),.v (.int v),.own (((M7 w v).take 3).map E4)],some U]) (ds:=((M7 w v).take 6).map E4) (jo (x:=.lst (((M7 w v).take 3).map E4)) (y:=.lst (((M7 w v).drop 3).take 3 |>.map E4)) rfl rfl rfl) (by show 3<4;decide)) ?_;refine t7 (s1:=#[[.v .feed,.v (.int w),.v (.int v),.own (((M7 w v).take 6).map E4++[E4 [(0,v),(w,0),(2*w,v),(w,2*v)]])],some U]) (Y4 (i:=3) (s:=#[[.v .feed,.v (.int w),.v (.int v),.own (((M7 w v).take 6).map E4)],some U]) (s1:=#[[.v .feed,.v (.int w),.v (.int v),.own (((M7 w v).take 6).map E4)],some U]) (ds:=((M7 w v).take 6).map E4) (ds0:=((M7 w v).take 6).map E4) (d:=E4 [(0,v),(w,0),(2*w,v),(w,2*v)]) rfl
  (AZ (t9 (x:=bf (0,v)) rfl (t9 (x:=bf (w,0)) rfl (t9 (x:=bf (2*w,v)) (G8 (d8 rfl rfl m1) rfl) (t9 (x:=bf (w,2*v)) (G8 rfl (d8 rfl rfl m2)) rfl)))) (by show 4<=sizeLine;decide)) rfl (by show 6<sizeLine;decide)) ?_
 refine t7 (s1:=#[[.v .feed,.v (.int w),.v (.int v),.own (((M7 w v).take 6).map E4++[E4 [(0,v),(w,0),(2*w,v),(w,2*v)]]++[E4 [(0,1),(1,0),(w+1,0),(w+2,1),(w+1,2),(1,2)]])],some U]) (Y4 (i:=3) (s:=#[[.v .feed,.v (.int w),.v (.int v),.own (((M7 w v).take 6).map E4++[E4 [(0,v),(w,0),(2*w,v),(w,2*v)]])],some U]) (s1:=#[[.v .feed,.v (.int w),.v (.int v),.own (((M7 w v).take 6).map E4++[E4 [(0,v),(w,0),(2*w,v),(w,2*v)]])],some U]) (ds:=((M7 w v).take 6).map E4++[E4 [(0,v),(w,0),(2*w,v),(w,2*v)]]) (ds0:=((M7 w v).take 6).map E4++[E4 [(0,v),(w,0),(2*w,v),(w,2*v)]]) (d:=E4 [(0,1),(1,0),(w+1,0),(w+2,1),(w+1,2),(1,2)]) rfl rfl rfl (by show 7<sizeLine;decide)) ?_;exact A0 (d8 rfl (K4 rfl e3) (bQ hq))
abbrev jw:c8:=Cf eM
def AQ {f:DE}{lo hi:DO}{s J:DS}{ds:List DL.D}{l h:Option Int}(e:f s=some (.lst ds,s1)) (Y:lo s1=some (l,s2)) (U:hi s2=some (h,J)):F6 f lo hi s=some (.lst (B1 ds l h),J):=by
 unfold F6;rw[e,xu,Y,xu,U];rfl
def sP {K:vT_}(Z:∀z∈K,Ps 8 z) (h3:3<=K.length) (h6:K.length<=6) (fs:vO_):∃i,i<K.length/\jw [.lst 'r'] fs=some (c7 (K.drop i++K.take i),fs):=by
 obtain⟨s',e,i,J,y2,rfl⟩:=gN (t:=f9 2) (b:=vO eM) (fun _ s=>∃i:Nat,i<K.length/\∃Y,s=#[[.v (.lst 'r'),.v 'u',Y],fs]) (B3 0 K.length) 0 #[[.v (.lst 'r'),.v (.int ((0:Nat):Int)),.no],fs] #[0,by omega,_,rfl] (by
  rintro j d s hd ⟨i,J,Y,rfl⟩;obtain⟨rfl,U⟩:=dH hd;rw[TB];have gi:d7 (.lst 'r') 'u'=some (pt K[i]):=bQ (bF (by rw[Qy,Qf J];rfl));have gj:d7 (.lst 'r') (.int (j:Int))=some (pt K[j]):=bQ (bF (by rw[Qy,Qf U];rfl));have w:=JH (k:=8) K[j] K[i] fs (Z _ (Rl U)) (Z _ (Rl J)) #[];generalize A3 K[j] K[i]=b at *;have c:j8 (d9 eM (a7 (a9 d7 (dL 0) (dL 2)) (a7 (a9 d7 (dL 0) 's') a8))) #[[.v (.lst 'r'),.v 'u',.v (.int (j:Int))],fs]=some (b,#[[.v (.lst 'r'),.v 'u',.v (.int (j:Int))],fs]):=B9 (w5 (t9 (d8 rfl rfl gj) (t9 (d8 rfl rfl gi) rfl)) w);cases b with
  |true=>exact#[_,#[[.v (.lst 'r'),.v (.int (j:Int)),.v (.int (j:Int))],fs],rfl,.inl ((G2 c).trans (C0 rfl rfl)),j,U,_,rfl]
  |false=>exact#[_,_,rfl,.inl (D8 c),i,J,_,rfl])
 have r:T8 [.int (K.length:Int)]=some (B3 0 K.length):=bR ∅;have ln:one j6 [.lst 'r']=some (.int (K.length:Int)):=by
  show some (D.int ('r'.length:Int))=_;rw[PH]
 have c1:B1 'r' (some (i:Int)) none=(K.drop i).map pt:=by
  unfold B1;rw[HT.sIx_nat,HT.sIx_none,PH,Tb ∅,Wg (by rw[Qn,PH];omega),Vz]
 have c2:B1 'r' none (some (i:Int))=(K.take i).map pt:=by
  unfold B1;rw[HT.sIx_nat,HT.sIx_none,PH,Tb ∅,TX,SW,List.map_take]
 have ad:k6 (.lst ((K.drop i).map pt)) (.lst ((K.take i).map pt))=some (.lst ((K.drop i++K.take i).map pt)):=by
  show (if ((K.drop i).map pt).length+((K.take i).map pt).length<=sizeLine then some (D.lst ((K.drop i).map pt++(K.take i).map pt)) else none)=_;rw[PH,PH,Qn,QS,iR (PJ (by omega:_<=12) #[]),Tt]
 refine#[i,J,v5 (s:=#[[.v (.lst 'r'),.v 'u',y2],fs]) ?_];show jX eM #[[.v (.lst 'r'),.no,.no],fs]=_;unfold jX;refine t7 (s1:=#[[.v (.lst 'r'),.v (.int ((0:Nat):Int)),.no],fs]) (C0 rfl rfl) ?_;refine t7 ((gs (s1:=#[[.v (.lst 'r'),.v (.int ((0:Nat):Int)),.no],fs]) (t9 (C5 rfl ln) rfl) r).trans e) ?_;exact A0 (C5 (t9 (d8 (x:=.lst ((K.drop i).map pt)) (y:=.lst ((K.take i).map pt)) (by rw[<-c1];exact AQ rfl rfl rfl) (by rw[<-c2];exact AQ rfl rfl rfl) ad) rfl) rfl)
abbrev qp:c8:=zM B8 jw ej eW
def DF {A:vT_}(h:ShC A):Ok 2 24 (c7 A):=by
 have:=OkL.all (k:=1) (n:=3) (ds:=A.map pt) fun d U=>by
  obtain⟨z,J,rfl⟩:=Qh.mp U;exact Ok.pt (h.ps z J)
 refine(Ok.tup this).mono #[] ?_;have:=h.hi;rw[PH];omega
def pC (h:∀A∈Ss,ShC A):OkL 2 (Ss.length*25) (Ss.map c7):=by
 have:=OkL.all (k:=2) (n:=24) (ds:=Ss.map c7) fun d U=>by
  obtain⟨z,J,rfl⟩:=Qh.mp U;exact DF (h z J)
 rw[PH] at this;exact this
def Ah (h:A9 (.lst (d::ds))=true):A1 (.lst (d::ds)) (.lst [])=some (.bl true):=by
 show (if A9 (.lst (d::ds))&&A9 (.lst []) then some (D.bl (!PyData.eqv (D.lst (d::ds)).py (D.lst []).py)) else none)=_;rw[h,iR (show (true&&A9 (.lst []))=true from rfl)];rfl
theorem xQ {t:Nt}(J:NtOk t) {x y:Int}(hx:0<=x/\x<=19) (Z:0<=y/\y<=5) (U:Q5 [1,6,7] sl=[.v (L0 t),.v (.int x),.v (.int y)]) (fs:vO_):∀F:List IP,(∀z∈F,(0<=z.1/\z.1<=8)/\(0<=z.2/\z.2<=8))->G1 (mk2 [1,6,7] sl) F4 (d9 eW (a7 (dV 2) (a7 (a9 k6 (dL 0) (dL 3)) (a7 (a9 k6 's' (dL 4)) a8)))) (F.map bf) fs=some ((F.map (R7 t x y)).map pt,fs)
 |[],_=>rfl
 |z::r,h=>by
  have Y:=h z (PD ..);have e:=EC J (z:=gD x y z) #[by show 0<=z.1+x/\z.1+x<=27;omega,by show 0<=z.2+y/\z.2+y<=13;omega] fs;have i:=xQ J hx Z U fs r fun z Y=>h z (Pz _ Y)
  have m:mk2 [1,6,7] sl (bf z)=some [.v (.int z.1),.v (.int z.2),.v (L0 t),.v (.int x),.v (.int y)]:=by
   show some (Sl.v (.int z.1) :: .v (.int z.2)::Q5 [1,6,7] sl)=_;rw[U]
  rw[PM,G1,m,xu,show F4 #[[.v (.int z.1),.v (.int z.2),.v (L0 t),.v (.int x),.v (.int y)],fs]=some (true,#[[.v (.int z.1),.v (.int z.2),.v (L0 t),.v (.int x),.v (.int y)],fs]) from rfl,xu,iR rfl,w5 (t9 rfl (t9 'e' (t9 'e' rfl))) e,xu,i];rfl
abbrev L5 (t:Nt) (x2:Sl) (far:Int) (Ss:List (List Pt)) (x5 x6 x7 x8:Sl) (f:FS):DS:=#[[.v .feed,.v (L0 t),x2,.v (.int far),.own (Ss.map c7),x5,x6,x7,x8],some f]
def JV {F:List IP}(h:eI F=true):F.length<=6/\∀z∈F,(0<=z.1/\z.1<=8)/\(0<=z.2/\z.2<=8):=by
 unfold eI at h;simp only[Qe,Rk] at h;refine#[h.1.1.1.2,fun z J=>?_];have q:=QC.mp h.2 z J;simp only[Qe,Rk] at q;omega
def EJ {f:FS}(h:Fd4 n f) (hn:n<2 ^ 27) {t:Nt}(ht:NtOk t) {far:Int}(hf:0<=far/\far<=14) (hS:∀A∈Ss,ShC A) (hl:Ss.length<=9) (x2 J x6 x7 x8:Sl) :
  ∃A y6 y7 y8 f',ShC A/\fU B8 jw ej eW (L5 t x2 far Ss J x6 x7 x8 f)=some (.next,L5 t x2 far (Ss++[A]) J y6 y7 y8 f')/\Fd4 (n+6) f':=by
 refine gB_ fun G_ g_=>?_
 obtain⟨U,f1,e1,a1,a2,h1⟩:=K9 6 h;obtain⟨Z,f2,e2,b1,b2,h2⟩:=K9 6 h1;obtain⟨F,f3,e3,hF,h3⟩:=Ho h2 ∅;obtain⟨r4,f4,e4,d1,d2,h4⟩:=K9 9 h3;obtain⟨l6,hz⟩:=JV hF;have sc:=GV (x:=far+U) (y:=Z) ht hF ∅ ∅;have K3:=sc.lo;have K6:=sc.hi;obtain⟨i,il,bg⟩:=sP (K:=F.map (R7 t (far+U) Z)) (fun z hz=>(sc.sz z hz).1) K3 K6 (some f3);obtain⟨i',il',bg'⟩:=sP (K:=F.map (R7 t (far+U) Z)) (fun z hz=>(sc.sz z hz).1) K3 K6 (some f4);have row:=xQ ht (x:=far+U) (y:=Z) ∅ ∅ (sl:=[.v .feed,.v (L0 t),x2,.v (.int far),.own (Ss.map c7),J,.v (.int (far+U)),.v (.int Z),x8]) rfl (some f3) F hz;apply g_;generalize hK:F.map (R7 t (far+U) Z)=K at *;have s1:j5 (i7 (a7 (a9 k6 (dL 3) (d9 B8 (a7 (dV 0) (a7 (Wk 6) a8)))) (a7 (d9 B8 (a7 (dV 0) (a7 (Wk 6) a8))) a8))) (r8 2 (o6 (f9 6) (o6 (f9 7) t6))) (L5 t x2 far Ss J x6 x7 x8 f)=some (.next,L5 t x2 far Ss J (.v (.int (far+U))) (.v (.int Z)) x8 f2):=
  C0 (G8 (d8 rfl (K4 rfl e1) rfl) (K4 rfl e2)) rfl
 have it:M8 (d9 ej 'o') (L5 t x2 far Ss J (.v (.int (far+U))) (.v (.int Z)) x8 f2)=some (F.map bf,L5 t x2 far Ss J (.v (.int (far+U))) (.v (.int Z)) x8 f3):=by
  unfold M8;rw[K4 rfl e3];rfl
 have lz:(F.map bf).length<=sizeLine:=by rw[PH];exact PJ l6 #[]
 have s2:E3 8 (aA [1,6,7] (M8 (d9 ej 'o')) F4 (d9 eW (a7 (dV 2) (a7 (a9 k6 (dL 0) (dL 3)) (a7 (a9 k6 's' (dL 4)) a8))))) (L5 t x2 far Ss J (.v (.int (far+U))) (.v (.int Z)) x8 f2)=some (.next,L5 t x2 far Ss J (.v (.int (far+U))) (.v (.int Z)) (.own 'r') f3):=
  ck (i:=8) (s1:=L5 t x2 far Ss J (.v (.int (far+U))) (.v (.int Z)) x8 f3) (ds:=K.map pt) (BG it lz row) (by show 8<9;decide)
 generalize Sl.v (.int (far+U))=X at *;generalize Sl.v (.int Z)=Y at *;have lsz:∀m:Nat,(Ss.map c7).length<sizeLine:=fun _=>by rw[PH];exact Qz hl #[]
 have apd:∀A,Ss.map c7++[c7 A]=(Ss++[A]).map c7:=fun A=>by rw[Tt];rfl
 cases Ss with
 |nil=>
  refine#[K.drop i++K.take i,X,Y,.v (.lst 'r'),f3,tq sc i il,?_,h3.mono ∅];unfold fU;refine t7 s1 (t7 s2 ?_);rw[dW (pD (B6 (d8 (x:=.lst []) (y:=.lst []) rfl rfl rfl)))];exact Y4 (i:=4) (s:=L5 t x2 far [] J X Y (.own 'r') f3) (s1:=L5 t x2 far [] J X Y (.v (.lst 'r')) f3) (ds:=[]) (ds0:=[]) (d:=c7 (K.drop i++K.take i)) rfl (nE rfl bg) rfl (by show 0<sizeLine;decide)
 |cons B r=>
  have ne:=Ah (d:=c7 B) (ds:=r.map c7) (Ok.eq (Ok.lst (pC hS)) #[]);have cq:dB (a9 A1 (dL 4) (l5 (n8 a8))) (L5 t x2 far (B::r) J X Y (.own 'r') f3)=some (true,L5 t x2 far (B::r) J X Y (.own 'r') f3):=B6 (d8 (x:=.lst (c7 B::r.map c7)) (y:=.lst []) rfl rfl ne);have c9:dB (a9 F7 (d9 B8 (a7 (dV 0) (a7 (Wk 9) a8))) (Wk 0)) (L5 t x2 far (B::r) J X Y (.own 'r') f3)=some (decide (r4=0),L5 t x2 far (B::r) J X Y (.own 'r') f4):=B6 (d8 (K4 rfl e4) rfl (aq r4 0));by_cases z:r4=0
  .rw[PU z] at c9;refine#[B,X,Y,.own 'r',f4,hS B (PD ..),?_,h4.mono ∅];unfold fU;refine t7 s1 (t7 s2 ?_);rw[G2 (fX cq c9)];refine Eq.trans (Y4 (i:=4) (s:=L5 t x2 far (B::r) J X Y (.own 'r') f4) (s1:=L5 t x2 far (B::r) J X Y (.own 'r') f4) (ds:=(B::r).map c7) (ds0:=(B::r).map c7) (d:=c7 B) rfl (d8 rfl rfl (bQ (bF (j:=0) rfl))) rfl (lsz 0)) ?_;show some (Fl.next,(#[[.v .feed,.v (L0 t),x2,.v (.int far),.own ((B::r).map c7++[c7 B]),J,X,Y,.own 'r'],some f4]:DS))=_;rw[apd]
  .rw[PY z] at c9;refine#[K.drop i'++K.take i',X,Y,.v (.lst 'r'),f4,tq sc i' il',?_,h4.mono ∅];unfold fU;refine t7 s1 (t7 s2 ?_);rw[dW (fX cq c9)];refine Eq.trans (Y4 (i:=4) (s:=L5 t x2 far (B::r) J X Y (.own 'r') f4) (s1:=L5 t x2 far (B::r) J X Y (.v (.lst 'r')) f4) (ds:=(B::r).map c7) (ds0:=(B::r).map c7) (d:=c7 (K.drop i'++K.take i')) rfl (nE rfl bg') rfl (lsz 0)) ?_;show some (Fl.next,(#[[.v .feed,.v (L0 t),x2,.v (.int far),.own ((B::r).map c7++[c7 (K.drop i'++K.take i')]),J,X,Y,.v (.lst 'r')],some f4]:DS))=_;rw[apd]
structure PpS (Ss:List (List Pt)):Prop where
 sh:∀A∈Ss,ShC A
 lo:1<=Ss.length
 hi:Ss.length<=2
def ye {f:FS}(h:Fd4 n f) (hn:n<2 ^ 26) {t:Nt}(ht:NtOk t) {far:Int}(hf:0<=far/\far<=14):∃Ss f',qp [.feed,L0 t,.int 2,.int far] (some f)=some (.tup (Ss.map c7),some f')/\PpS Ss/\Fd4 (n+13) f':=by
 refine gB_ fun G_ g_=>?_
 obtain⟨r,f1,e1,a1,a2,h1⟩:=K9 2 h;obtain⟨k,rfl⟩:=Uw a1;have el:((1+k:Nat):Int)=1+(k:Int):=by omega
 obtain⟨s',e,Ss,x5,U,Y,J,f',rfl,Z,hl,h'⟩:=gN (t:=f9 5) (b:=fU B8 jw ej eW) (fun i s=>∃Ss x5 U Y J f',s=L5 t (.v (.int 2)) far Ss x5 U Y J f'/\(∀A∈Ss,ShC A)/\Ss.length=i/\Fd4 (n+1+6*i) f') (B3 0 (1+k)) 0
  (L5 t (.v (.int 2)) far [] .no .no .no .no f1) #[[],_,_,_,_,f1,rfl,fun A hA=>(by cases hA),rfl,h1] (by
   rintro i d s hd ⟨Ss,x5,U,Y,J,f2,rfl,Z,hl,h2⟩;obtain⟨rfl,il⟩:=dH hd;rw[Ry] at *;obtain⟨A,y6,y7,y8,f3,hA,e,h3⟩:=EJ h2 ∅ ht hf Z ∅ (.v (.int 2)) (.v (.int (0+(i:Int)))) U Y J;exact#[L5 t (.v (.int 2)) far Ss (.v (.int (0+(i:Int)))) U Y J f2,_,rfl,.inl e,Ss++[A],_,_,_,_,f3,rfl,fun B hB=>by
    rcases PQ.mp hB with q | q
    .exact Z B q
    .rw[PV.mp q];exact hA,by rw[Qo,RG,hl],h3.mono ∅])
 rw[Ry,Y5] at hl h';have r1:T8 [.int (1+(k:Int))]=some (B3 0 (1+k)):=by rw[<-el];exact bR ∅
 apply g_;refine#[Ss,f',v5 (s:=L5 t (.v (.int 2)) far Ss x5 U Y J f') ?_,#[Z,by omega,by omega],h'.mono ∅];show pM B8 jw ej eW #[[.v .feed,.v (L0 t),.v (.int 2),.v (.int far),.no,.no,.no,.no,.no],some f]=_;unfold pM;refine t7 (s1:=L5 t (.v (.int 2)) far [] .no .no .no .no f) (ck (i:=4) (s1:=#[[.v .feed,.v (L0 t),.v (.int 2),.v (.int far),.no,.no,.no,.no,.no],some f]) (ds:=[]) rfl (by show 4<9;decide)) ?_;refine t7 ((gs (s1:=L5 t (.v (.int 2)) far [] .no .no .no .no f1) (D3 (d8 rfl (K4 rfl e1) rfl) rfl) r1).trans e) ?_;exact A0 (C5 rfl rfl)
abbrev cR:c8:=Cg qp B8 rZ
def KL {f:FS}(h:Fd4 n f) (hn:n<2 ^ 25):∃Ss Os f',cR [.feed] (some f)=some (.tup [.tup (Ss.map c7),.tup (Os.map c7)],some f')/\PpS Ss/\PpS Os/\Fd4 (n+40) f':=by
 refine gB_ fun G_ g_=>?_
 obtain⟨t,f1,e1,U,h1⟩:=MF h ∅;obtain⟨Ss,f2,e2,hS,h2⟩:=ye h1 ∅ U (far:=0) #[];obtain⟨r,f3,e3,Y,a2,h3⟩:=K9 5 h2;obtain⟨w,Z,hr⟩:=Z0 (xs:=[(0:Int),2,5,9,14].map D.int) Y (by show r<5;exact a2);obtain⟨far,hl,rfl⟩:=Qh.mp Z;have fb:0<=far/\far<=14:=(by decide:∀l∈[(0:Int),2,5,9,14],0<=l/\l<=14) far hl;obtain⟨Os,J,e4,hO,h4⟩:=ye h3 ∅ U fb;apply g_;refine#[Ss,Os,J,v5 (s:=#[[.v .feed,.v (L0 t),.v 'c'],some J]) ?_,hS,hO,h4.mono ∅];show mT qp B8 rZ #[[.v .feed,.no,.no],some f]=_;unfold mT;refine t7 (s1:=#[[.v .feed,.v (L0 t),.no],some f1]) (C0 (K4 rfl e1) rfl) ?_;refine t7 (s1:=#[[.v .feed,.v (L0 t),.v 'c'],some f2]) (C0 (K4 rfl e2) rfl) ?_;exact A0 (G8 rfl (nE (sl':=[.v .feed,.v (L0 t),.v 'c']) (fs':=some f3) (D3 rfl (D3 rfl (D3 rfl (D3 (d8 (x:=.lst ([(0:Int),2,5,9,14].map D.int)) rfl (K4 rfl e3) (bQ hr)) rfl)))) e4))
abbrev cL:c8:=Bz oG B8
def Nk {f:FS}(h:Fd4 n f) (hn:n<2 ^ 28) (hS:PpS Ss):∃p f',cL [.feed,.tup (Ss.map c7)] (some f)=some (pt p,some f')/\Ps 70 p/\Fd4 (n+3) f':=by
 have l0:=hS.lo;have ls:one j6 [.tup (Ss.map c7)]=some (.int (Ss.length:Int)):=Y7 (by rw[PH]);have l2:=hS.hi;refine gB_ fun G_ g_=>?_
 obtain⟨r,f1,e1,a1,a2,h1⟩:=K9 (Ss.length:Int) h ∅ ∅ ∅;obtain⟨w,hw,hr⟩:=Z0 (xs:=Ss.map c7) a1 (by rw[PH];exact a2);obtain⟨A,hA,rfl⟩:=Qh.mp hw;have J:=hS.sh A hA;have la:=J.lo;have la6:=J.hi;have lA:one j6 [c7 A]=some (.int (A.length:Int)):=by
  show some (D.int ((A.map pt).length:Int))=_;rw[PH]
 obtain⟨r2,f2,e2,b1,b2,h2⟩:=K9 (A.length:Int) h1 ∅ ∅ ∅;obtain⟨w2,Z,Y⟩:=Z0 (xs:=A.map pt) b1 (by rw[PH];exact b2);obtain⟨P,hP,rfl⟩:=Qh.mp Z;obtain⟨r3,U,e3,c1,c2,h3⟩:=K9 (A.length:Int) h2 ∅ ∅ ∅;obtain⟨w3,hw3,hr3⟩:=Z0 (xs:=A.map pt) c1 (by rw[PH];exact c2);obtain⟨Q,hQ,rfl⟩:=Qh.mp hw3;have kP:=(J.sz P hP).1;have kQ:=(J.sz Q hQ).1;obtain⟨M,e,hM⟩:=CB (n:=16) (A:=P) (B:=Q) #[kP.x,kP.y,kP.l] #[kQ.x,kQ.y,kQ.l] #[] #[] #[] #[] (some U);apply g_;refine#[M,U,?_,#[hM.x.mono #[],hM.y.mono #[],hM.l.mono #[]],h3.mono ∅];have i1:d7 'c' (.int r)=some (c7 A):=(B4 _ _).trans hr;have i2:d7 (c7 A) (.int r2)=some (pt P):=(B4 _ _).trans Y;have i3:d7 (c7 A) (.int r3)=some (pt Q):=(B4 _ _).trans hr3;generalize D.tup (Ss.map c7)=X at *;generalize c7 A=S at *;refine v5 (s:=#[[.v .feed,.v X,.v S,.v (pt P),.v (pt Q)],some U]) ?_;show nC oG B8 #[[.v .feed,.v X,.no,.no,.no],some f]=_;unfold nC;refine t7 (s1:=#[[.v .feed,.v X,.v S,.no,.no],some f1]) (C0 (d8 rfl (K4 (t9 rfl (t9 (C5 rfl ls) rfl)) e1) i1) rfl) ?_;refine t7 (s1:=#[[.v .feed,.v X,.v S,.v (pt P),.v (pt Q)],some U]) (BP (D3 (d8 rfl (K4 (t9 rfl (t9 (C5 rfl lA) rfl)) e2) i2) (D3 (d8 rfl (K4 (t9 rfl (t9 (C5 rfl lA) rfl)) e3) i3) rfl)) rfl) ?_;exact A0 (w5 rfl e)
theorem zA (g:D->Bool) (caps:List Sl) (fs:vO_):∀ds:List D,(∀d∈ds,fc #[.v d::caps,fs]=some (g d,#[.v d::caps,fs]))->G1 (fun d=>some (.v d::caps)) fc (dV 0) ds fs=some (ds.filter g,fs)
 |[],_=>rfl
 |d::r,h=>by
  have J:=zA g caps fs r fun x U=>h x (Pz _ U)
  rw[G1,xu,h d (PD ..),xu,List.filter_cons];cases g d with
  |true=>
   rw[iR rfl,iR rfl];show ((G1 (fun d=>some (.v d::caps)) fc (dV 0) r fs).map fun z=>(d::z.1,z.2))=_;rw[J];rfl
  |false=>rw[iU PL,iU PL];exact J
def Wd (d:D):Prop:=∃(w:Str) (i:Int),(w = "one" \/ w = "other")/\0<=i/\i<6/\d = .tup [.str w,.int i]
def Wd.th (h:Wd d):Th 131 1 d:=by
 obtain⟨w,i,U,Y,h1,rfl⟩:=h;have J:Bd 131 i:=(nK ∅:Bd 3 i).mono #[];rcases U with rfl | rfl
 .simp only[Th,Ths];exact#[kr,J,trivial]
 .simp only[Th,Ths];exact#[rN,J,trivial]
def gq (w:Str) (n:Nat):List D:=(B3 0 n).map fun d=>.tup [.str w,d]
def kJ (w:Str) (n:Nat):(gq w n).length=n:=by unfold gq;rw[PH,Y5]
def xR {w:Str}(J:w = "one" \/ w = "other") (hn:n<=6):∀d∈gq w n,Wd d:=fun d Y=>by
 obtain⟨x,Z,rfl⟩:=Qh.mp Y;obtain⟨j,U⟩:=Ru Z;obtain⟨rfl,jl⟩:=dH U;exact#[w,0+(j:Int),J,by omega,by omega,rfl]
def yV (w:Str) (n:Nat) (J:n<=6) {A:vT_}(s:DS) (hA:dL i s=some (c7 A,s)) (Z:A.length=n):l5 (F5 [] (R8 (a7 (i9 (one j6) (a7 (dL i) a8)) a8)) F4 (i7 (a7 (dC (.str w)) 'o'))) s=some (.lst (gq w n),s):=by
 have U:one j6 [c7 A]=some (.int (n:Int)):=by
  show some (D.int ((A.map pt).length:Int))=_;rw[PH,Z]
 have Y:R8 (a7 (i9 (one j6) (a7 (dL i) a8)) a8) s=some (B3 0 n,s):=by
  unfold R8;rw[t9 (C5 (t9 hA rfl) U) rfl,xu,show T8 [.int (n:Int)]=some (B3 0 n) from bR ∅];rfl
 have c:=gU (idx:=[]) (g:=fun d=>D.tup [.str w,d]) (fe:=i7 (a7 (dC (.str w)) 'o')) (Q5 [] s.sl) s.fs (B3 0 n) fun d hd=>#[#[.v d::Q5 [] s.sl,s.fs],G8 rfl rfl,rfl]
 exact bB (gK Y (by rw[Y5];exact PJ J #[]) c)
def KH (h:∀d∈ds,Wd d):A9 (.lst ds)=true:=by
 have:Th 131 2 (.lst ds):=by
  show Ths 131 1 ds;exact Ths.of fun d J=>(h d J).th
 exact bA this #[] #[]
def HX {f:FS}(h:Fd4 n f) (hn:n<2 ^ 28) {A:vT_}(hA:ShC A) (hB:ShC B) (X Y:D) (U x7 x8:Sl) (J:vD_) (hrow:J.length<=50) :
  ∃d y7 y8 f',jW B8 Q2 #[[.v .feed,.v X,.v Y,U,.v (c7 A),.own J,.v (c7 B),x7,x8],some f]=some (.next,#[[.v .feed,.v X,.v Y,U,.v (c7 A),.own (J++[d]),.v (c7 B),y7,y8],some f'])/\Wd d/\Fd4 (n+1) f':=by
 have a6:=hA.hi;have b6:=hB.hi;have a3:=hA.lo;generalize eC:gq "one" A.length++gq "other" B.length=C;have cl:C.length=A.length+B.length:=by rw[<-eC,Qo,kJ,kJ]
 have hC:∀d∈C,Wd d:=fun d Z=>by
  rw[<-eC] at Z;rcases PQ.mp Z with q | q
  .exact xR (.inl rfl) a6 d q
  .exact xR (.inr rfl) b6 d q
 have zC:C.length<=sizeLine:=PJ (by omega:C.length<=12) #[];have s1:E3 7 (Q8 P9 (l5 (F5 [] (R8 (a7 (i9 (one j6) (a7 (dL 4) a8)) a8)) F4 (i7 (a7 (dC (.str "one")) 'o')))) (l5 (F5 [] (R8 (a7 (i9 (one j6) (a7 (dL 6) a8)) a8)) F4 (i7 (a7 (dC (.str "other")) 'o'))))) #[[.v .feed,.v X,.v Y,U,.v (c7 A),.own J,.v (c7 B),x7,x8],some f]=some (.next,#[[.v .feed,.v X,.v Y,U,.v (c7 A),.own J,.v (c7 B),.own C,x8],some f]):=by
  refine cT (jo (yV "one" A.length a6 (A:=A) _ rfl rfl) (yV "other" B.length b6 (A:=B) _ rfl rfl) (z:=C) ?_) 'g' rfl;show (if _ then _ else _)=_;rw[eC];simp[cl];rw[kJ,kJ,<-cl];exact zC
 generalize eG:C.filter (M3 A B)=G;have hG:∀d∈G,Wd d:=fun d Z=>hC d (by rw[<-eG] at Z;exact(TC.mp Z).1)
 have gl:G.length<=12:=by rw[<-eG];exact PJ (List.length_filter_le ..) ∅
 have s2:E3 8 (F5 [4,6] (M8 (dV 7)) (j8 (d9 Q2 (a7 (dV 1) (a7 (dV 2) 'o')))) (dV 0)) #[[.v .feed,.v X,.v Y,U,.v (c7 A),.own J,.v (c7 B),.own C,x8],some f]=some (.next,#[[.v .feed,.v X,.v Y,U,.v (c7 A),.own J,.v (c7 B),.v (.lst C),.own G],some f]):=by
  have c:=zA (fc:=j8 (d9 Q2 (a7 (dV 1) (a7 (dV 2) 'o')))) (M3 A B) [.v (c7 A),.v (c7 B)] (some f) C fun d Z=>B9 (w5 rfl (sM hA hB (hC d Z).th #[] #[] (some f)))
  rw[eG] at c;exact cT (gK (s1:=#[[.v .feed,.v X,.v Y,U,.v (c7 A),.own J,.v (c7 B),.v (.lst C),x8],some f]) rfl zC c) 'g' rfl
 have fin:∀(L:vD_) (y8:Sl),(∀d∈L,Wd d)->0<L.length->L.length<=12->∃d z7 z8 f',N8 5 (a9 d7 (dL 7) (d9 B8 (a7 (dV 0) (a7 (i9 (one j6) (a7 (dL 7) a8)) a8)))) #[[.v .feed,.v X,.v Y,U,.v (c7 A),.own J,.v (c7 B),.v (.lst L),y8],some f]=some (.next,#[[.v .feed,.v X,.v Y,U,.v (c7 A),.own (J++[d]),.v (c7 B),z7,z8],some f'])/\Wd d/\Fd4 (n+1) f':=fun L y8 hL l0 l1=>by
  obtain⟨r,f1,e1,q1,q2,h1⟩:=K9 (L.length:Int) h ∅ ∅ ∅;obtain⟨d,Z,hr⟩:=Z0 (xs:=L) q1 q2;refine#[d,.v (.lst L),y8,f1,?_,hL d Z,h1];exact Y4 (i:=5) (s1:=#[[.v .feed,.v X,.v Y,U,.v (c7 A),.own J,.v (c7 B),.v (.lst L),y8],some f1]) (ds0:=J) (ds:=J) rfl (d8 rfl (K4 (t9 rfl (t9 (C5 rfl rfl) rfl)) e1) (bQ hr)) rfl (Qz hrow #[])
 unfold jW;cases G with
 |nil=>
  obtain⟨d,y7,y8,f',e,w,hf⟩:=fin C (.own []) hC ∅ ∅;exact#[d,y7,y8,f',t7 s1 (t7 s2 (t7 (s1:=#[[.v .feed,.v X,.v Y,U,.v (c7 A),.own J,.v (c7 B),.v (.lst C),.own []],some f]) (C0 ((mL (B6 (d8 rfl (bB (bW rfl (Qx _))) rfl))).trans rfl) rfl) e)),w,hf]
 |cons g0 r=>
  obtain⟨d,y7,y8,f',e,w,hf⟩:=fin (g0::r) (.v (.lst (g0::r))) hG 'g' gl;exact#[d,y7,y8,f',t7 s1 (t7 s2 (t7 (s1:=#[[.v .feed,.v X,.v Y,U,.v (c7 A),.own J,.v (c7 B),.v (.lst (g0::r)),.v (.lst (g0::r))],some f]) (C0 ((qF (B6 (d8 rfl (bB (bW rfl (Qx _))) (Ah (KH hG))))).trans rfl) rfl) e)),w,hf]
theorem sF {A:vT_}(hA:ShC A) (X Y:D) (J:Sl):∀(Os:List (List Pt)) {n:Nat}{f:FS}(row:vD_) (x6 x7 x8:Sl),(∀B∈Os,ShC B)->Fd4 n f->n+Os.length<2 ^ 28->row.length+Os.length<=50 ->
  ∃row' y6 y7 y8 f',C3 (f9 6) (jW B8 Q2) (Os.map c7) #[[.v .feed,.v X,.v Y,J,.v (c7 A),.own row,x6,x7,x8],some f]=some (.next,#[[.v .feed,.v X,.v Y,J,.v (c7 A),.own (row++row'),y6,y7,y8],some f'])/\(∀d∈row',Wd d)/\row'.length=Os.length/\Fd4 (n+Os.length) f'
 |[],n,f,row,x6,x7,x8,_,h,_,_=>#[[],x6,x7,x8,f,by rw[QB];rfl,fun _ q=>(by cases q),rfl,h]
 |B::r,n,f,row,x6,x7,x8,hO,h,hn,hl=>by
  rw[PX] at hn hl;obtain⟨d,y7,y8,f1,e1,Z,h1⟩:=HX h ∅ hA (hO B (PD ..)) X Y J x7 x8 row ∅;obtain⟨row',z6,z7,z8,f2,e2,w2,l2,h2⟩:=sF hA X Y J r (row++[d]) (.v (c7 B)) y7 y8 (fun z U=>hO z (Pz _ U)) h1 ∅ (by rw[Qo,RG];omega);refine#[d::row',z6,z7,z8,f2,?_,fun z U=>?_,by rw[PX,PX,l2],h2.mono (by rw[PX];omega)]
  .rw[PM,show row++d::row'=row++[d]++row' by simp];exact(U6 (s1:=#[[.v .feed,.v X,.v Y,J,.v (c7 A),.own row,.v (c7 B),x7,x8],some f]) rfl e1).trans e2
  .rcases xo.mp U with rfl | U
   .exact Z
   .exact w2 z U
def zX {f:DE}{t:D->DS->Option DS}{b:DM}{s:DS}(h1:f s=some (.tup ds,s1)):M1 f t b s=C3 t b ds s1:=by
 unfold M1;rw[h1];rfl
def Wr (m:Nat) (r:D):Prop:=∃ds,r = .tup ds/\(∀d∈ds,Wd d)/\ds.length=m
theorem Wr.th {r:D}(h:Wr m r):Th 131 2 r:=by
 obtain⟨ds,rfl,h,_⟩:=h;show Ths 131 1 ds;exact Ths.of fun d J=>(h d J).th
theorem yQ (Z:∀B∈Os,ShC B) (lO:Os.length<=2) (X:D):∀(Ss:List (List Pt)) {n:Nat}{f:FS}(rows:vD_) (x4 x5 x6 x7 x8:Sl),(∀A∈Ss,ShC A)->Fd4 n f->n+Ss.length*2<2 ^ 28->rows.length+Ss.length<=50 ->
  ∃rows' y4 y5 y6 y7 y8 f',C3 (f9 4) (rL B8 Q2) (Ss.map c7) #[[.v .feed,.v X,.v 'b',.own rows,x4,x5,x6,x7,x8],some f]=some (.next,#[[.v .feed,.v X,.v 'b',.own (rows++rows'),y4,y5,y6,y7,y8],some f'])/\(∀r∈rows',Wr Os.length r)/\rows'.length=Ss.length/\Fd4 (n+Ss.length*2) f'
 |[],n,f,rows,x4,x5,x6,x7,x8,_,h,_,_=>#[[],x4,x5,x6,x7,x8,f,by rw[QB];rfl,fun _ q=>(by cases q),rfl,h]
 |A::r,n,f,rows,x4,x5,x6,x7,x8,hS,h,hn,hl=>by
  rw[PX] at hn hl;obtain⟨J,y6,y7,y8,f1,Y,w1,l1,h1⟩:=sF (hS A (PD ..)) X 'b' (.own rows) Os (n:=n) (f:=f) [] x6 x7 x8 Z h ∅ (by simp;omega);rw[QW] at Y;obtain⟨rows',z4,z5,z6,z7,z8,f2,e2,w2,l2,h2⟩:=yQ Z lO X r (rows++[.tup J]) (.v (c7 A)) (.own J) y6 y7 y8 (fun z U=>hS z (Pz _ U)) (h1.mono (by omega:n+Os.length<=n+2)) ∅ (by rw[Qo,RG];omega);refine#[.tup J::rows',z4,z5,z6,z7,z8,f2,?_,fun z U=>?_,by rw[PX,PX,l2],h2.mono (by rw[PX];omega)]
  .rw[PM,show rows++D.tup J::rows'=rows++[D.tup J]++rows' by simp];refine(U6 (s1:=#[[.v .feed,.v X,.v 'b',.own rows,.v (c7 A),x5,x6,x7,x8],some f]) (s2:=#[[.v .feed,.v X,.v 'b',.own (rows++[.tup J]),.v (c7 A),.own J,y6,y7,y8],some f1]) rfl ?_).trans e2;unfold rL;refine t7 (s1:=#[[.v .feed,.v X,.v 'b',.own rows,.v (c7 A),.own [],x6,x7,x8],some f]) (cT (bW rfl (Qx _)) 'g' rfl) ?_;refine t7 (s1:=#[[.v .feed,.v X,.v 'b',.own rows,.v (c7 A),.own J,y6,y7,y8],some f1]) ((zX rfl).trans Y) ?_;exact Y4 (i:=3) (s1:=#[[.v .feed,.v X,.v 'b',.own rows,.v (c7 A),.own J,y6,y7,y8],some f1]) (ds0:=rows) (ds:=rows) rfl (C5 rfl rfl) rfl (Qz (by omega:rows.length<=50) #[])
  .rcases xo.mp U with rfl | U
   .exact#[J,rfl,w1,l1]
   .exact w2 z U
abbrev dj:c8:=uW B8 Q2
def Pg {f:FS}(h:Fd4 n f) (hn:n<2 ^ 27) (hS:∀A∈Ss,ShC A) (hO:∀B∈Os,ShC B) (lS:Ss.length<=2) (lO:Os.length<=2):∃R f',dj [.feed,.tup (Ss.map c7),.tup (Os.map c7)] (some f)=some (.tup R,some f')/\(∀r∈R,Wr Os.length r)/\R.length=Ss.length/\Fd4 (n+4) f':=by
 refine gB_ fun G_ Z=>?_
 obtain⟨R,y4,y5,U,J,Y,f1,e,w,l,h1⟩:=yQ hO lO 'c' Ss (n:=n) (f:=f) [] .no .no .no .no .no hS h ∅ (by simp;omega);rw[QW] at e;apply Z;refine#[R,f1,?_,w,l,h1.mono ∅];refine v5 (s:=#[[.v .feed,.v 'c',.v 'b',.own R,y4,y5,U,J,Y],some f1]) ?_;show pF B8 Q2 #[[.v .feed,.v 'c',.v 'b',.no,.no,.no,.no,.no,.no],some f]=_;unfold pF;refine t7 (s1:=#[[.v .feed,.v 'c',.v 'b',.own [],.no,.no,.no,.no,.no],some f]) (cT (bW rfl (Qx _)) 'g' rfl) ?_;exact t7 ((zX rfl).trans e) (A0 (C5 rfl rfl))
def Jq {o:Option (Str × Nat)}(h:∀w k,o=some (w,k)->R0 w/\k<2 ^ 20):Th 131 1 (X9 o):=by
 cases o with
 |none=>simp only[X9,Th]
 |some p=>
  obtain⟨w,k⟩:=p;obtain⟨a,b⟩:=h w k rfl;simp only[X9,Th,Ths];exact#[a,(nK ∅:Bd 20 (k:Int)).mono #[],trivial]
def uz {w:Str}:A1 (.str w) (.str w)=some (.bl false):=by
 have:A1 (.str w) (.str w)=some (.bl (!decide (w=w))):=rfl;rw[this,PU rfl];rfl
def LR {m1 m2 m3 m4 m5 m6 m7 m8 m9:c8}{X Y t:D}{w v:Str}{fs:vO_}(U x1 x2 Z J x7 x8 x10:Sl) (e1:m1 [X,Y,d] fs=some (t,fs)) (e2:m2 [X,Y,d] fs=some (t,fs)) (r1:V5 (.tup [X,Y,d])=some (.str w)) (r2:V5 t=some (.str v)) :
  fj m1 m2 m3 m4 m5 m6 m7 m8 m9 #[[U,x1,x2,.v X,.v Y,Z,J,x7,x8,.v d,x10],fs]=some (.next,#[[U,x1,x2,.v X,.v Y,Z,J,x7,x8,.v d,.v (.str w)],fs]):=by
 unfold fj;refine t7 (s1:=#[[U,x1,x2,.v X,.v Y,Z,J,x7,x8,.v d,.v (.str w)],fs]) (C0 (C5 (t9 (mO rfl rfl rfl) rfl) r1) rfl) ?_;refine t7 (s1:=#[[U,x1,x2,.v X,.v Y,Z,J,x7,x8,.v d,.v (.str w)],fs]) (D8 (T7 (C5 (t9 (w5 rfl e1) rfl) r2) (C5 (t9 (w5 rfl e2) rfl) r2) uz)) ?_;exact D8 (T7 (C5 (t9 (mO rfl rfl rfl) rfl) r1) rfl uz)
def Aw (w:Str):Prop:=R0 w/\w.length<=20
def Oo:Aw "pair" := #[ay 'h',by decide +kernel]
def qX:Aw "rows" := #[ay 'h',by decide +kernel]
def lQ:Aw "shape" := #[ay 'h',by decide +kernel]
def MM:Aw "place" := #[ay 'h',by decide +kernel]
def GD {A:vT_}{r:D}{w:Str}(h:aG Os A r=some w):Aw w:=by
 cases r with
 |tup ds=>
  rw[nr] at h;by_cases c:ds.length=Os.length
  .rw[iR c] at h;by_cases q:(List.zipWith (M3 A) Os ds).all id=true
   .rw[iR q] at h;cases h
   .rw[iU q] at h;cases h;exact Oo
  .rw[iU c] at h;cases h;exact qX
 |_=>cases h;exact qX
theorem uV {w:Str}:∀(Ss:List (List Pt)) (rs:vD_) (j:Nat),X7 Os Ss rs j=some (w,k)->Aw w/\k<j+Ss.length
 |[],rs,j,h=>by cases rs <;> cases h
 |_::_,[],j,h=>by cases h
 |A::Ss,r::rs,j,h=>by
  unfold X7 at h;cases c:aG Os A r with
  |some v=>rw[c] at h;cases h;exact#[GD c,by rw[PX];omega]
  |none=>
   rw[c] at h;obtain⟨a,b⟩:=uV Ss rs (j+1) h;exact#[a,by rw[PX];omega]
def KZ (lS:Ss.length<=50) (w:Str) (k:Nat) (h:U4 Ss Os d=some (w,k)):Aw w/\k<2 ^ 20:=by
 by_cases c:cK d=true
 .have t2:Y6 d=true:=by
   by_cases t:Y6 d=true
   .exact t
   .rw[Qp] at t;rw[om t] at c;cases c
  obtain⟨x,y,rfl⟩:=fY t2;have tv:U4 Ss Os (.tup [x,y])=(if A8 x "meet" = true then (if E5 y=true then bh Ss Os (W9 y) else some (("shape" : Str),0)) else if A8 x "apart" = true then fO Ss Os y else some (("shape" : Str),0)):=rfl;rw[tv] at h;by_cases Z:A8 x "meet" = true
  .rw[iR Z] at h;by_cases U:E5 y=true
   .rw[iR U] at h;unfold bh at h;by_cases J:(Ss.any (O0 · (W9 y))&&Os.any (O0 · (W9 y)))=true
    .rw[iR J] at h;cases h
    .rw[iU J] at h;cases h;exact#[MM,by decide]
   .rw[iU U] at h;cases h;exact#[lQ,by decide]
  .rw[iU Z] at h;by_cases U:A8 x "apart" = true
   .rw[iR U] at h;cases y with
    |tup Y=>
     have h:ag Ss Os Y=some (w,k):=h;unfold ag at h;by_cases J:Y.length=Ss.length
     .rw[iR J] at h;obtain⟨a,b⟩:=uV Ss Y 0 h;exact#[a,by omega]
     .rw[iU J] at h;cases h;exact#[qX,by decide]
    |_=>cases h;exact#[lQ,by decide]
   .rw[iU U] at h;cases h;exact#[lQ,by decide]
 .rw[Qp] at c;rw[qI c] at h;cases h;exact#[lQ,by decide]
def GY (hS:∀A∈Ss,ShC A) (J:∀B∈Os,ShC B) (lS:Ss.length<=2) (lO:Os.length<=2) {b:Nat}(h:Th b k d) (h2:3<=k) (hb:b<=400) (hk:k<=50) (Y:bk d<=5000):∃w,V5 (.tup [.tup (Ss.map c7),.tup (Os.map c7),d])=some (.str w):=by
 have U:Ok k 50 'c':=(Ok.tup (pC hS)).mono ∅ ∅;have Z:Ok k 50 'b':=(Ok.tup (pC J)).mono ∅ ∅;have o3:Ok k 5000 d:=(Th.ok ∅ d h).mono (tx _) Y;exact#[_,(Ok.tup (OkL.cons U (OkL.cons Z (OkL.cons o3 OkL.nil)))).repr ∅ ∅]
def OA (hS:∀A∈Ss,ShC A) (hO:∀B∈Os,ShC B) (lS:Ss.length<=2) (lO:Os.length<=2) {b:Nat}(h:Th b k d) (U:70<=b) (Y:b<=400) (h2:3<=k) (hk:k<=50) (hs:bk d<=5000) (fs:vO_) (x0 x1 x2 x5 Z x7 x8 J:Sl) :
  ∃y10,fj cM aR m3 m4 m5 m6 m7 m8 m9 #[[x0,x1,x2,.v 'c',.v 'b',x5,Z,x7,x8,.v d,J],fs]=some (.next,#[[x0,x1,x2,.v 'c',.v 'b',x5,Z,x7,x8,.v d,y10],fs]):=by
 obtain⟨w,r1⟩:=GY hS hO lS lO h h2 Y hk hs;have e1:=Ct hS hO h U Y ∅ ∅ fs;have e2:=Kx hS hO ∅ ∅ h U Y ∅ ∅ fs;have tw:=KZ (Ss:=Ss) (Os:=Os) (d:=d) ∅;have t:=Jq fun w k q=>#[(tw w k q).1.1,(tw w k q).2]
 have bz:bk (X9 (U4 Ss Os d))<=8000:=by
  cases c:U4 Ss Os d with
  |none=>exact Qx _
  |some p=>
   obtain⟨u,v⟩:=p;have:=(tw u v c).1.2;show bk (.tup [.str u,.int (v:Int)])<=8000;rw[V1,N7,N7,aS,jf,fV];omega
 have r2:V5 (X9 (U4 Ss Os d))=some (.str (X9 (U4 Ss Os d)).py.shown):=(Th.ok ∅ _ t).repr #[] bz;exact#[_,LR x0 x1 x2 x5 Z x7 x8 J e1 e2 r1 r2]
def OS {A:vT_}(hA:ShC A) (hB:ShC B) (h:PpI A B d):Wd d:=by
 have:=hA.hi;have:=hB.hi;cases h with
 |@one i h p=>exact#["one",(i:Int),.inl rfl,by omega,by omega,rfl]
 |@oth i h p=>exact#["other",(i:Int),.inr rfl,by omega,by omega,rfl]
def Cr {R:vD_}(h:∀r∈R,Wr Os.length r):Th 131 4 (.tup [.str "apart",.tup R]):=by
 show Th 131 3 (.str "apart")/\Th 131 3 (.tup R)/\True;refine#[?_,?_,trivial]
 .show R0 "apart";exact jg
 .show Ths 131 2 R;exact Ths.of fun r J=>(h r J).th
def pI {W V:vD_}(h:W.length+V.length<=sizeLine):P9 (.lst W) (.lst V)=some (W++V):=iR h
def dS (d:D):Prop:=Th 133 8 d/\bk d<=5000
def H31 (d:D):Prop:=Th 131 4 d/\bk d<=200
def H31.g (h:H31 d):dS d:=#[Th.mono #[] _ #[] h.1,by have:=h.2;omega]
def Cp (h:Wd d):bk d<=7:=by
 obtain⟨w,i,J,_,_,rfl⟩:=h;rw[V1,N7,N7,aS,jf,fV];have:w.length<=5:=by
  rcases J with rfl | rfl <;> decide +kernel
 omega
theorem oQ :∀{ds:vD_},(∀d∈ds,bk d<=n)->K0 ds<=ds.length*(n+1)
 |[],_=>Qx _
 |d::r,h=>by
  have a:=h d (PD ..);have b:=oQ fun z J=>h z (Pz _ J)
  rw[N7,PX,Nat.add_mul];omega
def Ms (Z:m<=2) {r:D}(h:Wr m r):bk r<=16:=by
 obtain⟨ds,rfl,U,Y⟩:=h;rw[V1];have:=oQ (n:=7) fun d J=>Cp (U d J)
 have:ds.length*(7+1)<=2*8:=Ts ∅ (tx _);omega
def yP (Y:Os.length<=2) {R:vD_}(J:R.length<=2) (h:∀r∈R,Wr Os.length r):H31 (.tup [.str "apart",.tup R]):=by
 refine#[Cr h,?_];have a:=oQ (n:=16) fun d U=>Ms Y (h d U)
 have b:R.length*(16+1)<=2*17:=Ts J (tx _);have c:(("apart" : Str)).length<=5:=by decide +kernel
 rw[V1,N7,N7,aS,jf,V1];omega
def rF (h:Ps 131 p):H31 (.tup [.str "meet",pt p]):=by
 refine#[?_,?_]
 .show Th 131 3 (.str "meet")/\Th 131 3 (pt p)/\True;exact#[show R0 "meet" from gh,(EZ (b:=131) h #[]).mono (tx _) _ #[],trivial]
 .have c:(("meet" : Str)).length<=5:=by decide +kernel
  rw[V1,N7,N7,aS,jf];have:bk (pt p)=3:=rfl;omega
def Ea (U:∀A∈Ss,ShC A) (J:∀B∈Os,ShC B) (Y:Ss.length<=2) (lO:Os.length<=2) (fs:vO_):∃d,au [.tup (Ss.map c7),.tup (Os.map c7)] fs=some (d,fs)/\H31 d:=by
 rcases Ii U J ∅ ∅ fs with ⟨e,h⟩ | ⟨A,hA,B,hB,p,e,m⟩
 .refine#[_,e,?_];refine yP (Os:=Os) lO (by rw[PH];exact Y) fun r Z=>?_
  obtain⟨A,hA,rfl⟩:=Qh.mp Z;refine#[_,rfl,fun d hd=>?_,by rw[PH]];obtain⟨B,hB,rfl⟩:=Qh.mp hd;exact OS (U A hA) (J B hB) (Ky (h A hA B hB))
 .exact#[_,e,rF (m.sz.mono #[])]
section
variable {m1 m2 m3 m4 m5 m6 m7 m8 m9:c8}
def GR {W:vD_}{r U d2 d3 c:D}{f f1 f2 f3:FS}{j:Int}(Z x2 x3 x4 x5 x8 Y J:Sl) (aj:d7 (.lst W) (.int j)=some r) (a1:d7 (.lst W) (.int 1)=some c) (e1:m3 [.feed,r] (some f)=some (U,some f1)) (e2:m3 [.feed,U] (some f1)=some (d2,some f2)) (e3:m3 [.feed,c] (some f2)=some (d3,some f3)) (lz:W.length+3<=sizeLine) :
  gX m1 m2 m3 m4 m5 m6 m7 m8 m9 #[[Z,.v .feed,x2,x3,x4,x5,.own W,.v (.int j),x8,Y,J],some f]=some (.next,#[[Z,.v .feed,x2,x3,x4,x5,.own (W++[U,d2,d3]),.v (.int j),.v U,Y,J],some f3]):=by
 refine t7 (s1:=#[[Z,.v .feed,x2,x3,x4,x5,.own W,.v (.int j),.v U,Y,J],some f1]) (C0 (K4 (t9 rfl (t9 (d8 rfl rfl aj) rfl)) e1) rfl) ?_;have l3:(3:Nat)<=sizeLine:=by decide
 have q:n8 (a7 (dV 8) (a7 (d9 m3 (a7 (dV 1) (a7 (dV 8) a8))) (a7 (d9 m3 (a7 (dV 1) (a7 (Wl 6 1) a8))) a8))) #[[Z,.v .feed,x2,x3,x4,x5,.own W,.v (.int j),.v U,Y,J],some f1]=some ([U,d2,d3],#[[Z,.v .feed,x2,x3,x4,x5,.own W,.v (.int j),.v U,Y,J],some f3]):=
  bW (D3 rfl (D3 (K4 rfl e2) (D3 (K4 (t9 rfl (t9 (d8 rfl rfl a1) rfl)) e3) rfl))) l3
 exact cT (jo rfl (kU q) (pI lz)) (by decide:6<11) rfl
def we {X p:D}{f f':FS}{r n:Int}(x0 x2 Y x4 x5 U x7 Z x9 J:Sl) (e:m6 [.feed,.int n] (some f)=some (.int r,some f')) :
  j7 (dB (a9 F7 (d9 m6 (a7 (dV 1) (a7 (dC (.int n)) a8))) (Wk 0))) (j5 (i7 a8) (f9 i)) j9 #[[x0,.v .feed,x2,Y,x4,x5,U,x7,Z,x9,J],some f]=some (.next,if r=0 then #[[x0,.v .feed,x2,Y,x4,x5,U,x7,Z,x9,J].set i (.v (.tup [])),some f'] else #[[x0,.v .feed,x2,Y,x4,x5,U,x7,Z,x9,J],some f']):=by
 have q:dB (a9 F7 (d9 m6 (a7 (dV 1) (a7 (dC (.int n)) a8))) (Wk 0)) #[[x0,.v .feed,x2,Y,x4,x5,U,x7,Z,x9,J],some f]=some (decide (r=0),#[[x0,.v .feed,x2,Y,x4,x5,U,x7,Z,x9,J],some f']):=B6 (d8 (K4 rfl e) rfl (aq r 0));by_cases h:r=0
 .rw[PU h] at q;rw[G2 q,iR h];rfl
 .rw[PY h] at q;rw[dW q,iU h];rfl
def HA {U f5:FS}(x0 x2 Z x6 x7 x8 Y J:Sl) (e5:m5 [X',Y'] (some U)=some (d0,some U)) (e6:m4 [.feed,X',Y'] (some U)=some (R,some f5)) :
  E3 6 (n8 (a7 (d9 m5 (a7 (dV 3) (a7 (dV 4) a8))) (a7 (i7 (a7 (dC (.str "apart")) (a7 (d9 m4 (a7 (dV 1) (a7 (dV 3) (a7 (dV 4) a8)))) a8))) a8))) #[[x0,.v .feed,x2,.v X',.v Y',Z,x6,x7,x8,Y,J],some U]=some (.next,#[[x0,.v .feed,x2,.v X',.v Y',Z,.own [d0,.tup [.str "apart",R]],x7,x8,Y,J],some f5]):=by
 have l2:(2:Nat)<=sizeLine:=by decide
 exact cT (bW (D3 (w5 rfl e5) (D3 (G8 rfl (K4 rfl e6)) rfl)) l2) (by decide:6<11) rfl
def cV (p:D):List D:=[.tup [.str "meet",p],.tup [.str "apart",.tup []],.tup [.str "meet",.non]]
def bO:List D:=[.tup [.str "apart",.lst [.tup [.tup []]]],.non,.str "meet",.tup [.str "meet",.tup [.int 0,.int 0,.int 2]]]
def EU {a:DE}{s:DS}{x:D}(h1:a s=some (x,s1)):i7 (a7 a a8) s=some (.tup [x],s1):=by
 unfold i7;rw[D3 h1 rfl,xu];exact iR (e:=(none:Option (D × DS))) (show 1<=sizeLine by decide)
def MT {p:D}{W:vD_}{fs:vO_}(x0 x1 x2 U Z x7 Y x9 J:Sl) (h:W.length+3<=sizeLine) :
  E3 6 (Q8 P9 (dL 6) (l5 (n8 (a7 (i7 (a7 (dC (.str "meet")) (a7 (dV 5) a8))) (a7 (i7 (a7 (dC (.str "apart")) (a7 (i7 a8) a8))) (a7 (i7 (a7 (dC (.str "meet")) (a7 (dC .non) a8))) a8)))))) #[[x0,x1,x2,U,Z,.v p,.own W,x7,Y,x9,J],fs]=some (.next,#[[x0,x1,x2,U,Z,.v p,.own (W++cV p),x7,Y,x9,J],fs]):=by
 have l3:(3:Nat)<=sizeLine:=by decide
 have t0:∀s:DS,i7 a8 s=some (.tup [],s):=fun s=>rfl
 have q:l5 (n8 (a7 (i7 (a7 (dC (.str "meet")) (a7 (dV 5) a8))) (a7 (i7 (a7 (dC (.str "apart")) (a7 (i7 a8) a8))) (a7 (i7 (a7 (dC (.str "meet")) (a7 (dC .non) a8))) a8)))) #[[x0,x1,x2,U,Z,.v p,.own W,x7,Y,x9,J],fs]=some (.lst (cV p),#[[x0,x1,x2,U,Z,.v p,.own W,x7,Y,x9,J],fs]):=kU (bW (D3 (G8 rfl rfl) (D3 (G8 rfl (t0 _)) (D3 (G8 rfl rfl) rfl))) l3);have hv:P9 (.lst W) (.lst (cV p))=some (W++cV p):=pI h;generalize cV p=V at *;exact cT (jo rfl q hv) (by decide:6<11) rfl
def Nn {W:vD_}{fs:vO_}(x0 x1 x2 U Z x5 x7 Y x9 J:Sl) (h:W.length+4<=sizeLine) :
  E3 6 (Q8 P9 (dL 6) (l5 (n8 (a7 (i7 (a7 (dC (.str "apart")) (a7 (l5 (n8 (a7 (i7 (a7 (i7 a8) a8)) a8))) a8))) (a7 (dC .non) (a7 (dC (.str "meet")) (a7 (i7 (a7 (dC (.str "meet")) (a7 (i7 (a7 (Wk 0) (a7 (Wk 0) (a7 (Wk 2) a8)))) a8))) a8))))))) #[[x0,x1,x2,U,Z,x5,.own W,x7,Y,x9,J],fs]=some (.next,#[[x0,x1,x2,U,Z,x5,.own (W++bO),x7,Y,x9,J],fs]):=by
 have l4:(4:Nat)<=sizeLine:=by decide
 have l1:(1:Nat)<=sizeLine:=by decide
 have t0:∀s:DS,i7 a8 s=some (.tup [],s):=fun s=>rfl
 have q:l5 (n8 (a7 (i7 (a7 (dC (.str "apart")) (a7 (l5 (n8 (a7 (i7 (a7 (i7 a8) a8)) a8))) a8))) (a7 (dC .non) (a7 (dC (.str "meet")) (a7 (i7 (a7 (dC (.str "meet")) (a7 (i7 (a7 (Wk 0) (a7 (Wk 0) (a7 (Wk 2) a8)))) a8))) a8))))) #[[x0,x1,x2,U,Z,x5,.own W,x7,Y,x9,J],fs]=some (.lst bO,#[[x0,x1,x2,U,Z,x5,.own W,x7,Y,x9,J],fs]):=kU (bW (D3 (G8 rfl (kU (bW (D3 (EU (t0 _)) rfl) l1))) (D3 rfl (D3 rfl (D3 (G8 rfl (mO rfl rfl rfl)) rfl)))) l4);have hv:P9 (.lst W) (.lst bO)=some (W++bO):=pI h;generalize bO=V at *;exact cT (jo rfl q hv) (by decide:6<11) rfl
def JF {X Y X' Y' p d0 R:D}{f f1 f2 f3 f4 f5:FS}{r1 r2:Int}(x0 x2 x3 x4 x5 x6 x7 Z U J:Sl) (e1:m8 [.feed] (some f)=some (.tup [X,Y],some f1)) (e2:m7 [.feed,X] (some f1)=some (p,some f2)) (e3:m6 [.feed,.int 12] (some f2)=some (.int r1,some f3)) (e4:m6 [.feed,.int 8] (some f3)=some (.int r2,some f4))
  (hY:Y'=if r1=0 then .tup [] else Y) (hX:X'=if r2=0 then .tup [] else X) (e5:m5 [X',Y'] (some f4)=some (d0,some f4)) (e6:m4 [.feed,X',Y'] (some f4)=some (R,some f5)) :
  jN m1 m2 m3 m4 m5 m6 m7 m8 m9 #[[x0,.v .feed,x2,x3,x4,x5,x6,x7,Z,U,J],some f]=d6 (Y0 (a7 (Wk 3) a8) (f9 7) (gX m1 m2 m3 m4 m5 m6 m7 m8 m9)) (M1 (dV 6) (f9 9) (fj m1 m2 m3 m4 m5 m6 m7 m8 m9)) #[[x0,.v .feed,x2,.v X',.v Y',.v p,.own (([d0,.tup [.str "apart",R]]++cV p)++bO),x7,Z,U,J],some f5]:=by
 have z3:=(we (m6:=m6) (X:=X) (p:=p) (i:=4) x0 x2 (.v X) (.v Y) (.v p) x6 x7 Z U J e3)
 have z4:=(we (m6:=m6) (X:=X) (p:=p) (i:=3) x0 x2 (.v X) (.v Y') (.v p) x6 x7 Z U J e4)
 have q3:(if r1=0 then (#[[x0,.v .feed,x2,.v X,.v Y,.v p,x6,x7,Z,U,J].set 4 (.v (.tup [])),some f3]:DS) else #[[x0,.v .feed,x2,.v X,.v Y,.v p,x6,x7,Z,U,J],some f3])=#[[x0,.v .feed,x2,.v X,.v Y',.v p,x6,x7,Z,U,J],some f3]:=by
  rw[hY];by_cases h:r1=0
  .rw[iR h,iR h];rfl
  .rw[iU h,iU h]
 have q4:(if r2=0 then (#[[x0,.v .feed,x2,.v X,.v Y',.v p,x6,x7,Z,U,J].set 3 (.v (.tup [])),some f4]:DS) else #[[x0,.v .feed,x2,.v X,.v Y',.v p,x6,x7,Z,U,J],some f4])=#[[x0,.v .feed,x2,.v X',.v Y',.v p,x6,x7,Z,U,J],some f4]:=by
  rw[hX];by_cases h:r2=0
  .rw[iR h,iR h];rfl
  .rw[iU h,iU h]
 rw[q3] at z3;rw[q4] at z4;unfold jN;generalize d6 (Y0 (a7 (Wk 3) a8) (f9 7) (gX m1 m2 m3 m4 m5 m6 m7 m8 m9)) (M1 (dV 6) (f9 9) (fj m1 m2 m3 m4 m5 m6 m7 m8 m9))=B;refine t7 (s1:=#[[x0,.v .feed,x2,.v X,.v Y,x5,x6,x7,Z,U,J],some f1]) (C0 (K4 rfl e1) rfl) ?_;refine t7 (s1:=#[[x0,.v .feed,x2,.v X,.v Y,.v p,x6,x7,Z,U,J],some f2]) (C0 (K4 rfl e2) rfl) ?_;refine t7 z3 (t7 z4 (t7 (HA x0 x2 (.v p) x6 x7 Z U J e5 e6) ?_));exact t7 (MT x0 (.v .feed) x2 (.v X') (.v Y') x7 Z U J (show 2+3<=sizeLine by decide)) (t7 (Nn x0 (.v .feed) x2 (.v X') (.v Y') (.v p) x7 Z U J (show 5+4<=sizeLine by decide)) rfl)
end
def Pw (h:Ps 131 p):∀d∈cV (pt p),dS d:=fun d J=>by
 simp only[cV,xo,Qj,Qk] at J;rcases J with rfl | rfl | rfl
 .exact(rF h).g
 .exact#[by simp only[Th,Ths,Sg,Sh,jg],by decide +kernel]
 .exact#[by simp only[Th,Ths,Sg,Sh,gh],by decide +kernel]
def Mx:∀d∈bO,dS d:=fun d J=>by
 have i:∀z:Int,z.natAbs<8->Bd 133 z:=fun z h=>(show Bd 3 z from nK h).mono #[]
 have U:=i 0 #[];have i2:=i 2 #[];simp only[bO,xo,Qj,Qk] at J;rcases J with rfl | rfl | rfl | rfl
 all_goals exact#[by simp only[Th,Ths,Sg,Sh,U,i2,jg,gh],by decide +kernel]
abbrev xE:DM:=gX cM aR (Q7 64) dj au B8 cL cR aW
abbrev AA:DM:=fj cM aR (Q7 64) dj au B8 cL cR aW
abbrev yy:DM:=jN cM aR (Q7 64) dj au B8 cL cR aW
def vC {a b c:D}{V:vD_}{r:D}(h:[a,b,c][i]? = some r):d7 (.lst (a::b::c::V)) 'u'=some r:=by
 refine(B7 _ _).trans (nM ?_)
 match i,h with
 |0,h=>exact h
 |1,h=>exact h
 |2,h=>exact h
def Nc {a b c:D}{V:vD_}(ha:H31 a) (hb:H31 b) (hc:H31 c) (hV:∀d∈V,dS d) (lV:V.length<=6) {f:FS}(h:Fd4 n f) (hn:n<2 ^ 25) (Y x2 Z x4 x5 x7 x8 U J:Sl) :
  ∃W y7 y8 f',Y0 (a7 (Wk 3) a8) (f9 7) xE #[[Y,.v .feed,x2,Z,x4,x5,.own (a::b::c::V),x7,x8,U,J],some f]=some (.next,#[[Y,.v .feed,x2,Z,x4,x5,.own W,y7,y8,U,J],some f'])/\(∀d∈W,dS d)/\W.length<=18/\Fd4 (n+300) f':=by
 refine gB_ fun G_ g_=>?_
 obtain⟨s',e,V',y7,y8,f',rfl,hV',lV',hf'⟩:=gN (t:=f9 7) (b:=xE) (fun i s=>∃V y7 y8 f,s=#[[Y,.v .feed,x2,Z,x4,x5,.own (a::b::c::V),y7,y8,U,J],some f]/\(∀d∈V,dS d)/\V.length<=6+3*i/\Fd4 (n+100*i) f) (B3 0 3) 0
  #[[Y,.v .feed,x2,Z,x4,x5,.own (a::b::c::V),x7,x8,U,J],some f] #[V,x7,x8,f,rfl,hV,lV,h] (by
   rintro i d s hd ⟨V,y7,y8,f,rfl,hV,lV,hf⟩;obtain⟨rfl,hi⟩:=dH hd;rw[Ry] at *;obtain⟨r,hr,gr⟩:∃r,[a,b,c][i]? = some r/\H31 r:=by
    match i,hi with
    |0,_=>exact#[a,rfl,ha]
    |1,_=>exact#[b,rfl,hb]
    |2,_=>exact#[c,rfl,hc]
   obtain⟨d1,f1,e1,t1,b1,g1⟩:=lh 64 r #[] #[] gr.1 #[] #[] (by have:=gr.2;omega) hf ∅;obtain⟨d2,f2,e2,t2,b2,g2⟩:=lh 64 d1 #[] #[] t1 #[] #[] (by have:=gr.2;omega) g1 ∅;obtain⟨d3,f3,e3,t3,b3,g3⟩:=lh 64 b #[] #[] hb.1 #[] #[] (by have:=hb.2;omega) g2 ∅;have q1:d7 (.lst (a::b::c::V)) (.int 1)=some b:=vC (i:=1) rfl;have lz:(a::b::c::V).length+3<=sizeLine:=by rw[QR];simp only[PX];omega
   have q0:d7 (.lst (a::b::c::V)) (.int (0+(i:Int)))=some r:=by rw[TB];exact vC hr
   have s2:=gr.2;have s3:=hb.2;refine#[#[[Y,.v .feed,x2,Z,x4,x5,.own (a::b::c::V),.v (.int (0+(i:Int))),y8,U,J],some f],_,rfl,.inl (GR Y x2 Z x4 x5 y8 U J q0 q1 e1 e2 e3 lz),V++[d1,d2,d3],_,_,f3,rfl,?_,?_,g3.mono ∅]
   .intro d hd;rcases PQ.mp hd with q | q
    .exact hV d q
    .simp only[xo,Qj,Qk] at q;rcases q with rfl | rfl | rfl
     .exact#[Th.mono #[] _ #[] t1,by omega]
     .exact#[Th.mono #[] _ #[] t2,by omega]
     .exact#[Th.mono #[] _ #[] t3,by omega]
   .rw[Qo];simp only[PX,RN];omega)
 rw[Ry,Y5] at lV' hf';have rg:T8 [.int 3]=some (B3 0 3):=bR (n:=3) #[];apply g_;refine#[a::b::c::V',y7,y8,f',by rw[gs (xs:=[.int 3]) rfl rg];exact e,?_,?_,hf'.mono ∅]
 .intro d hd;simp only[xo] at hd;rcases hd with rfl | rfl | rfl | q
  .exact ha.g
  .exact hb.g
  .exact hc.g
  .exact hV' d q
 .simp only[PX];omega
def Oa (hS:∀A∈Ss,ShC A) (hO:∀B∈Os,ShC B) (lS:Ss.length<=2) (lO:Os.length<=2) {W:vD_}(hW:∀d∈W,dS d) (fs:vO_) (Y x1 x2 Z x7 J x9 U:Sl) :
  ∃y9 y10,M1 (dV 6) (f9 9) AA #[[Y,x1,x2,.v 'c',.v 'b',Z,.own W,x7,J,x9,U],fs]=some (.next,#[[Y,x1,x2,.v 'c',.v 'b',Z,.v (.lst W),x7,J,y9,y10],fs]):=by
 rw[mY (s1:=#[[Y,x1,x2,.v 'c',.v 'b',Z,.v (.lst W),x7,J,x9,U],fs]) (ds:=W) rfl];obtain⟨s',e,y9,y10,rfl⟩:=gN (t:=f9 9) (b:=AA) (fun _ s=>∃y9 y10,s=#[[Y,x1,x2,.v 'c',.v 'b',Z,.v (.lst W),x7,J,y9,y10],fs]) W 0
  #[[Y,x1,x2,.v 'c',.v 'b',Z,.v (.lst W),x7,J,x9,U],fs] #[_,_,rfl] (by
   rintro i d s hd ⟨y9,y10,rfl⟩;have g:=hW d (Rr hd);obtain⟨z,e⟩:=OA (m3:=Q7 64) (m4:=dj) (m5:=au) (m6:=B8) (m7:=cL) (m8:=cR) (m9:=aW) hS hO lS lO g.1 #[] #[] #[] #[] g.2 fs Y x1 x2 Z (.v (.lst W)) x7 J y10;exact#[#[[Y,x1,x2,.v 'c',.v 'b',Z,.v (.lst W),x7,J,.v d,y10],fs],_,rfl,.inl e,_,_,rfl])
 exact#[_,_,e]
def BX {r:Int}:D.tup ((if r=0 then [] else Ss:List (List Pt)).map c7)=if r=0 then .tup [] else .tup (Ss.map c7):=by
 by_cases h:r=0
 .rw[iR h,iR h];rfl
 .rw[iU h,iU h]
def AK {r:Int}(h:∀A∈Ss,ShC A) (l:Ss.length<=2):(∀A∈(if r=0 then [] else Ss:List (List Pt)),ShC A)/\(if r=0 then [] else Ss:List (List Pt)).length<=2:=by
 by_cases c:r=0
 .rw[iR c];exact#[fun A hA=>(Qj hA).elim,by decide]
 .rw[iU c];exact#[h,l]
def Je {f:FS}(h:Fd4 n f) (hn:n<2 ^ 24) (U x2 x3 x4 x5 x6 x7 x8 Y J:Sl) :
  ∃y3 y4 y5 y6 y7 y8 y9 y10 f',yy #[[U,.v .feed,x2,x3,x4,x5,x6,x7,x8,Y,J],some f]=some (.next,#[[U,.v .feed,x2,y3,y4,y5,y6,y7,y8,y9,y10],some f'])/\Fd4 (n+400) f':=by
 refine gB_ fun G_ g_=>?_
 obtain⟨Ss,Os,f1,e1,hS,hO,h1⟩:=KL h ∅;obtain⟨p,f2,e2,hp,h2⟩:=Nk h1 ∅ hS;obtain⟨r1,f3,e3,_,_,h3⟩:=K9 12 h2;obtain⟨r2,f4,e4,_,_,h4⟩:=K9 8 h3;obtain⟨iO,Z⟩:=AK (r:=r1) hO.sh hO.hi;obtain⟨iS,lS⟩:=AK (r:=r2) hS.sh hS.hi;have tO:=BX (r:=r1) (Ss:=Os);have tS:=BX (r:=r2) (Ss:=Ss);apply g_;generalize (if r1=0 then [] else Os:List (List Pt))=Os' at *;generalize (if r2=0 then [] else Ss:List (List Pt))=Ss' at *;obtain⟨d0,e5,g0⟩:=Ea iS iO lS Z (some f4);obtain⟨R,f5,e6,hR,lR,h5⟩:=Pg h4 ∅ iS iO lS Z;have gR:=yP Z ∅ hR;have gp:Ps 131 p:=hp.mono #[];obtain⟨W,y7,y8,f6,e7,gW,_,h6⟩:=Nc (V:=[.tup [.str "apart",.tup []],.tup [.str "meet",.non]]++bO) g0 gR (rF gp) (fun d hd=>by
  rcases PQ.mp hd with q | q
  .exact Pw gp d (Pz _ q)
  .exact Mx d q) #[] h5 ∅ U x2 (.v (.tup (Ss'.map c7))) (.v (.tup (Os'.map c7))) (.v (pt p)) x7 x8 Y J
 obtain⟨y9,y10,e8⟩:=Oa iS iO lS Z gW (some f6) U (.v .feed) x2 (.v (pt p)) y7 y8 Y J;refine#[_,_,_,_,_,_,_,_,f6,(JF U x2 x3 x4 x5 x6 x7 x8 Y J e1 e2 e3 e4 tO tS e5 e6).trans (t7 e7 e8),h6.mono ∅]
def math (ns:List Int) (hl:ns.length<=63):∃fs',qt cM aR (Q7 64) dj au B8 cL cR aW [.scr ns] none=some (.bl true,fs'):=by
 refine gB_ fun G_ g_=>?_
 obtain⟨s',e,x2,Y,x4,Z,U,x7,x8,x9,J,f',rfl,hf⟩:=gN (t:=f9 2) (b:=yy) (fun i s=>∃x2 Y x4 Z U x7 x8 x9 J f,s=#[[.v (.scr ns),.v .feed,x2,Y,x4,Z,U,x7,x8,x9,J],some f]/\Fd4 (400*i) f) (B3 0 3) 0
  #[[.v (.scr ns),.v .feed,.no,.no,.no,.no,.no,.no,.no,.no,.no],some #[U0 ns,0,0,0,2]] #[_,_,_,_,_,_,_,_,_,_,rfl,Fd4.zero ns] (by
   rintro i d s hd ⟨x2,Y,x4,Z,U,x7,x8,x9,J,f,rfl,hf⟩;obtain⟨rfl,hi⟩:=dH hd;obtain⟨y3,y4,y5,y6,y7,y8,y9,y10,f',e,h'⟩:=Je hf ∅ (.v (.scr ns)) (.v (.int (0+(i:Int)))) Y x4 Z U x7 x8 x9 J;exact#[#[[.v (.scr ns),.v .feed,.v (.int (0+(i:Int))),Y,x4,Z,U,x7,x8,x9,J],some f],_,rfl,.inl e,_,_,_,_,_,_,_,_,_,f',rfl,h'.mono ∅])
 have r3:T8 [.int 3]=some (B3 0 3):=bR (n:=3) #[];apply g_;refine#[some f',v5 (s:=#[[.v (.scr ns),.v .feed,x2,Y,x4,Z,U,x7,x8,x9,J],some f']) ?_];show ly cM aR (Q7 64) dj au B8 cL cR aW #[[.v (.scr ns),.no,.no,.no,.no,.no,.no,.no,.no,.no,.no],none]=_;unfold ly;refine t7 (s1:=#[[.v (.scr ns),.v .feed,.no,.no,.no,.no,.no,.no,.no,.no,.no],some #[U0 ns,0,0,0,2]]) (C0 (iy (s1:=#[[.v (.scr ns),.no,.no,.no,.no,.no,.no,.no,.no,.no,.no],none]) rfl (Kl ns hl)) rfl) ?_;exact t7 (s1:=#[[.v (.scr ns),.v .feed,x2,Y,x4,Z,U,x7,x8,x9,J],some f']) (by rw[gs (xs:=[.int 3]) rfl r3];exact e) rfl
end T
namespace T
open PySem PySem.Spec L2 DL
local macro_rules | `(tactic| wtm_at "c")=>`(tactic| first | with_reducible exact mJ | with_reducible exact qA | with_reducible exact NP | with_reducible exact yq | with_reducible exact Fn | with_reducible exact HB | (with_reducible apply LP);exact dq (by assumption) | (with_reducible apply zY);exact dq (by assumption) | (with_reducible apply qj);exact dq (by assumption) | (with_reducible apply Eu);exact dq (by assumption))
local macro_rules | `(tactic| wtm_at "o")=>`(tactic| first | with_reducible exact NX | with_reducible exact IM | with_reducible exact NY | with_reducible exact OU | with_reducible exact IL | with_reducible exact Dg | with_reducible exact lM)
local macro_rules | `(tactic| wtm_at "q")=>`(tactic| first | with_reducible exact Nj | with_reducible exact FV | with_reducible exact EY | with_reducible exact Kn | with_reducible exact Jz | with_reducible exact NH | with_reducible exact zL)
local macro_rules | `(tactic| wtm_at "r")=>`(tactic| first | with_reducible exact ft _ | with_reducible exact Na | with_reducible exact Bx | with_reducible exact NF | with_reducible exact Gx | with_reducible exact rn | with_reducible exact Eg)
local macro_rules | `(tactic| wtm_at "k")=>`(tactic| first | with_reducible exact MG | with_reducible exact Jr | with_reducible exact CK | with_reducible exact ze | with_reducible exact(vA rfl) | with_reducible exact(wR rfl) | with_reducible exact(sD rfl) | (focus (with_reducible apply Mn);exact Gd (by assumption);exact(by assumption:Room _ _).gd))
local macro_rules | `(tactic| wtm_at "m")=>`(tactic| first | with_reducible exact Hh | with_reducible exact Mo | with_reducible exact Ly | with_reducible exact zG | with_reducible exact Cm | with_reducible exact uA | with_reducible exact wZ | with_reducible exact Ko)
local macro_rules | `(tactic| wtm_at "b")=>`(tactic| first | exact Blt.abs (by assumption) | exact Blt.all (by assumption) | exact Blt.bool (by assumption) | exact Blt.enumerate (by assumption) | exact Blt.int (by assumption) | exact Blt.isinstance (by assumption) | exact Blt.len (by assumption) | exact Blt.list (by assumption) | exact Blt.max (by assumption) | exact Blt.min (by assumption) | exact Blt.range (by assumption) | exact Blt.repr (by assumption) | exact Blt.str (by assumption) | exact Blt.tuple (by assumption) | exact Blt.zip (by assumption))
local macro_rules | `(tactic| wtm_at "t")=>`(tactic| first | exact Fu | exact Ax | exact iC | exact fL | exact Ov | exact kE | exact Ao | exact tf | exact Hk | exact pb | exact U2)
local macro_rules | `(tactic| wtm_at "n")=>`(tactic| first | exact cj | (refine O9 ?_);wtm_at "n")
local macro_rules | `(tactic| wtm_at "l")=>`(tactic| first | exact Or.inl rfl | exact Or.inr rfl)
local macro_rules | `(tactic| wtm_at "x")=>`(tactic| first | exact rfl | exact Or.inl rfl | exact Or.inr rfl | decide | (intro _;rfl))
local macro_rules | `(tactic| wtm_at "S")=>`(tactic| first | (focus (with_reducible apply K2);all_goals wtm_at "x") | (focus (with_reducible apply D5);wtm_at "s";all_goals wtm_at "x") | (focus (with_reducible apply B0);wtm_at "s";wtm_at "S";all_goals wtm_at "x"))
local macro_rules | `(tactic| wtm_at "s")=>`(tactic| first | (focus (with_reducible apply rb);assumption;exact rfl;wtm_at "l";wtm_at "E";all_goals wtm_at "x") | (focus (with_reducible apply M4);wtm_at "E";all_goals wtm_at "x") | (focus (with_reducible apply L6);wtm_at "T";wtm_at "S";wtm_at "S";all_goals wtm_at "x") | (focus (with_reducible apply Gk);wtm_at "E";wtm_at "G";all_goals wtm_at "x") | (focus (with_reducible apply Mm);exact pv _;wtm_at "E";all_goals wtm_at "x") | (focus (with_reducible apply jF);assumption;exact rfl;wtm_at "l";wtm_at "F";all_goals wtm_at "x") | (focus (with_reducible apply rR);exact Si;exact rfl;wtm_at "E";wtm_at "G";wtm_at "S";all_goals wtm_at "x") | (focus (with_reducible apply NZ);exact Si;wtm_at "T";wtm_at "S";all_goals wtm_at "x") | (focus (with_reducible apply oX);exact Si;exact rfl;exact rfl;exact Blt.range (by assumption);wtm_at "E";wtm_at "G";wtm_at "S";all_goals wtm_at "x") | (focus (with_reducible apply EM);exact pv _;wtm_at "E";all_goals wtm_at "x") | (focus (with_reducible apply Hz);exact rfl;assumption;exact rfl;exact rfl;decide;exact rfl;exact rfl;wtm_at "A";exact rfl;all_goals wtm_at "x"))
local macro_rules | `(tactic| wtm_at "B")=>`(tactic| first | (focus (with_reducible apply P8);exact pv _;all_goals wtm_at "x") | (focus (with_reducible apply EO.b);wtm_at "E";all_goals wtm_at "x"))
local macro_rules | `(tactic| wtm_at "E")=>`(tactic| first | (focus (with_reducible apply S6);exact pv _;all_goals wtm_at "x") | (focus (with_reducible apply iD);all_goals wtm_at "x") | (focus (with_reducible apply Lp);exact IU;exact KC;wtm_at "B";wtm_at "B";exact fun _ _=>rfl;all_goals wtm_at "x") | (focus (with_reducible apply Jp);rotate_left;wtm_at "q";rotate_right;wtm_at "o";wtm_at "B";wtm_at "B";all_goals wtm_at "x") | (focus (with_reducible apply Om);assumption;assumption;(first | decide | exact tx _ | exact PJ (by decide) (Nat.le_add_right _ _));exact rfl;wtm_at "A";wtm_at "n";all_goals wtm_at "x") | (focus (with_reducible apply zH);wtm_at "A";all_goals wtm_at "x") | (focus (with_reducible apply Iw);decide +kernel;all_goals wtm_at "x") | (focus (with_reducible apply FC);all_goals wtm_at "x") | (focus (with_reducible apply T9);all_goals wtm_at "x") | (focus (with_reducible apply JS);exact Fw;exact Ma;wtm_at "B";all_goals wtm_at "x") | (focus (with_reducible apply FO.v);wtm_at "F";all_goals wtm_at "x") | (focus (with_reducible apply jT);rotate_left;wtm_at "r";rotate_right;wtm_at "c";wtm_at "B";wtm_at "B";(first | exact eH _ | exact rfl);all_goals wtm_at "x") | (focus (with_reducible apply EA);wtm_at "T";wtm_at "E";wtm_at "E";all_goals wtm_at "x") | (focus (with_reducible apply Dr);wtm_at "B";wtm_at "O";wtm_at "O";all_goals wtm_at "x") | (focus (with_reducible apply rC);wtm_at "E";all_goals wtm_at "x") | (focus (with_reducible apply jV);rotate_left;wtm_at "m";rotate_right;wtm_at "k";exact rfl;wtm_at "b";wtm_at "t";wtm_at "a";all_goals wtm_at "x") | (focus (with_reducible apply ym);rotate_left;wtm_at "m";rotate_right;wtm_at "k";exact rfl;wtm_at "b";wtm_at "t";wtm_at "a";all_goals wtm_at "x") | (focus (with_reducible apply Lh);exact pv _;all_goals wtm_at "x") | (focus (with_reducible apply JP);wtm_at "B";wtm_at "B";all_goals wtm_at "x") | (focus (with_reducible apply iG);wtm_at "E";all_goals wtm_at "x") | (focus (with_reducible apply mr);wtm_at "E";wtm_at "E";all_goals wtm_at "x") | (focus (with_reducible apply xS);wtm_at "E";wtm_at "E";all_goals wtm_at "x"))
local macro_rules | `(tactic| wtm_at "A")=>`(tactic| first | (focus (with_reducible apply ac);wtm_at "E";wtm_at "A";all_goals wtm_at "x") | (focus (with_reducible apply mR);all_goals wtm_at "x"))
local macro_rules | `(tactic| wtm_at "a")=>`(tactic| first | (focus (with_reducible apply bc);wtm_at "B";wtm_at "a";all_goals wtm_at "x") | (focus (with_reducible apply jh);all_goals wtm_at "x"))
local macro_rules | `(tactic| wtm_at "T")=>`(tactic| first | (focus (with_reducible apply qJ);rotate_left;wtm_at "r";rotate_right;wtm_at "c";wtm_at "B";wtm_at "B";(first | exact eH _ | exact rfl);all_goals wtm_at "x") | (focus (with_reducible apply WO.t);wtm_at "W";all_goals wtm_at "x") | (focus (with_reducible apply Q6);wtm_at "T";all_goals wtm_at "x") | (focus (with_reducible apply N5);wtm_at "B";all_goals wtm_at "x"))
local macro_rules | `(tactic| wtm_at "W")=>`(tactic| first | (focus (with_reducible apply gu);wtm_at "T";wtm_at "W";all_goals wtm_at "x") | (focus (with_reducible apply KG);wtm_at "T";all_goals wtm_at "x") | (focus (with_reducible apply S3);wtm_at "T";wtm_at "W";all_goals wtm_at "x") | (focus (with_reducible apply gS);wtm_at "T";all_goals wtm_at "x"))
local macro_rules | `(tactic| wtm_at "O")=>`(tactic| first | (focus (with_reducible apply Ll);all_goals wtm_at "x") | (focus (with_reducible apply ET);wtm_at "B";all_goals wtm_at "x"))
local macro_rules | `(tactic| wtm_at "F")=>`(tactic| first | (focus (with_reducible apply tZ);wtm_at "A";all_goals wtm_at "x") | (focus (with_reducible apply Ac);rotate_left;wtm_at "q";rotate_right;wtm_at "o";wtm_at "B";wtm_at "B";all_goals wtm_at "x"))
local macro_rules | `(tactic| wtm_at "G")=>`(tactic| first | (focus (with_reducible apply LA);wtm_at "h";all_goals wtm_at "x") | (focus (with_reducible apply Gr);exact rfl;wtm_at "g";all_goals wtm_at "x"))
local macro_rules | `(tactic| wtm_at "h")=>`(tactic| first | (focus (with_reducible apply S7);assumption;exact rfl;wtm_at "l";all_goals wtm_at "x"))
local macro_rules | `(tactic| wtm_at "g")=>`(tactic| first | (focus (with_reducible apply Jg);wtm_at "G";wtm_at "g";all_goals wtm_at "x") | (focus (with_reducible apply LQ);all_goals wtm_at "x"))
local macro_rules | `(tactic| wtm_at "R")=>`(tactic| first | (refine D5 ?_;wtm_at "s") | (refine B0 ?_ ?_;wtm_at "s";wtm_at "S"))
local macro_rules | `(tactic| wtm_at "p")=>`(tactic| first | exact fun _ _ _ _ _ _=>EN fun _=>rfl | exact fun _ _ _ _ _ _=>on2 fun _ _=>rfl | exact fun _ _ _ _ _ _=>on3 fun _ _ _=>rfl | exact fun _ _ _ _ _ _=>Pj fun _ _ _ _=>rfl | exact fun _ _ _ _ _ _=>on5 fun _ _ _ _ _=>rfl | exact fun _ _ _ _ _ _=>on0 rfl)
local macro_rules | `(tactic| wtm_at "f")=>`(tactic| exact⟨rfl,rfl,rfl,by decide +kernel,rfl,by decide +kernel,by decide +kernel⟩)
local macro_rules | `(tactic| wtm_at "M")=>`(tactic| (intro nd _ _ _ _ _ _ _ hr;wtm_at "R"))
def top (i:Nat):Stmt:=PySem.Challenge.pw_widelines_k31_papers_of_two_judged.main.body.getD i (.Pass #[0,0,0,0])
section
variable (P:Program) (w:World) (K:vF_) (mg:vG_) (base:Heap)
abbrev uM:=Cal P w K mg base 1 "_law_tape" ["_law_script"]
abbrev aH:=Cal P w K mg base 1 "_law_draw" ["_law_tape_here", "_law_many"]
abbrev zP:=Cal P w K mg base 2 "_law_net" ["_law_tape_here"]
abbrev qG:=Cal P w K mg base 1 "_law_common" ["_law_one", "_law_other"]
abbrev qB:=Cal P w K mg base 2 "_law_place" ["_law_x", "_law_y", "_law_bottom"]
abbrev ub:=Cal P w K mg base 3 "_law_laid" ["_law_net_here", "_law_u", "_law_v"]
abbrev AS:=Cal P w K mg base 2 "_law_form" ["_law_tape_here"]
abbrev vV:=Cal P w K mg base 1 "_law_less" ["_law_one", "_law_other"]
abbrev Br:=Cal P w K mg base 2 "_law_begun" ["_law_corners"]
abbrev yg:=Cal P w K mg base 4 "_law_shapes" ["_law_tape_here", "_law_net_here", "_law_most", "_law_far"]
abbrev sr:=Cal P w K mg base 5 "_law_two" ["_law_tape_here"]
abbrev Bn:=Cal P w K mg base 3 "_law_midst" ["_law_one", "_law_other"]
abbrev wQ:=Cal P w K mg base 4 "_law_spot" ["_law_tape_here", "_law_shapes_here"]
abbrev wK:=Cal P w K mg base 1 "neighbours" ["row", "closed"]
abbrev jz:=Cal P w K mg base 2 "edges" ["corners"]
abbrev xB:=Cal P w K mg base 1 "sign" ["number"]
abbrev jM:=Cal P w K mg base 2 "turn" ["a", "b", "c"]
abbrev qQ:=Cal P w K mg base 3 "parts_off" ["shape", "number", "places"]
abbrev Ag:=Cal P w K mg base 4 "parting_edge" ["shape", "places"]
abbrev AW:=Cal P w K mg base 5 "parting_pair" ["shape", "other"]
abbrev pE:=Cal P w K mg base 1 "upright" ["one", "other"]
abbrev wG:=Cal P w K mg base 2 "straight" ["a", "b"]
abbrev sY:=Cal P w K mg base 1 "divisor_of_two" ["one", "other"]
abbrev rl:=Cal P w K mg base 2 "divisor" ["parts"]
abbrev vF:=Cal P w K mg base 3 "lowest" ["parts"]
abbrev Ce:=Cal P w K mg base 4 "crossing" ["line", "other"]
abbrev vm:=Cal P w K mg base 5 "clipped" ["corners", "a", "b"]
abbrev vK:=Cal P w K mg base 6 "common_place" ["shape", "other"]
abbrev uI:=Cal P w K mg base 7 "two_paper" ["shapes", "others"]
abbrev wj:=Cal P w K mg base 2 "_law_odd" ["_law_tape_here"]
abbrev qW:=Cal P w K mg base 1 "_law_edges" ["_law_ring"]
abbrev oj:=Cal P w K mg base 1 "_law_det" ["_law_a", "_law_b", "_law_c"]
abbrev qr:=Cal P w K mg base 2 "_law_parts_two" ["_law_one", "_law_other", "_law_thing"]
abbrev Bp:=Cal P w K mg base 3 "_law_rows" ["_law_tape_here", "_law_shapes_here", "_law_others"]
abbrev pS:=Cal P w K mg base 1 "is_whole" ["thing"]
abbrev ui:=Cal P w K mg base 2 "is_edge_number" ["shape", "thing"]
abbrev yr:=Cal P w K mg base 4 "is_parting" ["shape", "other", "thing"]
abbrev yO:=Cal P w K mg base 3 "is_lowest" ["thing", "size"]
abbrev vc:=Cal P w K mg base 4 "is_place" ["thing"]
abbrev wC:=Cal P w K mg base 5 "is_so_formed" ["thing"]
abbrev An:=Cal P w K mg base 3 "belongs" ["shape", "one"]
abbrev Ab:=Cal P w K mg base 4 "in_area" ["shapes", "one"]
abbrev xU:=Cal P w K mg base 7 "_law_told" ["_law_shapes_here", "_law_others", "_law_thing"]
abbrev uL:=Cal P w K mg base 2 "_law_is_place" ["_law_thing"]
abbrev vB:=Cal P w K mg base 2 "_law_in" ["_law_shape", "_law_p"]
abbrev yY:=Cal P w K mg base 3 "_law_area" ["_law_shapes_here", "_law_p"]
abbrev xA:=Cal P w K mg base 4 "_law_due" ["_law_shapes_here", "_law_others", "_law_thing"]
abbrev IH:=Cal P w K mg base 66 "_law_bent" ["_law_tape_here", "_law_thing"]
end
variable {f:Addr}
section
variable {P:Program}{w:World}{K:vF_}
def Dy (B:Blt mg) (F:GF K mg "_law_tape" (top 41) f fd):uM P w K mg base (aW):=
 B5 [] F (by wtm_at "p") (by wtm_at "f") fun U _ _ _ _ _ _ g J=>
 (D5 (M4 (FI (dq J) (pv 0) (pv 0) 'i' B.list kE 'i' B.int fL)))
def Ff (B:Blt mg) (F:GF K mg "_law_draw" (top 42) f fd):aH P w K mg base (BV):=
 B5 ["_law_digit", "_law_spot_here", "_law_cell", "_law_mixed"] F (by wtm_at "p") (by wtm_at "f") (by unfold cP;wtm_at "M")
def De (J:aH P w K mg base mo) (B:Blt mg) (F:GF K mg "_law_net" (top 50) f fd):zP P w K mg base (yH mo):=
 B5 ["_law_some", "_law_found", "_law_x", "_law_y"] F (by wtm_at "p") (by wtm_at "f") (by unfold mh;wtm_at "M")
def Du (B:Blt mg) (F:GF K mg "_law_common" (top 43) f fd):qG P w K mg base (gA):=
 B5 [] F (by wtm_at "p") (by wtm_at "f") (by unfold AJ;wtm_at "M")
def Ku (J:qG P w K mg base m04) (B:Blt mg) (F:GF K mg "_law_place" (top 44) f fd):qB P w K mg base (Ap m04):=
 B5 ["_law_by"] F (by wtm_at "p") (by wtm_at "f") (by unfold nJ;wtm_at "M")
def Hy (J:qB P w K mg base m07) (B:Blt mg) (F:GF K mg "_law_laid" (top 51) f fd):ub P w K mg base (vb m07):=
 B5 ["_law_x"] F (by wtm_at "p") (by wtm_at "f") (by unfold lW;wtm_at "M")
def EH (J:aH P w K mg base mo) (B:Blt mg) (F:GF K mg "_law_form" (top 49) f fd):AS P w K mg base (Aa mo):=
 B5 ["_law_w", "_law_h", "_law_some"] F (by wtm_at "p") (by wtm_at "f") (by unfold jE;wtm_at "M")
def Pp (B:Blt mg) (F:GF K mg "_law_less" (top 46) f fd):vV P w K mg base (eM):=
 B5 ["_law_first"] F (by wtm_at "p") (by wtm_at "f") (by unfold mW;wtm_at "M")
def Fz (J:vV P w K mg base m0r) (B:Blt mg) (F:GF K mg "_law_begun" (top 48) f fd):Br P w K mg base (Cf m0r):=
 B5 ["_law_at", "_law_k"] F (by wtm_at "p") (by wtm_at "f") (by unfold jX;wtm_at "M")
def LS (Cl:aH P w K mg base mo) (Y:Br P w K mg base m0s) (J:AS P w K mg base m0t) (U:ub P w K mg base m0u) (B:Blt mg) (F:GF K mg "_law_shapes" (top 52) f fd):yg P w K mg base (zM mo m0s m0t m0u):=
 B5 ["_law_found", "_law_k", "_law_x", "_law_y", "_law_corners"] F (by wtm_at "p") (by wtm_at "f") fun Z _ _ _ _ _ _ g hr=>
 (B0 (by wtm_at "s") (B0 (oX Si rfl 'i' B.range (by wtm_at "E") (by wtm_at "G") (B0 (by wtm_at "s") (B0 (zh (i:=8) Z rfl 'a' (Nu (caps:=["_law_net_here", "_law_x", "_law_y"]) (idx:=[1,6,7]) rfl (BB 'i' (.cons rfl (.cons rfl (.cons rfl .nil))) 'h' rfl 'h' 'i' (.cons rfl 'a' 'a' (.cons rfl 'a' 'a' (.cons rfl 'a' 'a' .nil)))) (dN (by wtm_at "E")) (show List.Nodup (["_law_u", "_law_v", "_law_net_here", "_law_x", "_law_y"]:List Str) by decide +kernel) (fun _ _ _ _=>rfl) (fun _ _ _ _=>rfl) (fun _ _ _ _ _=>aN) (fun _ _ _ _ _=>(by wtm_at "E")))) (by wtm_at "S")))) (by wtm_at "S")))
def Kp (U:yg P w K mg base m0x) (Y:aH P w K mg base mo) (J:zP P w K mg base m0F) (B:Blt mg) (F:GF K mg "_law_two" (top 59) f fd):sr P w K mg base (Cg m0x mo m0F):=
 B5 ["_law_net_here", "_law_shapes_here"] F (by wtm_at "p") (by wtm_at "f") (by unfold mT;wtm_at "M")
def OZ (J:qB P w K mg base m07) (B:Blt mg) (F:GF K mg "_law_midst" (top 53) f fd):Bn P w K mg base (Bc m07):=
 B5 ["_law_x"] F (by wtm_at "p") (by wtm_at "f") (by unfold lD;wtm_at "M")
def Gb (J:Bn P w K mg base m0I) (U:aH P w K mg base mo) (B:Blt mg) (F:GF K mg "_law_spot" (top 63) f fd):wQ P w K mg base (Bz m0I mo):=
 B5 ["_law_shape", "_law_one", "_law_other"] F (by wtm_at "p") (by wtm_at "f") (by unfold nC;wtm_at "M")
def Ng (B:Blt mg) (F:GF K mg "neighbours" (top 19) f fd):wK P w K mg base (kf):=
 B5 [] F (by wtm_at "p") (by wtm_at "f") fun J _ _ _ _ _ _ g U=>
 (B0 (L6 (by wtm_at "T") (D5 (M4 (FO.v (Bb rfl 'i' B.list 'i' B.zip (by wtm_at "a"))))) K2) (D5 (M4 (FO.v (Bb rfl 'i' B.list 'i' B.zip (by wtm_at "a"))))))
def Dk (J:wK P w K mg base m0D) (B:Blt mg) (F:GF K mg "edges" (top 20) f fd):jz P w K mg base (tU m0D):=
 B5 [] F (by wtm_at "p") (by wtm_at "f") (by unfold uO;wtm_at "M")
def HZ (B:Blt mg) (F:GF K mg "sign" (top 16) f fd):xB P w K mg base (ko):=
 B5 [] F (by wtm_at "p") (by wtm_at "f") (by unfold gQ;wtm_at "M")
def Kf (J:xB P w K mg base m0C) (B:Blt mg) (F:GF K mg "turn" (top 17) f fd):jM P w K mg base (sJ m0C):=
 B5 ["spread"] F (by wtm_at "p") (by wtm_at "f") (by unfold mN;wtm_at "M")
def OD {J:c8}(Y:jM P w K mg base m00) (U:jz P w K mg base J) (B:Blt mg) (F:GF K mg "parts_off" (top 29) f fd):qQ P w K mg base (tQ m00 J):=
 B5 ["edge", "one"] F (by wtm_at "p") (by wtm_at "f") (by unfold ki;wtm_at "M")
def DH (J:qQ P w K mg base m03) (B:Blt mg) (F:GF K mg "parting_edge" (top 30) f fd):Ag P w K mg base (Bf m03):=
 B5 ["number"] F (by wtm_at "p") (by wtm_at "f") (by unfold jS;wtm_at "M")
def GC (J:Ag P w K mg base m0y) (B:Blt mg) (F:GF K mg "parting_pair" (top 38) f fd):AW P w K mg base (uk m0y):=
 B5 ["number"] F (by wtm_at "p") (by wtm_at "f") (by unfold dk;wtm_at "M")
def HQ (B:Blt mg) (F:GF K mg "upright" (top 21) f fd):pE P w K mg base (kN):=
 B5 [] F (by wtm_at "p") (by wtm_at "f") (by unfold uu;wtm_at "M")
def Dj (J:pE P w K mg base m08) (B:Blt mg) (F:GF K mg "straight" (top 22) f fd):wG P w K mg base (uZ m08):=
 B5 [] F (by wtm_at "p") (by wtm_at "f") (by unfold Ai;wtm_at "M")
def Fm (B:Blt mg) (F:GF K mg "divisor_of_two" (top 10) f fd):sY P w K mg base (T3):=
 B5 ["greater", "rest", "left_over"] F (by wtm_at "p") (by wtm_at "f") (by unfold lL;wtm_at "M")
def II (J:sY P w K mg base m0n) (B:Blt mg) (F:GF K mg "divisor" (top 11) f fd):rl P w K mg base (bJ m0n):=
 B5 ["shared", "part"] F (by wtm_at "p") (by wtm_at "f") (by unfold jD;wtm_at "M")
def CH (J:rl P w K mg base m05) (B:Blt mg) (F:GF K mg "lowest" (top 13) f fd):vF P w K mg base (yW m05):=
 B5 ["shared"] F (by wtm_at "p") (by wtm_at "f") fun U _ _ _ _ _ _ g Y=>
 (B0 (by wtm_at "s") (B0 (by wtm_at "s") (D5 (M4 (ym ze zG 'i' B.tuple U2 (bc (EO.b (FO.v (bZ (N':=["part", "shared"]) (idx:=[1]) rfl (aK 'i' (.cons rfl .nil) 'h' rfl 'h' 'i' (.cons rfl 'a' 'a' .nil)) (dN (S6 (pv 0))) (fun _ _ _ _=>S7 (i:=0) (show List.Nodup (["part", "shared"]:List Str) by decide +kernel) rfl (Or.inl rfl)) (fun _ _ _ _ _=>aN) (fun _ _ _ _ _=>(by wtm_at "E"))))) jh))))))
def Of (U:vF P w K mg base m0E) (J:pE P w K mg base m08) (B:Blt mg) (F:GF K mg "crossing" (top 23) f fd):Ce P w K mg base (sR m0E m08):=
 B5 [] F (by wtm_at "p") (by wtm_at "f") (by unfold zu;wtm_at "M")
def IS {J:c8}(Y:jM P w K mg base m00) (C0s:Ce P w K mg base m0q) (U:wG P w K mg base m0l) (Z:jz P w K mg base J) (B:Blt mg) (F:GF K mg "clipped" (top 25) f fd):vm P w K mg base (yw m00 m0q m0l J):=
 B5 ["line", "kept", "one", "other", "here"] F (by wtm_at "p") (by wtm_at "f") (by unfold nD;wtm_at "M")
def Fj {J:c8}(U:vm P w K mg base m0v) (Z:jz P w K mg base J) (B:Blt mg) (F:GF K mg "common_place" (top 39) f fd):vK P w K mg base (uX m0v J):=
 B5 ["kept", "a", "b"] F (by wtm_at "p") (by wtm_at "f") fun Y _ _ _ _ _ _ g hr=>
 (B0 (jF (i:=2) Y rfl 'a' (Ay rX xn 'i' B.list kE (by wtm_at "a"))) (by wtm_at "S"))
def Ep (J:vK P w K mg base m0i) (U:AW P w K mg base m0j) (B:Blt mg) (F:GF K mg "two_paper" (top 37) f fd):uI P w K mg base (sW m0i m0j):=
 B5 ["rows", "shape", "row", "other", "pair"] F (by wtm_at "p") (by wtm_at "f") (by unfold fH;wtm_at "M")
def Ki (J:aH P w K mg base mo) (B:Blt mg) (F:GF K mg "_law_odd" (top 56) f fd):wj P w K mg base (xw mo):=
 B5 ["_law_some"] F (by wtm_at "p") (by wtm_at "f") (by unfold kn;wtm_at "M")
def u8:FnScope ["_law_tape_here", "_law_thing", "_law_at", "_law_kind", "_law_some"] ["_law_tape_here", "_law_thing"] (D4 (top 57)):=by wtm_at "f"
theorem tG (J:wj P w K mg base m0o) (Y:aH P w K mg base mo) (B:Blt mg) (F:GF K mg "_law_bent" (top 57) f fd):∀n:Nat,Cal P w K mg base (2+n) "_law_bent" ["_law_tape_here", "_law_thing"] (qN m0o mo n)
 |0=>#[f,fd,KS,F.m,F.F.kp,F.F.binds (fun _ _ _ _ _ _=>on2 fun _ _=>rfl)]
 |n+1=>
  have U:=tG J Y B F n
  vH F (fun _ _ _ _ _ _=>on2 fun _ _=>rfl) u8 fun cdv A outer s H E g Z=>
  have nd:=u8.nd
  (B0 (L6 (WO.t (gu (N5 (EO.b (N4 W8 'i' B.isinstance 'i' B.tuple U2 (P8 (pv 1))))) (by wtm_at "W"))) (by wtm_at "S") K2) (B0 (by wtm_at "s") (B0 (L6 (WO.t (gu (N5 (EO.b (N4 W8 'i' B.isinstance 'i' B.tuple U2 (P8 (pv 1))))) (by wtm_at "W"))) (B0 (by wtm_at "s") (B0 (jF (i:=4) nd rfl 'a' (tZ (ac (FO.v (Ay rX xn 'i' B.list kE (by wtm_at "a"))) (by wtm_at "A")))) (by wtm_at "S"))) K2) (B0 (L6 (WO.t (gu (N5 (EO.b (N4 lJ 'i' B.isinstance 'i' B.int fL (P8 (pv 1))))) (gu (Q6 (N5 (EO.b (N4 kv 'i' B.isinstance 'i' B.bool iC (P8 (pv 1)))))) (by wtm_at "W")))) (by wtm_at "S") K2) (by wtm_at "S")))))
def LG (B:Blt mg) (F:GF K mg "_law_edges" (top 47) f fd):qW P w K mg base (V7):=
 B5 [] F (by wtm_at "p") (by wtm_at "f") fun J _ _ _ _ _ _ g U=>
 (D5 (M4 (FO.v (bZ (N':=["_law_k", "_law_ring"]) (idx:=[0]) rfl (aK 'i' (.cons rfl .nil) 'h' rfl 'h' 'i' (.cons rfl 'a' 'a' .nil)) (kb 'i' B.range (by wtm_at "E")) (fun _ _ _ _=>S7 (i:=0) (show List.Nodup (["_law_k", "_law_ring"]:List Str) by decide +kernel) rfl (Or.inl rfl)) (fun _ _ _ _ _=>aN) (fun _ _ _ _ _=>(by wtm_at "E"))))))
def Le (B:Blt mg) (F:GF K mg "_law_det" (top 45) f fd):oj P w K mg base (U5):=
 B5 ["_law_first", "_law_second"] F (by wtm_at "p") (by wtm_at "f") (by unfold kZ;wtm_at "M")
def LJ (U:oj P w K mg base m0a) (J:qW P w K mg base m09) (B:Blt mg) (F:GF K mg "_law_parts_two" (top 60) f fd):qr P w K mg base (vW m0a m09):=
 B5 ["_law_own", "_law_far", "_law_a", "_law_b"] F (by wtm_at "p") (by wtm_at "f") fun Y _ _ _ _ _ _ g Z=>
 (B0 (L6 (WO.t (S3 (Q6 (N5 (EO.b (N4 W8 'i' B.isinstance 'i' B.tuple U2 (P8 (pv 2)))))) (S3 (by wtm_at "T") (gS (Q6 (N5 (EO.b (N4 xO 'i' B.isinstance 'i' B.str pb (by wtm_at "B"))))))))) (D5 (M4 T9)) K2) (B0 (L6 (WO.t (S3 (by wtm_at "T") (S3 (Q6 (N5 (EO.b (N4 lJ 'i' B.isinstance 'i' B.int fL (by wtm_at "B"))))) (gS (N5 (EO.b (N4 kv 'i' B.isinstance 'i' B.bool iC (by wtm_at "B")))))))) (D5 (M4 T9)) K2) (B0 (by wtm_at "s") (B0 (L6 (Q6 (Gy qA (ft (fun i j=>decide (i<=j))) mJ (ft (fun i j=>decide (i<j))) (EO.b iD) (by wtm_at "B") (by wtm_at "B"))) (D5 (M4 T9)) K2) (B0 (by wtm_at "s") (D5 (M4 (jT mJ (ft (fun i j=>decide (i<j))) (EO.b (jV (wR rfl) uA 'i' B.max Ao (bc (EO.b (FO.v (bZ (N':=["_law_corner", "_law_a", "_law_b"]) (idx:=[5,6]) rfl (aK 'i' (.cons rfl (.cons rfl .nil)) 'h' rfl 'h' 'i' (.cons rfl 'a' 'a' (.cons rfl 'a' 'a' .nil))) (dN (S6 (pv 4))) (fun _ _ _ _=>S7 (i:=0) (show List.Nodup (["_law_corner", "_law_a", "_law_b"]:List Str) by decide +kernel) rfl (Or.inl rfl)) (fun _ _ _ _ _=>aN) (fun _ _ _ _ _=>(by wtm_at "E"))))) jh))) (EO.b iD) (eH _)))))))))
def Nd (Y:aH P w K mg base mo) (U:qr P w K mg base m01) (B:Blt mg) (F:GF K mg "_law_rows" (top 62) f fd):Bp P w K mg base (uW mo m01):=
 B5 ["_law_rows_here", "_law_one", "_law_row", "_law_other", "_law_some", "_law_right"] F (by wtm_at "p") (by wtm_at "f") fun J _ _ _ _ _ _ g Z=>
 (B0 (by wtm_at "s") (B0 (rR Si rfl (S6 (pv 1)) (by wtm_at "G") (B0 (by wtm_at "s") (B0 (rR Si rfl (S6 (pv 2)) (by wtm_at "G") (B0 (jF (i:=7) J rfl 'a' (Ac lM zL (EO.b (FO.v (bZ (N':=["_law_k"]) (idx:=[]) rfl (aK 'i' .nil 'h' rfl 'h' 'i' .nil) (kb 'i' B.range (by wtm_at "E")) (fun _ _ _ _=>S7 (i:=0) (show List.Nodup (["_law_k"]:List Str) by decide +kernel) rfl (Or.inl rfl)) (fun _ _ _ _ _=>aN) (fun _ _ _ _ _=>(by wtm_at "E"))))) (EO.b (FO.v (bZ (N':=["_law_k"]) (idx:=[]) rfl (aK 'i' .nil 'h' rfl 'h' 'i' .nil) (kb 'i' B.range (by wtm_at "E")) (fun _ _ _ _=>S7 (i:=0) (show List.Nodup (["_law_k"]:List Str) by decide +kernel) rfl (Or.inl rfl)) (fun _ _ _ _ _=>aN) (fun _ _ _ _ _=>(by wtm_at "E"))))))) (B0 (zh (i:=8) J rfl 'a' (HG (N':=["_law_thing", "_law_one", "_law_other"]) (idx:=[4,6]) rfl (aK 'i' (.cons rfl (.cons rfl .nil)) 'h' rfl 'h' 'i' (.cons rfl 'a' 'a' (.cons rfl 'a' 'a' .nil))) (dN (S6 (pv 7))) (fun _ _ _ _=>S7 (i:=0) (show List.Nodup (["_law_thing", "_law_one", "_law_other"]:List Str) by decide +kernel) rfl (Or.inl rfl)) (fun _ _ _ _ _=>(sL (by wtm_at "T"))) (fun _ _ _ _ _=>(S6 (pv 0))))) (by wtm_at "S")))) (by wtm_at "S")))) (by wtm_at "S")))
def Og (B:Blt mg) (F:GF K mg "is_whole" (top 9) f fd):pS P w K mg base (cG):=
 B5 [] F (by wtm_at "p") (by wtm_at "f") fun J _ _ _ _ _ _ g U=>
 (D5 (M4 (mr (N4 lJ 'i' B.isinstance 'i' B.int fL (P8 (pv 0))) (iG (rC (N4 kv 'i' B.isinstance 'i' B.bool iC (P8 (pv 0))))))))
def Nq (J:pS P w K mg base m06) (B:Blt mg) (F:GF K mg "is_edge_number" (top 28) f fd):ui P w K mg base (zD m06):=
 B5 [] F (by wtm_at "p") (by wtm_at "f") fun U _ _ _ _ _ _ g Y=>
 (D5 (M4 (mr (by wtm_at "E") (iG (HH qA (ft (fun i j=>decide (i<=j))) mJ (ft (fun i j=>decide (i<j))) (EO.b iD) (P8 (pv 1)) (by wtm_at "B"))))))
def Jt (J:qQ P w K mg base m03) (U:ui P w K mg base m0z) (B:Blt mg) (F:GF K mg "is_parting" (top 36) f fd):yr P w K mg base (vN m03 m0z):=
 B5 [] F (by wtm_at "p") (by wtm_at "f") fun Y _ _ _ _ _ _ g Z=>
 (B0 (L6 (WO.t (S3 (Q6 (N5 (EO.b (N4 W8 'i' B.isinstance 'i' B.tuple U2 (P8 (pv 2)))))) (by wtm_at "W"))) (D5 (M4 T9)) K2) (by wtm_at "S"))
def ul:FnScope ["shapes", "others", "rows", "k", "row", "thing", "other"] ["shapes", "others", "rows"] (D4 (top 35)):=by wtm_at "f"
def Ny (Y:yr P w K mg base m0k) (J:Rf2 K mg "NoPaper") {f:Addr}(B:Blt mg) (F:GF K mg "lets_apart" (top 35) f fd):CalX P w K mg base 5 "lets_apart" ["shapes", "others", "rows"] (AE m0k):=
 rj F (fun _ _ _ _ _ _=>on3 fun _ _ _=>rfl) ul fun cdv A outer s H E g R U=>
  have nd:=ul.nd
  (B0 (L6 (by wtm_at "T") (D5 (jk (k:=0) R J (U.mono #[]) rfl 'i' (by wtm_at "A") (O9 (O9 cj)))) K2) (B0 (Dw PassesOwn.leaving rfl 'i' B.enumerate (by wtm_at "A") (by wtm_at "G") (B0 (L6 (WO.t (S3 (Q6 (N5 (EO.b (N4 W8 'i' B.isinstance 'i' B.tuple U2 (P8 (pv 4)))))) (by wtm_at "W"))) (D5 (jk (k:=0) R J (U.mono #[]) rfl 'i' (by wtm_at "A") (O9 (O9 cj)))) K2) (D5 (DD PassesOwn.leaving rfl 'i' B.zip (by wtm_at "A") (by wtm_at "G") (D5 (L6 (by wtm_at "T") (D5 (jk (k:=0) R J (U.mono #[]) rfl 'i' (by wtm_at "A") (O9 (O9 cj)))) K2)))))) (D5 (M4 T9))))
def NB (J:rl P w K mg base m05) (U:pS P w K mg base m06) (B:Blt mg) (F:GF K mg "is_lowest" (top 12) f fd):yO P w K mg base (BI m05 m06):=
 B5 [] F (by wtm_at "p") (by wtm_at "f") fun Y _ _ _ _ _ _ g Z=>
 (B0 (L6 (WO.t (S3 (Q6 (N5 (EO.b (N4 W8 'i' B.isinstance 'i' B.tuple U2 (P8 (pv 0)))))) (by wtm_at "W"))) (D5 (M4 T9)) K2) (B0 (L6 (Q6 (N5 (EO.b (jV (vA rfl) Cm 'i' B.all Ax (bc (EO.b (FO.v (bZ (N':=["part"]) (idx:=[]) rfl (aK 'i' .nil 'h' rfl 'h' 'i' .nil) (dN (S6 (pv 0))) (fun _ _ _ _=>S7 (i:=0) (show List.Nodup (["part"]:List Str) by decide +kernel) rfl (Or.inl rfl)) (fun _ _ _ _ _=>aN) (fun _ _ _ _ _=>(by wtm_at "E"))))) jh))))) (D5 (M4 T9)) K2) (by wtm_at "S")))
def El (J:yO P w K mg base m0B) (B:Blt mg) (F:GF K mg "is_place" (top 15) f fd):vc P w K mg base (zF m0B):=
 B5 [] F (by wtm_at "p") (by wtm_at "f") (by unfold kL;wtm_at "M")
def Lw (J:vc P w K mg base m0G) (B:Blt mg) (F:GF K mg "is_so_formed" (top 33) f fd):wC P w K mg base (vo m0G):=
 B5 [] F (by wtm_at "p") (by wtm_at "f") fun U _ _ _ _ _ _ g Y=>
 (B0 (L6 (WO.t (S3 (Q6 (N5 (EO.b (N4 W8 'i' B.isinstance 'i' B.tuple U2 (P8 (pv 0)))))) (by wtm_at "W"))) (D5 (M4 T9)) K2) (B0 (by wtm_at "s") (D5 (M4 (mr (by wtm_at "E") (iG (N4 W8 'i' B.isinstance 'i' B.tuple U2 (by wtm_at "B"))))))))
def Ph {J:c8}(Y:jM P w K mg base m00) (U:jz P w K mg base J) (B:Blt mg) (F:GF K mg "belongs" (top 26) f fd):An P w K mg base (sm m00 J):=
 B5 ["a", "b"] F (by wtm_at "p") (by wtm_at "f") (by unfold nG;wtm_at "M")
def MZ (J:An P w K mg base m0p) (B:Blt mg) (F:GF K mg "in_area" (top 27) f fd):Ab P w K mg base (vE m0p):=
 B5 ["shape"] F (by wtm_at "p") (by wtm_at "f") (by unfold nH;wtm_at "M")
def ut:FnScope ["shapes", "others", "one"] ["shapes", "others", "one"] (D4 (top 34)):=by wtm_at "f"
def Mv (Y:Ab P w K mg base m0A) (J:Rf2 K mg "NoPaper") {f:Addr}(B:Blt mg) (F:GF K mg "lets_meet" (top 34) f fd):CalX P w K mg base 5 "lets_meet" ["shapes", "others", "one"] (wV m0A):=
 rj F (fun _ _ _ _ _ _=>on3 fun _ _ _=>rfl) ut fun cdv A outer s H E g R U=>
  have nd:=ut.nd
  (B0 (L6 (by wtm_at "T") (D5 (jk (k:=0) R J (U.mono #[]) rfl 'i' (by wtm_at "A") (O9 (O9 cj)))) K2) (D5 (M4 T9)))
def u00:FnScope ["shapes", "others", "thing"] ["shapes", "others", "thing"] (D4 (top 32)):=by wtm_at "f"
def Cz (Z:CalX P w K mg base 5 "lets_apart" ["shapes", "others", "rows"] m0J) (U:CalX P w K mg base 5 "lets_meet" ["shapes", "others", "one"] m0K) (C0D:wC P w K mg base m0L) (J:Rf2 K mg "NoPaper") {f:Addr}(B:Blt mg) (F:GF K mg "lets_two" (top 32) f fd):CalX P w K mg base 6 "lets_two" ["shapes", "others", "thing"] (yh m0J m0K m0L):=
 rj F (fun _ _ _ _ _ _=>on3 fun _ _ _=>rfl) u00 fun cdv A outer s H E g R Y=>
  have nd:=u00.nd
  (B0 (L6 (by wtm_at "T") (D5 (jk (k:=0) R J (Y.mono #[]) rfl 'i' (by wtm_at "A") (O9 (O9 cj)))) K2) (B0 (L6 (by wtm_at "T") (D5 (zS (oJ U R _ Y #[] 'i' (by wtm_at "A") (O9 (O9 (O9 cj)))))) K2) (D5 (zS (oJ Z R _ Y #[] 'i' (by wtm_at "A") (O9 (O9 (O9 cj))))))))
def KQ (Z:CalX P w K mg base 6 "lets_two" ["shapes", "others", "thing"] m0M) (U:RfA K mg ["NoPaper"] ["WideError", "NoPaper", "NoOutline", "NoJoin", "TooMany", "NoText", "NoRow"]) (J:Ck K mg ["NoPaper"] "WideError") (B:Blt mg) (F:GF K mg "_law_told" (top 64) f fd):xU P w K mg base (rH m0M):=
 B5 ["_law_found", "e", "_law_strange"] F (by wtm_at "p") (by wtm_at "f") fun Y _ _ _ _ _ _ g hr=>
 (B0 (by wtm_at "s") (B0 (Od (fun pn xe g1 R _ _ _=>(D5 (JU (oJ Z R _ hr #[] 'i' (by wtm_at "A") (O9 (O9 (O9 cj)))) T9 (eH _) (by wtm_at "S") K2))) (fun _=>(B0 (rb (i:=5) Y rfl 'a' (xS (LO U (ib 'i' (U.mm _ #[]) (ib 'i' (U.mm _ #[]) (ib 'i' (U.mm _ #[]) (ib 'i' (U.mm _ #[]) (ib 'i' (U.mm _ #[]) Ir))))) 'i' #[] 'i' B.isinstance (S6 (pv 4))) (iG (rC (LY U.rx 'i' B.isinstance 'i' U.ve (S6 (pv 4))))))) (D5 (L6 (WO.t (gu (N5 (EO.b (OY U 'i' 'i' B.isinstance 'i' (S6 (pv 4))))) (by wtm_at "W"))) (D5 (rb (i:=3) Y rfl 'a' (zH (ac (vT U.rx (S6 (pv 4)) 'i') (ac (vT U.rx (S6 (pv 4)) 'i') mR))))) K2)))) J 'i' Y 'i' 'i') (by wtm_at "S")))
def Io (J:qG P w K mg base m04) (B:Blt mg) (F:GF K mg "_law_is_place" (top 58) f fd):uL P w K mg base (uf m04):=
 B5 [] F (by wtm_at "p") (by wtm_at "f") fun Y _ _ _ _ _ _ g U=>
 (B0 (L6 (WO.t (S3 (Q6 (N5 (EO.b (N4 W8 'i' B.isinstance 'i' B.tuple U2 (P8 (pv 0)))))) (by wtm_at "W"))) (D5 (M4 T9)) K2) (B0 (L6 (WO.t (S3 (qJ (zY (dq U)) Bx (EO.b (FO.v (bZ (N':=["_law_one"]) (idx:=[]) rfl (aK 'i' .nil 'h' rfl 'h' 'i' .nil) (dN (S6 (pv 0))) (fun _ _ _ _=>S7 (i:=0) (show List.Nodup (["_law_one"]:List Str) by decide +kernel) rfl (Or.inl rfl)) (fun _ _ _ _ _=>(sL (WO.t (S3 (Q6 (N5 (EO.b (N4 lJ 'i' B.isinstance 'i' B.int fL (P8 (pv 0)))))) (gS (N5 (EO.b (N4 kv 'i' B.isinstance 'i' B.bool iC (P8 (pv 0)))))))))) (fun _ _ _ _ _=>(S6 (pv 0)))))) (by wtm_at "B") (eH _)) (by wtm_at "W"))) (D5 (M4 T9)) K2) (by wtm_at "S")))
def Dv (J:qW P w K mg base m09) (U:oj P w K mg base m0a) (B:Blt mg) (F:GF K mg "_law_in" (top 54) f fd):vB P w K mg base (Bt m09 m0a):=
 B5 [] F (by wtm_at "p") (by wtm_at "f") fun Y _ _ _ _ _ _ g Z=>
 (D5 (M4 (jT yq (ft (fun i j=>decide (j<=i))) (EO.b (jV (sD rfl) wZ 'i' B.min tf (bc (EO.b (FO.v (Ge (caps:=["_law_p"]) (idx:=[1]) rfl (BB 'i' (.cons rfl .nil) 'h' rfl 'h' 'i' (.cons rfl 'a' 'a' .nil)) (dN (by wtm_at "E")) (show List.Nodup (["_law_a", "_law_b", "_law_p"]:List Str) by decide +kernel) (fun _ _ _ _=>rfl) (fun _ _ _ _=>rfl) (fun _ _ _ _ _=>aN) (fun _ _ _ _ _=>(by wtm_at "E"))))) jh))) (EO.b iD) (eH _))))
def Pc (J:vB P w K mg base m0H) (B:Blt mg) (F:GF K mg "_law_area" (top 55) f fd):yY P w K mg base (tR m0H):=
 B5 [] F (by wtm_at "p") (by wtm_at "f") fun Y _ _ _ _ _ _ g U=>
 (D5 (M4 (jT (qj (dq U)) rn (EO.b T9) (EO.b (FO.v (bZ (N':=["_law_shape", "_law_p"]) (idx:=[1]) rfl (aK 'i' (.cons rfl .nil) 'h' rfl 'h' 'i' (.cons rfl 'a' 'a' .nil)) (dN (S6 (pv 0))) (fun _ _ _ _=>S7 (i:=0) (show List.Nodup (["_law_shape", "_law_p"]:List Str) by decide +kernel) rfl (Or.inl rfl)) (fun _ _ _ _ _=>aN) (fun _ _ _ _ _=>(by wtm_at "E"))))) 'i')))
def Fh (Y:qr P w K mg base m01) (U:uL P w K mg base m0w) (J:yY P w K mg base m0m) (B:Blt mg) (F:GF K mg "_law_due" (top 61) f fd):xA P w K mg base (Co m01 m0w m0m):=
 B5 ["_law_i", "_law_row"] F (by wtm_at "p") (by wtm_at "f") fun nd _ _ _ _ _ _ g Z=>
 (B0 (L6 (WO.t (S3 (Q6 (N5 (EO.b (N4 W8 'i' B.isinstance 'i' B.tuple U2 (P8 (pv 2)))))) (S3 (by wtm_at "T") (gS (Q6 (N5 (EO.b (N4 xO 'i' B.isinstance 'i' B.str pb (by wtm_at "B"))))))))) (by wtm_at "S") K2) (B0 (by wtm_at "s") (B0 (L6 (WO.t (S3 (by wtm_at "T") (gS (Q6 (N5 (EO.b (N4 W8 'i' B.isinstance 'i' B.tuple U2 (by wtm_at "B")))))))) (by wtm_at "S") K2) (B0 (by wtm_at "s") (B0 (oX Si rfl 'i' B.range (by wtm_at "E") (by wtm_at "G") (B0 (by wtm_at "s") (B0 (L6 (WO.t (S3 (Q6 (N5 (EO.b (N4 W8 'i' B.isinstance 'i' B.tuple U2 (P8 (pv 4)))))) (by wtm_at "W"))) (by wtm_at "S") K2) (D5 (L6 (qJ (qj (dq Z)) rn (EO.b T9) (EO.b (FO.v (bZ (N':=["_law_j", "_law_shapes_here", "_law_i", "_law_others", "_law_row"]) (idx:=[0,3,1,4]) rfl (aK 'i' (.cons rfl (.cons rfl (.cons rfl (.cons rfl .nil)))) 'h' rfl 'h' 'i' (.cons rfl 'a' 'a' (.cons rfl 'a' 'a' (.cons rfl 'a' 'a' (.cons rfl 'a' 'a' .nil))))) (kb 'i' B.range (by wtm_at "E")) (fun _ _ _ _=>S7 (i:=0) (show List.Nodup (["_law_j", "_law_shapes_here", "_law_i", "_law_others", "_law_row"]:List Str) by decide +kernel) rfl (Or.inl rfl)) (fun _ _ _ _ _=>aN) (fun _ _ _ _ _=>(by wtm_at "E"))))) 'i') (by wtm_at "S") K2))))) (by wtm_at "S"))))))
def u01:FnScope ["_law_script", "_law_tape_here", "_law_k", "_law_shapes_here", "_law_others", "_law_spot_here", "_law_some", "_law_j", "_law_bent_here", "_law_thing", "_law_kept"] ["_law_script"] (D4 (top 65)):=by wtm_at "f"
def LK (C0H:xU P w K mg base m0b) (U:xA P w K mg base m0c) (J:IH P w K mg base m02) (C0J:Bp P w K mg base m0d) (Z:uI P w K mg base m0e) (Cl:aH P w K mg base mo) (C0L:wQ P w K mg base m0f) (Y:sr P w K mg base m0g) (C0N:uM P w K mg base m0h) {f:Addr}(B:Blt mg) (F:Fun K "law" "law" (top 65) f fd):jA P w K mg base 67 f fd ["_law_script"] (qt m0b m0c m02 m0d m0e mo m0f m0g m0h):=
 vk F u01 fun cdv A outer s H E g hr=>
  have nd:=u01.nd
  by unfold ly;wtm_at "R"
end
end T
namespace T
open PySem PySem.Spec L2 DL
abbrev whole:c8:=qt cM aR (Q7 64) dj au B8 cL cR aW
set_option autoImplicit true in
set_option relaxedAutoImplicit true in
def all_mk {l:PySem.W.OpenLaw}{w:World}{K:vF_}{fa:Addr}(X:K.In h) (G:h.Ns mainGlobals mg) (hfa:mg "law" = some (.ref fa)) 
  (g1:GF K mg "_law_tape" (top 41) jf1 jd1)
  (g2:GF K mg "_law_draw" (top 42) jf2 jd2)
  (g3:GF K mg "_law_net" (top 50) jf3 jd3)
  (g4:GF K mg "_law_common" (top 43) jf4 jd4)
  (g5:GF K mg "_law_place" (top 44) jf5 jd5)
  (g6:GF K mg "_law_laid" (top 51) jf6 jd6)
  (g7:GF K mg "_law_form" (top 49) jf7 jd7)
  (g8:GF K mg "_law_less" (top 46) jf8 jd8)
  (g9:GF K mg "_law_begun" (top 48) jf9 jd9)
  (g10:GF K mg "_law_shapes" (top 52) jf10 jd10)
  (g11:GF K mg "_law_two" (top 59) jf11 jd11)
  (g12:GF K mg "_law_midst" (top 53) jf12 jd12)
  (g13:GF K mg "_law_spot" (top 63) jf13 jd13)
  (g14:GF K mg "neighbours" (top 19) jf14 jd14)
  (g15:GF K mg "edges" (top 20) jf15 jd15)
  (g16:GF K mg "sign" (top 16) jf16 jd16)
  (g17:GF K mg "turn" (top 17) jf17 jd17)
  (g18:GF K mg "parts_off" (top 29) jf18 jd18)
  (g19:GF K mg "parting_edge" (top 30) jf19 jd19)
  (g20:GF K mg "parting_pair" (top 38) jf20 jd20)
  (g21:GF K mg "upright" (top 21) jf21 jd21)
  (g22:GF K mg "straight" (top 22) jf22 jd22)
  (g23:GF K mg "divisor_of_two" (top 10) jf23 jd23)
  (g24:GF K mg "divisor" (top 11) jf24 jd24)
  (g25:GF K mg "lowest" (top 13) jf25 jd25)
  (g26:GF K mg "crossing" (top 23) jf26 jd26)
  (g27:GF K mg "clipped" (top 25) jf27 jd27)
  (g28:GF K mg "common_place" (top 39) jf28 jd28)
  (g29:GF K mg "two_paper" (top 37) jf29 jd29)
  (g30:GF K mg "_law_odd" (top 56) jf30 jd30)
  (g31:GF K mg "_law_bent" (top 57) jf31 jd31)
  (g32:GF K mg "_law_edges" (top 47) jf32 jd32)
  (g33:GF K mg "_law_det" (top 45) jf33 jd33)
  (g34:GF K mg "_law_parts_two" (top 60) jf34 jd34)
  (g35:GF K mg "_law_rows" (top 62) jf35 jd35)
  (g36:GF K mg "is_whole" (top 9) jf36 jd36)
  (g37:GF K mg "is_edge_number" (top 28) jf37 jd37)
  (g38:GF K mg "is_parting" (top 36) jf38 jd38)
  (g39:GF K mg "lets_apart" (top 35) jf39 jd39)
  (g40:GF K mg "is_lowest" (top 12) jf40 jd40)
  (g41:GF K mg "is_place" (top 15) jf41 jd41)
  (g42:GF K mg "is_so_formed" (top 33) jf42 jd42)
  (g43:GF K mg "belongs" (top 26) jf43 jd43)
  (g44:GF K mg "in_area" (top 27) jf44 jd44)
  (g45:GF K mg "lets_meet" (top 34) jf45 jd45)
  (g46:GF K mg "lets_two" (top 32) jf46 jd46)
  (g47:GF K mg "_law_told" (top 64) jf47 jd47)
  (g48:GF K mg "_law_is_place" (top 58) jf48 jd48)
  (g49:GF K mg "_law_in" (top 54) jf49 jd49)
  (g50:GF K mg "_law_area" (top 55) jf50 jd50)
  (g51:GF K mg "_law_due" (top 61) jf51 jd51)
  (g52:GF K mg "law" (top 65) jf52 jd52)
  (J:Rf2 K mg "NoPaper")
  (RA:RfA K mg ["NoPaper"] ["WideError", "NoPaper", "NoOutline", "NoJoin", "TooMany", "NoText", "NoRow"])
  (U:Ck K mg ["NoPaper"] "WideError")
  (B:Blt mg) :
  ∃fd:FuncData,(∀(s:Shared) (v:Value),BindsTo s fd #[[v],[]] [("_law_script",v)])/\∀base:Heap,K.In base->base.Ns mainGlobals mg->FnOk l.prog w K mg base Y9 67 fa fd ["_law_script"] (fw K 1 whole):=by
 have e:=hfa.symm.trans g52.m;cases e;refine#[jd52,JQ g52.F fun _ _ _ _ _ _ _ _=>.of_eq rfl,fun base _ _=>?_];have C0N:=Dy (P:=l.prog) (w:=w) (base:=base) B g1;have Y:=Ff (P:=l.prog) (w:=w) (base:=base) B g2;have C0l:=De Y B g3;have C02:=Du (P:=l.prog) (w:=w) (base:=base) B g4;have C03:=Ku C02 B g5;have C0j:=Hy C03 B g6;have C0i:=EH Y B g7;have C0g:=Pp (P:=l.prog) (w:=w) (base:=base) B g8;have C0h:=Fz C0g B g9;have C0k:=LS Y C0h C0i C0j B g10;have C0M:=Kp C0k Y C0l B g11;have C0m:=OZ C03 B g12;have C0L:=Gb C0m Y B g13;have C0n:=Ng (P:=l.prog) (w:=w) (base:=base) B g14;have Z:=Dk C0n B g15;have C0o:=HZ (P:=l.prog) (w:=w) (base:=base) B g16;have C01:=Kf C0o B g17;have C04:=OD C01 Z B g18;have C0p:=DH C04 B g19;have C0w:=GC C0p B g20;have C05:=HQ (P:=l.prog) (w:=w) (base:=base) B g21;have C0t:=Dj C05 B g22;have C0q:=Fm (P:=l.prog) (w:=w) (base:=base) B g23;have C06:=II C0q B g24;have C0r:=CH C06 B g25;have C0s:=Of C0r C05 B g26;have C0u:=IS C01 C0s C0t Z B g27;have C0v:=Fj C0u Z B g28;have C0K:=Ep C0v C0w B g29;have C0b:=Ki Y B g30;have C0c:=tG C0b Y B g31 64;have C08:=LG (P:=l.prog) (w:=w) (base:=base) B g32;have C07:=Le (P:=l.prog) (w:=w) (base:=base) B g33;have C09:=LJ C07 C08 B g34;have C0J:=Nd Y C09 B g35;have C0a:=Og (P:=l.prog) (w:=w) (base:=base) B g36;have C0x:=Nq C0a B g37;have C0y:=Jt C04 C0x B g38;have C0d:=Ny C0y J B g39;have C0z:=NB C06 C0a B g40;have C0A:=El C0z B g41;have C0D:=Lw C0A B g42;have C0B:=Ph C01 Z B g43;have C0C:=MZ C0B B g44;have C0e:=Mv C0C J B g45;have C0f:=Cz C0d C0e C0D J B g46;have C0H:=KQ C0f RA U B g47;have C0F:=Io C02 B g48;have C0E:=Dv C08 C07 B g49;have C0G:=Pc C0E B g50;have C0I:=Fh C09 C0F C0G B g51;exact LK C0H C0I C0c C0J C0K Y C0L C0M C0N B g52.F
end T
abbrev GK:=@DL.gf_mk
end
open PySem PySem.W PyProof.Rows
set_option maxRecDepth 100000 in
set_option maxHeartbeats 0 in
theorem PySem.Challenge.cw_widelines_k31_papers_of_two_judged_holds : PySem.Challenge.rw_widelines_k31_papers_of_two_judged.Holds := by
 w_on; o_law; k_head; (case hw=>w_witness2)
 k_fill
 refine DL.walkD (l:=PySem.Challenge.rw_widelines_k31_papers_of_two_judged) (m:=T.whole) (k:=67) rfl rfl ⟨rfl,by decide,by decide,rfl⟩ (fun w h Y=>PySem.W.kIn_of Y) ?F T.math
 case F=>
  intro w mg fa h KX G hmg
  refine' T.all_mk KX G hmg (GK KX G ?_ ?_ ?_ ?_) (GK KX G ?_ ?_ ?_ ?_) (GK KX G ?_ ?_ ?_ ?_) (GK KX G ?_ ?_ ?_ ?_) (GK KX G ?_ ?_ ?_ ?_) (GK KX G ?_ ?_ ?_ ?_) (GK KX G ?_ ?_ ?_ ?_) (GK KX G ?_ ?_ ?_ ?_) (GK KX G ?_ ?_ ?_ ?_) (GK KX G ?_ ?_ ?_ ?_) (GK KX G ?_ ?_ ?_ ?_) (GK KX G ?_ ?_ ?_ ?_) (GK KX G ?_ ?_ ?_ ?_) (GK KX G ?_ ?_ ?_ ?_) (GK KX G ?_ ?_ ?_ ?_) (GK KX G ?_ ?_ ?_ ?_) (GK KX G ?_ ?_ ?_ ?_) (GK KX G ?_ ?_ ?_ ?_) (GK KX G ?_ ?_ ?_ ?_) (GK KX G ?_ ?_ ?_ ?_) (GK KX G ?_ ?_ ?_ ?_) (GK KX G ?_ ?_ ?_ ?_) (GK KX G ?_ ?_ ?_ ?_) (GK KX G ?_ ?_ ?_ ?_) (GK KX G ?_ ?_ ?_ ?_) (GK KX G ?_ ?_ ?_ ?_) (GK KX G ?_ ?_ ?_ ?_) (GK KX G ?_ ?_ ?_ ?_) (GK KX G ?_ ?_ ?_ ?_) (GK KX G ?_ ?_ ?_ ?_) (GK KX G ?_ ?_ ?_ ?_) (GK KX G ?_ ?_ ?_ ?_) (GK KX G ?_ ?_ ?_ ?_) (GK KX G ?_ ?_ ?_ ?_) (GK KX G ?_ ?_ ?_ ?_) (GK KX G ?_ ?_ ?_ ?_) (GK KX G ?_ ?_ ?_ ?_) (GK KX G ?_ ?_ ?_ ?_) (GK KX G ?_ ?_ ?_ ?_) (GK KX G ?_ ?_ ?_ ?_) (GK KX G ?_ ?_ ?_ ?_) (GK KX G ?_ ?_ ?_ ?_) (GK KX G ?_ ?_ ?_ ?_) (GK KX G ?_ ?_ ?_ ?_) (GK KX G ?_ ?_ ?_ ?_) (GK KX G ?_ ?_ ?_ ?_) (GK KX G ?_ ?_ ?_ ?_) (GK KX G ?_ ?_ ?_ ?_) (GK KX G ?_ ?_ ?_ ?_) (GK KX G ?_ ?_ ?_ ?_) (GK KX G ?_ ?_ ?_ ?_) (GK KX G ?_ ?_ ?_ ?_) (DL.rf2_mk KX G ?_ ?_ (DL.xk1_mk (DL.xc_mk ?_ ?_ ?_ ?_ ?_ ?_) ?_ ?_) ?_ ?_ ?_ ?_ ?_ ?_ ?_) (DL.rfa_mk KX G ?_ (DL.memC (DL.rfx_mk ?_ (DL.xc_mk ?_ ?_ ?_ ?_ ?_ ?_) ?_ ?_ ?_ (DL.memC (DL.kit_mk KX G ?_ ?_) (DL.memC (DL.kit_mk KX G ?_ ?_) (DL.memC (DL.kit_mk KX G ?_ ?_) (DL.memC (DL.kit_mk KX G ?_ ?_) (DL.memC (DL.kit_mk KX G ?_ ?_) (DL.memC (DL.kit_mk KX G ?_ ?_) (DL.memC (DL.kit_mk KX G ?_ ?_) DL.mem0)))))))) DL.mem0) (DL.memC (DL.cls_mk KX G ?_) (DL.memC (DL.cls_mk KX G ?_) (DL.memC (DL.cls_mk KX G ?_) (DL.memC (DL.cls_mk KX G ?_) (DL.memC (DL.cls_mk KX G ?_) (DL.memC (DL.cls_mk KX G ?_) (DL.memC (DL.cls_mk KX G ?_) DL.mem0)))))))) (DL.ck_mk KX G ?_ ?_ ?_ (DL.memC (DL.sub_mk ?_ ?_) DL.mem0)) (DL.blt_mk KX G ?_ ?_ ?_ ?_ ?_ ?_ ?_ ?_ ?_ ?_ ?_ ?_ ?_ ?_ ?_ ?_ ?_ ?_ ?_)
  all_goals try k_is
  all_goals first | rfl | decide | exact ⟨rfl,rfl,rfl,by decide +kernel⟩ | exact DL.on2 (fun _ _=>rfl) | exact DL.on3 (fun _ _ _=>rfl)
