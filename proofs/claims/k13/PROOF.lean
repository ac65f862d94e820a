import PyProof.Rows.All
import Wide.All
import OpenK.AllK
import Wide.FinOn
import Lean
import PyProof.EqAt
import PyProof.EqKinds
import PyProof.TupleCall
import PySem.Challenge.RW_widelines_k13_strips_and_ends
inductive PySem.W.Fast|tw15572334440546689591|tw12927101169522368597|tw14181683346985685124|tw55220880891172503|tw1388286021384062907|tw7513393723240364734|tw9156244662690321593|tw13000946954163848717|tw47884332813609848|tw11071485126325927215|tw7719539472240195906|tw13368399991699222043|tw5530353981591551573|tw11277868816230477408|tw7942546645816378918|tw3266541752811808566|tw3900574850907453619|tw5235914525465820350|tw12729563694682450059|tw1952536370963284594|tw12385976292481871917|tw9669868072079428798|tw8554033524300857900|tw10314159296154429374|tw8038380725301120855|tw1687466384507432606|tw6653142462240389941|tw11229241667194102623|tw12221816337557326667|tw8089026368929412066|tw5764406758858783700|tw17443056365408730807|tw3027386911619319688|tw8249368924833468854|tw3385962887830424075|tw11771948643891815823|tw16903442410037458077|tw15030913144488468613|tw18184635964208961706|tw17050113130708012016|tw16528655443581378693|tw11538590536502753002|tw16856328460321592019|tw743411446711723092|tw15571931009085916695|tw9066326291354138285|tw2723902491547466226|tw18216216740425725514|tw3328704842009559500|tw7151663620892445017
local macro_rules | `(tactic| omega) => `(tactic| first | with_reducible assumption | decide | omega +splitMinMax)
theorem PySem.W.Fast.te6354419345274346774 : True := True.intro
set_option Elab.async false
set_option linter.all false
set_option maxRecDepth 100000
set_option bootstrap.genMatcherCode false
set_option genSizeOf false
set_option autoImplicit true
set_option relaxedAutoImplicit true
set_option maxHeartbeats 4000000
noncomputable section
def gV:=@PySem.wpAny_bind
def tx:=@if_pos
def So:=@if_neg
def Sr:=@PySem.wpAny_pure
def Ss:=@List.length_map
def Su:=@Nat.le_refl
def Sv:=@List.mem_cons
def Sw:=@PySem.Heap.lt_size
def Sx:=@PySem.Heap.get?_push_of_some
def Sy:=@Bool.false_ne_true
def SA:=@decide_eq_true
def SD:=@Rat.div_def
def SE:=@Rat.mul_pos
def SF:=@decide_eq_false
def SG:=@List.length_append
def SH:=@Option.bind_some
def SI:=@Nat.le_trans
def SJ:=@List.mem_singleton
def SK:=@List.mem_cons_of_mem
def SM:=@List.mem_append
def SN:=@List.map_cons
def SQ:=@Rat.intCast_mul
def SR:=@List.mem_cons_self
def SS:=@Ne.symm
def SU:=@Prod.ext
def SV:=@Nat.ne_of_lt
def SW:=@List.length_cons
def SX:=@Prod.mk.injEq
def SY:=@List.size_toArray
def Ta:=@Nat.lt_of_lt_of_le
def Tb:=@Option.some.inj
def Tc:=@PySem.Heap.get?_push_size
def Td:=@Rat.mul_eq_zero
def Te:=@Rat.le_of_lt
def Tf:=@List.getElem?_eq_getElem
def Tg:=@List.mem_map
def Th:=@PySem.wpAny_mono
def Ti:=@PySem.wpAny_field
def Tj:=@List.map_append
def Tn:=@List.getElem?_eq_some_iff
def Tp:=@List.length_take
def Tq:=@List.length_drop
def Tr:=@Rat.mul_nonneg
def Ts:=@List.mem_append_right
def Tt:=@List.append_nil
def Tu:=@List.nodup_cons
def Tv:=@Option.some.injEq
def Tw:=@PySem.W.mg_none_of
def Tx:=@Rat.divInt_eq_div
def Tz:=@if_false
def TB:=@if_true
def TC:=@Nat.lt_of_le_of_lt
def TF:=@Rat.intCast_pos
def TH:=@decide_eq_true_iff
def TJ:=@Rat.le_refl
def TK:=@Bool.and_eq_true
def TL:=@Nat.ne_of_gt
def TM:=@List.getElem?_map
def TN:=@List.map_map
def TQ:=@of_decide_eq_true
def TR:=@Nat.zero_le
def TU:=@List.map_nil
def TV:=@Int.mul_ne_zero
def TX:=@List.mem_of_getElem?
def TY:=@List.foldl_cons
def TZ:=@PySem.wpAny_seqItems
def Ua:=@Bool.eq_iff_iff
def Ub:=@PySem.wpAny_call_entry
def Ud:=@Int.mul_nonneg
def Ue:=@Rat.intCast_sub
def Ug:=@List.pairwise_cons
def Uh:=@Rat.not_lt
def Ui:=@List.mem_append_left
def Uj:=@PySem.wpAny_newObj_type
def Uk:=@List.getElem?_append_right
def Ul:=@List.append_assoc
def Um:=@List.not_mem_nil
def Uo:=@or_false
def Uq:=@Rat.intCast_eq_zero_iff
def Ur:=@Nat.zero_add
def Us:=@List.getElem?_append_left
def Ut:=@PySem.wpAny_holding
def Uu:=@PySem.wpAny_callSpecial?_slot
def Uv:=@List.nil_append
def Uw:=@PySem.Heap.get?_update_self
def Ux:=@Bool.false_eq_true
def Uy:=@Array.getElem?_eq_getElem
def Uz:=@Nat.mod_lt
def UA:=@Rat.mul_zero
def UB:=@Nat.lt_irrefl
def UC:=@List.getElem?_set_ne
def UD:=@PySem.wpAny_rule
def UE:=@PySem.wpAny_Call_Name_kw
def UG:=@Int.toNat_natCast
def UH:=@List.reverse_cons
def UI:=@PySem.Heap.get?_update_other
def UJ:=@List.length_nil
def UK:=@List.set_cons_succ
def UL:=@PySem.F.slot_zip_next
def UM:=@Nat.add_comm
def UN:=@Option.bind_eq_some_iff
def UO:=@Nat.sub_zero
def UP:=@PySem.wpAny_updateSeq
def UQ:=@List.length_reverse
def UR:=@Bool.and_self
def US:=@Int.fdiv_eq_ediv_of_nonneg
def UT:=@Rat.intCast_neg
def UU:=@Rat.zero_mul
def UW:=@Nat.add_mod_right
def UX:=@Rat.inv_pos
def UY:=@Sum.inr.inj
def UZ:=@Nat.le_of_lt
def Va:=@PySem.wpAny_passesOwn
def Vb:=@PyProof.Rows.callWith_type1
def Vc:=@List.replicate_succ
def Vd:=@PySem.Heap.size_push
def Ve:=@List.set_cons_zero
def Vf:=@PySem.wpAny_setField_rec
def Vg:=@Nat.min_eq_left
def Vh:=@Array.getElem?_eq_none
def Vi:=@Int.mul_comm
def Vj:=@Int.lt_or_le
def Vk:=@Int.mul_le_mul_of_nonneg_left
def Vl:=@Rat.lt_irrefl
def Vm:=@Rat.intCast_add
def Vn:=@Nat.mod_eq_of_lt
def Vo:=@Rat.mul_inv_cancel
def Vp:=@List.getElem_mem
def Vq:=@List.filterMap_cons
def Vr:=@List.of_mem_zip
def Vs:=@PyProof.Rows.slot_tuple_getitem
def Vt:=@PySem.wpAny_typeOf
def Vu:=@List.length_singleton
def Vv:=@List.find?_cons
def Vw:=@List.take_length
def Vx:=@PySem.wpAny_letGo
def Vy:=@PySem.wpAny_attempt
def Vz:=@PySem.F.plain_extend_loop
def VA:=@List.getElem?_zip_eq_some
def VB:=@Int.natCast_mul
def VC:=@Rat.intCast_inj
def VD:=@List.map_drop
def VE:=@Rat.not_le
def VG:=@Rat.mul_assoc
def VH:=@PySem.PassesOwn.never
def VI:=@List.getElem?_set_self
def VJ:=@PySem.wpAny_truthy_bool
def VL:=@PySem.mem_of_lookup
def VM:=@List.flatten_cons
def VN:=@PySem.wpAny_specialOf
def VO:=@List.nodup_nil
def VP:=@List.drop_zero
def VQ:=@Nat.min_eq_right
def VR:=@PySem.wpAny_ite_split
def VS:=@PySem.F.slot_dict_keyiterator_next
def VT:=@List.mem_map_of_mem
def VU:=@Int.natAbs_mul
def VW:=@Rat.neg_num
def VX:=@Int.natCast_ediv
def VY:=@Rat.intCast_lt_intCast
def VZ:=@Rat.mul_lt_mul_left
def Wa:=@List.takeWhile_cons
def Wb:=@List.map_take
def Wc:=@List.takeWhile_append_dropWhile
def Wd:=@List.mem_of_mem_take
def We:=@List.mem_of_mem_drop
def Wf:=@List.mem_reverse
def Wg:=@Nat.sub_self
def Wh:=@List.getLast?_cons_cons
def Wi:=@Nat.mod_add_mod
def Wj:=@Rat.mul_one
def Wk:=@PySem.Paired.length
def Wl:=@List.mem_filter
def Wm:=@List.mem_range
def Wn:=@Array.length_toList
def Wo:=@PySem.wpAny_execs_nil
def Wq:=@PySem.sizeLine_eq
def Wr:=@Option.map_eq_some_iff
def Ws:=@Nat.le_of_not_lt
def Wt:=@Nat.le_of_eq
def Wu:=@PySem.F.slot_tuple_iterator_next
def Wv:=@PySem.wpAny_setField
def Ww:=@PySem.Heap.SameBut.update
def Wx:=@PySem.Obj.data_mapFields
def Wy:=@List.forIn_cons
def Wz:=@List.forIn_nil
def WA:=@PySem.wpAny_onRaise
def WB:=@PySem.F.entry_zip_next
def WC:=@PySem.F.args_zip_next_1
def WD:=@PySem.wpAny_isInstance
def WE:=@PySem.plainId_quiet
def WG:=@List.nodup_append
def WH:=@List.mem_iff_getElem?
def WI:=@PySem.typeLookup_type
def WJ:=@PySem.builtinLookup_eq_fast
def WK:=@Nat.min_le_left
def WM:=@PySem.W.mg_of
def WN:=@PySem.wpAny_typeNameOfWhole_keyiter
def WQ:=@PySem.wpAny_typeNameOf_keyiter
def WR:=@Bool.true_and
def WS:=@Int.fmod_eq_emod_of_nonneg
def WT:=@Nat.pow_le_pow_right
def WU:=@Int.gcd_dvd_right
def WV:=@Nat.div_le_self
def WW:=@Rat.num_divInt_den
def WX:=@Rat.sub_eq_add_neg
def WZ:=@Int.gcd_comm
def Xa:=@Nat.gcd_comm
def Xb:=@Int.ediv_eq_of_eq_mul_right
def Xc:=@Int.ofNat_dvd
def Xd:=@Rat.neg_mul
def Xe:=@List.map_reverse
def Xf:=@List.map_dropLast
def Xg:=@List.take_of_length_le
def Xh:=@List.length_zip
def Xi:=@List.getElem?_of_mem
def Xj:=@Nat.lt_or_ge
def Xk:=@Int.mul_pos
def Xl:=@List.flatMap_cons
def Xm:=@List.getElem?_drop
def Xn:=@Nat.le_of_ble_eq_true
def Xo:=@Rat.num_eq_zero
def Xp:=@Int.le_of_lt
def Xq:=@Rat.neg_den
def Xr:=@Int.neg_mul
def Xs:=@beq_eq_false_iff_ne
def Xt:=@PySem.Calls.spliced_nil
def Xu:=@PySem.Calls.spliced_cons
def Xv:=@List.getElem?_take_of_lt
def Xw:=@PySem.noFill_tuple_add
def Xx:=@PySem.F.slot_tuple_add
def Xy:=@PySem.F.entry_tuple_add
def Xz:=@PySem.F.args_tuple_add_2
def XA:=@Nat.min_le_right
def XB:=@List.filterMap_map
def XC:=@PySem.slot_list_getitem
def XD:=@List.length_dropLast
def XE:=@List.any_cons
def XF:=@Bool.false_or
def XG:=@PySem.tupleKind_room_in1
def XH:=@Option.map_some
def XI:=@List.take_zero
def XJ:=@List.Sublist.refl
def XM:=@decide_eq_true_eq
def XN:=@List.all_eq_true
def XO:=@PySem.wpAny_updateSeq_pair
def XQ:=@Bool.or_false
def XR:=@PySem.F.called_list
def XS:=@PySem.F.typeCall_list_1
def XT:=@PySem.F.entry_list_init
def XU:=@PySem.F.args_list_init_2
def XW:=@List.pairwise_map
def XX:=@List.eq_nil_of_length_eq_zero
def XY:=@List.dropLast_eq_take
def XZ:=@PySem.wpAny_dictEntries
def Ya:=@PySem.wpAny_dictEpoch
def Yb:=@Bool.beq_eq_decide_eq
def Yc:=@Int.emod_nonneg
def Yd:=@Rat.num_divInt
def Ye:=@Rat.den_divInt
def Yf:=@Nat.pow_succ
def Yg:=@Int.gcd_pos_of_ne_zero_right
def Yh:=@Int.gcd_dvd_left
def Yi:=@Int.mul_le_mul
def Yj:=@Rat.div_mul_cancel
def Yk:=@Rat.mul_pos_iff_of_pos_left
def Yl:=@List.dropWhile_cons
def Ym:=@List.dropWhile_subset
def Yn:=@List.pairwise_append
def Yo:=@List.pairwise_iff_getElem
def Yp:=@List.length_pos_of_mem
def Yq:=@Nat.mod_self
def Yr:=@List.flatMap_nil
def Ys:=@List.length_filter_le
def Yt:=@Int.zero_add
def Yu:=@Rat.num_nonneg
def Yv:=@PySem.W.cellsFrom_some
def Yw:=@Option.isSome_iff_exists
def Yx:=@List.length_replicate
def Yy:=@List.getElem?_cons_succ
def Yz:=@PySem.F.plainAttrs_list
def YA:=@List.drop_eq_nil_of_le
def YB:=@List.eq_nil_iff_forall_not_mem
def YC:=@List.getElem?_reverse
def YD:=@PySem.F.entry_tuple_iterator_next
def YE:=@PySem.F.args_tuple_iterator_next_1
def YF:=@PySem.F.entry_extend_loop
def YG:=@PySem.F.slot_zip_iter
def YH:=@PyProof.Rows.zipApart_new
def YI:=@List.zipWith_nil_left
def YJ:=@List.zipWith_nil_right
def YK:=@List.zipWith_cons_cons
def YL:=@PySem.F.slot_dict_iter
def YM:=@PySem.F.entry_dict_keyiterator_next
def YN:=@PySem.F.args_dict_keyiterator_next_1
def YO:=@Int.sign_eq_one_of_pos
def YQ:=@Nat.div_eq_of_eq_mul_right
def YR:=@Int.eq_ofNat_of_zero_le
def YS:=@Nat.div_le_iff_le_mul_add_pred
def YT:=@List.take_append_drop
def YU:=@List.pairwise_singleton
def YV:=@List.drop_of_length_le
def YW:=@List.pairwise_reverse
def YX:=@Rat.mul_le_mul_of_nonneg_right
def YY:=@List.mem_of_mem_head?
def YZ:=@List.getLast?_eq_some_iff
def Za:=@Rat.mul_le_mul_of_nonneg_left
def Zb:=@List.head?_eq_getElem?
def Zc:=@Int.mul_nonneg_of_nonpos_of_nonpos
def Zd:=@Int.mul_ediv_add_emod
def Ze:=@Nat.Coprime.mul_right
abbrev vQ_:=PySem.Value→PySem.Shared→Prop
abbrev vF_:=PySem.W.Frag
abbrev vP_:=List (PySem.Addr × PySem.Obj)
abbrev vA_:=Option PySem.Addr
abbrev vL_:=List PySem.Addr
abbrev vV_:=List PySem.Value
abbrev vG_:=PySem.Str→Option PySem.Value
abbrev vR_:=Array PySem.Value
abbrev vB_:=PySem.Addr→Prop
abbrev vS_:=Array (Option PySem.Value)
namespace L2
open PySem PySem.Spec PyProof.Rows
abbrev l5:=Sum Int Str
def fy:l5->Value->Bool
 |.inl k,v=>Value.isInt k v
 |.inr x,v=>Value.isStrOf x v
def Rq (w:World):l5->Int
 |.inl k=>hashInt k
 |.inr x=>hashStr w x
def bz:∀{k:l5}{v:Value},fy k v=true->(∃i t,k=Sum.inl i/\v=Value.int i t)\/(∃x t,k=Sum.inr x/\v=Value.str x t)
 |.inl i,v,h=>by
  obtain⟨t,e⟩:=Value.isInt_shape (k:=i) (v:=v) h;exact .inl ⟨i,t,rfl,e⟩
 |.inr x,v,h=>by
  obtain⟨t,e⟩:=Value.isStrOf_shape (x:=x) (v:=v) h;exact .inr ⟨x,t,rfl,e⟩
def Fy (i:Int) (t:Tok):fy (.inl i) (.int i t)=true:=by simp[fy,Value.isInt]
def Ph (x:Str) (t:Tok):fy (.inr x) (.str x t)=true:=by simp[fy,Value.isStrOf]
def Mf (a b:Int):decide ((Sum.inl a:l5)=Sum.inl b)=(a == b):=by
 by_cases e:a=b
 .subst e;simp
 .have h:¬ (Sum.inl a:l5)=Sum.inl b:=fun q=>e (Sum.inl.inj q)
  rw[SF h];exact(Xs.mpr e).symm
def HY (a b:Str):decide ((Sum.inr a:l5)=Sum.inr b)=decide (a=b):=by
 by_cases e:a=b
 .subst e;simp
 .have h:¬ (Sum.inr a:l5)=Sum.inr b:=fun q=>e (UY q)
  rw[SF h,SF e]
def Lb (a:Int) (b:Str):decide ((Sum.inl a:l5)=Sum.inr b)=false:=SF (fun q=>nomatch q)
def MI (a:Str) (b:Int):decide ((Sum.inr a:l5)=Sum.inl b)=false:=SF (fun q=>nomatch q)
def L3 (prog:Program) (w:World):PySem.KeyKind prog w l5 where
 is:=fy
 hash:=Rq w
 inj:=fun v a b ha hb=>by
  rcases bz ha with ⟨i,t,rfl,rfl⟩ | ⟨x,t,rfl,rfl⟩
  .rcases bz hb with ⟨j,u,rfl,e⟩ | ⟨y,u,rfl,e⟩
   .injection e with e1 _;rw[e1]
   .exact nomatch e
  .rcases bz hb with ⟨j,u,rfl,e⟩ | ⟨y,u,rfl,e⟩
   .exact nomatch e
   .injection e with e1 _;rw[e1]
 byValue:=fun k v h=>by
  rcases bz h with ⟨i,t,rfl,rfl⟩ | ⟨x,t,rfl,rfl⟩ <;> rfl
 pyHash:=fun hv h=>by
  rcases bz hv with ⟨i,t,rfl,rfl⟩ | ⟨x,t,rfl,rfl⟩
  .exact wpAny_pyHash_int h
  .exact wpAny_pyHash_str h
 eqBool:=fun hu hv h=>by
  rcases bz hu with ⟨i,t,rfl,rfl⟩ | ⟨x,t,rfl,rfl⟩
  .rcases bz hv with ⟨j,u,rfl,rfl⟩ | ⟨y,u,rfl,rfl⟩
   .rw[Mf] at h;exact wpAny_eqBool_int h
   .rw[Lb] at h;exact SeqAt.EqAt.int_str i t y u _ _ _ _ h
  .rcases bz hv with ⟨j,u,rfl,rfl⟩ | ⟨y,u,rfl,rfl⟩
   .rw[MI] at h;exact SeqAt.EqAt.str_int x t j u _ _ _ _ h
   .rw[HY] at h;exact wpAny_eqBool_str h
 «strs»:=fun k x t v h=>by
  rcases bz h with ⟨i,u,rfl,e⟩ | ⟨y,u,rfl,e⟩
  .exact nomatch e
  .injection e with e1 _;subst e1;cases v <;> rfl
def Kd (prog:Program) (w:World) (i:Int) (t:Tok):(L3 prog w).is (.inl i) (.int i t)=true:=Fy i t
def Kz (prog:Program) (w:World) (x:Str) (t:Tok):(L3 prog w).is (.inr x) (.str x t)=true:=Ph x t
inductive V where
 | non | bl (b:Bool) | int (i:Int) | str (x:Str) | byt (b:Array UInt8) | flt (b:UInt64) | ref (a:Addr) | ty (n:String)
 deriving DecidableEq
def RelV:V->Value->Prop
 |.non,u=>u=Value.none
 |.bl b,u=>u=Value.bool b
 |.int i,u=>∃t,u=Value.int i t
 |.str x,u=>∃t,u=Value.str x t
 |.byt b,u=>∃t,u=Value.bytes b t
 |.flt b,u=>∃t,u=Value.float b t
 |.ref a,u=>u=Value.ref a
 |.ty n,u=>u=Value.type n
abbrev Vals:List V->List Value->Prop:=Paired RelV
theorem Vals.length {xs:List V}{J:vV_}(r:Vals xs J):xs.length=J.length:=Wk r
theorem Vals.get:∀{xs:List V}{us:vV_}{i:Nat}{x:V},Vals xs us->xs[i]? = some x->∃u,us[i]? = some u/\RelV x u
 |_,_,_,_,.nil,e=>by simp at e
 |_,_,0,_,.cons r _,e=>by simp at e;subst e;exact⟨_,rfl,r⟩
 |_,_,i+1,x,.cons _ t,e=>by
  obtain⟨u,h1,h2⟩:=Vals.get (i:=i) (x:=x) t (by simpa using e);exact⟨u,by simpa using h1,h2⟩
def Vals.append:∀{xs ys:List V}{us ws:vV_},Vals xs us->Vals ys ws->Vals (xs++ys) (us++ws):=by
 intro xs ys us ws h s;induction h with
 |nil=>exact s
 |cons r t J=>exact .cons r J
theorem Vals.take:∀{xs:List V}{us:vV_}(n:Nat),Vals xs us->Vals (xs.take n) (us.take n)
 |_,_,0,_=>.nil
 |_,_,_+1,.nil=>.nil
 |_,_,n+1,.cons r t=>.cons r (Vals.take n t)
theorem Vals.drop:∀{xs:List V}{us:vV_}(n:Nat),Vals xs us->Vals (xs.drop n) (us.drop n)
 |_,_,0,r=>r
 |_,_,_+1,.nil=>.nil
 |_,_,n+1,.cons _ t=>Vals.drop n t
def RelO:Option V->Option Value->Prop
 |some v,some u=>RelV v u
 |none,none=>True
 |_,_=>False
def KV {κ:Type}:List (κ × V)->List (κ × Value)->Prop:=Paired fun (p:κ × V) (q:κ × Value)=>p.1=q.1/\RelV p.2 q.2
def kV:l5->V
 |.inl i=>.int i
 |.inr x=>.str x
inductive HO where
 | lst (xs:List V)
 | tup (xs:List V)
 | dK (kvs:List (l5 × V)) | dT (kvs:List (List l5 × V))
 | set (S:Int->Bool) (n:Nat)
 | ins (C dx:Addr) (fs:List (Str × V))
 | own (x:Addr)
 | xd (fs:List (Str × V))
 | met (f x:Addr)
 | rng (lo hi:Int)
 | frz (o:Obj) (u:HO)
 | tbl (ps:vR_)
 | ext (φ:Heap->Prop)
abbrev Hp:=Addr->Option HO
def k0 (H:Hp) (a:Addr) (o:HO):Hp:=fun b=>if b=a then some o else H b
def F6 {o:HO}:k0 H a o a=some o:=by unfold k0;rw[tx rfl]
def w5 {H:Hp}{a b:Addr}{o:HO}(h:b≠a):k0 H a o b=H b:=by unfold k0;rw[So h]
def Rf {o u:HO}:k0 (k0 H a o) a u=k0 H a u:=by
 funext b;unfold k0;split <;> rfl
def RG {H:Hp}{a b:Addr}{o u:HO}(h:H a=some o) (h':H b=some u) (d:o≠u):a≠b:=by
 intro e;subst e;rw[h] at h';exact d (Tb h')
def X9 {H:Hp}{a b:Addr}{o:HO}(h:H a=some o) (h':H b=none):a≠b:=by
 intro e;subst e;rw[h] at h';cases h'
section
variable (P:Program) (w:World)
def ObjOk (H:Hp) (h:Heap) (a:Addr):HO->Prop
 |.lst xs=>xs.length<=sizeLine/\∃(its:vV_) (n:Nat),Vals xs its/\h.get? a=some { cls:=.type "list",data:=.seq its.toArray n }
 |.tup xs=>xs.length<=sizeLine/\∃its:List Value,Vals xs its/\IsTup h a its.toArray
 |.dK kvs=>kvs.length<=sizeLine/\(a == sysModules)=false/\∃vs,KV kvs vs/\h.DictOf (L3 P w) a vs
 |.dT kvs=>kvs.length<=sizeLine/\(a == sysModules)=false/\∃xs:List (List l5 × Addr × Value),
   Paired (fun (p:List l5 × V) (q:List l5 × Addr × Value)=>p.1=q.1/\H q.2.1=some (.tup (p.1.map kV))/\RelV p.2 q.2.2) kvs xs /\
   ∃o es ep,h.get? a=some o/\o.ExactDict/\o.data = .dict es ep/\es.toList=xs.map (entryOfKey (tupleKind (L3 P w)))/\(xs.map (·.1)).Nodup
 |.set S n=>h.SetOf (intKind P w) a S n
 |.ins C dx fs=>H dx=some (.own a)/\fs.length<=1000/\dx≠a/\h.get? a=some (PySem.W.instObj C dx) /\
   ∃mA,h.Ns1 dx mA/\(∀f,RelO (fs.lookup f) (mA f))/\PySem.Within mA (fs.map (·.1))
 |.own _=>∃o,h.get? a=some o
 |.xd fs=>∃mA,h.Ns1 a mA/\∀f,RelO (fs.lookup f) (mA f)
 |.rng lo hi=>∃t u v,h.get? a=some { cls:=.type "range",data:=.fields #[.int lo t,.int hi u,.int 1 v] }
 |.frz o u=>h.get? a=some o/\ObjOk H h a u
 |.tbl ps=>h.get? a=some { cls:=.none,data:=.fields ps }
 |.met f x=>h.get? a=some (PySem.W.methodObj (.ref f) (.ref x))
 |.ext φ=>φ h/\(∃o,h.get? a=some o)/\∀h1 h2:Heap,φ h1->(∀o,h1.get? a=some o->h2.get? a=some o)->φ h2
def HOk (H:Hp) (h:Heap):Prop:=∀a o,H a=some o->ObjOk P w H h a o
end
section
variable {P:Program}{w:World}{H H':Hp}{h h':Heap}{a:Addr}{o:HO}
theorem ObjOk.lt (x:ObjOk P w H h a o):a<h.objs.size:=by
 cases o with
 |lst xs=>obtain⟨_,_,_,_,e⟩:=x;exact Sw e
 |tup xs=>obtain⟨_,_,_,p⟩:=x;exact p.lt
 |dK J=>obtain⟨_,_,_,_,o,_,_,e,_⟩:=x;exact Sw e
 |dT J=>obtain⟨_,_,_,_,o,_,_,e,_⟩:=x;exact Sw e
 |set S n=>obtain⟨o,_,_,_,e,_⟩:=x;exact Sw e
 |ins C U fs=>obtain⟨_,_,_,e,_⟩:=x;exact Sw e
 |own y=>obtain⟨_,e⟩:=x;exact Sw e
 |xd fs=>obtain⟨_,⟨_,_,_,e,_⟩,_⟩:=x;exact Sw e
 |rng lo hi=>obtain⟨_,_,_,e⟩:=x;exact Sw e
 |frz M u=>obtain⟨e,_⟩:=x;exact Sw e
 |tbl ps=>exact Sw (show h.get? a=some _ from x)
 |met f y=>exact Sw (show h.get? a=some _ from x)
 |ext φ=>obtain⟨_,⟨_,e⟩,_⟩:=x;exact Sw e
def Paired.mapP {α β:Type}{F G:α->β->Prop}:∀{l₁:List α}{l₂:List β},Paired F l₁ l₂->(∀a b,F a b->G a b)->Paired G l₁ l₂:=by
 intro l₁ l₂ h f;induction h with
 |nil=>exact .nil
 |cons r t J=>exact .cons (f _ _ r) J
def ObjOk.stay (x:ObjOk P w H h a o) (k:∀b u,(b=a\/H b=some (.own a))->h.get? b=some u->h'.get? b=some u)
  (ho:∀b,H b=some (.own a)->H' b=some (.own a)) (ht:∀b xs,H b=some (.tup xs)->H' b=some (.tup xs)):ObjOk P w H' h' a o:=by
 induction o with
 |lst xs=>obtain⟨z,M,n,r,e⟩:=x;exact⟨z,M,n,r,k _ _ (.inl rfl) e⟩
 |tup xs=>obtain⟨z,M,r,J,e,c⟩:=x;exact⟨z,M,r,J,k _ _ (.inl rfl) e,c⟩
 |dK U=>obtain⟨z,y,vs,r,J,es,ep,e,c⟩:=x;exact⟨z,y,vs,r,J,es,ep,k _ _ (.inl rfl) e,c⟩
 |dT U=>
  obtain⟨z,y,xs,r,J,es,ep,e,c⟩:=x;exact⟨z,y,xs,Paired.mapP r fun p q z=>⟨z.1,ht _ _ z.2.1,z.2.2⟩,J,es,ep,k _ _ (.inl rfl) e,c⟩
 |set S n=>obtain⟨J,es,ep,t,e,c⟩:=x;exact⟨J,es,ep,t,k _ _ (.inl rfl) e,c⟩
 |ins C dx fs=>
  obtain⟨d,z,ne,e,Y,⟨Z,es,ep,e2,c⟩,r⟩:=x;exact⟨ho _ d,z,ne,k _ _ (.inl rfl) e,Y,⟨Z,es,ep,k _ _ (.inr d) e2,c⟩,r⟩
 |own y=>obtain⟨J,e⟩:=x;exact⟨J,k _ _ (.inl rfl) e⟩
 |xd fs=>obtain⟨Y,⟨Z,es,ep,e,c⟩,r⟩:=x;exact⟨Y,⟨Z,es,ep,k _ _ (.inl rfl) e,c⟩,r⟩
 |rng lo hi=>obtain⟨t,u,v,e⟩:=x;exact⟨t,u,v,k _ _ (.inl rfl) e⟩
 |frz J u ih=>obtain⟨e,q⟩:=x;exact⟨k _ _ (.inl rfl) e,ih q⟩
 |tbl ps=>
  have e:h.get? a=some { cls:=.none,data:=.fields ps }:=x;show h'.get? a=some { cls:=.none,data:=.fields ps };exact k a _ (.inl rfl) e
 |met f y=>
  have e:h.get? a=some (PySem.W.methodObj (.ref f) (.ref y)):=x;show h'.get? a=some (PySem.W.methodObj (.ref f) (.ref y));exact k a _ (.inl rfl) e
 |ext φ=>obtain⟨p,⟨o,e⟩,st⟩:=x;exact⟨st _ _ p fun o q=>k _ _ (.inl rfl) q,⟨o,k _ _ (.inl rfl) e⟩,st⟩
theorem HOk.lt (x:HOk P w H h) (e:H a=some o):a<h.objs.size:=(x a o e).lt
def HOk.fresh (x:HOk P w H h) (e:h.objs.size<=a):H a=none:=by
 cases q:H a with
 |none=>rfl
 |some u=>exact absurd (Ta (x.lt q) e) (UB _)
def HOk.kept (x:HOk P w H h) (k:∀b u,h.get? b=some u->h'.get? b=some u):HOk P w H h':=fun a o e=>
 (x a o e).stay (fun b u _ q=>k b u q) (fun _ q=>q) fun _ _ q=>q
def HOk.laid (x:HOk P w H h) (k:∀b u,h.get? b=some u->h'.get? b=some u) (hp:h.objs.size<=a) (J:ObjOk P w (k0 H a o) h' a o):HOk P w (k0 H a o) h':=fun b u e=>by
 have M:=x.fresh hp;by_cases hb:b=a
 .subst hb;rw[F6] at e;cases e;exact J
 .rw[w5 hb] at e;exact(x b u e).stay (fun c v _ q=>k c v q) (fun c q=>by rw[w5 (X9 q M)];exact q) fun c xs q=>by rw[w5 (X9 q M)];exact q
end
def Rd (H:Hp) (a:Addr) (u:HO):Prop:=H a=some u\/∃o,H a=some (.frz o u)
def Rd.ok {w:World}(r:Rd H a u) (x:HOk P w H h):ObjOk P w H h a u:=by
 rcases r with r | ⟨o,r⟩
 .exact x a u r
 .obtain⟨_,q⟩:=x a _ r;exact q
def jd:Option HO->Prop
 |some (.lst _)=>True
 |some (.dK _)=>True
 |some (.dT _)=>True
 |some (.set _ _)=>True
 |some (.ins _ _ _)=>True
 |some (.ext _)=>True
 |_=>False
section
variable {P:Program}{w:World}{H:Hp}{h h':Heap}{x e:Addr}{o':HO}
def HOk.write (ok:HOk P w H h) (W:jd (H x)) (he:e=x\/H e=some (.own x)) (k:∀b u,b≠e->h.get? b=some u->h'.get? b=some u) (heo:∃u,h'.get? e=some u)
  (Z:ObjOk P w (k0 H x o') h' x o'):HOk P w (k0 H x o') h':=fun b u q=>by
 have M:∀c y,H c=some (.own y)->c≠x:=fun c y r z=>by subst z;rw[r] at W;exact W
 have U:∀c xs,H c=some (.tup xs)->c≠x:=fun c xs r z=>by subst z;rw[r] at W;exact W
 by_cases hb:b=x
 .subst hb;rw[F6] at q;cases q;exact Z
 .rw[w5 hb] at q;by_cases J:b=e
  .have q':H b=some (.own x):=by
    rcases he with z | z
    .exact absurd (J.trans z) hb
    .rw[J];exact z
   rw[q] at q';cases q';obtain⟨v,hv⟩:=heo;exact⟨v,by rw[J];exact hv⟩
  .refine(ok b u q).stay (fun c v Y r=>k c v ?_ r) (fun c r=>by rw[w5 (M c b r)];exact r) fun c xs r=>by rw[w5 (U c xs r)];exact r
   rcases Y with rfl | Y
   .exact J
   .rintro rfl;rcases he with z | z
    .exact M c b Y z
    .rw[Y] at z;cases z;exact hb rfl
end
structure Un (fs ex:vL_) (H H':Hp) (h h':Heap):Prop where
 keep:∀b o,h.get? b=some o->H b=none->b ∉ fs->b ∉ ex->h'.get? b=some o
 slot:∀b o,h.get? b=some o->H b=none->b∈fs->b ∉ ex->∃sl,h'.get? b=some { o with slots:=sl }
 free:∀b o,h.get? b=some o->H b=none->b ∉ ex->H' b=none
 there:∀b o,h.get? b=some o->b ∉ ex->∃o',h'.get? b=some o'
 tups:∀b xs,H b=some (.tup xs)->H' b=some (.tup xs)
 frzs:∀b o u,H b=some (.frz o u)->H' b=some (.frz o u)
 tbls:∀b ps,H b=some (.tbl ps)->∃more,H' b=some (.tbl (ps++more))
section
variable {fs fs' ex ex':vL_}{H H1 H2:Hp}{h h1 h2 h':Heap}{a x e:Addr}{o:HO}
def Un.any (u:Un fs ex H H1 h h1) {b:Addr}{ob:Obj}(q:h.get? b=some ob) (n:H b=none) (J:b ∉ ex):∃sl,h1.get? b=some { ob with slots:=sl }:=by
 by_cases hb:b∈fs
 .exact u.slot b ob q n hb J
 .exact⟨ob.slots,u.keep b ob q n hb J⟩
def Un.kept (k:∀b u,h.get? b=some u->h'.get? b=some u):Un fs ex H H h h':=
 ⟨fun b J q _ _ _=>k b J q,fun b J q _ _ _=>⟨J.slots,k b J q⟩,fun _ _ _ n _=>n,fun b J q _=>⟨J,k b J q⟩,fun _ _ q=>q,fun _ _ _ q=>q,fun _ ps q=>⟨#[],by rw[q];simp⟩⟩
def Un.refl:Un fs ex H H h h:=Un.kept fun _ _ q=>q
def Un.laid (k:∀b u,h.get? b=some u->h'.get? b=some u) (hp:h.objs.size<=a) (J:H a=none):Un fs ex H (k0 H a o) h h' where
 keep:=fun b u q _ _ _=>k b u q
 slot:=fun b u q _ _ _=>⟨u.slots,k b u q⟩
 free:=fun b u q n _=>by rw[w5 (SV (Ta (Sw q) hp))];exact n
 there:=fun b u q _=>⟨u,k b u q⟩
 tups:=fun b xs q=>by rw[w5 (X9 q J)];exact q
 frzs:=fun b u xs q=>by rw[w5 (X9 q J)];exact q
 tbls:=fun b ps q=>⟨#[],by rw[w5 (X9 q J),q];simp⟩
def Un.write (M:jd (H x)) (he:e=x\/H e=some (.own x)) (k:∀b u,b≠e->h.get? b=some u->h'.get? b=some u) (W:∃u,h'.get? e=some u):Un fs ex H (k0 H x o) h h':=by
 have Y:∀b,H b=none->b≠x:=fun b n z=>by subst z;rw[n] at M;exact M
 have hb:∀b,H b=none->b≠e:=fun b n z=>by
  subst z;rcases he with r | r
  .exact Y b n r
  .rw[n] at r;cases r
 have U:∀b u,H b=some u->¬ jd (some u)->b≠x:=fun b u q Z z=>by subst z;rw[q] at M;exact Z M
 refine⟨fun b u q n _ _=>k b u (hb b n) q,fun b u q n _ _=>⟨u.slots,k b u (hb b n) q⟩,fun b u q n _=>by rw[w5 (Y b n)];exact n,fun b u q _=>?_,
  fun b xs q=>by rw[w5 (U b _ q fun z=>z)];exact q,fun b u xs q=>by rw[w5 (U b _ q fun z=>z)];exact q,fun b ps q=>⟨#[],by rw[w5 (U b _ q fun z=>z),q];simp⟩⟩
 by_cases J:b=e
 .subst J;exact W
 .exact⟨u,k b u J q⟩
end
def dU (h:Heap) (H:Hp):List Addr:=(List.range h.objs.size).filter fun a=>(H a).isSome
def aV (h:Heap) (H:Hp):Heap:=PySem.W.hideAll h (dU h H)
def PX (h:Heap) (H:Hp):(aV h H).objs.size=h.objs.size:=PySem.W.hideAll_size _ _
def Rz {h:Heap}{H:Hp}{b:Addr}{o:Obj}(e:h.get? b=some o) (n:H b=none):(aV h H).get? b=some o:=
 PySem.W.hideAll_get _ e fun J=>by
  have q:(H b).isSome=true:=(Wl.mp J).2;rw[n] at q;simp at q
def GN {h:Heap}{H:Hp}{b:Addr}{o:Obj}(e:(aV h H).get? b=some o):h.get? b=some o/\H b=none:=by
 have e':h.get? b=some o:=PySem.W.of_hideAll (dU h H) e;refine⟨e',?_⟩;cases q:H b with
 |none=>rfl
 |some x=>
  have J:b∈dU h H:=Wl.mpr ⟨Wm.mpr (Sw e'),by simp[q]⟩;have z:(aV h H).get? b=none:=PySem.W.hideAll_none (dU h H) J;rw[z] at e;cases e
structure Mod (K:vF_) (mg:vG_) (base:Heap):Prop where
 kin:K.In base
 glob:base.Ns mainGlobals mg
 blt:∃mb,base.Ns builtinsNs mb/\∀x:Str,x ≠ "__name__" -> mb x=bootBuiltins x
 nolimit:base.NoLimit
structure Cx where
 prog:Program
 w:World
 K:PySem.W.Frag
 mg:Str->Option Value
 base:Heap
 A:Around
 N:List Str
 s₀:Shared
 H₀:Hp
 env:Env
 outer:List Env
 stack:List Env
 ex:List Addr
 fn:Str->Bool
 calm:Bool
 pn:List (Addr × Obj)
 xe:Value->Shared->Prop
def Y8 (l:List Env):List Addr:=l.filterMap (·.frame)
abbrev Cx.fs (X:Cx):List Addr:=Y8 X.outer
def oQ (J:Scope) (x:Str):Prop:=J.names.lookup x=some .local\/J.names.lookup x=some .cell\/J.names.lookup x=some .free
def Loc (J:Scope) (x:Str):Prop:=J.names.lookup x=some .local\/J.names.lookup x=some .cell
def Mh (J:Env) (h:Heap) (m:vG_) (x:Str) (u:Value):Prop:=
 (J.kindOf x=some .local/\m x=some u)\/((J.kindOf x=some .cell\/J.kindOf x=some .free)/\∃c,J.cells.lookup x=some c/\h.IsCell c (some u))
structure Cx.Ok (X:Cx):Prop where
 mod:Mod X.K X.mg X.base
 kind:X.env.scope.kind = .function
 glob:X.env.globals=mainGlobals
 blt:X.env.builtins=builtinsNs
 above:X.s₀.heap.objs.size<=X.env.locals
 inj:∀x y c,X.env.cells.lookup x=some c->X.env.cells.lookup y=some c->x=y
 has:∀x,(X.env.kindOf x=some .cell\/X.env.kindOf x=some .free)->∃c,X.env.cells.lookup x=some c
 cab:∀x c,X.fn x=true->X.env.cells.lookup x=some c->X.s₀.heap.objs.size<=c
 hd:X.calm=true->X.A.handled=none
 frames:X.A.frames=some X.stack
 stk:X.stack=X.outer\/(X.stack=X.env::X.outer/\X.env.frame=some X.env.locals)
 exf:∀b∈X.ex,b≠X.env.locals/\∀x c,X.env.cells.lookup x=some c->c≠b
 bs:∀b o,X.base.get? b=some o->X.s₀.heap.get? b=some o/\X.H₀ b=none
 bsz:X.base.objs.size<=X.s₀.heap.objs.size
 noex:∀b o,X.base.get? b=some o->b ∉ X.ex
 exfs:∀b∈X.ex,b ∉ X.fs
 funs:X.s₀.heap.FunFrames X.base X.outer
 frf:∀b∈X.fs,X.H₀ b=none
structure Inv (X:Cx) (pins:vP_) (σ:List (Option V)) (H:Hp) (s:Shared):Prop where
 ok:X.Ok
 os:s.os=X.s₀.os
 bare:AllBare s.gens
 base:Un X.fs X.ex X.H₀ H X.s₀.heap s.heap
 loc:∃m,s.heap.Ns X.env.locals m/\∀(i:Nat) (x:Str) (v:V),X.N[i]? = some x->σ[i]? = some (some v)->oQ X.env.scope x->∃u,RelV v u/\Mh X.env s.heap m x u
 cell:∀x c,X.env.cells.lookup x=some c->∃v,s.heap.IsCell c v
 free:H X.env.locals=none
 freeC:∀x c,X.env.cells.lookup x=some c->H c=none
 pin:∀p∈X.pn++pins,s.heap.get? p.1=some p.2/\H p.1=none/\p.1≠X.env.locals/\p.1 ∉ X.fs/\∀v,p.2.data ≠ .cell v
 hok:HOk X.prog X.w H s.heap
 len:σ.length=X.N.length
section
variable {X:Cx}{pins:vP_}{σ:List (Option V)}{H H':Hp}{s:Shared}{h':Heap}
def Cx.Ok.nofr (J:X.Ok) {b:Addr}{o:Obj}(e:X.base.get? b=some o):b ∉ X.fs:=fun hb=>by
 have:=(J.funs.mem hb).1;rw[e] at this;cases this
theorem Inv.bs (I:Inv X pins σ H s):∀b o,X.base.get? b=some o->s.heap.get? b=some o/\H b=none:=fun b o e=>
 ⟨I.base.keep b o (I.ok.bs b o e).1 (I.ok.bs b o e).2 (I.ok.nofr e) (I.ok.noex b o e),I.base.free b o (I.ok.bs b o e).1 (I.ok.bs b o e).2 (I.ok.noex b o e)⟩
def Inv.bk (I:Inv X pins σ H s):∀b o,X.base.get? b=some o->s.heap.get? b=some o:=fun b o e=>(I.bs b o e).1
theorem Inv.mod (I:Inv X pins σ H s):Mod X.K X.mg X.base:=I.ok.mod
def Inv.kIn (I:Inv X pins σ H s):X.K.In s.heap:=I.ok.mod.kin.keeps I.bk
theorem Inv.lt (I:Inv X pins σ H s):X.env.locals<s.heap.objs.size:=let ⟨_,hn,_⟩:=I.loc;hn.lt
def Inv.sz (I:Inv X pins σ H s):X.s₀.heap.objs.size<=s.heap.objs.size:=SI I.ok.above (UZ I.lt)
def Inv.nofs (I:Inv X pins σ H s) (h:s.heap.objs.size<=a):a ∉ X.fs:=fun hb=>by
 obtain⟨_,o,J,_⟩:=I.ok.funs.mem hb;exact absurd (Ta (Sw J) (SI I.sz h)) (UB _)
def Inv.cne (I:Inv X pins σ H s):∀x c,X.env.cells.lookup x=some c->c≠X.env.locals:=fun x c e z=>by
 obtain⟨v,o,U,hd⟩:=I.cell x c e;obtain⟨m,⟨o',es,ep,M,J,_⟩,_⟩:=I.loc;rw[z,M] at U;cases U;rw[J] at hd;cases hd
theorem Inv.funs (I:Inv X pins σ H s):s.heap.FunFrames X.base X.outer:=by
 have J:∀(l:List Env),(∀b∈Y8 l,b∈X.fs)->X.s₀.heap.FunFrames X.base l->s.heap.FunFrames X.base l:=by
  intro l;induction l with
  |nil=>intro _ _;trivial
  |cons Y r ih=>
   intro U hl;obtain⟨hk,⟨L,o,hf,hn,Z,hd⟩,W⟩:=hl;have M:L∈X.fs:=U L (by unfold Y8;rw[Vq,hf];exact SR);obtain⟨sl,e⟩:=I.base.slot L o Z (I.ok.frf L M) M fun z=>I.ok.exfs L z M
   exact⟨hk,⟨L,_,hf,hn,e,hd⟩,ih (fun b hb=>U b (by unfold Y8;rw[Vq,hf];exact SK _ hb)) W⟩
 exact J X.outer (fun _ hb=>hb) I.ok.funs
theorem Inv.stack (I:Inv X pins σ H s):s.heap.FunFrames X.base X.stack:=by
 rcases I.ok.stk with e | ⟨e,hf⟩
 .rw[e];exact I.funs
 .rw[e];obtain⟨m,J,_⟩:=I.loc;refine .cons (by rw[I.ok.kind];decide) hf J ?_ I.funs;exact Heap.get?_none_of_le (SI I.ok.bsz I.ok.above)
def Inv.stkSub (I:Inv X pins σ H s):∀b∈Y8 X.stack,b∈X.env.locals::X.fs:=fun b hb=>by
 rcases I.ok.stk with e | ⟨e,hf⟩
 .rw[e] at hb;exact SK _ hb
 .rw[e] at hb;unfold Y8 at hb;rw[Vq,hf] at hb;exact hb
def Inv.stkFree (I:Inv X pins σ H s):∀b∈Y8 X.stack,H b=none:=fun b hb=>by
 rcases Sv.mp (I.stkSub b hb) with e | hb
 .rw[e];exact I.free
 .obtain⟨_,o,J,_⟩:=I.ok.funs.mem hb;exact I.base.free b o J (I.ok.frf b hb) fun z=>I.ok.exfs b z hb
def Inv.step {t':Nat}{ch:vL_}(I:Inv X pins σ H s)
  (W:∀b∈ch,(b∈X.ex\/X.s₀.heap.objs.size<=b)/\b≠X.env.locals/\(∀x c,X.env.cells.lookup x=some c->c≠b)/\∀p∈X.pn++pins,p.1≠b)
  (keep:∀b o,b≠X.env.locals->b ∉ X.fs->b ∉ ch->s.heap.get? b=some o->H b=none->h'.get? b=some o)
  (slot:∀b o,b≠X.env.locals->b∈X.fs->b ∉ ch->s.heap.get? b=some o->H b=none->∃sl,h'.get? b=some { o with slots:=sl }) (free:∀b o,b ∉ ch->s.heap.get? b=some o->H b=none->H' b=none)
  (there:∀b o,b ∉ ch->s.heap.get? b=some o->∃o',h'.get? b=some o')
  (tups:∀b xs,H b=some (.tup xs)->H' b=some (.tup xs)) (frzs:∀b o u,H b=some (.frz o u)->H' b=some (.frz o u)) (tbls:∀b ps,H b=some (.tbl ps)->∃more,H' b=some (.tbl (ps++more)))
  (ns:∀m,s.heap.Ns X.env.locals m->h'.Ns X.env.locals m) (hok:HOk X.prog X.w H' h') (hg:AllBare g') :
  Inv X pins σ H' { s with heap:=h',gens:=g',drawn:=d',toks:=t' }:=by
 have neL:∀b o,X.s₀.heap.get? b=some o->b≠X.env.locals:=fun b o e=>SV (Ta (Sw e) I.ok.above)
 have Y:∀b o,X.s₀.heap.get? b=some o->b ∉ X.ex->b ∉ ch:=fun b o e J hb=>by
  rcases(W b hb).1 with z | z
  .exact J z
  .exact absurd (Ta (Sw e) z) (UB _)
 have M:∀x c,X.env.cells.lookup x=some c->∀v,s.heap.IsCell c v->h'.IsCell c v:=fun x c e v hQ__=>by
  obtain⟨o,ho,hd⟩:=hQ__;have U:c ∉ ch:=fun z=>(W c z).2.2.1 x c e rfl
  by_cases hc:c∈X.fs
  .obtain⟨sl,q⟩:=slot c o (I.cne x c e) hc U ho (I.freeC x c e);exact⟨_,q,hd⟩
  .exact⟨o,keep c o (I.cne x c e) hc U ho (I.freeC x c e),hd⟩
 refine⟨I.ok,I.os,hg,⟨fun b o e n hb J=>?_,fun b o e n hb J=>?_,fun b o e n J=>?_,fun b o e J=>?_,fun b xs e=>tups b xs (I.base.tups b xs e),fun b o xs e=>frzs b o xs (I.base.frzs b o xs e),fun b ps e=>?_⟩,?_,fun x c e=>?_,?_,fun x c e=>?_,fun p hp=>?_,hok,I.len⟩
 .exact keep b o (neL b o e) hb (Y b o e J) (I.base.keep b o e n hb J) (I.base.free b o e n J)
 .obtain⟨sl,Z⟩:=I.base.slot b o e n hb J;obtain⟨sl',e2⟩:=slot b _ (neL b o e) hb (Y b o e J) Z (I.base.free b o e n J);exact⟨sl',e2⟩
 .obtain⟨o',Z⟩:=I.base.there b o e J;exact free b o' (Y b o e J) Z (I.base.free b o e n J)
 .obtain⟨o',Z⟩:=I.base.there b o e J;exact there b o' (Y b o e J) Z
 .obtain⟨m1,Z⟩:=I.base.tbls b ps e;obtain⟨m2,e2⟩:=tbls b _ Z;exact⟨m1++m2,by rw[e2,Array.append_assoc]⟩
 .obtain⟨m,hn,hl⟩:=I.loc;refine⟨m,ns m hn,fun i x v Z e2 e3=>?_⟩;obtain⟨u,r,l⟩:=hl i x v Z e2 e3;refine⟨u,r,?_⟩;rcases l with l | ⟨k,c,e,z⟩
  .exact .inl l
  .exact .inr ⟨k,c,e,M x c e _ z⟩
 .obtain⟨v,z⟩:=I.cell x c e;exact⟨v,M x c e v z⟩
 .obtain⟨m,⟨o,_,_,ho,_⟩,_⟩:=I.loc;exact free _ o (fun z=>(W _ z).2.1 rfl) ho I.free
 .obtain⟨v,o,ho,hd⟩:=I.cell x c e;exact free c o (fun z=>(W c z).2.2.1 x c e rfl) ho (I.freeC x c e)
 .obtain⟨e,n,ne,nf,d⟩:=I.pin p hp;have U:p.1 ∉ ch:=fun z=>(W p.1 z).2.2.2 p hp rfl
  exact⟨keep p.1 p.2 ne nf U e n,free p.1 p.2 U e n,ne,nf,d⟩
def Inv.un {t':Nat}(I:Inv X pins σ H s) (u:Un X.fs [] H H' s.heap h') (U:HOk X.prog X.w H' h'):Inv X pins σ H' { s with heap:=h',toks:=t' }:=by
 obtain⟨m,⟨o,es,ep,Y,r⟩,_⟩:=id I.loc;obtain⟨sl,hL⟩:=u.any Y I.free (by simp);exact I.step (g':=s.gens) (d':=s.drawn) (ch:=[]) (fun _ z=>nomatch z) (fun b o _ hb _ e n=>u.keep b o e n hb (by simp)) (fun b o _ hb _ e n=>u.slot b o e n hb (by simp)) (fun b o _ e n=>u.free b o e n (by simp)) (fun b o _ e=>u.there b o e (by simp)) u.tups u.frzs u.tbls (fun m' Z=>by
  obtain⟨o',W,M,J,r'⟩:=Z;rw[Y] at J;cases J;exact⟨_,W,M,hL,r'⟩) U I.bare
def Inv.call {t':Nat}{ch:vL_}(I:Inv X pins σ H s) (u:Un (Y8 X.stack) ch H H' s.heap h') (Y:HOk X.prog X.w H' h') (hg:AllBare g')
  (U:∀b∈ch,(b∈X.ex\/X.s₀.heap.objs.size<=b)/\b≠X.env.locals/\(∀x c,X.env.cells.lookup x=some c->c≠b)/\∀p∈X.pn++pins,p.1≠b) :
  Inv X pins σ H' { s with heap:=h',gens:=g',drawn:=d',toks:=t' }:=by
 obtain⟨m,⟨o,es,ep,ho,r⟩,_⟩:=id I.loc;obtain⟨sl,hL⟩:=u.any ho I.free fun z=>(U _ z).2.1 rfl
 exact I.step (ch:=ch) U (fun b o hL hb J e n=>u.keep b o e n (fun z=>(Sv.mp (I.stkSub b z)).elim hL hb) J) (fun b o _ _ J e n=>u.any e n J) (fun b o J e n=>u.free b o e n J) (fun b o J e=>u.there b o e J) u.tups u.frzs u.tbls (fun m' hm=>by
  obtain⟨o',Z,W,M,r'⟩:=hm;rw[ho] at M;cases M;exact⟨_,Z,W,hL,r'⟩) Y hg
def Inv.turned {t':Nat}{it:Addr}(I:Inv X pins σ H s) (k:∀b o,b≠it->s.heap.get? b=some o->h'.get? b=some o) (Z:H it=none) (U:it≠X.env.locals)
  (h1:it∈X.ex\/X.s₀.heap.objs.size<=it) (h2:∀x c,X.env.cells.lookup x=some c->c≠it) (h3:∀p∈X.pn++pins,p.1≠it):Inv X pins σ H { s with heap:=h',toks:=t' }:=by
 have M:∀b u,H b=some u->b≠it:=fun b u e z=>by rw[z,Z] at e;cases e
 refine I.step (g':=s.gens) (d':=s.drawn) (ch:=[it]) (fun b hb=>?_) (fun b o _ _ J e _=>k b o (fun z=>J (by simp[z])) e) (fun b o _ _ J e _=>⟨o.slots,k b o (fun z=>J (by simp[z])) e⟩) (fun _ _ _ _ n=>n)
  (fun b o J e=>⟨o,k b o (fun z=>J (by simp[z])) e⟩) (fun _ _ e=>e) (fun _ _ _ e=>e) (fun b ps e=>⟨#[],by rw[e];simp⟩) (fun m Y=>?_) (fun b u e=>?_) I.bare
 .have e:b=it:=by simpa using hb
  subst e;exact⟨h1,U,h2,h3⟩
 .obtain⟨o,es,ep,W,r⟩:=Y;exact⟨o,es,ep,k _ o (SS U) W,r⟩
 .refine(I.hok b u e).stay (fun c v J q=>k c v ?_ q) (fun _ q=>q) fun _ _ q=>q
  rcases J with z | z
  .rw[z];exact M b u e
  .exact M c _ z
def Inv.tok (I:Inv X pins σ H s) (t:Nat):Inv X pins σ H { s with toks:=t }:=I.un (h':=s.heap) (t':=t) Un.refl I.hok
theorem Inv.kept {t':Nat}(I:Inv X pins σ H s) (k:∀b u,s.heap.get? b=some u->h'.get? b=some u):Inv X pins σ H { s with heap:=h',toks:=t' }:=I.un (Un.kept k) (I.hok.kept k)
theorem Inv.laid {o:HO}{t':Nat}(I:Inv X pins σ H s) (k:∀b u,s.heap.get? b=some u->h'.get? b=some u) (hp:s.heap.objs.size<=a) (J:ObjOk X.prog X.w (k0 H a o) h' a o) :
  Inv X pins σ (k0 H a o) { s with heap:=h',toks:=t' }:=I.un (Un.laid k hp (I.hok.fresh hp)) (I.hok.laid k hp J)
theorem Inv.write {o:HO}{t':Nat}(I:Inv X pins σ H s) (U:jd (H x)) (W:e=x\/H e=some (.own x)) (k:∀b u,b≠e->s.heap.get? b=some u->h'.get? b=some u) (J:∃u,h'.get? e=some u)
  (M:ObjOk X.prog X.w (k0 H x o) h' x o):Inv X pins σ (k0 H x o) { s with heap:=h',toks:=t' }:=I.un (Un.write U W k J) (I.hok.write U W k J M)
def Inv.weak {W:List (Option V)}(I:Inv X pins σ H s) (hl:W.length=σ.length) (w:∀(i:Nat) v,W[i]? = some (some v)->σ[i]? = some (some v)):Inv X pins W H s:=
 ⟨I.ok,I.os,I.bare,I.base,let ⟨m,hn,hl'⟩:=I.loc;⟨m,hn,fun i x v M J U=>hl' i x v M (w i v J) U⟩,I.cell,I.free,I.freeC,I.pin,I.hok,hl.trans I.len⟩
def Inv.pins_of {J:vP_}(I:Inv X pins σ H s) (h:∀p∈J,s.heap.get? p.1=some p.2/\H p.1=none/\p.1≠X.env.locals/\p.1 ∉ X.fs/\∀v,p.2.data ≠ .cell v):Inv X J σ H s:=
 ⟨I.ok,I.os,I.bare,I.base,I.loc,I.cell,I.free,I.freeC,fun p hp=>(SM.mp hp).elim (fun z=>I.pin p (Ui _ z)) (h p),I.hok,I.len⟩
def zL {N:List Str}(U:N.Nodup) {i j:Nat}(a:N[i]? = some x) (b:N[j]? = some x):i=j:=by
 obtain⟨h1,M⟩:=Tn.mp a;obtain⟨h2,J⟩:=Tn.mp b;exact(List.getElem_inj U).mp (M.trans J.symm)
def OE {E:vQ_}{i:Nat}{v:V}{Q:Unit->Shared->Prop}(I:Inv X pins σ H s) (hN:X.N.Nodup) (hi:X.N[i]? = some x) (Z:Loc X.env.scope x) (r:RelV v u)
  (h:∀s',Inv X pins (σ.set i (some v)) H s'->(∃a,Heap.SameBut a s.heap s'.heap/\(a=X.env.locals\/X.env.cells.lookup x=some a))->Q () s') (hf:X.fn x=true\/X.env.scope.names.lookup x=some .local:=by first | exact .inl rfl | exact .inr rfl | assumption):wpAny M A (storeName X.env x u) Q E s:=by
 obtain⟨m,hn,hl⟩:=id I.loc;have hcls:(X.env.scope.kind == .class||(X.env.scope.kind == .module&&X.env.locals != X.env.globals))=false:=by rw[I.ok.kind];rfl
 have hiσ:i<σ.length:=by rw[I.len];exact(Tn.mp hi).1
 have cne:=I.cne;have U:∀{a:Addr}{h':Heap},(∃o,s.heap.get? a=some o/\H a=none)->Heap.SameBut a s.heap h'->HOk X.prog X.w H h':=fun {a h'} ha J b ob e=>by
  obtain⟨_,_,hfree⟩:=ha;refine(I.hok b ob e).stay (fun c w' Y q=>(J.2 c ?_).trans q) (fun _ q=>q) fun _ _ q=>q
  rintro rfl;rcases Y with rfl | Y
  .rw[hfree] at e;cases e
  .rw[hfree] at Y;cases Y
 rcases Z with hk | hk
 .refine wpAny_storeName_local hk hn (fun h' hn' J=>?_) hcls;obtain⟨oL,_,_,hoL,_⟩:=id hn;refine h _ ⟨I.ok,I.os,I.bare,⟨fun b o e n hb Z=>?_,fun b o e n hb Z=>?_,I.base.free,fun b o e Z=>?_,I.base.tups,I.base.frzs,I.base.tbls⟩,⟨_,hn',fun j y v' W e2 e3=>?_⟩,fun y c e=>?_,I.free,I.freeC,fun p hp=>?_,U ⟨oL,hoL,I.free⟩ J,by simpa using I.len⟩ ⟨_,J,.inl rfl⟩
  .exact(J.2 b (SV (Ta (Sw e) I.ok.above))).trans (I.base.keep b o e n hb Z)
  .obtain⟨sl,W⟩:=I.base.slot b o e n hb Z;exact⟨sl,(J.2 b (SV (Ta (Sw e) I.ok.above))).trans W⟩
  .obtain⟨o',W⟩:=I.base.there b o e Z;exact⟨o',(J.2 b (SV (Ta (Sw e) I.ok.above))).trans W⟩
  .by_cases hj:j=i
   .subst hj;rw[hi] at W;cases W;rw[VI hiσ] at e2;cases e2;exact⟨u,r,.inl ⟨hk,by simp⟩⟩
   .rw[UC (SS hj)] at e2;obtain⟨u',r',q⟩:=hl j y v' W e2 e3;refine⟨u',r',?_⟩;rcases q with ⟨k,e⟩ | ⟨k,c,e,z⟩
    .refine .inl ⟨k,?_⟩;have:y≠x:=fun e=>hj (zL hN W (e▸hi))
     simp[this,e]
    .exact .inr ⟨k,c,e,z.sameBut J (cne y c e)⟩
  .obtain⟨w',z⟩:=I.cell y c e;exact⟨w',z.sameBut J (cne y c e)⟩
  .obtain⟨e,n,ne,nf,d⟩:=I.pin p hp;exact⟨(J.2 p.1 ne).trans e,n,ne,nf,d⟩
 .have hfn:X.fn x=true:=by
   rcases hf with z | z
   .exact z
   .rw[z] at hk;cases hk
  obtain⟨c,Y⟩:=I.ok.has x (.inl hk);obtain⟨w',z⟩:=I.cell x c Y;refine wpAny_storeName_cell I.ok.kind hk Y z (fun h' hc' J=>?_);obtain⟨oc,hoc,hocd⟩:=id z;refine h { s with heap:=h' } ⟨I.ok,I.os,I.bare,⟨fun b o e n hb Z=>?_,fun b o e n hb Z=>?_,I.base.free,fun b o e Z=>?_,I.base.tups,I.base.frzs,I.base.tbls⟩,⟨m,hn.sameBut J (SS (cne x c Y)),fun j y v' W e2 e3=>?_⟩,fun y c' e=>?_,I.free,I.freeC,fun p hp=>?_,U ⟨oc,hoc,I.freeC x c Y⟩ J,by simpa using I.len⟩ ⟨c,J,.inr Y⟩
  .exact(J.2 b (SV (Ta (Sw e) (I.ok.cab x c hfn Y)))).trans (I.base.keep b o e n hb Z)
  .obtain⟨sl,W⟩:=I.base.slot b o e n hb Z;exact⟨sl,(J.2 b (SV (Ta (Sw e) (I.ok.cab x c hfn Y)))).trans W⟩
  .obtain⟨o',W⟩:=I.base.there b o e Z;exact⟨o',(J.2 b (SV (Ta (Sw e) (I.ok.cab x c hfn Y)))).trans W⟩
  .by_cases hj:j=i
   .subst hj;rw[hi] at W;cases W;rw[VI hiσ] at e2;cases e2;exact⟨u,r,.inr ⟨.inl hk,c,Y,hc'⟩⟩
   .rw[UC (SS hj)] at e2;obtain⟨u',r',q⟩:=hl j y v' W e2 e3;refine⟨u',r',?_⟩;rcases q with q | ⟨k,c',e,z'⟩
    .exact .inl q
    .refine .inr ⟨k,c',e,z'.sameBut J ?_⟩;rintro rfl;exact hj (zL hN W (I.ok.inj _ _ _ e Y▸hi))
  .by_cases hcc:c'=c
   .subst hcc;exact⟨_,hc'⟩
   .obtain⟨w2,z2⟩:=I.cell y c' e;exact⟨w2,z2.sameBut J hcc⟩
  .obtain⟨e,n,ne,nf,d⟩:=I.pin p hp;refine⟨(J.2 p.1 ?_).trans e,n,ne,nf,d⟩;intro q;rw[q,hoc] at e;have q':oc=p.2:=Tb e;exact d w' (by rw[<-q'];exact hocd)
def lU {E:vQ_}{i:Nat}{v:V}{Q:Unit->Shared->Prop}(I:Inv X pins σ H s) (W:X.N.Nodup) (hi:X.N[i]? = some x) (U:Loc X.env.scope x) (r:RelV v u)
  (h:∀s',Inv X pins (σ.set i (some v)) H s'->Q () s') (hf:X.fn x=true\/X.env.scope.names.lookup x=some .local:=by first | exact .inl rfl | exact .inr rfl | assumption):wpAny M A (storeName X.env x u) Q E s:=
 OE I W hi U r (fun s' J _=>h s' J) hf
def Inv.call' {s':Shared}{ch:vL_}(I:Inv X pins σ H s) (W:s'.os=s.os) (u:Un (Y8 X.stack) ch H H' s.heap s'.heap) (J:HOk X.prog X.w H' s'.heap) (U:AllBare s'.gens)
  (M:∀b∈ch,(b∈X.ex\/X.s₀.heap.objs.size<=b)/\b≠X.env.locals/\(∀x c,X.env.cells.lookup x=some c->c≠b)/\∀p∈X.pn++pins,p.1≠b):Inv X pins σ H' s':=by
 obtain⟨h',g',d',t',o'⟩:=s';have e:o'=s.os:=W;subst e;exact I.call (g':=g') (t':=t') (d':=d') u J U M
end
abbrev XK:=Value->Option Addr->Hp->Prop
abbrev St:=List (Option V)
abbrev VK:=V->Hp->Prop
abbrev TE:=St->Hp->VK->Prop
abbrev TT:=St->Hp->(Bool->Hp->Prop)->Prop
abbrev TA:=St->Hp->(List V->Hp->Prop)->Prop
structure Ends where
 nx:St->Hp->Prop
 rt:VK
 bk:St->Hp->Prop:=fun _ _=>False
 ct:St->Hp->Prop:=fun _ _=>False
abbrev TS:=Ends->St->Hp->Prop
def EP (X:Cx) (pins:vP_) (σ:St) (Q:VK) (u:Value) (s':Shared):Prop:=∃v H',Inv X pins σ H' s'/\RelV v u/\Q v H'
def TP (X:Cx) (pins:vP_) (σ:St) (Q:Bool->Hp->Prop) (b:Bool) (s':Shared):Prop:=∃H',Inv X pins σ H' s'/\Q b H'
def AP (X:Cx) (pins:vP_) (σ:St) (Q:List V->Hp->Prop) (J:vV_) (s':Shared):Prop:=∃vs H',Inv X pins σ H' s'/\Vals vs J/\Q vs H'
def SP (X:Cx) (pins:vP_) (D:Ends) (f:Flow) (s':Shared):Prop:=
 match f with
 |.next=>∃σ' H',Inv X pins σ' H' s'/\D.nx σ' H'
 |.brk=>∃σ' H',Inv X pins σ' H' s'/\D.bk σ' H'
 |.cont=>∃σ' H',Inv X pins σ' H' s'/\D.ct σ' H'
 |.ret u=>∃v σ' H',Inv X pins σ' H' s'/\RelV v u/\D.rt v H'
def PE (X:Cx) (e:Expr) (t:TE):Prop:=
 ∀(pins:vP_) (s:Shared) (σ:St) (H:Hp) (Q:VK),Inv X pins σ H s->t σ H Q->wpAny (model X.prog X.w) X.A (eval e X.env) (EP X pins σ Q) X.xe s
def PT (X:Cx) (e:Expr) (t:TT):Prop:=
 ∀(pins:vP_) (s:Shared) (σ:St) (H:Hp) (Q:Bool->Hp->Prop),Inv X pins σ H s->t σ H Q->wpAny (model X.prog X.w) X.A (isTrue e X.env (eval e X.env)) (TP X pins σ Q) X.xe s
def PW (X:Cx) (e:Expr) (t:TT):Prop:=
 ∀(whole:Sem Value) (pins:vP_) (s:Shared) (σ:St) (H:Hp) (Q:Bool->Hp->Prop),Inv X pins σ H s->t σ H Q->wpAny (model X.prog X.w) X.A (isTrue e X.env whole) (TP X pins σ Q) X.xe s
def PW.pt {t:TT}(h:PW X e t):PT X e t:=h _
def PA (X:Cx) (es:List Expr) (t:TA):Prop:=
 ∀(pos:Pos) (pins:vP_) (s:Shared) (σ:St) (H:Hp) (Q:List V->Hp->Prop),Inv X pins σ H s->t σ H Q->wpAny (model X.prog X.w) X.A (spliced (backTo pos (starEach es X.env))) (AP X pins σ Q) X.xe s
def PS (X:Cx) (st:Stmt) (t:TS):Prop:=
 ∀(pins:vP_) (s:Shared) (σ:St) (H:Hp) (D:Ends),Inv X pins σ H s->t D σ H->wpAny (model X.prog X.w) X.A (exec st X.env) (SP X pins D) X.xe s
def PSs (X:Cx) (st:List Stmt) (t:TS):Prop:=
 ∀(pins:vP_) (s:Shared) (σ:St) (H:Hp) (D:Ends),Inv X pins σ H s->t D σ H->wpAny (model X.prog X.w) X.A (execs st X.env) (SP X pins D) X.xe s
def t6 {α:Type}{t:Sem α}{Q Q':α->Shared->Prop}{E:vQ_}(h:wpAny M A t Q E s) (J:∀a s,Q a s->Q' a s):wpAny M A t Q' E s:=Th h J fun _ _ x=>x
section
variable {X:Cx}
def Q4 (i:Nat):TE:=fun σ H Q=>∃v,σ[i]? = some (some v)/\Q v H
def tC (v:V):TE:=fun _ H Q=>Q v H
def HA {i:Nat}{pos:Pos}(Y:X.N[i]? = some x) (hv:oQ X.env.scope x) (hd:(x == ("__debug__" : Str))=false:=by decide) (U:(x == ("__classdict__" : Str))=false:=by decide):PE X (.Name x pos) (Q4 i):=by
 intro pins s σ H Q I h;obtain⟨v,e,h⟩:=h;obtain⟨m,hn,hl⟩:=I.loc;obtain⟨u,r,l⟩:=hl i x v Y e hv;have M:EP X pins σ Q u s:=⟨v,H,I,r,h⟩
 rcases l with ⟨hk,Z⟩ | ⟨hk,c,W,J⟩
 .exact wpAny_Name (wpAny_loadName_local I.ok.kind hk hn Z M) hd
 .rcases hk with hk | hk
  .exact wpAny_Name (wpAny_loadName_cell I.ok.kind hk W J M) hd
  .exact wpAny_Name (wpAny_loadName_free I.ok.kind hk W J M U) hd
def gr {i j pos}:PE X (.Constant (.int i) j pos) (tC (.int i)):=fun _ _ _ H _ I h=>wpAny_Constant_int ⟨.int i,H,I.tok _,⟨_,rfl⟩,h⟩
def xh {b j pos}:PE X (.Constant (.bool b) j pos) (tC (.bl b)):=fun _ _ _ H _ I h=>Constant_bool ⟨.bl b,H,I,rfl,h⟩
def Qh {j pos}:PE X (.Constant .none j pos) (tC .non):=fun _ _ _ H _ I h=>Constant_none ⟨.non,H,I,rfl,h⟩
def di {x j pos}:PE X (.Constant (.str x) j pos) (tC (.str x)):=fun _ _ _ H _ I h=>Calls.Constant_str ⟨.str x,H,I.tok _,⟨_,rfl⟩,h⟩
def Gl (X:Cx) (x:Str):Prop:=X.env.kindOf x=some .globalImplicit
def xO {E:vQ_}{pins:vP_}{pos:Pos}{Q:vQ_}(I:Inv X pins σ H s) (M:Gl X x) (J:X.mg x=some u) (h:Q u s)
  (hd:(x == ("__debug__" : Str))=false:=by decide):wpAny (model X.prog X.w) X.A (eval (.Name x pos) X.env) Q E s:=
 Calls.Name_function_global I.ok.kind M (Calls.loadGlobal_global (by rw[I.ok.glob];exact I.mod.glob.keeps I.bk) J h) hd
def bJ {E:vQ_}{pins:vP_}{pos:Pos}{Q:vQ_}(I:Inv X pins σ H s) (M:Gl X x) (J:X.mg x=none) (hv:bootBuiltins x=some u) (h:Q u s)
  (U:x ≠ "__name__" := by decide) (hd:(x == ("__debug__" : Str))=false:=by decide):wpAny (model X.prog X.w) X.A (eval (.Name x pos) X.env) Q E s:=by
 obtain⟨W,h1,h2⟩:=I.mod.blt;exact Calls.Name_function_global I.ok.kind M (Calls.loadGlobal_builtin (by rw[I.ok.glob];exact I.mod.glob.keeps I.bk) J (by rw[I.ok.blt];exact h1.keeps I.bk) ((h2 x U).trans hv) h) hd
def Ac {v:V}{pos:Pos}(M:Gl X x) (J:X.mg x=some u) (r:RelV v u) (hd:(x == ("__debug__" : Str))=false:=by decide):PE X (.Name x pos) (tC v):=
 fun _ _ _ H _ I h=>xO I M J ⟨v,H,I,r,h⟩ hd
variable {a b:Expr}{ta tb:TE}{pos:Pos}
variable {tA tB':TT}{rest:List Expr}
def EL (t u:TT):TT:=fun σ H Q=>t σ H fun c H1=>if c=true then u σ H1 Q else Q false H1
def Gu (t u:TT):TT:=fun σ H Q=>t σ H fun c H1=>if c=true then Q true H1 else u σ H1 Q
def Kc (t:TT):TT:=fun σ H Q=>t σ H fun c H1=>Q (!c) H1
def Ep (ha:PT X a tA):PW X (.BoolOp .And [a] pos) tA:=by
 intro J pins s σ H Q I h;refine isTrue_and (t6 (ha pins s σ H Q I h) fun c s1 e=>?_);cases c with
 |true=>exact isTrue_and_nil e
 |false=>exact e
def He (ha:PT X a tA):PW X (.BoolOp .Or [a] pos) tA:=by
 intro J pins s σ H Q I h;refine isTrue_or (t6 (ha pins s σ H Q I h) fun c s1 e=>?_);cases c with
 |false=>exact isTrue_or_nil e
 |true=>exact e
def Qo (ha:PT X a tA) (hb:PW X (.BoolOp .And (b::rest) pos) tB'):PW X (.BoolOp .And (a::b::rest) pos) (EL tA tB'):=by
 intro M pins s σ H Q I h;refine isTrue_and (t6 (ha pins s σ H _ I h) fun c s1 ⟨H1,J,q1⟩=>?_);cases c with
 |true=>exact hb M pins s1 σ H1 Q J q1
 |false=>exact⟨H1,J,q1⟩
def LD (ha:PT X a tA) (hb:PW X (.BoolOp .Or (b::rest) pos) tB'):PW X (.BoolOp .Or (a::b::rest) pos) (Gu tA tB'):=by
 intro M pins s σ H Q I h;refine isTrue_or (t6 (ha pins s σ H _ I h) fun c s1 ⟨H1,J,q1⟩=>?_);cases c with
 |true=>exact⟨H1,J,q1⟩
 |false=>exact hb M pins s1 σ H1 Q J q1
def KO (ha:PT X a tA):PT X (.UnaryOp .Not a pos) (Kc tA):=by
 intro pins s σ H Q I h;exact isTrue_not (ha pins s σ H (fun c H1=>Q (!c) H1) I h)
def GD (ta tb:TE):TE:=fun σ H Q=>ta σ H fun x H1=>∃c,x = .bl c/\if c=true then tb σ H1 Q else Q (.bl false) H1
def Iw (ta tb:TE):TE:=fun σ H Q=>ta σ H fun x H1=>∃c,x = .bl c/\if c=true then Q (.bl true) H1 else tb σ H1 Q
def Qv (ta:TE):TE:=fun σ H Q=>ta σ H fun x H1=>∃c,x = .bl c/\Q (.bl (!c)) H1
def HQ {op} {t:TE}(h:PE X a t):PE X (.BoolOp op [a] pos) t:=fun pins s σ H Q I J=>BoolOp_one (h pins s σ H Q I J)
def Km (ha:PE X a ta) (hb:PE X (.BoolOp .And (b::rest) pos) tb):PE X (.BoolOp .And (a::b::rest) pos) (GD ta tb):=by
 intro pins s σ H Q I h;refine BoolOp_and (t6 (ha pins s σ H _ I h) fun v s1 ⟨x,H1,J,M,q1⟩=>?_);obtain⟨c,rfl,q1⟩:=q1;cases M;refine VJ ?_;cases c with
 |true=>exact hb pins s1 σ H1 Q J q1
 |false=>exact⟨.bl false,H1,J,rfl,q1⟩
def OT (ha:PE X a ta) (hb:PE X (.BoolOp .Or (b::rest) pos) tb):PE X (.BoolOp .Or (a::b::rest) pos) (Iw ta tb):=by
 intro pins s σ H Q I h;refine BoolOp_or (t6 (ha pins s σ H _ I h) fun v s1 ⟨x,H1,J,M,q1⟩=>?_);obtain⟨c,rfl,q1⟩:=q1;cases M;refine VJ ?_;cases c with
 |false=>exact hb pins s1 σ H1 Q J q1
 |true=>exact⟨.bl true,H1,J,rfl,q1⟩
def Nu (ha:PE X a ta):PE X (.UnaryOp .Not a pos) (Qv ta):=by
 intro pins s σ H Q I h;refine UnaryOp_ (t6 (ha pins s σ H _ I h) fun v s1 ⟨x,H1,M,J,q1⟩=>?_);obtain⟨c,rfl,q1⟩:=q1;cases J;exact not_of (VJ ⟨.bl (!c),H1,M,rfl,q1⟩)
def El (t:TT) (ta tb:TE):TE:=fun σ H Q=>t σ H fun c H1=>if c=true then ta σ H1 Q else tb σ H1 Q
def Oc (M:PT X c tA) (ha:PE X a ta) (hb:PE X b tb):PE X (.IfExp c a b pos) (El tA ta tb):=by
 intro pins s σ H Q I h;refine wpAny_IfExp (t6 (M pins s σ H _ I h) fun d s1 ⟨H1,J,q1⟩=>?_);cases d with
 |true=>exact ha pins s1 σ H1 Q J q1
 |false=>exact hb pins s1 σ H1 Q J q1
end
def SqL (K:vF_) (H:Hp) (a:Addr) (xs:List V):Prop:=
 Rd H a (.lst xs) \/
  ∃(o:Obj) (its:vR_) (n:Nat),K.lookup a=some o/\o.cls = .type "list" /\ o.dict=none/\o.data = .seq its n/\its.size<=sizeLine/\Vals xs its.toList
def SqT (K:vF_) (H:Hp) (a:Addr) (xs:List V):Prop:=
 Rd H a (.tup xs) \/
  ∃(o:Obj) (its:vR_) (n:Nat),K.lookup a=some o/\o.cls = .type "tuple" /\ o.data = .seq its n/\its.size<=sizeLine/\Vals xs its.toList
def PV:Value->Option V
 |.none=>some .non
 |.bool b=>some (.bl b)
 |.int i _=>some (.int i)
 |.str x _=>some (.str x)
 |.bytes b _=>some (.byt b)
 |.float b _=>some (.flt b)
 |.ref a=>some (.ref a)
 |.type n=>some (.ty n)
 |_=>none
def RelV.abs (r:RelV x u):PV u=some x:=by
 cases x with
 |non=>cases r;rfl
 |bl _=>cases r;rfl
 |int _=>obtain⟨t,rfl⟩:=r;rfl
 |str _=>obtain⟨t,rfl⟩:=r;rfl
 |byt _=>obtain⟨t,rfl⟩:=r;rfl
 |flt _=>obtain⟨t,rfl⟩:=r;rfl
 |ref _=>cases r;rfl
 |ty _=>cases r;rfl
def RelV.inj (r:RelV x u) (q:RelV y u):x=y:=Tb (r.abs.symm.trans q.abs)
theorem Vals.inj:∀{xs ys:List V}{us:vV_},Vals xs us->Vals ys us->xs=ys:=by
 intro xs ys us h;induction h generalizing ys with
 |nil=>
  intro h2;cases h2;rfl
 |cons r t J=>
  intro h2;cases h2 with
  |cons M t'=>rw[r.inj M,J t']
section
variable {X:Cx}{pins:vP_}{σ:St}{H:Hp}{s:Shared}{a:Addr}{xs ys:List V}
def SqL.of {K:vF_}(h:H a=some (.lst xs)):SqL K H a xs:=.inl (.inl h)
def SqT.of {K:vF_}(h:H a=some (.tup xs)):SqT K H a xs:=.inl (.inl h)
def Inv.list (I:Inv X pins σ H s) (h:SqL X.K H a xs):∃its:List Value,Vals xs its/\PlainL s.heap a its.toArray/\xs.length<=sizeLine:=by
 rcases h with h | ⟨o,its,n,hk,hc,hd,hs,hz,r⟩
 .obtain⟨z,its,n,r,e⟩:=h.ok I.hok;exact⟨its,r,⟨_,n,e,rfl,rfl,rfl⟩,z⟩
 .refine⟨its.toList,r,⟨o,n,I.kIn a o hk,hc,hd,by simpa using hs⟩,?_⟩;have e:=r.length;simp only[Wn] at e;omega
def Inv.tuple (I:Inv X pins σ H s) (h:SqT X.K H a xs):∃its:List Value,Vals xs its/\IsTup s.heap a its.toArray/\xs.length<=sizeLine:=by
 rcases h with h | ⟨o,its,n,hk,hc,hs,hz,r⟩
 .obtain⟨z,its,r,p⟩:=h.ok I.hok;exact⟨its,r,p,z⟩
 .refine⟨its.toList,r,⟨o,I.kIn a o hk,hc,n,by simpa using hs⟩,?_⟩;have e:=r.length;simp only[Wn] at e;omega
def Inv.list_inj (I:Inv X pins σ H s) (h:SqL X.K H a xs) (h':SqL X.K H a ys):xs=ys:=by
 obtain⟨M,r,⟨o,n,e,_,_,d⟩,_⟩:=I.list h;obtain⟨J,W,⟨o',Y,e',_,_,U⟩,_⟩:=I.list h';rw[e] at e';cases e';rw[d] at U;injection U with d1 _;have:M=J:=by simpa using congrArg Array.toList d1
 subst this;exact r.inj W
def Inv.tuple_inj (I:Inv X pins σ H s) (h:SqT X.K H a xs) (h':SqT X.K H a ys):xs=ys:=by
 obtain⟨M,r,⟨o,e,_,n,d⟩,_⟩:=I.tuple h;obtain⟨J,W,⟨o',e',_,Y,U⟩,_⟩:=I.tuple h';rw[e] at e';cases e';rw[d] at U;injection U with d1 _;have:M=J:=by simpa using congrArg Array.toList d1
 subst this;exact r.inj W
end
abbrev Cx.wish (X:Cx) (E:vQ_):Cx:={ X with xe:=E }
abbrev Cx.nox (X:Cx):Cx:=X.wish fun _ _=>False
theorem Cx.Ok.wish {X:Cx}(J:X.Ok) (E:vQ_):(X.wish E).Ok:=
 ⟨J.mod,J.kind,J.glob,J.blt,J.above,J.inj,J.has,J.cab,J.hd,J.frames,J.stk,J.exf,J.bs,J.bsz,J.noex,J.exfs,J.funs,J.frf⟩
def Cx.Ok.unwish {X:Cx}{E:vQ_}(J:(X.wish E).Ok):X.Ok:=
 ⟨J.mod,J.kind,J.glob,J.blt,J.above,J.inj,J.has,J.cab,J.hd,J.frames,J.stk,J.exf,J.bs,J.bsz,J.noex,J.exfs,J.funs,J.frf⟩
section
variable {X:Cx}{pins:vP_}{σ:St}{H:Hp}{s:Shared}{E:vQ_}
theorem Inv.wish (I:Inv X pins σ H s) (E:vQ_):Inv (X.wish E) pins σ H s:=⟨I.ok.wish E,I.os,I.bare,I.base,I.loc,I.cell,I.free,I.freeC,I.pin,I.hok,I.len⟩
theorem Inv.unwish (I:Inv (X.wish E) pins σ H s):Inv X pins σ H s:=⟨I.ok.unwish,I.os,I.bare,I.base,I.loc,I.cell,I.free,I.freeC,I.pin,I.hok,I.len⟩
theorem SP.unwish {D:Ends}(h:SP (X.wish E) pins D f s'):SP X pins D f s':=by
 cases f with
 |next=>obtain⟨σ',H',I,q⟩:=h;exact⟨σ',H',I.unwish,q⟩
 |brk=>obtain⟨σ',H',I,q⟩:=h;exact⟨σ',H',I.unwish,q⟩
 |cont=>obtain⟨σ',H',I,q⟩:=h;exact⟨σ',H',I.unwish,q⟩
 |ret u=>obtain⟨v,σ',H',I,r,q⟩:=h;exact⟨v,σ',H',I.unwish,r,q⟩
theorem PSs.nox {st:List Stmt}{t:TS}(h:PSs X.nox st t):PSs X st t:=fun pins s σ H D I J=>
 Th (h pins s σ H D (I.wish _) J) (fun _ _ q=>q.unwish) fun _ _ z=>False.elim z
end
section
variable {X:Cx}{st:Stmt}{rest:List Stmt}{t u:TS}{e:Expr}{te:TE}{pos:Pos}
def Gv:TS:=fun D σ H=>D.nx σ H
def CH (t u:TS):TS:=fun D σ H=>t { D with nx:=u D } σ H
def EH:PSs X [] Gv:=fun _ _ σ H _ I h=>Wo ⟨σ,H,I,h⟩
def nB (h1:PS X st t) (h2:PSs X rest u):PSs X (st::rest) (CH t u):=by
 intro pins s σ H D I h;refine wpAny_execs_cons (t6 (h1 pins s σ H { D with nx:=u D } I h) fun f s1 q=>?_);cases f with
 |next=>
  obtain⟨σ',H',J,q⟩:=q;exact h2 pins s1 σ' H' D J q
 |ret v=>exact q
 |brk=>exact q
 |cont=>exact q
def yH (h1:PS X st t):PSs X [st] t:=by
 intro pins s σ H D I h;refine wpAny_execs_cons (t6 (h1 pins s σ H D I h) fun f s1 q=>?_);cases f with
 |next=>exact Wo q
 |ret v=>exact q
 |brk=>exact q
 |cont=>exact q
def Inv.quiet {pins:vP_}(I:Inv X pins σ H s):interactive X.env=false:=by simp[interactive,I.ok.kind]
def ID (te:TE):TS:=fun D σ H=>te σ H fun _ H1=>D.nx σ H1
def vU (J:PE X e te) (U:swapsWith e none pos.line X.env=pure false:=by rfl):PS X (.Expr e pos) (ID te):=by
 intro pins s σ H D I h;exact wpAny_Expr_any (t6 (J pins s σ H _ I h) fun v s1 ⟨x,H1,M,W,q1⟩=>⟨σ,H1,M,q1⟩) I.quiet U
def LC (te:TE):TS:=fun D σ H=>te σ H D.rt
def Jp (M:PE X e te):PS X (.Return (some e) pos) (LC te):=by
 intro pins s σ H D I h;exact wpAny_Return_some (t6 (M pins s σ H _ I h) fun v s1 ⟨x,H1,U,J,q1⟩=>⟨x,σ,H1,U,J,q1⟩)
def NO (c:TT) (t u:TS):TS:=fun D σ H=>c σ H fun b H1=>if b=true then t D σ H1 else u D σ H1
def Ei {a b:List Stmt}(M:PT X c tc) (ha:PSs X a t) (hb:PSs X b u):PS X (.If c a b pos) (NO tc t u):=by
 intro pins s σ H D I h;refine wpAny_If (t6 (M pins s σ H _ I h) fun d s1 ⟨H1,J,q1⟩=>?_);cases d with
 |true=>exact ha pins s1 σ H1 D J q1
 |false=>exact hb pins s1 σ H1 D J q1
end
abbrev TG:=V->St->Hp->(St->Hp->Prop)->Prop
abbrev au:=List V->St->Hp->(St->Hp->Prop)->Prop
def PG (X:Cx) (J:Expr) (t:TG):Prop:=
 ∀(pins:vP_) (s:Shared) (σ:St) (H:Hp) (v:V) (u:Value) (Q:St->Hp->Prop),Inv X pins σ H s->RelV v u->t v σ H Q ->
  wpAny (model X.prog X.w) X.A (assign J X.env u) (fun _ s'=>∃σ' H',Inv X pins σ' H' s'/\Q σ' H') X.xe s
def bU (X:Cx) (J:List Expr) (t:au):Prop:=
 ∀(pins:vP_) (s:Shared) (σ:St) (H:Hp) (vs:List V) (us:vV_) (Q:St->Hp->Prop),Inv X pins σ H s->Vals vs us->t vs σ H Q ->
  wpAny (model X.prog X.w) X.A (assignInOrder ((assignEach J X.env).map (·.2)) us) (fun _ s'=>∃σ' H',Inv X pins σ' H' s'/\Q σ' H') X.xe s
section
variable {X:Cx}{pos:Pos}
def R3 (i:Nat):TG:=fun v σ H Q=>Q (σ.set i (some v)) H
def O5 {i:Nat}(U:X.N.Nodup) (hi:X.N[i]? = some x) (M:Loc X.env.scope x) (hf:X.fn x=true\/X.env.scope.names.lookup x=some .local:=by first | exact .inl rfl | exact .inr rfl | assumption):PG X (.Name x pos) (R3 i):=by
 intro pins s σ H v u Q I r h;exact wpAny_assign_Name (lU I U hi M r (fun s' J=>⟨_,H,J,h⟩) hf)
def sJ:au:=fun J σ H Q=>J=[]/\Q σ H
def ib (t:TG) (u:au):au:=fun J σ H Q=>∃v r,J=v::r/\t v σ H fun σ' H'=>u r σ' H' Q
def sH:bU X [] sJ:=by
 intro pins s σ H J M Q I r h;obtain⟨e,h⟩:=h;subst e;cases r;exact assignInOrder_nil ⟨σ,H,I,h⟩
def gu {t:TG}(h1:PG X e t) (h2:bU X es u)
  (W:(assignEach (e::es) X.env).map (·.2)=assign e X.env::(assignEach es X.env).map (·.2):=by rfl):bU X (e::es) (ib t u):=by
 intro pins s σ H Y Z Q I r h;obtain⟨v,vr,U,h⟩:=h;subst U;cases r with
 |cons r M=>
  rw[W];refine assignInOrder_cons (t6 (h1 pins s σ H _ _ _ I r h) fun _ s1 ⟨σ1,H1,J,q1⟩=>?_);exact h2 pins s1 σ1 H1 _ _ Q J M q1
def oj (K:vF_) (n:Nat) (t:au):TG:=fun v σ H Q=>∃a xs,v = .ref a/\SqT K H a xs/\xs.length=n/\t xs σ H Q
def sC {k:Nat}{t:au}{n:Nat}(hc:X.calm=true) (h:bU X es t)
  (hn:(assignEach es X.env).length=n:=by rfl) (M:(assignEach es X.env).findIdx? (·.1)=none:=by rfl):PG X (.Tuple es k pos) (oj X.K n t):=by
 intro pins s σ H v u Q I r J;obtain⟨a,xs,e1,W,hl,J⟩:=J;subst e1;cases r;obtain⟨its,U,ht,hz⟩:=I.tuple W;refine assign_Tuple_tuple (I.ok.hd hc) ht (by simp[hn,<-hl,U.length]) M fun h' Z=>?_
 have Y:Inv X pins σ H { s with heap:=h' }:=I.kept (t':=s.toks) fun b o e=>Z b o (SV (Sw e)) e
 exact h pins _ σ H xs _ Q Y (by simpa using U) J
def fD (te:TE) (g:TG):TS:=fun D σ H=>te σ H fun x H1=>g x σ H1 D.nx
def Mt (Y:PE X e te) (M:PG X tg g) (Z:swapsWithSole [tg] e pos.line X.env=pure false:=by rfl) (W:swappedStores [tg] e X.env=pure none:=by rfl)
  (h1:(assignEach [tg] X.env).map (·.2)=[assign tg X.env]:=by rfl):PS X (.Assign [tg] e pos) (fD te g):=by
 intro pins s σ H D I h;refine wpAny_Assign_stores (t6 (Y pins s σ H _ I h) fun v s1 ⟨x,H1,U,J,q1⟩=>?_) Z W;rw[h1];exact t6 (M pins s1 σ H1 x v _ U J q1) fun _ s2 q=>q
def mv {i:Nat}(Z:X.N.Nodup) (hi:X.N[i]? = some x) (U:Loc X.env.scope x) (W:PE X e te) (hs:swapsWith e (some (.Name x pos')) pos.line X.env=pure false:=by rfl) (hf:X.fn x=true\/X.env.scope.names.lookup x=some .local:=by first | exact .inl rfl | exact .inr rfl | assumption) :
  PS X (.Assign [.Name x pos'] e pos) (fD te (R3 i)):=by
 intro pins s σ H D I h;refine wpAny_Assign_Name (t6 (W pins s σ H _ I h) fun v s1 ⟨y,H1,M,J,q1⟩=>?_) hs;exact lU M Z hi U J (fun s2 Y=>⟨_,H1,Y,q1⟩) hf
def MT (i j:Nat) (ta:TA):TS:=fun D σ H=>ta σ H fun J H1=>∃v w,J=[v,w]/\D.nx ((σ.set i (some v)).set j (some w)) H1
def Pf {i j:Nat}{a b:Expr}{px py U:Pos}{kt k2 pt2} (hc:X.calm=true) (Z:X.N.Nodup) (hi:X.N[i]? = some x) (hj:X.N[j]? = some y) (M:i≠j)
  (W:X.env.scope.names.lookup x=some .local) (hy:X.env.scope.names.lookup y=some .local) (ha:PA X [a,b] ta)
  (hw:swappedStores [.Tuple [.Name x px,.Name y py] kt U] (.Tuple [a,b] k2 pt2) X.env=pure (some [x,y]))
  (hs:swapsWithSole [.Tuple [.Name x px,.Name y py] kt U] (.Tuple [a,b] k2 pt2) pos.line X.env=pure false:=by rfl) :
  PS X (.Assign [.Tuple [.Name x px,.Name y py] kt U] (.Tuple [a,b] k2 pt2) pos) (MT i j ta):=by
 intro pins s σ H D I h;rw[exec_Assign_arm];refine gV (wpAny_standAt ?_);rw[hs];refine gV (Sr ?_);rw[So (by decide)];refine gV (Tuple_ (t6 (ha _ pins s σ H _ I h) fun us s1 ⟨vs,H1,I1,r1,q1⟩=>?_));obtain⟨v,w,e1,q1⟩:=q1;subst e1;obtain⟨u1,u2,rfl,rv,rw'⟩:∃u1 u2,us=[u1,u2]/\RelV v u1/\RelV w u2:=by
  cases r1 with
  |cons p q=>
   cases q with
   |cons p' q'=>
    cases q';exact⟨_,_,rfl,p,p'⟩
 refine Uj ?_ (by show 2<=sizeLine;decide);have I2:Inv X pins σ H1 { s1 with heap:=s1.heap.push { cls:=.type "tuple",data:=.seq [u1,u2].toArray } }:=I1.kept (t':=s1.toks) fun b o e=>Sx _ e
 rw[hw];refine gV (Sr ?_);show wpAny (model X.prog X.w) X.A (do rule "assign.swapped-stores";let items <-unpackItems (.ref s1.heap.objs.size) 2 none;assignInOrder [fun v=>bindName X.env y v,fun v=>bindName X.env x v] items.reverse;pure Flow.next) _ _ _;refine gV (UD (gV (unpackItems_tuple (items:=#[u1,u2]) (I.ok.hd hc) (IsTup.new s1.heap _) fun h' J=>?_)));have I3:=I2.kept (h':=h') (t':=s1.toks) fun b o e=>J b o (SV (Sw e)) e
 show wpAny _ _ (assignInOrder [fun v=>bindName X.env y v,fun v=>bindName X.env x v] [u2,u1] >>= fun _=>pure Flow.next) _ _ _;refine gV (assignInOrder_cons (wpAny_bindName (lU I3 Z hj (.inl hy) rw' (fun s2 I4=>?_) (.inr hy))));refine assignInOrder_cons (wpAny_bindName (lU I4 Z hi (.inl W) rv (fun s3 Y=>assignInOrder_nil (Sr ?_)) (.inr W)));rw[List.set_comm _ _ (SS M)] at Y;exact⟨_,H1,Y,q1⟩
end
section
variable {X:Cx}{pos:Pos}
def RX (c:TT) (tb:TS):TS:=fun D σ H=>∃W:Nat->St->Hp->Prop,(∃m,W m σ H)/\∀m σ H,W m σ H ->
 c σ H fun b H1=>if b=true then ∃N:St->Hp->Prop,(∀σ' H',N σ' H'->∃m',m'<m/\W m' σ' H')/\tb { D with nx:=N,ct:=N,bk:=D.nx } σ H1 else D.nx σ H1
def Nf (hp:PassesOwn (model X.prog X.w) X.A X.env X.xe) (hc:PT X c tc) (hb:PSs X body tb):PS X (.While c body [] pos) (RX tc tb):=by
 intro pins s σ H D I h;obtain⟨W,⟨m0,w0⟩,M⟩:=h;refine wpAny_While (codeAny_whileLoop (fun n s'=>∃σ' H',Inv X pins σ' H' s'/\W n σ' H') ?_ m0 ⟨σ,H,I,w0⟩);rintro n s1 ⟨σ1,H1,I1,w1⟩;refine Va hp (t6 (hc pins s1 σ1 H1 _ I1 (M n σ1 H1 w1)) fun b s2 ⟨H2,I2,q2⟩=>?_);cases b with
 |true=>
  obtain⟨N,hN,q2⟩:=q2;rw[tx rfl];refine Va hp (t6 (hb pins s2 σ1 H2 _ I2 q2) fun f s3 q3=>?_);cases f with
  |next=>
   obtain⟨σ3,J,Y,U⟩:=q3;obtain⟨Z,hm,w3⟩:=hN σ3 J U;exact⟨Z,hm,σ3,J,Y,w3⟩
  |cont=>
   obtain⟨σ3,J,Y,U⟩:=q3;obtain⟨Z,hm,w3⟩:=hN σ3 J U;exact⟨Z,hm,σ3,J,Y,w3⟩
  |brk=>exact q3
  |ret v=>exact q3
 |false=>
  rw[So Sy];exact Wo ⟨σ1,H2,I2,q2⟩
end
structure It where
 go:Nat->Hp->Prop
 yld:Nat->Hp->V->Hp->Prop
 stop:Nat->Hp->Prop
def bB (X:Cx) (pins:vP_) (H:Hp) (b:Addr):Prop:=
 H b=none/\b≠X.env.locals/\b ∉ X.fs/\(b∈X.ex\/X.s₀.heap.objs.size<=b)/\(∀x c,X.env.cells.lookup x=some c->c≠b)/\∀p∈X.pn++pins,p.1≠b
def Inv.fpOk {pins:vP_}{H H':Hp}{s:Shared}{b:Addr}(I:Inv X pins σ H s) (hb:s.heap.objs.size<=b) (J:H' b=none):bB X pins H' b:=by
 refine⟨J,TL (Ta I.lt hb),I.nofs hb,.inr (SI I.sz hb),fun x c e z=>?_,fun p hp z=>?_⟩
 .obtain⟨v,q⟩:=I.cell x c e;exact absurd (Ta q.lt (by rw[z];exact hb)) (UB _)
 .exact absurd (Ta (Sw (I.pin p hp).1) (by rw[z];exact hb)) (UB _)
structure Turn (P:Program) (w:World) (K:vF_) (tg:Expr) (J:It) (fp:vL_) (it:Addr) (tn:Nat->Heap->Prop):Prop where
 mem:it∈fp
 obj:∀i h,tn i h->∀b∈fp,∃o,h.get? b=some o/\∀v,o.data ≠ .cell v
 keep:∀i h h',tn i h->(∀b∈fp,∀o,h.get? b=some o->h'.get? b=some o)->tn i h'
 item:∀(X:Cx),X.prog=P->X.w=w->X.K=K->X.calm=true->∀(i:Nat) (pins:vP_) (s:Shared) (σ:St) (H:Hp) (E:vQ_),Inv X pins σ H s->(∀b∈fp,bB X pins H b)->tn i s.heap->J.go i H ->
  wpAny (model P w) X.A (pyNext (.ref it)) (fun r s1=>∃u,r=some u /\
   wpAny (model P w) X.A (letOwnedTupleGo tg (.ref it) u) (fun _ s2=>∃x H',Inv X pins σ H' s2/\RelV x u/\J.yld i H x H'/\tn (i+1) s2.heap/\∀b∈fp,H' b=none) E s1) E s
 done:∀(X:Cx),X.prog=P->X.w=w->X.K=K->X.calm=true->∀(i:Nat) (pins:vP_) (s:Shared) (σ:St) (H:Hp) (E:vQ_),Inv X pins σ H s->(∀b∈fp,bB X pins H b)->tn i s.heap->J.stop i H ->
  wpAny (model P w) X.A (pyNext (.ref it)) (fun r s1=>r=none/\Inv X pins σ H s1) E s
 self:∀(A:Around) (i:Nat) (s:Shared) (Q:vQ_) (E:vQ_),tn i s.heap->Q (.ref it) s->wpAny (model P w) A (pyIter (.ref it)) Q E s
abbrev TI:=St->Hp->(It->Hp->Prop)->Prop
def ye (X:Cx) (pins:vP_) (σ:St) (tg:Expr) (R:It->Hp->Prop) (M:Value) (s2:Shared):Prop:=
 ∃(it:Addr) (fp:vL_) (tn:Nat->Heap->Prop) (J:It) (H':Hp),M = .ref it/\Inv X pins σ H' s2/\Turn X.prog X.w X.K tg J fp it tn/\tn 0 s2.heap/\(∀b∈fp,bB X pins H' b)/\R J H'
def PI (X:Cx) (tg iter:Expr) (wi:TI):Prop:=
 ∀(pins:vP_) (s:Shared) (σ:St) (H:Hp) (R:It->Hp->Prop),Inv X pins σ H s->wi σ H R ->
  wpAny (model X.prog X.w) X.A (eval iter X.env) (fun v s1=>wpAny (model X.prog X.w) X.A (pyIter v) (ye X pins σ tg R) X.xe s1) X.xe s
def sT {E:vQ_}{s:Shared}{it:Addr}{o:Obj}{U:vR_}{Q:Unit->Shared->Prop}(W:s.heap.get? it=some o) (Y:o.cls = .type n) (hd:o.data = .fields U)
    (Z:["enumerate", "zip", "dict_itemiterator", "dict_reverseitemiterator", "odict_iterator", "itertools.zip_longest", "itertools.pairwise"].contains n=false) (J:Q () s):wpAny M A (letOwnedTupleGo tg (.ref it) u) Q E s:=by
  unfold letOwnedTupleGo;cases tg <;> first
    | exact Sr J
    | (cases u <;> first
        | exact Sr J
        | (refine gV (wpAny_load W ?_)
           rw[Y,hd];show wpAny M A (if (["enumerate", "zip", "dict_itemiterator", "dict_reverseitemiterator", "odict_iterator", "itertools.zip_longest", "itertools.pairwise"].contains n&&U[0]? == some (rawInt _))=true then _ else _) Q E s;rw[So (by intro h;rw[Z,Bool.false_and] at h;cases h)];exact Sr J))
def gI (K:vF_) (a:Addr):It:=
 ⟨fun i H=>∃xs x,SqL K H a xs/\xs[i]? = some x,fun i H x H'=>H'=H/\∀xs,SqL K H a xs->xs[i]? = some x,fun i H=>∃xs,SqL K H a xs/\xs.length<=i⟩
def iY (K:vF_) (a:Addr):It:=
 ⟨fun i H=>∃xs x,SqT K H a xs/\xs[i]? = some x,fun i H x H'=>H'=H/\∀xs,SqT K H a xs->xs[i]? = some x,fun i H=>∃xs,SqT K H a xs/\xs.length<=i⟩
def fB (lo:Int) (n:Nat):It:=⟨fun i _=>i<n,fun i H x H'=>H'=H/\x = .int (lo+i),fun i _=>n<=i⟩
def JQ {w:World}{K:vF_}(a it:Addr):Turn P w K tg (gI K a) [it] it (fun i h=>h.IsListIter it a i) where
 mem:=by simp
 obj:=fun i h st b hb=>by
  have e:b=it:=by simpa using hb
  subst e;obtain⟨o,e,c,d⟩:=st;exact⟨o,e,fun v z=>by rw[d] at z;cases z⟩
 keep:=fun i h h' st k=>st.at fun o e=>k it (by simp) o e
 item:=by
  intro X hP hw hK hc i pins s σ H E I hf st W;subst hP hw hK;obtain⟨xs,x,M,Z⟩:=W;obtain⟨its,rv,p,hz⟩:=I.list M;obtain⟨u,hu,ru⟩:=rv.get Z;obtain⟨U,f1,f2,Y,f4,f5⟩:=hf it (by simp);refine wpAny_pyNext_list_item st p.isList (x:=u) (by simpa using hu) fun h' J sb=>?_
  have I1:Inv X pins σ H { s with heap:=h' }:=I.turned (t':=s.toks) (fun b o hb e=>(sb.2 b hb).trans e) U f1 Y f4 f5;obtain⟨o,e,c,d⟩:=id J;exact⟨u,rfl,sT (s:={ s with heap:=h' }) e c d (by decide) ⟨x,H,I1,ru,⟨rfl,fun ys hy=>by rw[I.list_inj hy M];exact Z⟩,J,fun b hb=>(hf b hb).1⟩⟩
 done:=by
  intro X hP hw hK hc i pins s σ H E I hf st W;subst hP hw hK;obtain⟨xs,M,Z⟩:=W;obtain⟨its,rv,p,hz⟩:=I.list M;obtain⟨U,f1,f2,Y,f4,f5⟩:=hf it (by simp);have hl:=rv.length;exact wpAny_pyNext_list_end (I.ok.hd hc) st p.isList (by simp;omega) fun h' eb=>⟨rfl,I.turned (t':=s.toks) (fun b o hb e=>eb b o hb e) U f1 Y f4 f5⟩
 self:=fun _ _ _ _ _ st h=>wpAny_pyIter_listiter st h
def Od {w:World}{K:vF_}(a it:Addr):Turn P w K tg (iY K a) [it] it (fun i h=>h.IsTupleIter it a i) where
 mem:=by simp
 obj:=fun i h st b hb=>by
  have e:b=it:=by simpa using hb
  subst e;obtain⟨o,e,c,d⟩:=st;exact⟨o,e,fun v z=>by rw[d] at z;cases z⟩
 keep:=fun i h h' st k=>st.at fun o e=>k it (by simp) o e
 item:=by
  intro X hP hw hK hc i pins s σ H E I hf st Y;subst hP hw hK;obtain⟨xs,x,U,hx⟩:=Y;obtain⟨J,rv,p,hz⟩:=I.tuple U;obtain⟨u,hu,ru⟩:=rv.get hx;obtain⟨W,f1,f2,Z,f4,f5⟩:=hf it (by simp);refine wpAny_pyNext_tuple_item st (show s.heap.IsTuple a J.toArray from p) (x:=u) (by simpa using hu) fun h' M sb=>?_
  have I1:Inv X pins σ H { s with heap:=h' }:=I.turned (t':=s.toks) (fun b o hb e=>(sb.2 b hb).trans e) W f1 Z f4 f5;obtain⟨o,e,c,d⟩:=id M;exact⟨u,rfl,sT (s:={ s with heap:=h' }) e c d (by decide) ⟨x,H,I1,ru,⟨rfl,fun ys hy=>by rw[I.tuple_inj hy U];exact hx⟩,M,fun b hb=>(hf b hb).1⟩⟩
 done:=by
  intro X hP hw hK hc i pins s σ H E I hf st Y;subst hP hw hK;obtain⟨xs,U,hx⟩:=Y;obtain⟨J,rv,p,hz⟩:=I.tuple U;obtain⟨W,f1,f2,Z,f4,f5⟩:=hf it (by simp);have hl:=rv.length;exact wpAny_pyNext_tuple_end (I.ok.hd hc) st (show s.heap.IsTuple a J.toArray from p) (by simp;omega) fun h' eb=>⟨rfl,I.turned (t':=s.toks) (fun b o hb e=>eb b o hb e) W f1 Z f4 f5⟩
 self:=fun _ _ _ _ _ st h=>wpAny_pyIter_tupleiter st h
def HR {w:World}{K:vF_}(it:Addr) (lo:Int) (n:Nat):Turn P w K tg (fB lo n) [it] it (fun i h=>IsRangeIter h it (lo+(i:Nat)*1) ((n:Int) - (i:Nat)) 1) where
 mem:=by simp
 obj:=fun i h st b hb=>by
  have e:b=it:=by simpa using hb
  subst e;exact⟨_,st,fun v z=>by
   have z':Data.fields _=Data.cell v:=z;cases z'⟩
 keep:=fun i h h' st k=>k it (by simp) _ st
 item:=by
  intro X hP hw hK hc i pins s σ H E I hf st Y;subst hP hw hK;obtain⟨M,f1,f2,U,f4,Z⟩:=hf it (by simp);have W:=Walks.range (prog:=X.prog) (w:=X.w) (I.ok.hd hc) it lo 1 n;refine W.item i s _ _ Y st fun v h' tk hv J kk=>?_
  obtain⟨t,rfl⟩:=hv;have I1:Inv X pins σ H { s with heap:=h',toks:=tk }:=I.turned (fun b o hb e=>kk b o (by simpa using hb) e) M f1 U f4 Z;refine⟨_,rfl,sT (s:={ s with heap:=h',toks:=tk }) (n := "range_iterator") J rfl rfl (by decide) ⟨.int (lo+i),H,I1,⟨t,?_⟩,⟨rfl,rfl⟩,J,fun b hb=>(hf b hb).1⟩⟩;rw[Int.mul_one]
 done:=by
  intro X hP hw hK hc i pins s σ H E I hf st Y;subst hP hw hK;obtain⟨M,f1,f2,U,f4,Z⟩:=hf it (by simp);exact wpAny_pyNext_range_end (I.ok.hd hc) st (by have:n<=i:=Y;omega) fun h' eb=>⟨rfl,I.turned (t':=s.toks) (fun b o hb e=>eb b o hb e) M f1 U f4 Z⟩
 self:=fun _ _ _ _ _ st h=>wpAny_pyIter_rangeiter st h
section
variable {X:Cx}{tg:Expr}
def JE {pins:vP_}{s:Shared}{R:It->Hp->Prop}{E:vQ_}{lo hi:Int}{t u v:Tok}{M:Nat}(I:Inv X pins σ H s) (h1:-(2 ^ 62)<=lo) (h2:lo<2 ^ 62) (h3:-(2 ^ 62)<=hi) (U:hi<2 ^ 62)
  (q:R (fB lo (hi - lo).toNat) H):wpAny (model X.prog X.w) X.A (pyIter (.ref s.heap.objs.size)) (ye X pins σ tg R) E { s with heap:=s.heap.push { cls:=.type "range",data:=.fields #[.int lo t,.int hi u,.int 1 v] },toks:=M }:=by
 refine wpAny_pyIter_range (IsRange.new ..) (small_one h1 h2 h3 U) ?_;have J:Inv X pins σ H { s with heap:=s.heap.push { cls:=.type "range",data:=.fields #[.int lo t,.int hi u,.int 1 v] },toks:=M }:=I.kept fun b o e=>Sx _ e
 refine⟨(s.heap.push { cls:=.type "range",data:=.fields #[.int lo t,.int hi u,.int 1 v] }).objs.size,[(s.heap.push { cls:=.type "range",data:=.fields #[.int lo t,.int hi u,.int 1 v] }).objs.size],_,_,H,rfl,
  J.kept (t':=M) fun b o e=>Sx _ e,HR _ lo (hi - lo).toNat,?_,fun b hb=>?_,q⟩
 .have Y:lo+((0:Nat):Int)*1=lo:=by simp
  have W:(((hi - lo).toNat:Nat):Int) - ((0:Nat):Int)=Builtin.Range.rangeSize lo hi 1:=by rw[rangeSize_one];split <;> omega
  show IsRangeIter _ _ (lo+((0:Nat):Int)*1) ((((hi - lo).toNat:Nat):Int) - ((0:Nat):Int)) 1;rw[Y,W];exact Tc _ rfl
 .have e:b=(s.heap.push { cls:=.type "range",data:=.fields #[.int lo t,.int hi u,.int 1 v] }).objs.size:=by simpa using hb
  subst e;exact J.fpOk (Su _) (J.hok.fresh (Su _))
def FX (ta:TA):TI:=fun σ H R=>ta σ H fun J H1=>∃j:Int,J=[.int j] /\ -(2 ^ 62)<=j/\j<2 ^ 62/\R (fB 0 j.toNat) H1
def OW {p pos:Pos}(M:Gl X "range") (Y:X.mg "range" = none) (ha:PA X [a] ta) (Z:starEach [a] X.env=[(false,eval a X.env)]:=by rfl):PI X tg (.Call (.Name "range" p) [a] [] pos) (FX ta):=by
 intro pins s σ H R I h;refine Call_ (bJ I M Y boot_range (Vb (t6 (ha pos pins s σ H _ I h) fun us s1 ⟨vs,H1,U,J,q1⟩=>?_) Z rfl));obtain⟨j,e,q1,q2,q⟩:=q1;subst e;cases J with
 |cons r W=>
  cases W;obtain⟨t,rfl⟩:=r;exact call_range_1 (JE U (by omega) (by omega) q1 q2 (by simpa using q))
def KR (wi:TI) (g:TG) (tb:TS):TS:=fun D σ H=>wi σ H fun J H1=>∃W:Nat->Nat->St->Hp->Prop,(∃m,W 0 m σ H1)/\∀i m σ H,W i m σ H ->
 (J.stop i H/\D.nx σ H)\/(J.go i H/\∃N:St->Hp->Prop,(∀σ' H',N σ' H'->∃m',m'<m/\W (i+1) m' σ' H')/\∀x H',J.yld i H x H'->g x σ H' fun σ2 H2=>tb { D with nx:=N,ct:=N,bk:=D.nx } σ2 H2)
def jw (fp:vL_) (h:Heap):List (Addr × Obj):=fp.filterMap fun b=>(h.get? b).map fun o=>(b,o)
def jr {fp:vL_}{h:Heap}{b:Addr}{o:Obj}(hb:b∈fp) (e:h.get? b=some o):(b,o)∈jw fp h:=List.mem_filterMap.mpr ⟨b,hb,by rw[e];rfl⟩
def QM {fp:vL_}{h:Heap}(hp:p∈jw fp h):p.1∈fp/\h.get? p.1=some p.2:=by
 obtain⟨b,hb,e⟩:=List.mem_filterMap.mp hp;cases q:h.get? b with
 |none=>rw[q] at e;cases e
 |some o=>
  rw[q] at e;have e':(b,o)=p:=Tb e;subst e';exact⟨hb,q⟩
def Inv.pinned {pins:vP_}{s:Shared}{fp:vL_}(I:Inv X pins σ H s) (hf:∀b∈fp,bB X pins H b) (J:∀b∈fp,∃o,s.heap.get? b=some o/\∀v,o.data ≠ .cell v):Inv X (pins++jw fp s.heap) σ H s:=
 I.pins_of fun p hp=>(SM.mp hp).elim (fun z=>I.pin p (Ts _ z)) fun z=>by
  obtain⟨hb,e⟩:=QM z;obtain⟨U,f1,M,_⟩:=hf p.1 hb;obtain⟨o,e',d⟩:=J p.1 hb;rw[e] at e';cases e';exact⟨e,U,f1,M,d⟩
def Inv.unpinned {pins pl:vP_}(I:Inv X (pins++pl) σ H s):Inv X pins σ H s:=I.pins_of fun p hp=>I.pin p (Ts _ (Ui _ hp))
def rZ {pos:Pos}(hp:PassesOwn (model X.prog X.w) X.A X.env X.xe) (hc:X.calm=true) (hi:PI X tg iter wi) (hg:PG X tg g) (hb:PSs X body tb)
  (hs:∀x,foldedSetIterable iter X.env x=pure x:=by intro _;rfl):PS X (.For tg iter body [] pos) (KR wi g tb):=by
 intro pins s σ H D I h;refine wpAny_For (t6 (hi pins s σ H _ I h) fun v s1 h1=>t6 h1 fun itv s2 h2=>?_) hs;obtain⟨it,fp,tn,J,H2,e,I2,T,st2,f2,W,⟨m0,w0⟩,turn⟩:=h2;subst e;have U:∀{H':Hp},(∀b∈fp,H' b=none)->∀b∈fp,bB X pins H' b:=fun hn b hb=>⟨hn b hb,(f2 b hb).2⟩
 refine codeAny_forLoop_any (fun n s'=>∃i σ' H',Inv X pins σ' H' s'/\tn i s'.heap/\(∀b∈fp,H' b=none)/\W i n σ' H') ?_ m0 ⟨0,σ,H2,I2,st2,fun b hb=>(f2 b hb).1,w0⟩;rintro n s3 ⟨i,σ3,H3,I3,st3,fr3,w3⟩;rcases turn i n σ3 H3 w3 with ⟨stop,qn⟩ | ⟨go,N,hN,step⟩
 .refine Va hp (t6 (T.done X rfl rfl rfl hc i pins s3 σ3 H3 X.xe I3 (U fr3) st3 stop) fun r s4 ⟨hr,I4⟩=>?_);subst hr;exact Wo ⟨σ3,H3,I4,qn⟩
 .refine Va hp (t6 (T.item X rfl rfl rfl hc i pins s3 σ3 H3 X.xe I3 (U fr3) st3 go) fun r s4 ⟨u,hr,h4⟩=>?_);subst hr;refine Va hp (t6 h4 fun _ s5 ⟨x,H5,I5,r5,y5,st5,fr5⟩=>?_);have I5':=I5.pinned (U fr5) (T.obj _ _ st5);refine Va hp (t6 (hg _ s5 σ3 H5 x u _ I5' r5 (step x H5 y5)) fun _ s6 ⟨σ6,H6,I6,q6⟩=>?_);refine Va hp (t6 (hb _ s6 σ6 H6 _ I6 q6) fun f s7 q7=>?_);have M:∀{σ7:St}{Z:Hp},Inv X (pins++jw fp s5.heap) σ7 Z s7->N σ7 Z->∃m,m<n/\∃i σ' H',Inv X pins σ' H' s7/\tn i s7.heap/\(∀b∈fp,H' b=none)/\W i m σ' H':=fun {σ7 Z} Y n7=>by
   obtain⟨m',hm,w7⟩:=hN σ7 Z n7;refine⟨m',hm,i+1,σ7,Z,Y.unpinned,T.keep _ _ _ st5 fun b hb o e=>(Y.pin (b,o) (Ts _ (Ts _ (jr hb e)))).1,fun b hb=>?_,w7⟩;obtain⟨o,e,d⟩:=T.obj _ _ st5 b hb;exact(Y.pin (b,o) (Ts _ (Ts _ (jr hb e)))).2.1
  cases f with
  |next=>obtain⟨σ7,Z,Y,n7⟩:=q7;exact M Y n7
  |cont=>obtain⟨σ7,Z,Y,n7⟩:=q7;exact M Y n7
  |brk=>obtain⟨σ7,Z,Y,q7⟩:=q7;exact⟨σ7,Z,Y.unpinned,q7⟩
  |ret v=>obtain⟨x7,σ7,Z,Y,r7,q7⟩:=q7;exact⟨x7,σ7,Z,Y.unpinned,r7,q7⟩
end
def Dg {K:vF_}{xs:List V}{g:TG}{tb:TS}{D:Ends}(J:Nat->St->Hp->Prop) (h0:J 0 σ H) (hl:∀i σ H,i<=xs.length->J i σ H->SqL K H a xs)
  (U:∀i x σ H,xs[i]? = some x->J i σ H->g x σ H fun σ2 H2=>tb { D with nx:=J (i+1),ct:=J (i+1),bk:=D.nx } σ2 H2) (hd:∀σ H,J xs.length σ H->D.nx σ H) :
  ∃W:Nat->Nat->St->Hp->Prop,(∃m,W 0 m σ H)/\∀i m σ H,W i m σ H ->
   ((gI K a).stop i H/\D.nx σ H)\/((gI K a).go i H/\∃N:St->Hp->Prop,(∀σ' H',N σ' H'->∃m',m'<m/\W (i+1) m' σ' H')/\∀x H',(gI K a).yld i H x H'->g x σ H' fun σ2 H2=>tb { D with nx:=N,ct:=N,bk:=D.nx } σ2 H2):=by
 refine⟨fun i m σ H=>m=xs.length - i/\i<=xs.length/\J i σ H,⟨xs.length,by simp,TR _,h0⟩,?_⟩;rintro i m σ H ⟨rfl,hi,p⟩;have q:=hl i σ H hi p;by_cases M:i<xs.length
 .refine .inr ⟨⟨xs,xs[i],q,by simp[M]⟩,J (i+1),fun σ' H' p'=>⟨xs.length - (i+1),by omega,rfl,M,p'⟩,fun x H' y=>?_⟩;obtain⟨e,y⟩:=y;subst e;exact U i x σ _ (y xs q) p
 .have e:i=xs.length:=by omega
  subst e;exact .inl ⟨⟨xs,q,Su _⟩,hd σ H p⟩
def nv {K:vF_}{xs:List V}{g:TG}{tb:TS}{D:Ends}(J:Nat->St->Hp->Prop) (h0:J 0 σ H) (hl:∀i σ H,i<=xs.length->J i σ H->SqT K H a xs)
  (U:∀i x σ H,xs[i]? = some x->J i σ H->g x σ H fun σ2 H2=>tb { D with nx:=J (i+1),ct:=J (i+1),bk:=D.nx } σ2 H2) (hd:∀σ H,J xs.length σ H->D.nx σ H) :
  ∃W:Nat->Nat->St->Hp->Prop,(∃m,W 0 m σ H)/\∀i m σ H,W i m σ H ->
   ((iY K a).stop i H/\D.nx σ H)\/((iY K a).go i H/\∃N:St->Hp->Prop,(∀σ' H',N σ' H'->∃m',m'<m/\W (i+1) m' σ' H')/\∀x H',(iY K a).yld i H x H'->g x σ H' fun σ2 H2=>tb { D with nx:=N,ct:=N,bk:=D.nx } σ2 H2):=by
 refine⟨fun i m σ H=>m=xs.length - i/\i<=xs.length/\J i σ H,⟨xs.length,by simp,TR _,h0⟩,?_⟩;rintro i m σ H ⟨rfl,hi,p⟩;have q:=hl i σ H hi p;by_cases M:i<xs.length
 .refine .inr ⟨⟨xs,xs[i],q,by simp[M]⟩,J (i+1),fun σ' H' p'=>⟨xs.length - (i+1),by omega,rfl,M,p'⟩,fun x H' y=>?_⟩;obtain⟨e,y⟩:=y;subst e;exact U i x σ _ (y xs q) p
 .have e:i=xs.length:=by omega
  subst e;exact .inl ⟨⟨xs,q,Su _⟩,hd σ H p⟩
def Po {lo:Int}{n:Nat}{g:TG}{tb:TS}{D:Ends}(J:Nat->St->Hp->Prop) (h0:J 0 σ H)
  (U:∀i σ H,i<n->J i σ H->g (.int (lo+i)) σ H fun σ2 H2=>tb { D with nx:=J (i+1),ct:=J (i+1),bk:=D.nx } σ2 H2) (hd:∀σ H,J n σ H->D.nx σ H) :
  ∃W:Nat->Nat->St->Hp->Prop,(∃m,W 0 m σ H)/\∀i m σ H,W i m σ H ->
   ((fB lo n).stop i H/\D.nx σ H)\/((fB lo n).go i H/\∃N:St->Hp->Prop,(∀σ' H',N σ' H'->∃m',m'<m/\W (i+1) m' σ' H')/\∀x H',(fB lo n).yld i H x H'->g x σ H' fun σ2 H2=>tb { D with nx:=N,ct:=N,bk:=D.nx } σ2 H2):=by
 refine⟨fun i m σ H=>m=n - i/\i<=n/\J i σ H,⟨n,by simp,TR _,h0⟩,?_⟩;rintro i m σ H ⟨rfl,hi,p⟩;by_cases M:i<n
 .refine .inr ⟨M,J (i+1),fun σ' H' p'=>⟨n - (i+1),by omega,rfl,M,p'⟩,fun x H' y=>?_⟩;obtain⟨e,y⟩:=y;subst e y;exact U i σ _ M p
 .have e:i=n:=by omega
  subst e;exact .inl ⟨Su _,hd σ H p⟩
abbrev R2:=V->V->Hp->VK->Prop
def OpR (X:Cx) (f:Value->Value->Sem Value) (r:R2):Prop:=
 ∀(pins:vP_) (s:Shared) (σ:St) (H:Hp) (x y:V) (v u:Value) (Q:VK),Inv X pins σ H s->RelV x v->RelV y u->r x y H Q ->
  wpAny (model X.prog X.w) X.A (f v u) (EP X pins σ Q) X.xe s
def jE (X:Cx) (f:Value->Sem Value) (r:V->Hp->VK->Prop):Prop:=
 ∀(pins:vP_) (s:Shared) (σ:St) (H:Hp) (x:V) (v:Value) (Q:VK),Inv X pins σ H s->RelV x v->r x H Q ->
  wpAny (model X.prog X.w) X.A (f v) (EP X pins σ Q) X.xe s
def CallR (X:Cx) (f:Value) (r:List V->Hp->VK->Prop):Prop:=
 ∀(pins:vP_) (s:Shared) (σ:St) (H:Hp) (xs:List V) (us:vV_) (Q:VK),Inv X pins σ H s->Vals xs us->r xs H Q ->
  wpAny (model X.prog X.w) X.A (call f us) (EP X pins σ Q) X.xe s
def Mp (X:Cx) (r:V->Hp->(Bool->Hp->Prop)->Prop):Prop:=
 ∀(pins:vP_) (s:Shared) (σ:St) (H:Hp) (x:V) (v:Value) (Q:Bool->Hp->Prop),Inv X pins σ H s->RelV x v->r x H Q ->
  wpAny (model X.prog X.w) X.A (truthy v) (TP X pins σ Q) X.xe s
def fO (r:R2) (ta tb:TE):TE:=fun σ H Q=>ta σ H fun x H1=>tb σ H1 fun y H2=>r x y H2 Q
def RQ (r:V->Hp->VK->Prop) (ta:TE):TE:=fun σ H Q=>ta σ H fun x H1=>r x H1 Q
def rI (C:Int->Int->Prop) (g:Int->Int->V):R2:=fun x y H Q=>∃i j,x = .int i/\y = .int j/\C i j/\Q (g i j) H
def X0 (g:Int->Int->V):R2:=fun x y H Q=>∃i j,x = .int i/\y = .int j/\Q (g i j) H
def rU (g:Int->V):V->Hp->VK->Prop:=fun x H Q=>∃i,x = .int i/\Q (g i) H
section
variable {X:Cx}{a b c:Expr}{ta tb tc:TE}{pos:Pos}
def qR (ha:PE X a ta) (hb:PE X b tb) {pins:vP_}{R:V->V->Hp->Prop}(I:Inv X pins σ H s)
  (h:ta σ H fun x H1=>tb σ H1 fun y H2=>R x y H2) {Q:vQ_}{f:Value->Value->Sem Value}
  (hf:∀v u s2 x y H2,Inv X pins σ H2 s2->RelV x v->RelV y u->R x y H2->wpAny (model X.prog X.w) X.A (f v u) Q X.xe s2) :
  wpAny (model X.prog X.w) X.A (eval a X.env) (fun v s₁=>wpAny (model X.prog X.w) X.A (eval b X.env) (fun u s₂=>wpAny (model X.prog X.w) X.A (f v u) Q X.xe s₂) X.xe s₁) X.xe s:=by
 refine t6 (ha pins s σ H _ I h) fun v s1 ⟨x,H1,M,J,q1⟩=>?_
 refine t6 (hb pins s1 σ H1 _ M q1) fun u s2 ⟨y,H2,W,U,q2⟩=>?_
 exact hf v u s2 x y H2 W J U q2
def vF {J:Operator}(W:OpR X (binaryOp J) r) (ha:PE X a ta) (hb:PE X b tb):PE X (.BinOp a J b pos) (fO r ta tb):=by
 intro pins s σ H Q I h;exact wpAny_BinOp (qR ha hb I h fun v u s2 x y H2 U M Y q=>W pins s2 σ H2 x y v u Q U M Y q)
def NZ {J:UnaryOp}(M:jE X (unaryOp J) r) (ha:PE X a ta):PE X (.UnaryOp J a pos) (RQ r ta):=by
 intro pins s σ H Q I h;exact UnaryOp_ (t6 (ha pins s σ H _ I h) fun v s1 ⟨x,H1,W,U,q1⟩=>M pins s1 σ H1 x v Q W U q1)
def ka {C:Int->Int->Prop}{g:Int->Int->Int}
  (J:∀(i j:Int) (t u:Tok) (s:Shared) (Q:vQ_) (E:vQ_),C i j->Q (.int (g i j) s.toks) { s with toks:=s.toks+1 }->wpAny (model X.prog X.w) X.A (f (.int i t) (.int j u)) Q E s) :
  OpR X f (rI C fun i j=>.int (g i j)):=by
 intro pins s σ H x y v u Q I M U h;obtain⟨i,j,rfl,rfl,W,q⟩:=h;obtain⟨t,rfl⟩:=M;obtain⟨t',rfl⟩:=U;exact J i j t t' s _ _ W ⟨.int (g i j),H,I.tok _,⟨_,rfl⟩,q⟩
def CV {g:Int->Int->Int}
  (J:∀(i j:Int) (t u:Tok) (s:Shared) (Q:vQ_) (E:vQ_),Q (.int (g i j) s.toks) { s with toks:=s.toks+1 }->wpAny (model X.prog X.w) X.A (f (.int i t) (.int j u)) Q E s) :
  OpR X f (X0 fun i j=>.int (g i j)):=by
 intro pins s σ H x y v u Q I M U h;obtain⟨i,j,rfl,rfl,q⟩:=h;obtain⟨t,rfl⟩:=M;obtain⟨t',rfl⟩:=U;exact J i j t t' s _ _ ⟨.int (g i j),H,I.tok _,⟨_,rfl⟩,q⟩
def jV {f:Value->Value->Sem Value}{g:Int->Int->Bool}
  (J:∀(i j:Int) (t u:Tok) (s:Shared) (Q:vQ_) (E:vQ_),Q (.bool (g i j)) s->wpAny (model X.prog X.w) X.A (f (.int i t) (.int j u)) Q E s) :
  OpR X f (X0 fun i j=>.bl (g i j)):=by
 intro pins s σ H x y v u Q I M U h;obtain⟨i,j,rfl,rfl,q⟩:=h;obtain⟨t,rfl⟩:=M;obtain⟨t',rfl⟩:=U;exact J i j t t' s _ _ ⟨.bl (g i j),H,I,rfl,q⟩
def DK (i j:Int):Prop:=0<=j/\j<=1000000/\i.natAbs<2 ^ 64
def op_add:OpR X (binaryOp .Add) (X0 fun i j=>.int (i+j)):=CV fun _ _ _ _ _ _ _ q=>add_int q
def Nk:OpR X (binaryOp .Sub) (X0 fun i j=>.int (i - j)):=CV fun _ _ _ _ _ _ _ q=>sub_int q
def RZ:OpR X (binaryOp .Mod) (rI (fun _ j=>j≠0) fun i j=>.int (i.fmod j)):=ka fun _ _ _ _ _ _ _ J q=>mod_int' J q
def HW:OpR X (binaryOp .Pow) (rI DK fun i j=>.int (i ^ j.toNat)):=ka fun _ _ _ _ _ _ _ J q=>pow_int_small J.1 J.2.1 J.2.2 q
def Nh {g:Int->Int}
  (J:∀(i:Int) (t:Tok) (s:Shared) (Q:vQ_) (E:vQ_),Q (.int (g i) s.toks) { s with toks:=s.toks+1 }->wpAny (model X.prog X.w) X.A (f (.int i t)) Q E s) :
  jE X f (rU fun i=>.int (g i)):=by
 intro pins s σ H x v Q I M h;obtain⟨i,rfl,q⟩:=h;obtain⟨t,rfl⟩:=M;exact J i t s _ _ ⟨.int (g i),H,I.tok _,⟨_,rfl⟩,q⟩
def Nd:jE X (unaryOp .USub) (rU fun i=>.int (-i)):=Nh fun _ _ _ _ _ q=>neg_int q
end
def uT:V->V->Bool
 |.non,.non=>true | .non,.int _=>true | .int _,.non=>true | .non,.bl _=>true | .bl _,.non=>true | .non,.str _=>true | .str _,.non=>true
 |.int _,.int _=>true | .bl _,.bl _=>true | .str _,.str _=>true | .byt _,.byt _=>true
 |.int _,.str _=>true | .str _,.int _=>true | .bl _,.str _=>true | .str _,.bl _=>true
 |_,_=>false
def nX:R2:=fun x y H Q=>uT x y=true/\Q (.bl (decide (x=y))) H
def qm:R2:=fun x y H Q=>uT x y=true/\Q (.bl (!decide (x=y))) H
def yd {i j:Int}:decide (V.int i=V.int j)=(i == j):=by
 rw[Ua];simp
def An :decide (V.bl i=V.bl j)=(i == j):=by
 rw[Ua];simp
def vC :decide (V.str i=V.str j)=(i == j):=by
 rw[Ua];simp
def Bh {i j:Array UInt8}:decide (V.byt i=V.byt j)=(i.toList == j.toList):=by
 rw[Ua];cases i;cases j;simp
section
variable {X:Cx}{a b c:Expr}{ta tb tc:TE}{pos:Pos}
def D7 {pins:vP_}{Q:VK}{k k':Bool}(I:Inv X pins σ H s) (q:Q (.bl k) H) (e:k=k'):EP X pins σ Q (.bool k') s:=by
 subst e;exact⟨.bl k,H,I,rfl,q⟩
def op_eq:OpR X (compareOp .Eq) nX:=by
 intro pins s σ H x y v u Q I U J h;obtain⟨M,q⟩:=h;cases x with
 |non=>
  cases U;cases y with
  |non=>cases J;exact PySem.EqNone.eq_none_none (D7 I q (by simp))
  |bl j=>cases J;exact PySem.EqNone.eq_none_bool (D7 I q (by simp))
  |int j=>obtain⟨t',rfl⟩:=J;exact PySem.EqNone.eq_none_int (D7 I q (by simp))
  |str j=>obtain⟨t',rfl⟩:=J;exact PySem.EqNone.eq_none_str (D7 I q (by simp))
  |_=>exact absurd (show false=true from M) Sy
 |bl i=>
  cases U;cases y with
  |non=>cases J;exact PySem.EqNone.eq_bool_none (D7 I q (by simp))
  |bl j=>cases J;exact eq_bool (D7 I q An)
  |str j=>obtain⟨t',rfl⟩:=J;exact PySem.EqMixed.eq_bool_str (D7 I q (by simp))
  |_=>exact absurd (show false=true from M) Sy
 |int i=>
  obtain⟨t,rfl⟩:=U;cases y with
  |non=>cases J;exact PySem.EqNone.eq_int_none (D7 I q (by simp))
  |int j=>obtain⟨t',rfl⟩:=J;exact eq_int (D7 I q yd)
  |str j=>obtain⟨t',rfl⟩:=J;exact PySem.EqMixed.eq_int_str (D7 I q (by simp))
  |_=>exact absurd (show false=true from M) Sy
 |str i=>
  obtain⟨t,rfl⟩:=U;cases y with
  |non=>cases J;exact PySem.EqNone.eq_str_none (D7 I q (by simp))
  |bl j=>cases J;exact PySem.EqMixed.eq_str_bool (D7 I q (by simp))
  |int j=>obtain⟨t',rfl⟩:=J;exact PySem.EqMixed.eq_str_int (D7 I q (by simp))
  |str j=>obtain⟨t',rfl⟩:=J;exact eq_str (D7 I q vC)
  |_=>exact absurd (show false=true from M) Sy
 |byt i=>
  obtain⟨t,rfl⟩:=U;cases y with
  |byt j=>obtain⟨t',rfl⟩:=J;exact PySem.W.eq_bytes (D7 I q Bh)
  |_=>exact absurd (show false=true from M) Sy
 |_=>cases y <;> exact absurd (show false=true from M) Sy
def op_ne:OpR X (compareOp .NotEq) qm:=by
 intro pins s σ H x y v u Q I U J h;obtain⟨M,q⟩:=h;cases x with
 |non=>
  cases U;cases y with
  |non=>cases J;exact PySem.EqNone.ne_none_none (D7 I q (by simp))
  |bl j=>cases J;exact PySem.EqNone.ne_none_bool (D7 I q (by simp))
  |int j=>obtain⟨t',rfl⟩:=J;exact PySem.EqNone.ne_none_int (D7 I q (by simp))
  |str j=>obtain⟨t',rfl⟩:=J;exact PySem.EqNone.ne_none_str (D7 I q (by simp))
  |_=>exact absurd (show false=true from M) Sy
 |bl i=>
  cases U;cases y with
  |non=>cases J;exact PySem.EqNone.ne_bool_none (D7 I q (by simp))
  |bl j=>cases J;exact ne_bool (D7 I q (congrArg not An))
  |str j=>obtain⟨t',rfl⟩:=J;exact PySem.EqMixed.ne_bool_str (D7 I q (by simp))
  |_=>exact absurd (show false=true from M) Sy
 |int i=>
  obtain⟨t,rfl⟩:=U;cases y with
  |non=>cases J;exact PySem.EqNone.ne_int_none (D7 I q (by simp))
  |int j=>obtain⟨t',rfl⟩:=J;exact ne_int (D7 I q (congrArg not yd))
  |str j=>obtain⟨t',rfl⟩:=J;exact PySem.EqMixed.ne_int_str (D7 I q (by simp))
  |_=>exact absurd (show false=true from M) Sy
 |str i=>
  obtain⟨t,rfl⟩:=U;cases y with
  |non=>cases J;exact PySem.EqNone.ne_str_none (D7 I q (by simp))
  |bl j=>cases J;exact PySem.EqMixed.ne_str_bool (D7 I q (by simp))
  |int j=>obtain⟨t',rfl⟩:=J;exact PySem.EqMixed.ne_str_int (D7 I q (by simp))
  |str j=>obtain⟨t',rfl⟩:=J;exact ne_str (D7 I q (congrArg not vC))
  |_=>exact absurd (show false=true from M) Sy
 |byt i=>
  obtain⟨t,rfl⟩:=U;cases y with
  |byt j=>obtain⟨t',rfl⟩:=J;exact PySem.W.ne_bytes (D7 I q (congrArg not Bh))
  |_=>exact absurd (show false=true from M) Sy
 |_=>cases y <;> exact absurd (show false=true from M) Sy
def ND:OpR X (compareOp .Lt) (X0 fun i j=>.bl (decide (i<j))):=jV fun _ _ _ _ _ _ _ q=>lt_int q
def Ju:OpR X (compareOp .LtE) (X0 fun i j=>.bl (decide (i<=j))):=jV fun _ _ _ _ _ _ _ q=>le_int q
def JT:OpR X (compareOp .Gt) (X0 fun i j=>.bl (decide (j<i))):=jV fun _ _ _ _ _ _ _ q=>gt_int q
def Qr:OpR X (compareOp .GtE) (X0 fun i j=>.bl (decide (j<=i))):=jV fun _ _ _ _ _ _ _ q=>ge_int q
def Pk:OpR X (compareOp .Is) (fun x y H Q=>y = .non/\Q (.bl (decide (x = .non))) H):=by
 intro pins s σ H x y v u Q I J M h;obtain⟨rfl,q⟩:=h;cases M;refine is_none_gen (D7 I q ?_);cases x <;> first
  | (cases J;rfl)
  | (obtain⟨t,rfl⟩:=J;rfl)
def PY:OpR X (compareOp .IsNot) (fun x y H Q=>y = .non/\Q (.bl (!decide (x = .non))) H):=by
 intro pins s σ H x y v u Q I J M h;obtain⟨rfl,q⟩:=h;cases M;refine isnot_none_gen (D7 I q ?_);cases x <;> first
  | (cases J;rfl)
  | (obtain⟨t,rfl⟩:=J;rfl)
def OpR.or {r M:R2}(h:OpR X f r) (h':OpR X f M):OpR X f (fun x y H Q=>r x y H Q\/M x y H Q):=by
 intro pins s σ H x y v u Q I U J q;rcases q with q | q
 .exact h pins s σ H x y v u Q I U J q
 .exact h' pins s σ H x y v u Q I U J q
def BB (b:Expr) {J:CmpOp}(h:J ≠ .In:=by decide) (h2:J ≠ .NotIn:=by decide):behindInMarks J b=false:=by
 have U:(J == CmpOp.In)=false:=by cases J <;> first | rfl | exact absurd rfl h
 have M:(J == CmpOp.NotIn)=false:=by cases J <;> first | rfl | exact absurd rfl h2
 cases b <;> simp[behindInMarks,U,M]
def Fb {J:CmpOp}(W:OpR X (compareOp J) r) (ha:PE X a ta) (hb:PE X b tb) (Z:behindInMarks J b=false):PE X (.Compare a [J] [b] pos) (fO r ta tb):=by
 intro pins s σ H Q I h;exact wpAny_Compare1 (qR ha hb I h fun v u s2 x y H2 U M Y q=>W pins s2 σ H2 x y v u Q U M Y q) Z
def Nl (t:TE):TT:=fun σ H Q=>t σ H fun x H'=>∃k,x = .bl k/\Q k H'
def Kp {J:CmpOp}(ho:OpR X (compareOp J) r) (ha:PE X a ta) (hb:PE X b tb) (hm:behindInMarks J b=false):PT X (.Compare a [J] [b] pos) (Nl (fO r ta tb)):=by
 intro pins s σ H Q I h;refine wpAny_isTrue_Compare1 (t6 (ha pins s σ H _ I h) fun v s1 ⟨x,H1,Y,W,q1⟩=>t6 (hb pins s1 σ H1 _ Y q1) fun u s2 ⟨y,H2,Z,U,q2⟩=>
  t6 (ho pins s2 σ H2 x y v u _ Z W U q2) fun c s3 ⟨z,M,I3,r3,k,e,q3⟩=>?_) hm
 subst e;cases r3;exact VJ ⟨M,I3,q3⟩
def AH (K:vF_) (x:V) (H:Hp) (k:Bool):Prop:=
 match x with
 |.non=>k=false
 |.bl b=>k=b
 |.int i=>k=(i != 0)
 |.str y=>y.length<=sizeLine/\k=((y.length:Int) != 0)
 |.byt y=>y.size<=sizeLine/\k=((y.size:Int) != 0)
 |.ref p=>(∃xs,SqL K H p xs/\k = !xs.isEmpty)\/(∃xs,SqT K H p xs/\k = !xs.isEmpty)\/∃kvs,H p=some (.dK kvs)/\k = !kvs.isEmpty
 |_=>False
def EB {κ:Type}{J:List (κ × V)}{M:List (κ × Value)}(r:KV J M):(!M.isEmpty) = !J.isEmpty:=by
 cases r <;> rfl
def xM {xs:List V}{J:vV_}(r:Vals xs J):(!J.toArray.isEmpty) = !xs.isEmpty:=by
 cases r <;> simp
def iq:(sizeLine:Nat)<2 ^ 63:=by rw[Wq];decide
def Ey:Mp X (fun x H Q=>∃k,AH X.K x H k/\Q k H):=by
 intro pins s σ H x v Q I U h;obtain⟨k,e,q⟩:=h;have hl:=iq;have hs:sizeLine=16777216:=Wq;cases x with
 |non=>
  cases U;have e':k=false:=e;subst e';exact truthy_none ⟨H,I,q⟩
 |bl b=>
  cases U;have e':k=b:=e;subst e';exact VJ ⟨H,I,q⟩
 |int i=>
  obtain⟨t,rfl⟩:=U;have e':k=(i != 0):=e;subst e';exact PySem.P.truthy_int ⟨H,I,q⟩
 |str y=>
  obtain⟨t,rfl⟩:=U;obtain⟨hy,e'⟩:y.length<=sizeLine/\k=((y.length:Int) != 0):=e;subst e';exact PySem.P.truthy_str (by omega) ⟨H,I.tok _,q⟩
 |byt y=>
  obtain⟨t,rfl⟩:=U;obtain⟨hy,e'⟩:y.size<=sizeLine/\k=((y.size:Int) != 0):=e;subst e';exact PySem.W.truthy_bytes (by omega) ⟨H,I.tok _,q⟩
 |ref p=>
  cases U;have e':(∃xs,SqL X.K H p xs/\k = !xs.isEmpty)\/(∃xs,SqT X.K H p xs/\k = !xs.isEmpty)\/∃J,H p=some (.dK J)/\k = !J.isEmpty:=e;rcases e' with ⟨xs,Y,e'⟩ | ⟨xs,Y,e'⟩ | ⟨J,Y,e'⟩
  .subst e';obtain⟨Z,r,pl,hz⟩:=I.list Y;have M:=r.length;exact wpAny_truthy_list pl.isList (by simp only[SY];omega) ⟨H,I.tok _,by rw[xM r];exact q⟩
  .subst e';obtain⟨Z,r,pl,hz⟩:=I.tuple Y;have M:=r.length;exact truthy_tuple pl (by simp only[SY];omega) ⟨H,I.tok _,by rw[xM r];exact q⟩
  .subst e';obtain⟨hz,hS,vs,r,m⟩:J.length<=sizeLine/\(p == sysModules)=false/\∃vs,KV J vs/\s.heap.DictOf (L3 X.prog X.w) p vs:=I.hok p _ Y;have M:J.length=vs.length:=Wk r;exact wpAny_truthy_dict hS m (by omega) ⟨H,I.tok _,by rw[EB r];exact q⟩
 |_=>exact(show False from e).elim
def RL (ha:PE X a ta) (M:∀whole,isTrue a X.env whole=(do let v <-whole;standAt a.pos;holding [v] (truthy v))) :
  PT X a (fun σ H Q=>ta σ H fun x H'=>∃k,AH X.K x H' k/\Q k H'):=by
 intro pins s σ H Q I h;exact isTrue_plain (t6 (ha pins s σ H _ I h) fun v s1 ⟨x,H1,U,J,q1⟩=>Ey pins s1 σ H1 x v Q U J q1) (M _)
def My:OpR X (binaryOp .Add) (fun x y H Q=>∃i j,x = .str i/\y = .str j/\i.length+j.length<=sizeLine/\Q (.str (i++j)) H):=by
 intro pins s σ H x y v u Q I J M h;obtain⟨i,j,rfl,rfl,U,q⟩:=h;obtain⟨t,rfl⟩:=J;obtain⟨t',rfl⟩:=M;exact add_str (fun t' W=>⟨.str (i++j),H,I.tok _,⟨_,rfl⟩,q⟩) U
def aD {J:vV_}(r:Vals [x] J):∃u,J=[u]/\RelV x u:=by
 cases r with
 |cons U M=>cases M;exact⟨_,rfl,U⟩
def HE:CallR X (.builtin "abs") (fun xs H Q=>∃i,xs=[.int i]/\Q (.int (if i<0 then -i else i)) H):=by
 intro pins s σ H xs M Q I r h;obtain⟨i,rfl,q⟩:=h;obtain⟨u,rfl,t,rfl⟩:=aD r;exact call_abs_int fun u J=>⟨.int (if i<0 then -i else i),H,I.tok _,⟨_,rfl⟩,q⟩
def HS:CallR X (.type "int") (fun xs H Q=>(∃i,xs=[.int i]/\Q (.int i) H)\/∃k,xs=[.bl k]/\Q (.int (if k then 1 else 0)) H):=by
 intro pins s σ H xs M Q I r h;rcases h with ⟨i,rfl,q⟩ | ⟨k,rfl,q⟩
 .obtain⟨u,rfl,t,rfl⟩:=aD r;exact call_int_int ⟨.int i,H,I,⟨_,rfl⟩,q⟩
 .obtain⟨u,rfl,J⟩:=aD r;cases J;exact call_int_bool ⟨.int (if k then 1 else 0),H,I.tok _,⟨_,rfl⟩,q⟩
end
def RelO.some_of {v:V}{o:Option Value}(r:RelO (some v) o):∃u,o=some u/\RelV v u:=by
 cases o with
 |none=>exact(show False from r).elim
 |some u=>exact⟨u,rfl,r⟩
structure Room (k:Nat) (A:Around):Prop where
 hd:A.handled=none
 dp:A.depth+3*k+5<recursionLimit
 un:A.units+16*k+200<cLine
 gd:A.guards=some []
def Room.mono {j k:Nat}(r:Room k A) (h:j<=k):Room j A:=⟨r.hd,by have:=r.dp;omega,by have:=r.un;omega,r.gd⟩
theorem Room.deeper {k:Nat}{A:Around}(r:Room (k+1) A) (J:Env):Room k (A.deeper J):=
 ⟨r.hd,by have:=r.dp;show A.depth+1+3*k+5<_;omega,by have:=r.un;show A.units+3+16*k+200<_;omega,r.gd⟩
theorem Room.depth {k:Nat}{A:Around}(r:Room k A):A.depth<recursionLimit:=by have:=r.dp;omega
theorem Room.units {k:Nat}{A:Around}(r:Room k A):A.units+64<cLine:=by have:=r.un;omega
def yA:TA:=fun _ H Q=>Q [] H
def pJ (ta:TE) (J:TA):TA:=fun σ H Q=>ta σ H fun x H1=>J σ H1 fun xs H2=>Q (x::xs) H2
section
variable {X:Cx}{e:Expr}{es:List Expr}{te:TE}{t:TA}{pos:Pos}
def iQ:PA X [] yA:=fun _ _ _ _ H Q I h=>Xt ⟨[],H,I,.nil,h⟩
def fL (ha:PE X e te) (J:PA X es t) (Z:starEach (e::es) X.env=(false,eval e X.env)::starEach es X.env:=by rfl):PA X (e::es) (pJ te t):=by
 intro pos pins s σ H Q I h;rw[Z];show wpAny _ _ (spliced ((false,eval e X.env)::backTo pos (starEach es X.env))) _ _ s;refine Xu (t6 (ha pins s σ H _ I h) fun u s1 ⟨x,H1,W,U,q1⟩=>?_);exact t6 (J pos pins s1 σ H1 _ W q1) fun us s2 ⟨xs,H2,Y,M,q2⟩=>⟨x::xs,H2,Y,.cons U M,q2⟩
def Qk (t:TA):TE:=fun σ H Q=>t σ H fun xs H1=>xs.length<=sizeLine/\∀p,H1 p=none->Q (.ref p) (k0 H1 p (.tup xs))
def Ho (t:TA):TE:=fun σ H Q=>t σ H fun xs H1=>xs.length<=sizeLine/\∀p,H1 p=none->Q (.ref p) (k0 H1 p (.lst xs))
def Em {x1} (h:PA X es t):PE X (.Tuple es x1 pos) (Qk t):=by
 intro pins s σ H Q I M;refine wpAny_Tuple_spliced (t6 (h pos pins s σ H _ I M) fun U s1 ⟨xs,H1,J,r,z,q⟩=>⟨by rw[<-r.length];exact z,?_⟩);have hf:H1 s1.heap.objs.size=none:=J.hok.fresh (Su _);refine⟨.ref s1.heap.objs.size,k0 H1 s1.heap.objs.size (.tup xs),J.laid (t':=s1.toks) (fun b u e=>Sx _ e) (Su _) ?_,rfl,q _ hf⟩;exact⟨z,U,r,⟨_,Tc _ rfl,rfl,_,rfl⟩⟩
def NM (h:PA X es t):PE X (.List es pos) (Ho t):=by
 intro pins s σ H Q I M;refine wpAny_List_spliced (t6 (h pos pins s σ H _ I M) fun U s1 ⟨xs,H1,J,r,z,q⟩=>⟨by rw[<-r.length];exact z,?_⟩);have hf:H1 s1.heap.objs.size=none:=J.hok.fresh (Su _);refine⟨.ref s1.heap.objs.size,k0 H1 s1.heap.objs.size (.lst xs),J.laid (t':=s1.toks) (fun b u e=>Sx _ e) (Su _) ?_,rfl,q _ hf⟩;exact⟨z,U,0,r,Tc _ rfl⟩
end
abbrev Sp:=List V->Hp->VK->XK->Prop
abbrev Y9:=List Env->Hp->Shared->XK->Value->Shared->Prop
structure Env0 (P:Program) (w:World) (K:vF_) (mg:vG_) (base:Heap) (A:Around) (outer:List Env) (s:Shared) (H:Hp):Prop where
 frames:A.frames=some outer
 mod:Mod K mg base
 bs:∀b o,base.get? b=some o->s.heap.get? b=some o/\H b=none
 bsz:base.objs.size<=s.heap.objs.size
 funs:s.heap.FunFrames base outer
 frf:∀b∈Y8 outer,H b=none
 hok:HOk P w H s.heap
 bare:AllBare s.gens
def CE (J:List Env) (P:Program) (w:World) (H:Hp) (s:Shared) (Q:VK) (u:Value) (s':Shared):Prop:=
 ∃v H',s'.os=s.os/\AllBare s'.gens/\Un (Y8 J) [] H H' s.heap s'.heap/\HOk P w H' s'.heap/\RelV v u/\Q v H'
def CR (CX:Y9) (J:List Env) (P:Program) (w:World) (H:Hp) (s:Shared) (Q:VK) (E:XK) (r:Result) (s':Shared):Prop:=
 match r with
 |.ok (.ret u)=>CE J P w H s Q u s'
 |.ok _=>False
 |.error e=>CX J H s E e s'
structure FnOk (P:Program) (w:World) (K:vF_) (mg:vG_) (base:Heap) (CX:Y9) (k:Nat) (f:Addr) (fd:FuncData) (ps:List Str) (sp:Sp):Prop where
 len:∀vs H Q E,sp vs H Q E->vs.length=ps.length
 run:∀(A:Around) (outer:List Env) (s:Shared) (H:Hp) (args:Args) (us:vV_) (vs:List V) (Q:VK) (E:XK),Room k A->Env0 P w K mg base A outer s H->BindsTo s fd args (ps.zip us)->Vals vs us->sp vs H Q E ->
  codeAny (model P w) A (.call (.ref f) args) (CR CX outer P w H s Q E) s
section
variable {X:Cx}{pins:vP_}{σ:St}{H:Hp}{s s':Shared}
def Inv.env0 (I:Inv X pins σ H s):Env0 X.prog X.w X.K X.mg X.base X.A X.stack s H:=
 ⟨I.ok.frames,I.ok.mod,I.bs,SI I.ok.bsz I.sz,I.stack,I.stkFree,I.hok,I.bare⟩
def Inv.after (I:Inv X pins σ H s) (h:CE X.stack X.prog X.w H s Q u s'):EP X pins σ Q u s':=by
 obtain⟨v,H',os,J,W,M,r,q⟩:=h;obtain⟨hh,g,d,t,U⟩:=s';obtain rfl:U=s.os:=os;exact⟨v,H',I.call (h':=hh) (g':=g) (d':=d) (t':=t) (ch:=[]) W M J (fun b z=>absurd z (by simp)),r,q⟩
end
def oy (sp:Sp) (dvs:List V) (E:XK) (t:TA):TE:=fun σ H Q=>t σ H fun J H1=>sp (J++dvs) H1 Q E
def Binds (K:vF_) (fd:FuncData) (ps:List Str) (ds:vV_):Prop:=
 ∀(s:Shared) (us:vV_),K.In s.heap->(us++ds).length=ps.length->BindsTo s fd ⟨us,[]⟩ (ps.zip (us++ds))
def Binds.all {K:vF_}{fd:FuncData}{ps:List Str}(h:∀us:List Value,us.length=ps.length->bindArgs fd ⟨us,[]⟩=pure (ps.zip us)):Binds K fd ps []:=fun s us _ hl=>by
 rw[Tt] at hl ⊢;exact .of_eq (h us hl)
def pP (CX:Y9) (X:Cx) (E:XK):Prop:=∀(pins:vP_) (σ:St) (H:Hp) (s:Shared) (e:Value) (s':Shared),Inv X pins σ H s->CX X.stack H s E e s'->X.xe e s'
section
variable {X:Cx}{CX:Y9}{k:Nat}{f C:Addr}{fd:FuncData}{ps:List Str}{sp:Sp}{dvs:List V}{ds:vV_}{E:XK}{x m:Str}{p pos apos:Pos}{e o:Expr}{es:List Expr}{ta:TE}{t:TA}
def tE {pins:vP_}{J:vV_}(F:FnOk X.prog X.w X.K X.mg X.base CX k f fd ps sp) (W:Room k X.A) (hb:Binds X.K fd ps ds) (hd:Vals dvs ds) (Y:pP CX X E)
  (I:Inv X pins σ H s) (r:Vals vs J) (h:sp (vs++dvs) H Q E):wpAny (model X.prog X.w) X.A (call (.ref f) J) (EP X pins σ Q) X.xe s:=by
 have U:Vals (vs++dvs) (J++ds):=r.append hd;have hl:(J++ds).length=ps.length:=by rw[<-U.length];exact F.len _ _ _ _ h
 refine wpAny_call (codeAny_mono (F.run X.A X.stack s H ⟨J,[]⟩ (J++ds) (vs++dvs) Q E W I.env0 (hb s J I.kIn hl) U h) fun r s' M=>?_);cases r with
 |error e=>exact Y pins σ H s e s' I M
 |ok fl=>
  cases fl with
  |ret u=>exact I.after M
  |next=>exact False.elim M
  |brk=>exact False.elim M
  |cont=>exact False.elim M
def wM (F:FnOk X.prog X.w X.K X.mg X.base CX k f fd ps sp) (hr:Room k X.A) (Y:Gl X x) (hm:X.mg x=some (.ref f)) (hk:PySem.W.keepIn X.K (.ref f)=true) (hb:Binds X.K fd ps ds) (hd:Vals dvs ds) (Z:pP CX X E)
  (ha:PA X (e::es) t) (M:(x == ("__debug__" : Str))=false:=by decide) (he:starEach (e::es) X.env=(false,eval e X.env)::starEach es X.env:=by rfl) (J:(backTo pos (starEach es X.env)).any (·.1)=false:=by rfl) :
  PE X (.Call (.Name x p) (e::es) [] pos) (oy sp dvs E t):=by
 intro pins s σ H Q I h;refine UE (xO I Y hm ?_ M);refine PySem.W.callWith_K (h₀:=X.base) I.ok.mod.kin hk (t6 (ha pos pins s σ H _ I h) fun us s1 ⟨vs,H1,U,r,q⟩=>⟨U.kIn,?_⟩) he J;exact tE F hr hb hd Z U r q
end
structure FnScope (N P:List Str) (sc:Scope):Prop where
 kind:sc.kind = .function
 co:sc.isCoroutine=false
 gen:sc.isGenerator=false
 nd:N.Nodup
 pre:N.take P.length=P
 par:∀x∈P,sc.names.lookup x=some .local\/sc.names.lookup x=some .cell
 nofree:∀y∈sc.names,y.2 ≠ .free
theorem Cf {J:Str->Option NameKind}{x:Str}:∀{binds:List (Str × Value)}{m:vG_},(∀v,(x,v) ∉ binds)->bindL J binds m x=m x
 |[],_,_=>rfl
 |(n,v)::r,m,h=>by
  unfold bindL;rw[Cf fun w M=>h w (SK _ M)];split
  .have:x≠n:=by rintro rfl;exact h v SR
   simp[this]
  .rfl
theorem tX {J:Str->Option NameKind}{x:Str}:∀{binds:List (Str × Value)}{m:vG_},(∀v,(x,v) ∉ binds)->bindC J binds m x=m x
 |[],_,_=>rfl
 |(n,v)::r,m,h=>by
  unfold bindC;rw[tX fun w M=>h w (SK _ M)];split
  .rfl
  .have:x≠n:=by rintro rfl;exact h v SR
   simp[this]
theorem CB {J:Str->Option NameKind}{v:Value}:∀{P:List Str}{vs:vV_}{i:Nat}{m:vG_},P.Nodup->P[i]? = some x->vs[i]? = some v->J x=some .local ->
  bindL J (P.zip vs) m x=some v
 |[],_,_,_,_,h,_,_=>by simp at h
 |_::_,[],_,_,_,_,h,_=>by simp at h
 |p::P,w::vs,0,m,nd,h1,h2,hk=>by
  simp at h1 h2;subst h1;subst h2;show bindL J ((p,w)::P.zip vs) m p=_;unfold bindL;rw[Cf fun v hv=>(Tu.mp nd).1 (Vr hv).1,tx hk];simp
 |p::P,w::vs,i+1,m,nd,h1,h2,hk=>by
  show bindL J ((p,w)::P.zip vs) m x=_;unfold bindL;exact CB (i:=i) (Tu.mp nd).2 (by simpa using h1) (by simpa using h2) hk
theorem Cs {J:Str->Option NameKind}{v:Value}:∀{P:List Str}{vs:vV_}{i:Nat}{m:vG_},P.Nodup->P[i]? = some x->vs[i]? = some v->J x≠some .local ->
  bindC J (P.zip vs) m x=some v
 |[],_,_,_,_,h,_,_=>by simp at h
 |_::_,[],_,_,_,_,h,_=>by simp at h
 |p::P,w::vs,0,m,nd,h1,h2,hk=>by
  simp at h1 h2;subst h1;subst h2;show bindC J ((p,w)::P.zip vs) m p=_;unfold bindC;rw[tX fun v hv=>(Tu.mp nd).1 (Vr hv).1,So hk];simp
 |p::P,w::vs,i+1,m,nd,h1,h2,hk=>by
  show bindC J ((p,w)::P.zip vs) m x=_;unfold bindC;exact Cs (i:=i) (Tu.mp nd).2 (by simpa using h1) (by simpa using h2) hk
def start (N:List Str) (J:List V):St:=J.map some++List.replicate (N.length - J.length) none
def aK (CX:Y9) (P:Program) (w:World) (K:vF_) (mg:vG_) (base:Heap) (N:List Str) (J:Str) (scope:Scope) (f:Addr) (U:Value) (A:Around) (outer:List Env) (s:Shared) (H:Hp) (E:XK):Cx where
 prog:=P
 w:=w
 K:=K
 mg:=mg
 base:=base
 A:=A.deeper (envOfC J scope s.heap.objs.size f U)
 N:=N
 s₀:=s
 H₀:=H
 env:=envOfC J scope s.heap.objs.size f U
 outer:=outer
 stack:=envOfC J scope s.heap.objs.size f U::outer
 ex:=[]
 calm:=true
 fn:=fun _=>true
 pn:=[]
 xe:=fun e s'=>wpAny (model P w) (A.deeper (envOfC J scope s.heap.objs.size f U)) (leaving (envOfC J scope s.heap.objs.size f U) e) (fun _ M=>CX outer H s E e M) (fun e' M=>CX outer H s E e' M) s'
def vd {J:Scope}{n:Nat}(h:J.names.lookup x=some .cell):∃c,(cellsFrom n J.names []).lookup x=some c:=by
 have q:=Yv J.names n [] (.inl h);exact Yw.mp q
def Fi {w:World}{K:vF_}{mg:vG_}{N ps:List Str}{scope:Scope}{Z:Value}{A:Around}{s s1:Shared}{us:vV_}{M:List V}
  (S:FnScope N ps scope) (hd:A.handled=none) (J:Env0 P w K mg base A outer s H) (hl:M.length=ps.length) (r:Vals M us)
  (x:InCallC s s.heap.objs.size (bindL (envOfC qual scope s.heap.objs.size f Z).kindOf (ps.zip us) fun _=>none) (cellsFrom (s.heap.objs.size+1) scope.names []) (bindC (envOfC qual scope s.heap.objs.size f Z).kindOf (ps.zip us) fun _=>none) s1) :
  Inv (aK CX P w K mg base N qual scope f Z A outer s H E) [] (start N M) H s1:=by
 have hpl:ps.length<=N.length:=by have:=congrArg List.length S.pre;rw[Tp] at this;omega
 obtain⟨h1,tk,rfl,hk⟩:=x.done;have U:∀b:Addr,b ∉ (aK CX P w K mg base N qual scope f Z A outer s H E).ex:=fun b z=>absurd (show b∈([]:vL_) from z) (by simp)
 refine⟨⟨J.mod,S.kind,rfl,rfl,Su _,fun y z c h1 h2=>?_,fun y W=>?_,fun y c _ h=>?_,fun _=>hd,Around.frames_deeper J.frames,.inr ⟨rfl,rfl⟩,fun b z=>absurd z (U b),J.bs,J.bsz,fun b _ _=>U b,fun b z=>absurd z (U b),J.funs,J.frf⟩,
  rfl,J.bare,Un.kept hk,⟨_,x.toInCall.ns,fun i y v h1 h2 h3=>?_⟩,fun y c h=>⟨_,x.cell y c h⟩,J.hok.fresh (Su _),fun y c h=>?_,fun p hp=>absurd (show p∈([]:vP_) from hp) (by simp),J.hok.kept hk,?_⟩
 .exact name_of_addr x.apart (VL h1) (VL h2)
 .have W:scope.names.lookup y=some .cell\/scope.names.lookup y=some .free:=W;rcases W with W | W
  .exact vd W
  .exact absurd rfl (S.nofree _ (VL W))
 .exact UZ (x.above y c (VL h))
 .have hi:i<M.length:=by
   unfold start at h2;by_cases hi:i<M.length
   .exact hi
   .rw[Uk (by simpa using hi)] at h2;rw[List.getElem?_replicate] at h2;split at h2 <;> cases h2
  have ha:M[i]? = some v:=by
   unfold start at h2;rw[Us (by simpa using hi),TM] at h2;cases e:M[i]? with
   |none=>rw[e] at h2;cases h2
   |some a=>rw[e] at h2;cases h2;rfl
  obtain⟨u,hu,rv⟩:=r.get ha;have hp:ps[i]? = some y:=by
   rw[<-S.pre,Xv (by omega)];exact h1
  have Y:ps.Nodup:=by rw[<-S.pre];exact S.nd.sublist (List.take_sublist _ _)
  refine⟨u,rv,?_⟩;rcases S.par y (TX hp) with k | k
  .exact .inl ⟨k,CB Y hp hu k⟩
  .obtain⟨c,e⟩:=vd (n:=s.heap.objs.size+1) k;refine .inr ⟨.inl k,c,e,?_⟩;have q:=x.cell y c e;rw[Cs Y hp hu (by show scope.names.lookup y≠_;rw[k];decide)] at q;exact q
 .exact J.hok.fresh (UZ (x.above y c (VL h)))
 .unfold start;show _=N.length;rw[SG,Ss,Yx];omega
def Jv {w:World}{K:vF_}{mg:vG_}{k:Nat}{dV kV doc pm M ct oc:Value}{an od:vA_}
  {osl:vS_}{N ps:List Str}{sp:Sp}(lk:K.lookup f=some ⟨oc,od,.func (PySem.W.fnOf name qual params body scope dV kV doc pm an M ct),osl⟩) (hcd:PySem.W.codeIn K M qual=true) (S:FnScope N ps scope)
  (len:∀vs H Q E,sp vs H Q E->vs.length=ps.length)
  (Y:∀(A:Around) (outer:List Env) (s:Shared) (H:Hp) (vs:List V) (Q:VK) (E:XK),Room k (A.deeper (envOfC qual scope s.heap.objs.size f M))->sp vs H Q E ->
   ∃t,PSs (aK CX P w K mg base N qual scope f M A outer s H E) body t/\t { nx:=fun _ H'=>Q .non H',rt:=Q } (start N vs) H) :
  FnOk P w K mg base CX (k+1) f (PySem.W.fnOf name qual params body scope dV kV doc pm an M ct) ps sp:=by
 refine⟨len,fun A outer s H args us vs Q E hr e0 hb r hsp=>?_⟩;have hl:=len _ _ _ _ hsp;have KX:K.In s.heap:=e0.mod.kin.keeps fun b o e=>(e0.bs b o e).1
 have lim:s.heap.NoLimit:=e0.mod.nolimit.keeps fun b o e=>(e0.bs b o e).1
 have U:∀y∈ps.zip us,scope.names.lookup y.1=some .local\/(scope.names.lookup y.1=some .cell/\((cellsFrom (s.heap.objs.size+1) scope.names []).lookup y.1).isSome=true):=fun ⟨n,v⟩ hy=>by
  rcases S.par n (Vr hy).1 with q | q
  .exact .inl q
  .exact .inr ⟨q,Yv _ _ _ (.inl q)⟩
 refine codeAny_call_function hr.depth (KX _ _ lk) rfl S.co S.gen rfl (PySem.W.codeRec_of KX hcd) (hb _ _ _ _ ?_);refine wpAny_newFunctionEnv_cells S.kind U fun env he s1 x=>?_
 subst he;refine⟨lim.keeps x.toInCall.keep,codeAny_func ?_⟩;obtain⟨t,ht,hq⟩:=Y A outer s H vs Q E (hr.deeper _) hsp;have I:Inv (aK CX P w K mg base N qual scope f M A outer s H E) [] (start N vs) H s1:=Fi S hr.hd e0 hl r x;refine Th (ht [] s1 (start N vs) H _ I hq) (fun fl s' Z=>?_) fun e s' Z=>Z
 have fin:∀{σ':St}{H':Hp}{v:V}{u:Value},Inv (aK CX P w K mg base N qual scope f M A outer s H E) [] σ' H' s'->RelV v u->Q v H'->CE outer P w H s Q u s':=
  fun {σ' H' v u} J rv q=>⟨v,H',J.os,J.bare,J.base,J.hok,rv,q⟩
 cases fl with
 |ret u=>
  obtain⟨v,σ',H',J,rv,q⟩:=Z;exact fin J rv q
 |next=>
  obtain⟨σ',H',J,q⟩:=Z;exact fin (v:=V.non) (u:=Value.none) J rfl q
 |brk=>
  obtain⟨_,_,_,q⟩:=Z;exact False.elim q
 |cont=>
  obtain⟨_,_,_,q⟩:=Z;exact False.elim q
section
variable {X:Cx}{x:Str}{p pos:Pos}{e:Expr}{es:List Expr}{t:TA}{id T:String}{r:List V->Hp->VK->Prop}
def eR (r:List V->Hp->VK->Prop) (t:TA):TE:=fun σ H Q=>t σ H fun J H1=>r J H1 Q
def QZ (hc:CallR X (.builtin id) r) (Y:Gl X x) (hm:X.mg x=none) (hv:bootBuiltins x=some (.builtin id)) (ha:PA X (e::es) t) (hn:x ≠ "__name__" := by decide) (M:(x == ("__debug__" : Str))=false:=by decide)
  (he:starEach (e::es) X.env=(false,eval e X.env)::starEach es X.env:=by rfl) (J:(backTo pos (starEach es X.env)).any (·.1)=false:=by rfl):PE X (.Call (.Name x p) (e::es) [] pos) (eR r t):=by
 intro pins s σ H Q I h;refine UE (bJ I Y hm hv ?_ hn M);exact PyProof.Rows.callWith_builtin1 (t6 (ha pos pins s σ H _ I h) fun us s1 ⟨U,H1,Z,W,q1⟩=>hc pins s1 σ H1 U us Q Z W q1) he J
def yw (hc:CallR X (.type T) r) (Y:Gl X x) (hm:X.mg x=none) (hv:bootBuiltins x=some (.type T)) (ha:PA X (e::es) t) (hn:x ≠ "__name__" := by decide) (M:(x == ("__debug__" : Str))=false:=by decide)
  (he:starEach (e::es) X.env=(false,eval e X.env)::starEach es X.env:=by rfl) (J:(backTo pos (starEach es X.env)).any (·.1)=false:=by rfl):PE X (.Call (.Name x p) (e::es) [] pos) (eR r t):=by
 intro pins s σ H Q I h;refine UE (bJ I Y hm hv ?_ hn M);exact Vb (t6 (ha pos pins s σ H _ I h) fun us s1 ⟨U,H1,Z,W,q1⟩=>hc pins s1 σ H1 U us Q Z W q1) he J
end
end L2
namespace HT
open PySem PyProof.Rows
section
variable {prog:Program}{w:World}{A:Around}{E:vQ_}{s:Shared}
def cat_tup {t b:Addr}{U J:vV_}{Q:vQ_}(ht:IsTup s.heap t U.toArray) (hb:IsTup s.heap b J.toArray) (hv:U≠[])
  (h1:J=[]->Q (.ref t) s) (h2:J≠[]->Q (.ref s.heap.objs.size) { s with heap:=s.heap.push { cls:=.type "tuple",data:=.seq (U++J).toArray } })
  (hsz:U.length+J.length<=sizeLine):wpAny (model prog w) A (binaryOp .Add (.ref t) (.ref b)) Q E s:=by
 obtain⟨⟨cls,dd,data,sl⟩,ho,hc,n,hd⟩:=id ht;obtain⟨⟨cls2,Y,data2,Z⟩,M,W,n2,hd2⟩:=id hb;simp only at hc hd W hd2;subst hc hd W hd2;have e:U.toArray++J.toArray=(U++J).toArray:=by simp
 by_cases hw:J=[]
 .exact concat_meets ⟨_,ho,rfl⟩ ⟨_,M,rfl⟩ Xw seq_tuple_add Xx Xy (Xz _ _)
   (tuple_addW1 t b U.toArray J.toArray n n2 dd Y sl Z (by simpa using hv) (by simp[hw])) ⟨ho,M,h1 hw⟩
 .refine concat_meets ⟨_,ho,rfl⟩ ⟨_,M,rfl⟩ Xw seq_tuple_add Xx Xy (Xz _ _)
   (tuple_addW2 t b U.toArray J.toArray n n2 dd Y sl Z (by simpa using hv) (by simpa using hw) (by rw[SY,SY];exact hsz)) ⟨ho,M,?_⟩
  rw[e];exact h2 hw
def sIx (n d:Nat):Option Int->Nat
 |none=>d
 |some v=>if v<0 then (v+(n:Int)).toNat else min v.toNat n
def sIx_none (n d:Nat):sIx n d none=d:=rfl
def sIx_nat (n d k:Nat):sIx n d (some (k:Int))=min k n:=by
 show (if (k:Int)<0 then ((k:Int)+(n:Int)).toNat else min (k:Int).toNat n)=min k n;rw[So (by omega),UG]
def OG (n d:Nat) (hd:d<=n) (o:Option Int):sIx n d o<=n:=by
 cases o with
 |none=>exact hd
 |some v=>
  show (if v<0 then (v+(n:Int)).toNat else min v.toNat n)<=n;by_cases hv:v<0
  .rw[tx hv];omega
  .rw[So hv];exact XA _ _
def Be (v:Int) (n d:Nat):(if v<0 then max (v+(n:Int)) 0 else min v (n:Int))=((sIx n d (some v):Nat):Int):=by
 show (if v<0 then max (v+(n:Int)) 0 else min v (n:Int))=(((if v<0 then (v+(n:Int)).toNat else min v.toNat n):Nat):Int);by_cases hv:v<0
 .simp only[tx hv];omega
 .simp only[So hv];omega
def Qj (lo hi:Option Int) (n:Nat):Builtin.Slice.sliceAdjust lo hi 1 (n:Int)=(((sIx n 0 lo:Nat):Int),((sIx n n hi:Nat):Int)):=by
 have h1:¬ ((1:Int)<0):=by omega
 unfold Builtin.Slice.sliceAdjust;simp only[h1,Tz];refine SU ?_ ?_
 .cases lo with
  |none=>rfl
  |some v=>exact Be v n 0
 .cases hi with
  |none=>rfl
  |some v=>exact Be v n n
def OJ (i j:Nat):Builtin.Slice.slicePlaces (i:Int) (j:Int) 1=j - i:=by
 unfold Builtin.Slice.slicePlaces;have h1:(1:Int)>0:=by omega
 simp only[h1,TB,Int.ediv_one];split <;> omega
def AI {v:Value}{o:Option Int}{Q:Option Int->Shared->Prop}(p:IsPart v o) (h:Q o s):wpAny (model prog w) A (Builtin.Slice.slicePartIndex v) Q E s:=by
 cases p with
 |none=>exact slicePart_none h
 |int i t=>exact slicePart_int h
def uL {lo hi:Option Int}{n:Nat}{Q:Int × Int × Nat->Shared->Prop}(U:s.heap.IsSliceOf sl vl vu .none) (pl:IsPart vl lo) (W:IsPart vu hi)
  (h:Q (((sIx n 0 lo:Nat):Int),1,sIx n n hi - sIx n 0 lo) s):wpAny (model prog w) A (Builtin.Slice.sliceApplied (.ref sl) (pure (n:Int))) Q E s:=by
 obtain⟨Z,M,Y,J⟩:=id U;unfold Builtin.Slice.sliceApplied Builtin.Slice.sliceFields;refine gV (gV (Ti M J (x:=vl) rfl (gV (Ti M J (x:=vu) rfl (gV (Ti M J (x:=.none) rfl (Sr ?_)))))));refine gV (slicePart_none ?_);show wpAny _ _ (if ((1:Int) == 0)=true then _ else _) _ _ s;rw[So (by decide)];refine gV (AI pl (gV (AI W (gV (Sr ?_)))));show wpAny _ _ (match Builtin.Slice.sliceAdjust lo hi 1 (n:Int) with | (lo,hi)=>pure (lo,(1:Int),Builtin.Slice.slicePlaces lo hi 1)) _ _ s;rw[Qj lo hi n];show wpAny _ _ (pure (((sIx n 0 lo:Nat):Int),(1:Int),Builtin.Slice.slicePlaces ((sIx n 0 lo:Nat):Int) ((sIx n n hi:Nat):Int) 1)) _ _ s;rw[OJ];exact Sr h
def MA (xs:vR_) (i k:Nat):((List.range k).filterMap fun (m:Nat)=>xs[((i:Int)+(m:Int)*1).toNat]?).toArray=((xs.toList.drop i).take k).toArray:=by
 have e:(fun (m:Nat)=>xs[((i:Int)+(m:Int)*1).toNat]?)=fun m=>xs[i+m]?:=by
  funext m;have:((i:Int)+(m:Int)*1).toNat=i+m:=by omega
  rw[this]
 rw[e];have:=pick_run xs i k;rw[XB] at this;have J:((fun x=>xs[x]?)∘fun x=>i+x)=fun m=>xs[i+m]?:=rfl
 rw[J] at this;rw[this]
def getItem_tuple_cut {t sl:Addr}{items:vR_}{lo hi:Option Int}{Q:vQ_}(M:IsTup s.heap t items) (hs:s.heap.IsSliceOf sl vl vu .none) (pl:IsPart vl lo) (pu:IsPart vu hi)
  (hw:¬ (sIx items.size 0 lo=0/\sIx items.size items.size hi=items.size))
  (h:Q (.ref s.heap.objs.size) { s with heap:=s.heap.push { cls:=.type "tuple",data:=.seq ((items.toList.drop (sIx items.size 0 lo)).take (sIx items.size items.size hi - sIx items.size 0 lo)).toArray } })
  (hsz:items.size<=sizeLine):wpAny (model prog w) A (getItem (.ref t) (.ref sl)) Q E s:=by
 have J:sizeOk (.seq ((items.toList.drop (sIx items.size 0 lo)).take (sIx items.size items.size hi - sIx items.size 0 lo)).toArray):=by
  show ((items.toList.drop (sIx items.size 0 lo)).take (sIx items.size items.size hi - sIx items.size 0 lo)).toArray.size<=sizeLine;rw[SY,Tp,Tq,Wn];omega
 have hj:sIx items.size items.size hi<=items.size:=OG _ _ (Su _) hi;obtain⟨os,Z,Y,hds⟩:=id hs;have W:s.TypeIs (.ref sl) "slice" := ⟨os,Z,Y⟩
 unfold getItem
 try with_reducible refine Ut ?_
 first | refine gV (Sr ?_) | skip
 refine gV (wpAny_sequenceKey M.typeIs (by decide) ?_);refine gV (Uu (name:=Str.ofString "__getitem__") M.typeIs Vs
  (Ub Vs M.typeIs entry_tuple_getitem ?_ (args_tuple_getitem _ _)))
 show wpAny _ _ (Builtin.Tuple.tupleItemsOf (.ref t) >>= _) _ _ s;refine gV (tupleItemsOf_ M ?_);refine gV (Vt W ?_);rw[tx (by decide)];refine gV (uL hs pl pu ?_);have U:¬ ((((sIx items.size 0 lo:Nat):Int) == 0&&(1:Int) == 1&&(sIx items.size items.size hi - sIx items.size 0 lo) == items.size)=true):=by
  intro q;rw[TK,TK] at q;have q1:((sIx items.size 0 lo:Nat):Int)=0:=eq_of_beq q.1.1;have q2:sIx items.size items.size hi - sIx items.size 0 lo=items.size:=eq_of_beq q.2;exact hw ⟨by omega,by omega⟩
 show wpAny _ _ (if (((sIx items.size 0 lo:Nat):Int) == 0&&(1:Int) == 1&&(sIx items.size items.size hi - sIx items.size 0 lo) == items.size)=true then _ else _) _ _ s;rw[So U,MA]
 first
  | exact gV (m:=Builtin.Tuple.tupleExact _) (Uj (Sr ⟨_,rfl,Sr h⟩) J)
  | exact gV (m:=Builtin.Tuple.tupleExact _) (Uj (gV (Sr (Sr ⟨_,rfl,Sr h⟩))) J)
  | exact gV (gV (m:=Builtin.Tuple.tupleExact _) (Uj (Sr (Sr ⟨_,rfl,Sr h⟩)) J))
  | exact gV (gV (m:=Builtin.Tuple.tupleExact _) (Uj (Sr ⟨_,rfl,Sr h⟩) J))
end
end HT
namespace L2
open PySem PySem.Spec PyProof.Rows
abbrev TO:=St->Hp->(Option Int->Hp->Prop)->Prop
def PO (X:Cx) (e:Option Expr) (t:TO):Prop:=
 ∀(pins:vP_) (s:Shared) (σ:St) (H:Hp) (Q:Option Int->Hp->Prop),Inv X pins σ H s->t σ H Q ->
  wpAny (model X.prog X.w) X.A (evalPart e X.env) (fun u s'=>∃o H',Inv X pins σ H' s'/\IsPart u o/\Q o H') X.xe s
def Lv:TO:=fun _ H Q=>Q none H
def NT (t:TE):TO:=fun σ H Q=>t σ H fun x H1=>∃i,x = .int i/\Q (some i) H1
section
variable {X:Cx}{e:Expr}{te:TE}{lo hi:Option Expr}{tl th:TO}{pos p2:Pos}
def BU:PO X none Lv:=by
 intro pins s σ H Q I h;rw[evalPart_none];exact Sr ⟨none,H,I,.none,h⟩
def zQ (h:PE X e te):PO X (some e) (NT te):=by
 intro pins s σ H Q I M;rw[evalPart_some];refine t6 (h pins s σ H _ I M) fun u s1 ⟨x,H1,U,J,q1⟩=>?_
 obtain⟨i,rfl,q⟩:=q1;obtain⟨t,rfl⟩:=J;exact⟨some i,H1,U,.int i t,q⟩
def SlR (X:Cx) (r:V->Option Int->Option Int->Hp->VK->Prop):Prop:=
 ∀(pins:vP_) (s:Shared) (σ:St) (H:Hp) (x:V) (v vl vu:Value) (lo hi:Option Int) (sl:Addr) (Q:VK),Inv X pins σ H s->RelV x v->s.heap.IsSliceOf sl vl vu .none->IsPart vl lo->IsPart vu hi->r x lo hi H Q ->
  ∃T id,typeLookup (.type T) "__getitem__" = pure (some (.builtin id))/\s.TypeIs v T/\wpAny (model X.prog X.w) X.A (getItem v (.ref sl)) (EP X pins σ Q) X.xe s
def SlR.or {r Z:V->Option Int->Option Int->Hp->VK->Prop}(h:SlR X r) (h':SlR X Z):SlR X (fun x lo hi H Q=>r x lo hi H Q\/Z x lo hi H Q):=by
 intro pins s σ H x v J M lo hi sl Q I U W pl Y q;rcases q with q | q
 .exact h pins s σ H x v J M lo hi sl Q I U W pl Y q
 .exact h' pins s σ H x v J M lo hi sl Q I U W pl Y q
def GY (r:V->Option Int->Option Int->Hp->VK->Prop) (te:TE) (tl th:TO):TE:=fun σ H Q=>te σ H fun x H1=>tl σ H1 fun l H2=>th σ H2 fun u J=>r x l u J Q
def Br (Z:SlR X r) (Y:PE X e te) (hl:PO X lo tl) (hu:PO X hi th):PE X (.Subscript e (.Slice lo hi none p2) pos) (GY r te tl th):=by
 intro pins s σ H Q I h;refine Subscript_ (t6 (Y pins s σ H _ I h) fun v s1 ⟨x,H1,I1,r1,q1⟩=>?_);refine wpAny_Slice (t6 (hl pins s1 σ H1 _ I1 q1) fun M s2 ⟨l,H2,I2,pl,q2⟩=>t6 (hu pins s2 σ H2 _ I2 q2) fun J s3 ⟨u,U,I3,pu,q3⟩=>?_);rw[evalPart_none];refine Sr ?_;have I4:Inv X pins σ U { s3 with heap:=s3.heap.push { cls:=.type "slice",data:=.fields #[M,J,.none] } }:=I3.kept (t':=s3.toks) fun b ob q=>Sx _ q
 obtain⟨T,id,hT,ht,W⟩:=Z pins { s3 with heap:=s3.heap.push { cls:=.type "slice",data:=.fields #[M,J,.none] } } σ U x v M J l u s3.heap.objs.size Q I4 r1 (Heap.IsSliceOf.new ..) pl pu q3;show wpAny (model X.prog X.w) X.A (subscriptTail e (.Slice lo hi none p2) v (.ref s3.heap.objs.size)) (EP X pins σ Q) X.xe { s3 with heap:=s3.heap.push { cls:=.type "slice",data:=.fields #[M,J,.none] } };exact tail_any (ops:=[.ref s3.heap.objs.size,v]) ht hT W (by with_unfolding_all rfl)
def X5 (xs:List V) (lo hi:Option Int):List V:=(xs.drop (HT.sIx xs.length 0 lo)).take (HT.sIx xs.length xs.length hi - HT.sIx xs.length 0 lo)
def BH (xs:List V) (lo hi:Option Int):(X5 xs lo hi).length<=xs.length:=by
 unfold X5;rw[Tp,Tq];omega
def Iy (K:vF_):V->Option Int->Option Int->Hp->VK->Prop:=fun x lo hi H Q=>∃a xs,x = .ref a/\SqT K H a xs /\
 ¬ (HT.sIx xs.length 0 lo=0/\HT.sIx xs.length xs.length hi=xs.length)/\∀p,H p=none->Q (.ref p) (k0 H p (.tup (X5 xs lo hi)))
def Nv:SlR X (Iy X.K):=by
 intro pins s σ H x v vl vu lo hi sl Q I Y hs pl pu h;obtain⟨a,xs,rfl,Z,hw,q⟩:=h;cases Y;obtain⟨M,r,U,W⟩:=I.tuple Z;have J:M.toArray.size=xs.length:=by rw[SY];exact r.length.symm
 refine⟨"tuple",_,Vs.lookup,U.typeIs,?_⟩;refine HT.getItem_tuple_cut U hs pl pu (by rw[J];exact hw) ?_ (by rw[J];exact W);rw[J];refine⟨.ref s.heap.objs.size,_,I.laid (t':=s.toks) (o:=.tup (X5 xs lo hi)) (fun b ob q=>Sx _ q) (Su _) ?_,rfl,q _ (I.hok.fresh (Su _))⟩;exact⟨SI (BH xs lo hi) W,_,(r.drop (HT.sIx xs.length 0 lo)).take (HT.sIx xs.length xs.length hi - HT.sIx xs.length 0 lo),IsTup.new _ _⟩
def xV (K:vF_):R2:=fun x y H Q=>∃a b xs ys,x = .ref a/\y = .ref b/\SqT K H a xs/\SqT K H b ys/\xs≠[]/\xs.length+ys.length<=sizeLine /\
 (ys=[]->Q (.ref a) H)/\(ys≠[]->∀p,H p=none->Q (.ref p) (k0 H p (.tup (xs++ys))))
def Vals.nil_iff {xs:List V}{J:vV_}(r:Vals xs J):J=[]↔xs=[]:=by
 cases r with
 |nil=>simp
 |cons _ _=>simp
def Ry:OpR X (binaryOp .Add) (xV X.K):=by
 intro pins s σ H x y v u Q I Y ry h;obtain⟨a,b,xs,ys,rfl,rfl,ha,hb,Z,W,q1,q2⟩:=h;cases Y;cases ry;obtain⟨its,M,p1,_⟩:=I.tuple ha;obtain⟨U,J,p2,_⟩:=I.tuple hb;refine HT.cat_tup p1 p2 (fun z=>Z (M.nil_iff.mp z)) (fun z=>⟨.ref a,H,I,rfl,q1 (J.nil_iff.mp z)⟩) (fun z=>?_) (by rw[<-M.length,<-J.length];exact W);refine⟨.ref s.heap.objs.size,_,I.laid (t':=s.toks) (o:=.tup (xs++ys)) (fun b ob q=>Sx _ q) (Su _) ?_,rfl,q2 (fun w=>z (J.nil_iff.mpr w)) _ (I.hok.fresh (Su _))⟩;exact⟨by rw[SG];exact W,_,M.append J,IsTup.new _ _⟩
end
def S6 (n:Nat) (i:Int):Option Nat:=if 0<=i then (if i<n then some i.toNat else none) else if -(n:Int)<=i then some (i+n).toNat else none
def v8 {α:Type}(xs:List α) (i:Int):Option α:=(S6 xs.length i).bind fun j=>xs[j]?
def EA {n:Nat}{i:Int}{j:Nat}(h:S6 n i=some j):seqIndex? i n=some j/\j<n /\ -(n:Int)<=i/\i<n:=by
 unfold S6 at h;by_cases h0:0<=i
 .rw[tx h0] at h;by_cases h1:i<n
  .rw[tx h1] at h;have e:i.toNat=j:=Tb h;exact⟨by rw[seqIndex_of h0 h1,e],by omega,by omega,h1⟩
  .rw[So h1] at h;cases h
 .rw[So h0] at h;by_cases h1:-(n:Int)<=i
  .rw[tx h1] at h;have e:(i+n).toNat=j:=Tb h;exact⟨by rw[seqIndex_neg (by omega) h1,e],by omega,h1,by omega⟩
  .rw[So h1] at h;cases h
def yN {α:Type}{xs:List α}{i:Int}{v:α}(h:v8 xs i=some v):∃j,seqIndex? i xs.length=some j/\xs[j]? = some v/\j<xs.length /\ -(xs.length:Int)<=i/\i<xs.length:=by
 unfold v8 at h;cases e:S6 xs.length i with
 |none=>rw[e] at h;cases h
 |some j=>
  rw[e] at h;obtain⟨h1,h2,h3,J⟩:=EA e;exact⟨j,h1,h,h2,h3,J⟩
def Dr {α:Type}(xs:List α) (v:α):v8 (xs++[v]) (-1)=some v:=by
 have hl:(xs++[v]).length=xs.length+1:=by simp
 have e:S6 (xs++[v]).length (-1)=some xs.length:=by
  unfold S6;rw[hl,So (by decide),tx (by omega)];congr 1;omega
 unfold v8;rw[e];show (xs++[v])[xs.length]? = some v;simp
def tT (b:Expr):Prop:=∀o i,subscripted b false o i=operate [o,i] (getItem o i)
def IxR (X:Cx) (r:R2):Prop:=
 ∀(value slice:Expr) (pins:vP_) (s:Shared) (σ:St) (H:Hp) (x y:V) (v u:Value) (Q:VK),Inv X pins σ H s->RelV x v->RelV y u->r x y H Q ->
  subscripted slice false v u=operate [v,u] (getItem v u)->wpAny (model X.prog X.w) X.A (subscriptTail value slice v u) (EP X pins σ Q) X.xe s
def vE (X:Cx) (id:String) (r:V->List V->Hp->VK->Prop):Prop:=
 ∀(pins:vP_) (s:Shared) (σ:St) (H:Hp) (x:V) (xs:List V) (v:Value) (us:vV_) (Q:VK),Inv X pins σ H s->RelV x v->Vals xs us->r x xs H Q ->
  wpAny (model X.prog X.w) X.A (call (.builtin id) (v::us)) (EP X pins σ Q) X.xe s
section
variable {X:Cx}{a b:Expr}{ta tb:TE}{pos:Pos}
def IxR.or {r W:R2}(h:IxR X r) (h':IxR X W):IxR X (fun x y H Q=>r x y H Q\/W x y H Q):=by
 intro value J pins s σ H x y v u Q I Y M q U;rcases q with q | q
 .exact h value J pins s σ H x y v u Q I Y M q U
 .exact h' value J pins s σ H x y v u Q I Y M q U
def Ii (J:IxR X r) (ha:PE X a ta) (hb:PE X b tb) (Y:tT b):PE X (.Subscript a b pos) (fO r ta tb):=by
 intro pins s σ H Q I h;exact Subscript_ (qR ha hb I h fun v u s2 x y H2 U M W q=>J a b pins s2 σ H2 x y v u Q U M W q (Y _ _))
def qF (K:vF_):R2:=fun x y H Q=>∃p xs i v,x = .ref p/\y = .int i/\SqL K H p xs/\v8 xs i=some v/\Q v H
def oK (K:vF_):R2:=fun x y H Q=>∃p xs i v,x = .ref p/\y = .int i/\SqT K H p xs/\v8 xs i=some v/\Q v H
def ix_list:IxR X (qF X.K):=by
 intro value W pins s σ H x y v u Q I rx ry h hs;obtain⟨p,xs,i,z,rfl,rfl,hq,he,q⟩:=h;cases rx;obtain⟨t,rfl⟩:=ry;obtain⟨Y,r,pl,hz⟩:=I.list hq;obtain⟨j,h1,h2,h3,h4,h5⟩:=yN he;obtain⟨w,Z,M⟩:=r.get h2;have hl:=r.length;have hn:=iq;have J:EP X pins σ Q w s:=⟨z,H,I,M,q⟩
 by_cases h0:0<=i
 .have U:i.toNat=j:=by
   rw[seqIndex_of h0 h5] at h1;exact Tb h1
  exact item_listR pl.isList h0 (by omega) (by rw[U];simpa using Z) J hs
 .have U:(i+(Y.toArray.size:Int)).toNat=j:=by
   rw[seqIndex_neg (by omega) h4] at h1;rw[SY,<-hl];exact Tb h1
  exact subscriptTail_builtinR (x:=w) pl.isList.typeIs XC.lookup
   (wpAny_getItem_list_neg (Q:=fun r s'=>r=w/\EP X pins σ Q r s') pl.isList (by omega) (by rw[SY] <;> omega) (by omega) (by rw[U];simpa using Z) ⟨rfl,J⟩) hs
def GQ:IxR X (oK X.K):=by
 intro value U pins s σ H x y v u Q I Y Z h hs;obtain⟨p,xs,i,z,rfl,rfl,W,he,q⟩:=h;cases Y;obtain⟨t,rfl⟩:=Z;obtain⟨its,r,pl,hz⟩:=I.tuple W;obtain⟨j,h1,h2,h3,h4,h5⟩:=yN he;obtain⟨w,ew,J⟩:=r.get h2;have hl:=r.length;have hn:=iq;have M:EP X pins σ Q w s:=⟨z,H,I,J,q⟩
 exact subscriptTail_builtinR (x:=w) pl.typeIs slot_tuple_getitem.lookup
  (getItem_tuple (j:=j) (Q:=fun r s'=>r=w/\EP X pins σ Q r s') pl (by omega) (by omega) (by rw[SY,<-hl];exact h1) (by simpa using ew) ⟨rfl,M⟩) hs
def HK (lo hi:Option Int) (n:Nat):(sliceBounds lo hi none n).1=((HT.sIx n 0 lo:Nat):Int)/\(sliceBounds lo hi none n).2.1=((HT.sIx n n hi:Nat):Int)/\(sliceBounds lo hi none n).2.2=1:=by
 have key:∀i:Int,(sliceBounds (some i) none none n).1=((HT.sIx n 0 (some i):Nat):Int):=fun i=>by
  simp only[sliceBounds,HT.sIx,Option.getD_none,show (1:Int)>0 by decide,TB];by_cases h:i<0
  .simp only[h,TB] <;> omega
  .simp only[h,Tz] <;> omega
 refine⟨?_,?_,rfl⟩
 .cases lo with
  |none=>simp[sliceBounds,HT.sIx]
  |some i=>exact key i
 .cases hi with
  |none=>simp[sliceBounds,HT.sIx]
  |some i=>exact key i
def Ly (J:vV_) (lo hi:Option Int):slicePick J.toArray lo hi none=((J.drop (HT.sIx J.length 0 lo)).take (HT.sIx J.length J.length hi - HT.sIx J.length 0 lo)).toArray:=by
 obtain⟨h1,h2,h3⟩:=HK lo hi J.toArray.size;unfold slicePick;rw[h1,h2,h3];simp only[sliceRange_one,pick_run,SY] <;> rfl
def FH (K:vF_):V->Option Int->Option Int->Hp->VK->Prop:=fun x lo hi H Q=>∃a xs,x = .ref a/\SqL K H a xs/\∀p,H p=none->Q (.ref p) (k0 H p (.lst (X5 xs lo hi)))
def Bq:SlR X (FH X.K):=by
 intro pins s σ H x v vl vu lo hi sl Q I U Z pl pu h;obtain⟨a,xs,rfl,W,q⟩:=h;cases U;obtain⟨Y,r,M,hz⟩:=I.list W;have J:=r.length;refine⟨"list",_,XC.lookup,M.isList.typeIs,?_⟩;refine wpAny_getItem_list_slice M.isList Z pl pu .none (by simp) ?_ (by rw[SY] <;> omega);rw[Ly,<-J];refine⟨.ref s.heap.objs.size,_,I.laid (t':=s.toks) (o:=.lst (X5 xs lo hi)) (fun b ob q=>Sx _ q) (Su _) ?_,rfl,q _ (I.hok.fresh (Su _))⟩;exact⟨SI (BH xs lo hi) hz,_,0,(r.drop (HT.sIx xs.length 0 lo)).take (HT.sIx xs.length xs.length hi - HT.sIx xs.length 0 lo),Tc _ rfl⟩
def call_len_seq:CallR X (.builtin "len") (fun xs H Q=>∃p ys,xs=[.ref p]/\(SqL X.K H p ys\/SqT X.K H p ys)/\Q (.int ys.length) H):=by
 intro pins s σ H xs us Q I r h;obtain⟨p,ys,rfl,M,q⟩:=h;obtain⟨u,rfl,Y⟩:=aD r;cases Y;have hn:=iq;rcases M with M | M
 .obtain⟨U,W,pl,Z⟩:=I.list M;have J:=W.length;exact Calls.call_len_list pl.isList (by simp only[SY] <;> omega) ⟨.int ys.length,H,I.tok _,⟨s.toks+1,by rw[SY,J]⟩,q⟩
 .obtain⟨U,W,pl,Z⟩:=I.tuple M;have J:=W.length;exact len_tuple pl (by simp only[SY] <;> omega) ⟨.int ys.length,H,I.tok _,⟨s.toks+1,by rw[SY,J]⟩,q⟩
def Mj:CallR X (.builtin "len") (fun xs H Q=>∃z,xs=[.str z]/\z.length<=sizeLine/\Q (.int z.length) H):=by
 intro pins s σ H xs U Q I r h;obtain⟨z,rfl,J,q⟩:=h;obtain⟨u,rfl,t,rfl⟩:=aD r;have M:=iq;exact len_str (by omega) ⟨.int z.length,H,I.tok _,⟨_,rfl⟩,q⟩
def CallR.or {r J:List V->Hp->VK->Prop}(h:CallR X f r) (h':CallR X f J):CallR X f (fun xs H Q=>r xs H Q\/J xs H Q):=by
 intro pins s σ H xs M Q I U q;rcases q with q | q
 .exact h pins s σ H xs M Q I U q
 .exact h' pins s σ H xs M Q I U q
def KY:CallR X (.type "list") (fun xs H Q=>∃p ys,xs=[.ref p]/\(SqL X.K H p ys\/SqT X.K H p ys)/\∀l,H l=none->Q (.ref l) (k0 H l (.lst ys))):=by
 intro pins s σ H xs us Q I r h;obtain⟨p,ys,rfl,W,q⟩:=h;obtain⟨u,rfl,rx⟩:=aD r;cases rx;have U:∀(J:vV_),Vals ys J->ys.length<=sizeLine->∀(h':Heap) (c':Nat),(∀b o',s.heap.get? b=some o'->h'.get? b=some o') ->
   h'.get? s.heap.objs.size=some { cls:=.type "list",dict:=none,data:=.seq J.toArray c',slots:=#[] }->EP X pins σ Q (.ref s.heap.objs.size) { s with heap:=h' }:=fun J M hz h' c' Z e=>
  ⟨.ref s.heap.objs.size,_,I.laid (t':=s.toks) Z (Su _) (show ObjOk X.prog X.w _ h' _ (.lst ys) from ⟨hz,J,c',M,e⟩),rfl,q _ (I.hok.fresh (Su _))⟩
 rcases W with W | W
 .obtain⟨J,M,pl,hz⟩:=I.list W;have Y:=M.length;obtain⟨o,ho,hc,n,hd⟩:=pl.isList;exact call_list_seq p (.inl rfl) ho hc hd (fun h' c' Z e=>U J M hz h' c' Z e) (by simp only[SY] <;> omega)
 .obtain⟨J,M,pl,hz⟩:=I.tuple W;have Y:=M.length;obtain⟨o,ho,hc,n,hd⟩:=pl;exact call_list_seq p (.inr rfl) ho hc hd (fun h' c' Z e=>U J M hz h' c' Z e) (by simp only[SY] <;> omega)
def iw:CallR X (.type "tuple") (fun xs H Q=>∃p ys,xs=[.ref p]/\((SqL X.K H p ys/\∀l,H l=none->Q (.ref l) (k0 H l (.tup ys)))\/(SqT X.K H p ys/\Q (.ref p) H))):=by
 intro pins s σ H xs us Q I r h;obtain⟨p,ys,rfl,h⟩:=h;obtain⟨u,rfl,rx⟩:=aD r;cases rx;rcases h with ⟨M,q⟩ | ⟨M,q⟩
 .obtain⟨J,U,pl,Z⟩:=I.list M;have Y:=U.length;refine call_tuple_list pl.isList (fun h' kp=>?_) (by simp only[SY] <;> omega);have W:Inv X pins σ H { s with heap:=h' }:=I.kept (t':=s.toks) kp;have I2:Inv X pins σ (k0 H h'.objs.size (.tup ys)) { s with heap:=h'.push { cls:=.type "tuple",data:=.seq J.toArray } }:=
   W.laid (t':=s.toks) (fun b o e=>Sx _ e) (Su _) (show ObjOk X.prog X.w _ _ _ (.tup ys) from ⟨Z,J,U,IsTup.new _ _⟩)
  exact⟨.ref h'.objs.size,_,I2,rfl,q _ (W.hok.fresh (Su _))⟩
 .obtain⟨J,U,pl,Z⟩:=I.tuple M;exact call_tuple_same pl ⟨.ref p,H,I,rfl,q⟩
def qN (K:vF_) (T:String) (x:V) (H:Hp):Prop:=match x with
 |.str _=>T = "str"
 |.int _=>T = "int"
 |.ref p=>(T = "list" /\ ∃xs,SqL K H p xs)\/(T = "tuple" /\ ∃o,K.lookup p=some o/\o.cls = .type "tuple" /\ o.dict=none) \/
   (T = "dict" /\ ((∃kvs,H p=some (.dK kvs))\/∃kvs,H p=some (.dT kvs)))\/(T = "set" /\ ∃S n,H p=some (.set S n))
 |_=>False
def vk {pins:vP_}{s:Shared}{v:Value}(I:Inv X pins σ H s) (r:RelV x v) (ty:qN X.K T x H) :
  s.TypeIs v T/\∀a,v = .ref a->∃ob,s.heap.get? a=some ob/\ob.dict=none:=by
 cases x with
 |str z=>
  obtain⟨t,rfl⟩:=r;cases (show T = "str" from ty);exact⟨typeIs_str s z t,fun _ e=>nomatch e⟩
 |int i=>
  obtain⟨t,rfl⟩:=r;cases (show T = "int" from ty);exact⟨typeIs_int s i t,fun _ e=>nomatch e⟩
 |ref p=>
  cases r;rcases ty with ⟨rfl,xs,U⟩ | ⟨rfl,o,hk,Y,hd⟩ | ⟨rfl,hk⟩ | ⟨rfl,S,n,hk⟩
  .obtain⟨W,_,pl,_⟩:=I.list U;refine⟨pl.isList.typeIs,fun a e=>?_⟩;cases e;obtain⟨o,n,e,c,hd,_⟩:=pl;exact⟨o,e,hd⟩
  .refine⟨⟨o,I.kIn p o hk,Y⟩,fun a e=>?_⟩;cases e;exact⟨o,I.kIn _ o hk,hd⟩
  .have z:∃o,s.heap.get? p=some o/\o.ExactDict:=by
    rcases hk with ⟨J,hk⟩ | ⟨J,hk⟩
    .obtain⟨_,_,_,_,o,_,_,e,ex,_⟩:=I.hok p _ hk;exact⟨o,e,ex⟩
    .obtain⟨_,_,_,_,o,_,_,e,ex,_⟩:=I.hok p _ hk;exact⟨o,e,ex⟩
   obtain⟨o,e,ex⟩:=z;refine⟨⟨o,e,ex.1⟩,fun a M=>?_⟩;cases M;exact⟨o,e,ex.2.1⟩
  .obtain⟨o,_,_,_,e,ex,_⟩:=I.hok p _ hk;refine⟨⟨o,e,ex.1⟩,fun a M=>?_⟩;cases M;exact⟨o,e,ex.2.1⟩
 |_=>exact False.elim ty
def Oj (K:vF_) (T:String) (r:V->List V->Hp->VK->Prop) (to:TE):TE:=fun σ H Q=>to σ H fun x H1=>qN K T x H1/\r x [] H1 Q
def GH (K:vF_) (T:String) (r:V->List V->Hp->VK->Prop) (to:TE) (t:TA):TE:=fun σ H Q=>to σ H fun x H1=>qN K T x H1/\t σ H1 fun xs H2=>r x xs H2 Q
variable {o e:Expr}{es:List Expr}{to:TE}{t:TA}{name:Str}{apos cpos:Pos}{T id:String}{r:V->List V->Hp->VK->Prop}
def QO (pa:PlainAttrs T) (U:Slot T name id) (W:typeOf (.builtin id)=pure (.type "method_descriptor")) (hm:vE X id r) (ho:PE X o to)
  (M:attributeBase o name X.env (eval o X.env)=eval o X.env:=by rfl) (J:(apos.endLine == cpos.line)=true:=by rfl):PE X (.Call (.Attribute o name apos) [] [] cpos) (Oj X.K T r to):=by
 intro pins s σ H Q I h;refine wpAny_Call_method0_late M J (t6 (ho pins s σ H _ I h) fun v s1 ⟨x,H1,Z,Y,ty,q1⟩=>?_);obtain⟨h1,h2⟩:=vk Z Y ty;exact⟨T,id,pa,U,W,h1,h2,Calls.callWith_builtin rfl (PySem.evalArgs_none (hm pins s1 σ H1 x [] v [] Q Z Y .nil q1))⟩
def Kb (pa:PlainAttrs T) (Y:Slot T name id) (Z:typeOf (.builtin id)=pure (.type "method_descriptor")) (hm:vE X id r) (ho:PE X o to) (ha:PA X (e::es) t)
  (U:attributeBase o name X.env (eval o X.env)=eval o X.env:=by rfl)
  (W:((backTo cpos (starEach (e::es) X.env)).all (fun x=>!x.1)&&(backToKw cpos (keywordEach [] X.env)).all (fun x=>x.1.isSome)
   && decide ((e::es).length+([]:List Keyword).length+(if ([]:List Keyword).isEmpty then 0 else 1)<30))=true:=by rfl)
  (M:(apos.endLine == cpos.line)=true:=by rfl) (hs:starEach (e::es) X.env=(false,eval e X.env)::starEach es X.env:=by rfl) (J:(backTo cpos (starEach es X.env)).any (·.1)=false:=by rfl) :
  PE X (.Call (.Attribute o name apos) (e::es) [] cpos) (GH X.K T r to t):=by
 intro pins s σ H Q I h;refine wpAny_Call_method_late U W M rfl (t6 (ho pins s σ H _ I h) fun v s1 ⟨x,H1,I1,r1,ty,q1⟩=>?_);obtain⟨h1,h2⟩:=vk I1 r1 ty;refine⟨T,id,pa,Y,Z,h1,h2,?_⟩;have hA:=ha cpos pins s1 σ H1 _ I1 q1;rw[hs] at hA ⊢;refine Calls.callWith_builtin (by show (false||(backTo cpos (starEach es X.env)).any (·.1))=false;rw[J] <;> rfl) (Calls.evalArgs_plain ?_);exact t6 hA fun us s2 ⟨vs,H2,I2,r2,q2⟩=>hm pins s2 σ H2 x vs v us Q I2 r1 r2 q2
end
def uY (X:Cx) (id:String) (r:V->List V->Hp->VK->Prop):Prop:=
 ∀(pins:vP_) (s:Shared) (σ:St) (H:Hp) (x:V) (xs:List V) (v:Value) (us:vV_) (Q:VK),Inv X pins σ H s->RelV x v->Vals xs us->r x xs H Q ->
  wpAny (model X.prog X.w) X.A (call (.builtin id) (v::us)) (EP X pins σ Q) X.xe s
def Vals.one:∀{x:V}{us:vV_},Vals [x] us->∃u,us=[u]/\RelV x u:=by
 intro x us h;cases h with
 |cons r t=>
  cases t;exact⟨_,rfl,r⟩
def Vals.zero:∀{us:vV_},Vals [] us->us=[]
 |_,.nil=>rfl
theorem Vals.dropLast {xs:List V}{J:vV_}(h:Vals xs J):Vals xs.dropLast J.dropLast:=by
 induction h with
 |nil=>exact .nil
 |cons r t M=>
  cases t with
  |nil=>exact .nil
  |cons q t'=>exact .cons r M
theorem Vals.reverse {xs:List V}{J:vV_}(h:Vals xs J):Vals xs.reverse J.reverse:=by
 induction h with
 |nil=>exact .nil
 |cons r t M=>rw[UH,UH];exact Vals.append M (.cons r .nil)
theorem Vals.rep {xs:List V}{J:vV_}(h:Vals xs J):∀k:Nat,Vals (List.replicate k xs).flatten (List.replicate k J).flatten
 |0=>.nil
 |k+1=>by
  rw[Vc,Vc,VM,VM];exact Vals.append h (Vals.rep h k)
def Hc {α:Type}(l:List α):l.eraseIdx (l.length - 1)=l.dropLast:=by
 induction l with
 |nil=>rfl
 |cons a r J=>
  cases r with
  |nil=>rfl
  |cons b r=>
   have e:(a::b::r).length - 1=((b::r).length - 1)+1:=by
    have h1:(a::b::r).length=r.length+2:=rfl;have h2:(b::r).length=r.length+1:=rfl;omega
   rw[e,List.eraseIdx_cons_succ,J]
   all_goals rfl
theorem wc (J:vV_):∀(k:Nat) (acc:vV_),
  List.foldl (fun x1 x2=>x1++x2) acc.toArray (List.replicate k J.toArray)=(acc++(List.replicate k J).flatten).toArray
 |0,acc=>by simp
 |k+1,acc=>by
  have e:acc.toArray++J.toArray=(acc++J).toArray:=by simp
  have M:(acc++J)++(List.replicate k J).flatten=acc++(List.replicate (k+1) J).flatten:=by
   rw[Vc,VM,Ul]
  rw[<-M,<-wc J k (acc++J),<-e,Vc,TY]
section
variable {X:Cx}{pins:vP_}{σ:St}{H:Hp}{s:Shared}{l b:Addr}{xs ys zs:List V}
def Inv.lset {J its':vV_}{n:Nat}{t':Nat}(I:Inv X pins σ H s) (M:H l=some (.lst xs))
  (e:s.heap.get? l=some { cls:=.type "list",data:=.seq J.toArray n }) (hf:f J.toArray=its'.toArray) (hv:Vals ys its') (hz:ys.length<=sizeLine) :
  Inv X pins σ (k0 H l (.lst ys)) { s with heap:=s.heap.update l (Obj.mapSeq f),toks:=t' }:=by
 have q:=PySem.IsL.update e f;rw[hf] at q;refine I.write (x:=l) (e:=l) (by rw[M];exact trivial) (.inl rfl) (fun U u hb hu=>(UI s.heap (Obj.mapSeq f) (SS hb)).trans hu) ⟨_,q⟩ ?_;exact⟨hz,its',_,hv,q⟩
def Inv.lnew {J:vV_}{t':Nat}(I:Inv X pins σ H s) (hv:Vals ys J) (hz:ys.length<=sizeLine) :
  Inv X pins σ (k0 H s.heap.objs.size (.lst ys)) { s with heap:=s.heap.push { cls:=.type "list",data:=.seq J.toArray },toks:=t' }:=
 I.laid (fun _ _ q=>Sx _ q) (Su _) ⟨hz,J,0,hv,Tc _ rfl⟩
theorem Inv.fresh (I:Inv X pins σ H s):H s.heap.objs.size=none:=I.hok.fresh (Su _)
def Inv.lstM (I:Inv X pins σ H s) (J:H l=some (.lst xs)):xs.length<=sizeLine/\∃(its:vV_) (n:Nat),Vals xs its/\xs.length=its.length/\s.heap.get? l=some { cls:=.type "list",data:=.seq its.toArray n }:=by
 obtain⟨z,its,n,r,e⟩:=I.hok l _ J;exact⟨z,its,n,r,r.length,e⟩
def HN {n:Nat}(h:n<=sizeLine):Builtin.List.listTooLong n=false:=by
 unfold Builtin.List.listTooLong;exact SF (by omega)
end
section
variable {X:Cx}
def Rj:V->List V->Hp->VK->Prop:=fun x J H Q=>∃l xs y,x = .ref l/\J=[y]/\H l=some (.lst xs)/\xs.length<sizeLine/\Q .non (k0 H l (.lst (xs++[y])))
def yf:uY X "list.append" Rj:=by
 intro pins s σ H x Z v us Q I U W h;obtain⟨l,xs,y,rfl,rfl,M,hz,q⟩:=h;cases U;obtain⟨u,rfl,Y⟩:=W.one;obtain⟨z,J,n,r,hl,e⟩:=I.lstM M;refine call_meets F.slot_list_append ⟨_,e,rfl⟩ F.entry_list_append (F.args_list_append_2 _ _) (PySem.list_append l J.toArray n u (by rw[SY];omega)) ⟨e,?_⟩;refine⟨.non,_,I.lset (its':=J++[u]) M e (by simp) (r.append (.cons Y .nil)) ?_,rfl,q⟩;rw[SG,Vu];omega
def MB:V->List V->Hp->VK->Prop:=fun x J H Q=>∃l xs y,x = .ref l/\J=[]/\H l=some (.lst xs)/\xs[xs.length - 1]? = some y/\Q y (k0 H l (.lst xs.dropLast))
def Pd:uY X "list.pop" MB:=by
 intro pins s σ H x vs v us Q I Z rv h;obtain⟨l,xs,y,rfl,rfl,W,Y,q⟩:=h;cases Z;have M:=rv.zero;subst M;obtain⟨z,J,n,r,hl,e⟩:=I.lstM W;obtain⟨u,hu,ru⟩:=r.get Y;have U:J.toArray[J.toArray.size - 1]? = some u:=by
  show J.toArray[J.length - 1]? = some u;rw[<-Array.getElem?_toList,<-hl];exact hu
 refine call_meets F.slot_list_pop ⟨_,e,rfl⟩ F.entry_list_pop (F.args_list_pop_1 _) (MeetsSeq.list_pop_last l J.toArray n u U (by rw[SY];omega)) ⟨e,?_⟩;refine⟨y,_,I.lset (its':=J.dropLast) W e ?_ r.dropLast ?_,ru,q⟩
 .show J.toArray.eraseIdxIfInBounds (J.toArray.size - 1)=J.dropLast.toArray;rw[SY,List.eraseIdxIfInBounds_toArray,Hc]
 .rw[XD];omega
def pN:R2:=fun x y H Q=>∃l b xs zs,x = .ref l/\y = .ref b/\H l=some (.lst xs)/\H b=some (.lst zs)/\xs.length+zs.length<=sizeLine/\∀p,H p=none->Q (.ref p) (k0 H p (.lst (xs++zs)))
def mJ:OpR X (binaryOp .Add) pN:=by
 intro pins s σ H x y v u Q I Y ry h;obtain⟨l,b,xs,zs,rfl,rfl,hH,hB,hz,q⟩:=h;cases Y;cases ry;obtain⟨z,M,n,r,hl,e⟩:=I.lstM hH;obtain⟨z2,J,n2,U,Z,e2⟩:=I.lstM hB;refine PySem.P.add_list e e2 ?_ (by rw[SY,SY];omega);have W:M.toArray++J.toArray=(M++J).toArray:=by simp
 rw[W];exact⟨.ref _,_,I.lnew (t':=s.toks) (r.append U) (by rw[SG];omega),rfl,q _ I.fresh⟩
def DV:R2:=fun x y H Q=>∃l k xs,x = .ref l/\y = .int k/\H l=some (.lst xs) /\ -(2 ^ 63)<=k/\k<2 ^ 63/\xs.length*k.toNat<=sizeLine /\
 ∀p,H p=none->Q (.ref p) (k0 H p (.lst (List.replicate k.toNat xs).flatten))
def Il {α:Type}(xs:List α) (k:Nat):(List.replicate k xs).flatten.length=k*xs.length:=by
 induction k with
 |zero=>simp
 |succ k J=>rw[Vc,VM,SG,J,Nat.succ_mul,UM]
def KH:OpR X (binaryOp .Mult) DV:=by
 intro pins s σ H x y v u Q I rx ry h;obtain⟨l,k,xs,rfl,rfl,hH,h1,h2,hz,q⟩:=h;cases rx;obtain⟨t,rfl⟩:=ry;obtain⟨z,J,n,r,hl,e⟩:=I.lstM hH;have W:J.toArray.size*k.toNat<=sizeLine:=by rw[SY,<-hl];exact hz
 have Z:¬ J.toArray.size*k.toNat>(2 ^ 63 - 1) / 8:=by
  have:(sizeLine:Nat)<=(2 ^ 63 - 1) / 8:=by decide
  omega
 have hfit:¬ (!Builtin.List.listFitsIndex k)=true:=by
  rw[fitsIndex_both h1 h2];exact Sy
 have M:¬ Builtin.List.listTooLong (J.toArray.size*k.toNat)=true:=by
  rw[HN W];exact Sy
 have Y:List.foldl (fun x1 x2=>x1++x2) #[] (List.replicate (if J.toArray.isEmpty=true then 0 else k.toNat) J.toArray)=(List.replicate k.toNat J).flatten.toArray:=by
  have f0:∀m:Nat,List.foldl (fun x1 x2=>x1++x2) #[] (List.replicate m J.toArray)=(List.replicate m J).flatten.toArray:=fun m=>by
   have:=wc J m [];rw[Uv] at this;exact this
  rw[f0];cases J with
  |nil=>simp
  |cons a r'=>rw[So (by simp)]
 refine wpAny_binaryOp_repeat_ref (T := "list") (U := "int") (by decide) ⟨_,e,rfl⟩ (fun s'=>typeIs_int s' k t) noFill_list_mul F.fills_int_mul F.slot_int_rmul repeat_list F.slot_int_index.lookup
  (call_meets F.slot_int_rmul (typeIs_int s k t) F.entry_int_rmul (F.args_int_rmul_2 _ _) (int___rmul___int_list k t l J.toArray n)
   ⟨e,rfl,⟨_,e,rfl⟩,call_meets F.slot_list_mul ⟨_,e,rfl⟩ F.entry_list_mul (F.args_list_mul_2 _ _) (AutoListH.list___mul___list_int_3 l J.toArray n k t hfit Z M) ⟨e,?_⟩⟩)
 rw[Y];exact⟨.ref _,_,I.lnew (t':=s.toks) (r.rep k.toNat) (by rw[Il,Nat.mul_comm];exact hz),rfl,q _ I.fresh⟩
end
section
variable {κ:Type}[DecidableEq κ]
def N7 (J:List (κ × V)) (k:κ):Option V:=(J.find? fun M=>decide (M.1=k)).map (·.2)
def F1 (J:List (κ × V)) (k:κ) (v:V):List (κ × V):=
 if (J.any fun M=>decide (M.1=k))=true then J.map (fun M=>if M.1=k then (M.1,v) else M) else J++[(k,v)]
def kU {k:κ}:N7 ([]:List (κ × V)) k=none:=rfl
def cL {p:κ × V}{r:List (κ × V)}{k:κ}(e:p.1=k):N7 (p::r) k=some p.2:=by simp[N7,Vv,e]
def R8 {p:κ × V}{r:List (κ × V)}{k:κ}(e:¬ p.1=k):N7 (p::r) k=N7 r k:=by simp[N7,Vv,e]
theorem mB (k:κ):∀kvs:List (κ × V),(kvs.any fun kv=>decide (kv.1=k))=(N7 kvs k).isSome
 |[]=>rfl
 |p::r=>by
  rw[XE];by_cases e:p.1=k
  .simp only[cL e,SA e,Bool.true_or,Option.isSome_some]
  .rw[R8 e,SF e,XF];exact mB k r
def rP (J:List (κ × V)) (k:κ) (v:V):(F1 J k v).length<=J.length+1:=by
 unfold F1;split
 .rw[Ss];omega
 .rw[SG,SW,UJ];omega
def mC {J:List (κ × V)}{k:κ}(v:V) (h:N7 J k=none):F1 J k v=J++[(k,v)]:=by
 unfold F1;rw[mB,h];exact So (by decide)
def RelO.isSome_eq {o:Option V}{u:Option Value}(r:RelO o u):o.isSome=u.isSome:=by
 cases o with
 |none=>cases u with
  |none=>rfl
  |some _=>exact(show False from r).elim
 |some _=>cases u with
  |none=>exact(show False from r).elim
  |some _=>rfl
def KV.val {J:List (κ × V)}{M:List (κ × Value)}(r:KV J M) (k:κ):RelO (N7 J k) (valueAt M k):=by
 unfold KV at r;induction r with
 |nil=>exact True.intro
 |@cons p q ps qs h t ih=>
  obtain⟨h1,h2⟩:=h;by_cases e:p.1=k
  .have e':q.1=k:=h1.symm.trans e;have b:valueAt (q::qs) k=some q.2:=by simp[valueAt,Vv,e']
   rw[cL e,b];exact h2
  .have e':¬ q.1=k:=fun z=>e (h1.trans z)
   have b:valueAt (q::qs) k=valueAt qs k:=by simp[valueAt,Vv,e']
   rw[R8 e,b];exact ih
theorem KV.any {J:List (κ × V)}{M:List (κ × Value)}(r:KV J M) (k:κ):(J.any fun kv=>decide (kv.1=k))=M.any fun kv=>decide (kv.1=k):=by
 unfold KV at r;induction r with
 |nil=>rfl
 |cons h t U=>rw[XE,XE,U,h.1]
def KV.repl {J:List (κ × V)}{M:List (κ × Value)}(r:KV J M) (k:κ) (U:RelV y u) :
  KV (J.map fun kv=>if kv.1=k then (kv.1,y) else kv) (M.map fun kv=>if kv.1=k then (kv.1,u) else kv):=by
 unfold KV at r ⊢;induction r with
 |nil=>exact .nil
 |@cons p q ps qs h t ih=>
  rw[SN,SN];refine .cons ?_ ih;obtain⟨h1,h2⟩:=h;by_cases e:p.1=k
  .rw[tx e,tx (h1.symm.trans e)];exact⟨h1,U⟩
  .rw[So e,So (fun z=>e (h1.trans z))];exact⟨h1,h2⟩
def KV.put {J:List (κ × V)}{M:List (κ × Value)}(r:KV J M) (k:κ) (U:RelV y u):KV (F1 J k y) (stored M k u):=by
 unfold F1 stored;rw[r.any k];by_cases e:(M.any fun W=>decide (W.1=k))=true
 .rw[tx e,tx e];exact r.repl k U
 .rw[So e,So e];exact Paired.snoc r ⟨rfl,U⟩
theorem KV.length {J:List (κ × V)}{M:List (κ × Value)}(r:KV J M):J.length=M.length:=Wk r
end
def jI {w:World}{k:l5}(r:RelV (kV k) u):(L3 P w).is k u=true:=by
 cases k with
 |inl i=>obtain⟨t,e⟩:=(show ∃t,u=Value.int i t from r);subst e;exact Kd P w i t
 |inr x=>obtain⟨t,e⟩:=(show ∃t,u=Value.str x t from r);subst e;exact Kz P w x t
theorem qZ {w:World}:∀{ks:List l5}{us:vV_},Vals (ks.map kV) us->ItemsAre (L3 P w) ks us
 |[],_,r=>by rw[TU] at r;cases r;exact .nil
 |k::ks,_,r=>by
  rw[SN] at r;cases r with
  |cons h t=>exact .cons (jI h) (qZ t)
abbrev KT (H:Hp):List (List l5 × V)->List (List l5 × Addr × Value)->Prop:=Paired fun p q=>p.1=q.1/\H q.2.1=some (.tup (p.1.map kV))/\RelV p.2 q.2.2
def KT.val {xs:List (List l5 × Addr × Value)}(r:KT H kvs xs) (k:List l5):RelO (N7 kvs k) ((atKey xs k).map (·.2)):=by
 induction r with
 |nil=>exact True.intro
 |@cons p q ps qs h t ih=>
  obtain⟨h1,_,h2⟩:=h;by_cases e:p.1=k
  .have e':q.1=k:=h1.symm.trans e;have b:atKey (q::qs) k=some q.2:=by simp[atKey,Vv,e']
   rw[cL e,b];exact h2
  .have e':¬ q.1=k:=fun z=>e (h1.trans z)
   have b:atKey (q::qs) k=atKey qs k:=by simp[atKey,Vv,e']
   rw[R8 e,b];exact ih
def KT.repl {J:List (List l5 × V)}{xs:List (List l5 × Addr × Value)}(r:KT H J xs) (k:List l5) (M:RelV y u) :
  KT H (J.map fun kv=>if kv.1=k then (kv.1,y) else kv) (xs.map (putAt k u)):=by
 induction r with
 |nil=>exact .nil
 |@cons p q ps qs h t ih=>
  rw[SN,SN];refine .cons ?_ ih;obtain⟨h1,h2,h3⟩:=h;unfold putAt;by_cases e:p.1=k
  .rw[tx e,tx (h1.symm.trans e)];exact⟨h1,h2,M⟩
  .rw[So e,So (fun z=>e (h1.trans z))];exact⟨h1,h2,h3⟩
def KT.put {H:Hp}{xs:List (List l5 × Addr × Value)}(r:KT H kvs xs) (k:List l5) {b:Addr}(hb:H b=some (.tup (k.map kV))) (J:RelV y u) :
  KT H (F1 kvs k y) (storedH xs k b u):=by
 have e:(kvs.any fun M=>decide (M.1=k))=(atKey xs k).isSome:=by
  rw[mB,(r.val k).isSome_eq,Option.isSome_map]
 unfold F1 storedH;rw[e];by_cases q:(atKey xs k).isSome=true
 .rw[tx q,tx q];exact r.repl k J
 .rw[So q,So q];exact Paired.snoc r ⟨rfl,hb,J⟩
def KT.keeps {H H':Hp}{xs:List (List l5 × Addr × Value)}(r:KT H kvs xs) (J:∀b ys,H b=some (.tup ys)->H' b=some (.tup ys)):KT H' kvs xs:=
 Paired.mapP r fun _ _ z=>⟨z.1,J _ _ z.2.1,z.2.2⟩
section
variable {P:Program}{w:World}{H:Hp}{h:Heap}{a:Addr}
def uF (ok:HOk P w H h) (e:Rd H a u):ObjOk P w H h a u:=e.ok ok
def sY {J:List (l5 × V)}(M:HOk P w H h) (e:Rd H a (.dK J)):J.length<=sizeLine/\(a == sysModules)=false/\∃vs,KV J vs/\h.DictOf (L3 P w) a vs:=
 show ObjOk P w H h a (.dK J) from uF M e
def wK {J:List (l5 × V)}(M:HOk P w H h) (e:H a=some (.dK J)):J.length<=sizeLine/\(a == sysModules)=false/\∃vs,KV J vs/\h.DictOf (L3 P w) a vs:=sY M (.inl e)
def rR {ks:List l5}(M:HOk P w H h) (e:H a=some (.tup (ks.map kV))):(tupleKind (L3 P w)).is h ks a:=by
 obtain⟨_,J,r,o,h1,h2,n,h3⟩:=(show ObjOk P w H h a (.tup (ks.map kV)) from M a _ e)
 exact⟨o,J.toArray,n,h1,h2,h3,by simpa using qZ r⟩
def sG {J:List (List l5 × V)}(W:HOk P w H h) (e:Rd H a (.dT J)):J.length<=sizeLine/\(a == sysModules)=false /\
  ∃xs,KT H J xs/\h.DictOfH (tupleKind (L3 P w)) a xs:=by
 obtain⟨z,y,xs,r,o,es,ep,h1,h2,h3,Y,Z⟩:=(show ObjOk P w H h a (.dT J) from uF W e)
 refine⟨z,y,xs,r,o,es,ep,h1,h2,h3,Y,fun x M=>?_,Z⟩;have U:∀{l:List (List l5 × V)}{m:List (List l5 × Addr × Value)},KT H l m->∀x∈m,(tupleKind (L3 P w)).is h x.1 x.2.1:=by
  intro l m q;induction q with
  |nil=>intro x M;exact nomatch M
  |@cons p q ps qs hq t ih=>
   intro x M;rcases Sv.mp M with e | M
   .subst e;exact rR W (by rw[<-hq.1];exact hq.2.1)
   .exact ih x M
 exact U r x M
def JZ {J:List (List l5 × V)}(M:HOk P w H h) (e:H a=some (.dT J)):J.length<=sizeLine/\(a == sysModules)=false /\
  ∃xs,KT H J xs/\h.DictOfH (tupleKind (L3 P w)) a xs:=sG M (.inl e)
end
def DGet (H:Hp) (a:Addr) (y:V) (r:Option V):Prop:=
 (∃kvs k,Rd H a (.dK kvs)/\y=kV k/\r=N7 kvs k)\/∃kvs k b,Rd H a (.dT kvs)/\y = .ref b/\H b=some (.tup (k.map kV))/\r=N7 kvs k
def DPut (H:Hp) (a:Addr) (y v:V) (H':Hp):Prop:=
 (∃kvs k,H a=some (.dK kvs)/\y=kV k/\kvs.length<sizeLine/\H'=k0 H a (.dK (F1 kvs k v))) \/
 ∃kvs k b,H a=some (.dT kvs)/\y = .ref b/\H b=some (.tup (k.map kV))/\kvs.length<sizeLine/\H'=k0 H a (.dT (F1 kvs k v))
theorem DGet.k {H:Hp}{k:l5}(e:H a=some (.dK kvs)):DGet H a (kV k) (N7 kvs k):=.inl ⟨kvs,k,.inl e,rfl,rfl⟩
theorem DPut.k {H:Hp}{J:List (l5 × V)}{k:l5}{v:V}(e:H a=some (.dK J)) (hl:J.length<sizeLine):DPut H a (kV k) v (k0 H a (.dK (F1 J k v))):=.inl ⟨J,k,e,rfl,hl,rfl⟩
section
variable {X:Cx}{pins:vP_}{σ:St}{H:Hp}{s:Shared}{a:Addr}{y v:V}{u r:Value}{o:Option V}{A:Around}{E:vQ_}
def Inv.big (I:Inv X pins σ H s):sysModules<s.heap.objs.size:=by
 have h:mainGlobals<s.heap.objs.size:=(I.mod.glob.keeps I.bk).lt;exact Nat.lt_trans (by decide) h
def Py {Q:vQ_}(hu:A.units+1<cLine) (I:Inv X pins σ H s) (g:DGet H a y (some v)) (ry:RelV y u) (h:∀w' s',Inv X pins σ H s'->RelV v w'->Q w' s') :
  wpAny (model X.prog X.w) A (getItem (.ref a) u) Q E s:=by
 rcases g with ⟨U,k,e,W,l⟩ | ⟨U,k,b,e,W,eb,l⟩
 .subst W;obtain⟨z,hd,vs,J,Z⟩:=sY I.hok e;obtain⟨w',Y,M⟩:=RelO.some_of (v:=v) (o:=valueAt vs k) (by rw[l];exact J.val k);exact wpAny_getItem_of (jI ry) Z.mapOf Y (h w' _ (I.tok _) M)
 .subst W;cases (show u=Value.ref b from ry);obtain⟨z,hd,xs,J,Z⟩:=sG I.hok e;obtain⟨w',Y,M⟩:=RelO.some_of (v:=v) (o:=(atKey xs k).map (·.2)) (by rw[l];exact J.val k);obtain⟨p,hp,hp2⟩:=Wr.mp Y;refine wpAny_getItem_heap (XG hu) (rR I.hok eb) Z hp ?_;rw[hp2];exact h w' _ (I.tok _) M
def mf {h':Heap}{t':Nat}(I:Inv X pins σ H s) (M:jd (H a)) (W:Heap.SameBut a s.heap h') (U:∃q,h'.get? a=some q) (J:ObjOk X.prog X.w (k0 H a ob) h' a ob) :
  Inv X pins σ (k0 H a ob) { s with heap:=h',toks:=t' }:=
 I.write (x:=a) (e:=a) M (.inl rfl) (fun b q hb z=>(W.2 b hb).trans z) U J
def BE {w:World}{h':Heap}{J:List (l5 × V)}(z:J.length<=sizeLine) (hd:(a == sysModules)=false) (M:KV J vs) (dd:h'.DictOf (L3 P w) a vs) :
  ObjOk P w H' h' a (.dK J):=⟨z,hd,vs,M,dd⟩
def Er {Q:Unit->Shared->Prop}(hu:A.units+1<cLine) (I:Inv X pins σ H s) (g:DPut H a y v H') (ry:RelV y u) (rv:RelV v r) (h:∀s',Inv X pins σ H' s'->Q () s') :
  wpAny (model X.prog X.w) A (setItem (.ref a) u r) Q E s:=by
 rcases g with ⟨M,k,e,Y,l,Z⟩ | ⟨M,k,b,e,Y,eb,l,Z⟩
 .subst Y Z;obtain⟨z,hd,vs,J,dd⟩:=wK I.hok e;have hz:vs.length<=sizeLine:=by rw[<-J.length];exact z
  have hl:(F1 M k v).length<=sizeLine:=by have:=rP M k v;omega
  refine wpAny_setItem_pairs (hsz:=hz) (jI ry) dd fun h' U hs=>h _ ?_
  have he:∃q,h'.get? a=some q:=let ⟨q,_,_,W,_⟩:=U;⟨q,W⟩
  exact mf I (by rw[e];exact True.intro) hs he (BE hl hd (J.put k rv) U)
 .subst Y Z;cases (show u=Value.ref b from ry);obtain⟨z,hd,xs,J,dd⟩:=JZ I.hok e;have hz:xs.length<=sizeLine:=by rw[<-Wk J];exact z
  have hl:(F1 M k v).length<=sizeLine:=by have:=rP M k v;omega
  refine wpAny_setItem_heap (hsz:=hz) (XG hu) (rR I.hok eb) dd fun h' U hs=>h _ ?_
  obtain⟨q,es,ep,W,h2,h3,h4,_,h5⟩:=U;refine mf I (by rw[e];exact True.intro) hs ⟨q,W⟩ ⟨hl,hd,_,(J.put k eb rv).keeps fun c ys ec=>?_,q,es,ep,W,h2,h3,h4,h5⟩;rw[w5 (RG ec e (fun z=>nomatch z))];exact ec
end
def vB (i:Expr):Prop:=∀ov iv,subscripted i false ov iv=operate [ov,iv] (getItem ov iv)
def RB {w:World}{E:vQ_}{M:Env}{pos:Pos}{T id:String}{Q:vQ_}
  (hl:typeLookup (.type T) "__getitem__" = pure (some (.builtin id))) (hs:vB slice)
  (h:wpAny (model prog w) A (eval value M) (fun o s₁=>wpAny (model prog w) A (eval slice M) (fun i s₂=>s₂.TypeIs o T/\wpAny (model prog w) A (getItem o i) Q E s₂) E s₁) E s) :
  wpAny (model prog w) A (eval (.Subscript value slice pos) M) Q E s:=by
 refine Subscript_ (Th h (fun o s₁ Z=>Th Z (fun i s₂ U=>?_) fun _ _ x=>x) fun _ _ x=>x);obtain⟨Y,U⟩:=U;unfold subscriptTail;refine gV ?_;rw[getitemInPython_of_ne Y.not_modules];refine gV (VN Y hl ?_);have J:wpAny (model prog w) A (subscripted slice false o i) (fun r W=>wpAny (model prog w) A (letTemporaryGo value o r >>= fun _=>pure r) Q E W) E s₂:=by
  rw[hs o i];exact wpAny_operating (Th U (fun r W h₃=>gV (wpAny_letTemporaryGo (Sr h₃))) fun _ _ x=>x)
 first
  | exact Sr (gV J)
  | exact gV (Sr (gV J))
  | exact gV J
def JU {pins:vP_}{s:Shared}{o:Option V}(I:Inv X pins σ H s) (g:DGet H a y o):s.TypeIs (.ref a) "dict":= by
 rcases g with ⟨J,k,e,_,_⟩ | ⟨J,k,b,e,_,_,_⟩
 .obtain⟨_,_,U,_,M⟩:=sY I.hok e;exact M.typeIs
 .obtain⟨_,_,xs,_,M⟩:=sG I.hok e;exact M.typeIs
def EM (td ty:TE):TE:=fun σ H Q=>td σ H fun x H1=>ty σ H1 fun y H2=>∃a v,x = .ref a/\DGet H2 a y (some v)/\Q v H2
def Hv (td ty tv:TE):TS:=fun D σ H=>tv σ H fun v H1=>td σ H1 fun x H2=>ty σ H2 fun y J=>∃a H4,x = .ref a/\DPut J a y v H4/\D.nx σ H4
section
variable {X:Cx}{o i e value:Expr}{pos pos' tpos:Pos}{td ty tv:TE}
def JC (hu:X.A.units+1<cLine) (Z:PE X o td) (hi:PE X i ty) (hs:vB i):PE X (.Subscript o i pos) (EM td ty):=by
 intro pins s σ H Q I h;refine RB PySem.F.slot_dict_getitem.lookup hs (t6 (Z pins s σ H _ I h) fun u s1 ⟨x,H1,U,W,q1⟩=>t6 (hi pins s1 σ H1 _ U q1) fun iv s2 ⟨y,H2,M,ry,a,v,ex,g,q2⟩=>?_);subst ex;obtain rfl:u=Value.ref a:=W;exact⟨JU M g,Py hu M g ry fun w' s3 Y J=>⟨v,H2,Y,J,q2⟩⟩
def JM (hu:X.A.units+1<cLine) (Y:PE X o td) (hi:PE X i ty) (hv:PE X value tv) (hs:swapsWith value (some (.Subscript o i pos')) pos.line X.env=pure false) :
  PS X (.Assign [.Subscript o i pos'] value pos) (Hv td ty tv):=by
 intro pins s σ H D I h;refine wpAny_Assign_Subscript (t6 (hv pins s σ H _ I h) fun r s1 ⟨v,H1,Z,W,q1⟩=>t6 (Y pins s1 σ H1 _ Z q1) fun u s2 ⟨x,H2,I2,J,q2⟩=>t6 (hi pins s2 σ H2 _ I2 q2) fun iv s3 ⟨y,H3,I3,M,a,H4,ex,g,q3⟩=>?_) hs;subst ex;obtain rfl:u=Value.ref a:=J;exact Er hu I3 g M W fun s4 U=>⟨σ,H4,U,q3⟩
end
def Nz {w:World}(h:Heap) (hb:sysModules<h.objs.size):ObjOk P w H (h.push { cls:=.type "dict",data:=.dict #[] }) h.objs.size (.dK []):=
 ⟨TR _,Xs.mpr (SS (SV hb)),[],.nil,Heap.DictOf.new h⟩
def qP:List (TE × TE)->St->Hp->(List (V × V)->Hp->Prop)->Prop
 |[],_,H,Q=>Q [] H
 |(tk,tv)::r,σ,H,Q=>tk σ H fun x H1=>tv σ H1 fun y H2=>qP r σ H2 fun ps J=>Q ((x,y)::ps) J
abbrev VV:List (V × V)->List (Value × Value)->Prop:=Paired fun p q=>RelV p.1 q.1/\RelV p.2 q.2
def jD (X:Cx) (pos:Pos) (M:List (Option Expr)) (J:List Expr) (U:List (TE × TE)):Prop:=
 ∀(pins:vP_) (s:Shared) (σ:St) (H:Hp) (Q:List (V × V)->Hp->Prop),Inv X pins σ H s->qP U σ H Q ->
  wpAny (model X.prog X.w) X.A (evalPairs (pairTrees M J X.env pos)) (fun W s'=>∃ps H',Inv X pins σ H' s'/\VV ps W/\Q ps H') X.xe s
def Pl {pos:Pos}:jD X pos [] [] []:=fun pins s σ H Q I h=>pairTrees_nil_walk ⟨[],H,I,.nil,h⟩
def jQ {pos:Pos}{k v:Expr}{M tv:TE}(hk:PE X k M) (hv:PE X v tv) (W:jD X pos ks vs trs) :
  jD X pos (some k::ks) (v::vs) ((M,tv)::trs):=fun pins s σ H Q I h=>
 pairTrees_cons_walk (t6 (hk pins s σ H _ I h) fun u s1 ⟨x,H1,Y,Z,q1⟩=>t6 (hv pins s1 σ H1 _ Y q1) fun w2 s2 ⟨y,H2,I2,ry,q2⟩=>
  t6 (W pins s2 σ H2 _ I2 q2) fun ws s3 ⟨ps,U,I3,J,q3⟩=>⟨(x,y)::ps,U,I3,.cons ⟨Z,ry⟩ J,q3⟩)
def eU (M J:List (l5 × V)):List (l5 × V):=J.foldl (fun U W=>F1 U W.1 W.2) M
def KV.merge:∀{more:List (l5 × V)}{rs:List (l5 × Value)}{kvs:List (l5 × V)}{vs:List (l5 × Value)},KV more rs->KV kvs vs->KV (eU kvs more) (merged vs rs):=by
 intro more rs kvs vs r;unfold KV at r;induction r generalizing kvs vs with
 |nil=>intro q;exact q
 |@cons p q ps qs h t ih=>
  intro J;have e:KV (F1 kvs p.1 p.2) (stored vs q.1 q.2):=by
   have:=J.put p.1 h.2;rw[<-h.1];exact this
  exact ih e
theorem tY:∀(more kvs:List (l5 × V)),(eU kvs more).length<=kvs.length+more.length
 |[],kvs=>by show kvs.length<=kvs.length+0;omega
 |p::r,kvs=>by
  have h1:=tY r (F1 kvs p.1 p.2);have h2:=rP kvs p.1 p.2;show (eU (F1 kvs p.1 p.2) r).length<=_;rw[SW];omega
theorem Ad {w:World}:∀{kvs:List (l5 × V)}{ws:List (Value × Value)},VV (kvs.map fun kv=>(kV kv.1,kv.2)) ws->∃rs,Carries (L3 P w) ws rs/\KV kvs rs
 |[],_,r=>by rw[TU] at r;cases r;exact⟨[],True.intro,.nil⟩
 |p::kvs,_,r=>by
  rw[SN] at r;cases r with
  |@cons a b as bs h t=>
   obtain⟨rs,c,q⟩:=Ad (P:=P) (w:=w) t;obtain⟨M,J⟩:=b;exact⟨(p.1,J)::rs,⟨jI h.1,rfl,c⟩,.cons ⟨rfl,h.2⟩ q⟩
def Nt (J:List (TE × TE)):TE:=fun σ H Q=>∀p,H p=none->qP J σ (k0 H p (.dK [])) fun ps H2=>H2 p=some (.dK [])/\∃kvs:List (l5 × V),ps=kvs.map (fun M=>(kV M.1,M.2))/\kvs.length<=15/\Q (.ref p) (k0 H2 p (.dK (eU [] kvs)))
def Hn {pos:Pos}{J:List (Option Expr)}{M:List Expr}(h:jD X pos J M trs) (Y:J.all (·.isSome)=true) (hl:J.length=M.length) (h0:J≠[])
  (Z:J.length<=15):PE X (.Dict J M pos) (Nt trs):=by
 intro pins s σ H Q I q;have hn:=I.hok.fresh (Su s.heap.objs.size);have I1:=I.laid (a:=s.heap.objs.size) (o:=.dK []) (h':=s.heap.push { cls:=.type "dict",data:=.dict #[] }) (t':=s.toks) (fun _ _ q=>Sx _ q) (Su _) (Nz s.heap I.big);refine wpAny_Dict_walk (knd:=L3 X.prog X.w) Y hl h0 Z (t6 (h pins _ σ _ _ I1 (q _ hn)) fun ws s2 ⟨ps,H2,I2,rel,e,U,ep,lk,q2⟩=>?_);subst ep;obtain⟨rs,c,rk⟩:=Ad (P:=X.prog) (w:=X.w) rel;obtain⟨z,hd,vs0,r0,dd⟩:=wK I2.hok e;cases r0;refine⟨rs,c,dd,fun h' W hs=>⟨.ref s.heap.objs.size,_,?_,rfl,q2⟩⟩;have hz:(eU [] U).length<=sizeLine:=by
  have h1:=tY U [];rw[UJ] at h1;rw[Wq];omega
 have he:∃q,h'.get? s.heap.objs.size=some q:=let ⟨q,_,_,hq,_⟩:=W;⟨q,hq⟩
 exact mf I2 (by rw[e];exact True.intro) hs he (BE hz hd (rk.merge .nil) W)
end L2
namespace Att
open PySem PySem.W PySem.Calls PyProof.Rows
def Jt :∀(ns:List Int) (vs:vV_),WellAll P h vs (ns.map WData.int)->IntsAre vs ns:=by
 intro ns;induction ns with
 |nil=>
  intro vs w;rw[TU] at w;cases w;exact .nil
 |cons n ns J=>
  intro vs w;rw[SN] at w;cases w with
  |cons a b=>
   cases a;exact .cons _ _ (J _ b)
def Hk {l:OpenLaw}{n:Nat}(hn:l.most=some n) {h:Heap}{J:vV_}
  (M:l.row.toRowW.claim.pre args=true) (hwl:WellAll P h J args) :
  ∃a vs ns,J=[Value.ref a]/\args=[WData.list (ns.map WData.int)]/\h.get? a=some { cls:=.type "list",data:=.seq vs.toArray }/\IntsAre vs ns/\ns.length<=n:=by
 have hsh:WShape.hasAll [] args [.list .int]=true:=(pre_splitW M).1;have hc:l.pre.holds [] { args:=args }=true:=(pre_splitW M).2;obtain⟨d,r,rfl,h1,h2⟩:=hasAllW_cons hsh;obtain rfl:=hasAllW_nil h2;obtain⟨xs,rfl,h3⟩:=hasW_list h1;obtain⟨ns,rfl⟩:=items_int h3;have U:ns.length<=n:=by
  unfold OpenLaw.pre at hc;have Y:(WTm.not (.lt (.lit (.int (n:Int))) (.len (.arg 0)))).holds [] { args:=[.list (ns.map .int)] }=true:=by
   have Y:=(holds_andW hc).1;rw[hn] at Y;exact Y
  have Z:=condW_of Y (w_not (w_lt w_lit (w_len_list (w_arg rfl))));rw[Ss] at Z;refine Ws fun q=>?_
  have q':(n:Int)<((ns.length:Nat):Int):=by omega
  first
   | (rw[SA q'] at Z;exact absurd Z (by decide))
   | (simp at Z;omega)
 cases hwl with
 |cons w1 w2=>
  cases w2;cases w1 with
  |list ho W=>exact⟨_,_,ns,rfl,rfl,ho,Jt ns _ W,U⟩
def Hr (l:OpenLaw) (args:List WData):l.row.toRowW.claim.post args (.bool true) args=true:=
 postW_of (r:=l.row.toRowW) (X:=(true == true))
  (show WShape.has [] (.bool true) .bool=true by first | rfl | decide | simp[WShape.has,WShape.arms,WShape.armsAll])
  (show (WTm.eq .res (.lit (.bool true))).value [] { args:=args,res:=some (.bool true),after:=args }=some (.bool (true == true)) from w_eq_bool (w_res rfl) w_lit) rfl
def attach_call {l:OpenLaw}{n:Nat}{YP:World->Heap->Prop}{d:DefRec}
  (hn:l.most=some n) (hdf:d.params.defaults=[])
  (call:∀(w:World) (s₀ s₁:Shared) (mg mb:vG_) (fa:Addr) (o:Obj) (pm cd doc:Value) (a:Addr) (vs:vV_) (ns:List Int),
   Ground q loose [] XP w s₀ mg mb s₁.heap->YP w s₁.heap ->
   s₁.heap.get? fa=some o->o.data = .func (docDef d.name d.params d.body d.scope pm cd doc)->s₁.heap.CodeRec cd d.name->mg d.name=some (.ref fa) ->
   s₁.heap.get? a=some { cls:=.type "list",data:=.seq vs.toArray }->IntsAre vs ns->ns.length<=n->s₁.gens = #[] ->
   codeAny (model l.prog w) callerA (.call (.ref fa) ⟨[.ref a],[]⟩) (fun r s'=>r = .ok (.ret (.bool true))/\OldK s₁.heap s'.heap/\s'.os=s₁.os/\AllBare s'.gens) s₁) :
  WalkO q loose XP YP l.row.toRowW d [] (fun f vs=>PySem.call f vs):=by
 intro w s₀ s₁ mg mb G Y fa o pm cd doc dV kV ho hd hcd hD Z hg args vals as W hlay hrd hwl hlo;obtain rfl:dV = .none:=Dflts.none hD hdf;obtain rfl:kV = .none:=Dflts.noKw hD;obtain⟨a,vs,ns,rfl,rfl,M,J,U⟩:=Hk hn W hwl;refine enter_call (codeAny_mono (call w s₀ s₁ mg mb fa o pm cd doc a vs ns G Y ho (fd_plain hd) hcd Z M J U hg) fun r s' hq=>?_);obtain⟨rfl,h2,h3,h4⟩:=hq;exact⟨.inl ⟨.bool true,.bool true,[],rfl,fun _=>rfl,.bool true,Hr l _,fun _=>⟨List.Pairwise.nil,fun _ hm=>(nomatch hm)⟩⟩,h2,h3,h4⟩
end Att
namespace L2
open PySem PySem.Spec PyProof.Rows
theorem CY:∀{vs:vV_}{ns:List Int},IntsAre vs ns->Vals (ns.map V.int) vs
 |_,_,.nil=>.nil
 |_,_,.cons n t h=>.cons ⟨t,rfl⟩ (CY h)
def oB (H:Hp):Prop:=∀b,H b=none\/∃o xs,H b=some (.frz o (.lst xs))
def Hh {w:World}{K:vF_}{mg mb:vG_}{k:Nat}{fd:FuncData}{sp:Sp}{J:Shared}{Y:vV_}{ns:List Int}
  (KX:K.In J.heap) (hns:J.heap.Ns mainGlobals mg) (hb:J.heap.Ns builtinsNs mb) (hbb:∀x:Str,x ≠ "__name__" -> mb x=bootBuiltins x) (hlim:J.heap.NoLimit) (hg:J.gens = #[])
  (ha:J.heap.get? a=some { cls:=.type "list",data:=.seq Y.toArray }) (hi:IntsAre Y ns) (hl:ns.length<=sizeLine) (hr:Room k callerA)
  (F:∀base:Heap,K.In base->base.Ns mainGlobals mg->FnOk P w K mg base CX k fa fd [x] sp) (Z:∀(s:Shared) (u:Value),BindsTo s fd ⟨[u],[]⟩ [(x,u)])
  (hsp:∀H:Hp,oB H->SqL K H a (ns.map V.int)->sp [.ref a] H (fun v _=>v = .bl true) fun _ _ _=>False)
  (hCX:∀H e s',CX [] H J (fun _ _ _=>False) e s'->False) :
  codeAny (model P w) callerA (.call (.ref fa) ⟨[.ref a],[]⟩) (fun r s'=>r = .ok (.ret (.bool true))/\OldK J.heap s'.heap/\s'.os=J.os/\AllBare s'.gens) J:=by
 have rv:=CY hi;have lenV:=hi.length;have W:∀H:Hp,oB H->SqL K H a (ns.map V.int)->HOk P w H J.heap->(∀b,H b≠none->b=a)->(H a≠none->K.lookup a=none) ->
   codeAny (model P w) callerA (.call (.ref fa) ⟨[.ref a],[]⟩) (fun r s'=>r = .ok (.ret (.bool true))/\OldK J.heap s'.heap/\s'.os=J.os/\AllBare s'.gens) J:=by
  intro H hO hS hok hA hK;have M:∀{b:Addr}{o:Obj},J.heap.get? b=some o->H b=none->(aV J.heap H).get? b=some o:=fun e n=>Rz e n
  have noA:∀{b:Addr}{o:Obj}{es:Array DictEntry}{ep:Nat},J.heap.get? b=some o->o.data = .dict es ep->H b=none:=fun {b o es ep} e d=>by
   cases q:H b with
   |none=>rfl
   |some u=>
    have e':b=a:=hA b (by rw[q];simp);subst e';rw[ha] at e;cases e;have d':Data.seq Y.toArray _=Data.dict es ep:=d;cases d'
  have U:∀{b:Addr}{m:vG_},J.heap.Ns b m->(aV J.heap H).Ns b m:=fun {b m} ⟨o,es,ep,e,d,r⟩=>⟨o,es,ep,M e (noA e d),d,r⟩
  have hKb:K.In (aV J.heap H):=fun b o e=>M (KX b o e) (by
   cases q:H b with
   |none=>rfl
   |some u=>
    have e':b=a:=hA b (by rw[q];simp);subst e';rw[hK (by rw[q];simp)] at e;cases e)
  have hM:Mod K mg (aV J.heap H):=⟨hKb,U hns,⟨mb,U hb,hbb⟩,let ⟨mc,h1,h2⟩:=hlim;⟨mc,U h1,h2⟩⟩
  have e0:Env0 P w K mg (aV J.heap H) callerA [] J H:=⟨rfl,hM,fun b o e=>GN e,Wt (PX _ _),trivial,fun b hb=>absurd (show b∈([]:vL_) from hb) (by simp),hok,.of_eq hg⟩
  refine codeAny_mono ((F _ hKb (U hns)).run callerA [] J H ⟨[.ref a],[]⟩ [.ref a] [.ref a] _ _ hr e0 (Z J (.ref a)) (.cons rfl .nil) (hsp H hO hS)) fun r s' h=>?_
  cases r with
  |error e=>exact(hCX H e s' h).elim
  |ok fl=>
   cases fl with
   |next=>exact False.elim h
   |brk=>exact False.elim h
   |cont=>exact False.elim h
   |ret u=>
    obtain⟨v,H',os,bare,un,hok',r',q⟩:=h;have q':v = .bl true:=q;subst q';obtain rfl:u=Value.bool true:=r';refine⟨rfl,OldK.of_keep fun b o e=>?_,os,bare⟩;cases q:H b with
    |none=>exact un.keep b o e q (by intro z;exact absurd (show b∈([]:vL_) from z) (by simp)) (by simp)
    |some u=>
     rcases hO b with z | ⟨ob,xs,z⟩
     .rw[q] at z;cases z
     .have z2:=un.frzs b ob _ z;obtain⟨e1,_⟩:=hok b _ z;obtain⟨e2,_⟩:=hok' b _ z2;rw[e] at e1;cases e1;exact e2
 cases hk:K.lookup a with
 |some o=>
  have e:=KX a o hk;rw[ha] at e;cases e;refine W (fun _=>none) (fun _=>.inl rfl) (.inr ⟨_,Y.toArray,_,hk,rfl,rfl,rfl,by rw[SY,lenV];exact hl,by simpa using rv⟩) (fun b u z=>by have z':(none:Option HO)=some u:=z;cases z') (fun b z=>absurd rfl z) fun z=>absurd rfl z
 |none=>
  refine W (fun b=>if b=a then some (.frz { cls:=.type "list",data:=.seq Y.toArray } (.lst (ns.map V.int))) else none) (fun b=>?_) (.inl (.inr ⟨{ cls:=.type "list",data:=.seq Y.toArray },tx rfl⟩)) (fun b u z=>?_) (fun b z=>?_) fun _=>hk
  .by_cases hb:b=a
   .exact .inr ⟨_,_,tx hb⟩
   .exact .inl (So hb)
  .by_cases hb:b=a
   .have z':=(tx hb).symm.trans z;cases z';subst hb;exact⟨ha,by rw[Ss];exact hl,Y,_,rv,ha⟩
   .have z':=(So hb).symm.trans z;cases z'
  .by_cases hb:b=a
   .exact hb
   .exact absurd (So hb) z
def walk_of {l:PySem.W.OpenLaw}{n k:Nat}{YP:World->Heap->Prop}{d:DefRec}{K:Params->PySem.W.Frag}{CX:World->Y9}{sp:World->Sp}
  (hn:l.most=some n) (hn2:n<=sizeLine) (Z:d.params.defaults=[]) (hr:Room k callerA)
  (hY:∀(w:World) (h:Heap),YP w h->(K w.params).In h)
  (F:∀(w:World) (mg:vG_) (fa:Addr) (h:Heap),(K w.params).In h->h.Ns mainGlobals mg->mg d.name=some (.ref fa) ->
   ∃fd:FuncData,(∀(s:Shared) (u:Value),BindsTo s fd ⟨[u],[]⟩ [(x,u)]) /\
    ∀base:Heap,(K w.params).In base->base.Ns mainGlobals mg->FnOk l.prog w (K w.params) mg base (CX w) k fa fd [x] (sp w))
  (hsp:∀(w:World) (H:Hp) (a:Addr) (ns:List Int),ns.length<=n->oB H->SqL (K w.params) H a (ns.map V.int)->sp w [.ref a] H (fun v _=>v = .bl true) fun _ _ _=>False)
  (hCX:∀(w:World) (H:Hp) (s:Shared) (e:Value) (s':Shared),CX w [] H s (fun _ _ _=>False) e s'->False) :
  PySem.W.WalkO q loose XP YP l.row.toRowW d [] (fun f vs=>PySem.call f vs):=by
 refine Att.attach_call hn Z fun w s₀ s₁ mg mb fa o pm cd doc a vs ns G Y ho hd hcd hmg U M J hg=>?_
 have KX:=hY w _ Y;obtain⟨fd,hb,hF⟩:=F w mg fa _ KX G.T.g hmg;exact Hh KX G.T.g G.T.b G.T.builtins G.T.nolimit hg U M (SI J hn2) hr hF hb (fun H hO hS=>hsp w H a ns J hO hS) fun H e s'=>hCX w H s₁ e s'
def br (s:Stmt):Arguments:=match s with
 |.FunctionDef _ a _ _ _ _ _ _ _ _=>a
 |_=>{ posonlyargs:=[],args:=[],vararg:=none,kwonlyargs:=[],kw_defaults:=[],kwarg:=none,defaults:=[] }
def T4 (s:Stmt):List Stmt:=match s with
 |.FunctionDef _ _ b _ _ _ _ _ _ _=>b
 |_=>[]
def G2 (s:Stmt):Scope:=match s with
 |.FunctionDef _ _ _ _ _ _ sc _ _ _=>sc
 |_=>{ kind:=.function,names:=[],isGenerator:=false,isCoroutine:=false }
abbrev Z8:Y9:=fun _ _ _ _ _ _=>False
abbrev E0:XK:=fun _ _ _=>False
def pF :pP Z8 X E0:=fun _ _ _ _ _ _ _ h=>h.elim
structure Fun (K:vF_) (x qual:Str) (st:Stmt) (f:Addr) (fd:FuncData):Prop where
 ex:∃(oc:Value) (od:vA_) (kV doc pm:Value) (an:vA_) (cdv ct:Value) (osl:vS_),
  fd=PySem.W.fnOf x qual (br st) (T4 st) (G2 st) .none kV doc pm an cdv ct/\K.lookup f=some ⟨oc,od,.func fd,osl⟩/\PySem.W.codeIn K cdv qual=true
 kp:PySem.W.keepIn K (.ref f)=true
section
variable {P:Program}{w:World}{K:vF_}{mg:vG_}{base:Heap}
def Fun.ok {st:Stmt}{fd:FuncData}{N ps:List Str}{k:Nat}{sp:Sp}(F:Fun K x qual st f fd) (S:FnScope N ps (G2 st)) (U:∀vs H Q E,sp vs H Q E->vs.length=ps.length)
  (J:∀(cdv:Value) (A:Around) (outer:List Env) (s:Shared) (H:Hp) (vs:List V) (Q:VK) (E:XK),Room k (A.deeper (envOfC qual (G2 st) s.heap.objs.size f cdv))->sp vs H Q E ->
   ∃t,PSs (aK Z8 P w K mg base N qual (G2 st) f cdv A outer s H E).nox (T4 st) t/\t { nx:=fun _ H'=>Q .non H',rt:=Q } (start N vs) H):FnOk P w K mg base Z8 (k+1) f fd ps sp:=by
 obtain⟨oc,od,kV,doc,pm,an,cdv,ct,Z,rfl,lk,M⟩:=F.ex;refine Jv lk M S U fun A outer s H vs Q E Y W=>?_
 obtain⟨t,h,q⟩:=J cdv A outer s H vs Q E Y W;exact⟨t,h.nox,q⟩
def Fun.binds {st:Stmt}{fd:FuncData}{ps:List Str}(F:Fun K x qual st f fd)
  (h:∀(kV doc pm:Value) (an:vA_) (cdv ct:Value) (us:vV_),us.length=ps.length->bindArgs (PySem.W.fnOf x qual (br st) (T4 st) (G2 st) .none kV doc pm an cdv ct) ⟨us,[]⟩=pure (ps.zip us)):Binds K fd ps []:=by
 obtain⟨U,Z,kV,doc,pm,an,cdv,ct,M,rfl,Y,J⟩:=F.ex;exact .all (h kV doc pm an cdv ct)
def Gn {st:Stmt}{od Z:vA_}{U:vS_}{kV M Y J ct:Value}(l:K.lookup f=some ⟨oc,od,.func (PySem.W.fnOf x qual (br st) (T4 st) (G2 st) .none kV M Y Z J ct),U⟩)
  (c:PySem.W.codeIn K J qual=true) (k:PySem.W.keepIn K (.ref f)=true):Fun K x qual st f (PySem.W.fnOf x qual (br st) (T4 st) (G2 st) .none kV M Y Z J ct):=⟨⟨oc,od,kV,M,Y,Z,J,ct,U,rfl,l,c⟩,k⟩
end
def tf {A:Around}{k:Nat}(J:Room k A):A.units+1<cLine:=TC (Nat.add_le_add_left (by decide:1<=64) _) J.units
section
variable {X:Cx}
def pv (i:Nat) {pos:Pos}(M:X.N[i]? = some x:=by rfl) (hv:oQ X.env.scope x:=by first | exact Or.inl rfl | exact Or.inr (Or.inl rfl) | exact Or.inr (Or.inr rfl)) (hd:(x == ("__debug__" : Str))=false:=by decide)
  (J:(x == ("__classdict__" : Str))=false:=by decide):PE X (.Name x pos) (Q4 i):=HA M hv hd J
end
def Qa (h:B):if false=true then A else B:=by
 rw[So Sy];exact h
def Fu (h:A):if true=true then A else B:=by
 rw[tx rfl];exact h
def A4 (X:Cx) (N':List Str) (scope:Scope) (cl:List (Str × Addr)) (C:Addr) (J:Shared) (H0:Hp) (ex:vL_):Cx:=
 { X with N:=N',env:=compEnvC scope cl C X.env,s₀:=J,H₀:=H0,outer:=X.stack,stack:=X.stack,ex:=ex,fn:=fun _=>false,pn:=[],xe:=fun _ _=>False }
def fX (X:Cx) (ifs:List Expr) (t:TT):Prop:=
 ∀(pins:vP_) (s:Shared) (σ:St) (H:Hp) (Q:Bool->Hp->Prop),Inv X pins σ H s->t σ H Q ->
  wpAny (model X.prog X.w) X.A (forIn ifs true fun c r=>if r=true then do let ok <-isTrue c X.env (eval c X.env);pure (ForInStep.yield ok) else pure (ForInStep.yield r)) (TP X pins σ Q) X.xe s
def Jd:TT:=fun _ H Q=>Q true H
def Fg :fX X [] Jd:=fun pins s σ H Q I h=>wpAny_tests_nil ⟨H,I,h⟩
def OY {t:TT}(h:PT X c t):fX X [c] t:=fun pins s σ H Q I q=>wpAny_tests_one (h pins s σ H Q I q)
def J8 (n:Nat) (idx:List Nat) (σ:St):St:=List.replicate n none++idx.map fun i=>(σ[i]?).join
def eG (n:Nat) (idx:List Nat) (wi:TI) (g:TG) (tc:TT) (te:TE):TE:=fun σ H Q=>wi σ H fun J H1=>∀D,H1 D=none ->
 ∃W:Nat->Nat->Hp->Prop,(∃m,W 0 m (k0 H1 D (.lst [])))/\∀i m H,W i m H ->
  (J.stop i H/\Q (.ref D) H)\/(J.go i H/\∀x H',J.yld i H x H'->g x (J8 n idx σ) H' fun σ2 H2=>(σ2.length=(J8 n idx σ).length/\∀(j:Nat) (v:V),(J8 n idx σ)[j]? = some (some v)->σ2[j]? = some (some v))/\tc σ2 H2 fun b M=>
   if b=true then te σ2 M fun v U=>∃ys,U D=some (.lst ys)/\ys.length<sizeLine/\∃m',m'<m/\W (i+1) m' (k0 U D (.lst (ys++[v]))) else ∃m',m'<m/\W (i+1) m' M)
structure CompOk (X:Cx) (scope:Scope) (cl:List (Str × Addr)) (N':List Str) (n:Nat) (idx:List Nat):Prop where
 clos:closureFor scope X.env=pure cl
 sub:∀x c,cl.lookup x=some c->X.env.cells.lookup x=some c
 cell:∀y∈scope.names,y.2 ≠ .cell
 kind:scope.kind = .function
 names:∀y∈scope.names,y.2 = .local->scope.names.lookup y.1=some .local
 has:∀x,((relabel scope X.env).names.lookup x=some .cell\/(relabel scope X.env).names.lookup x=some .free)->∃c,cl.lookup x=some c
 len:N'.length=n+idx.length
 cap:∀(j i:Nat) (y:Str),idx[j]? = some i->N'[n+j]? = some y->X.N[i]? = some y/\(X.env.scope.names.lookup y=some .cell\/X.env.scope.names.lookup y=some .free)/\((relabel scope X.env).names.lookup y=some .cell\/(relabel scope X.env).names.lookup y=some .free)
section
variable {X:Cx}{scope:Scope}{cl:List (Str × Addr)}{N':List Str}{n:Nat}{idx:List Nat}{tg iter elt:Expr}{ifs:List Expr}{pos:Pos}{wi:TI}{g:TG}{tc:TT}{te:TE}
def Hi (σ:St):(J8 n idx σ).length=n+idx.length:=by simp[J8]
def EU {j:Nat}{v:V}(h:(J8 n idx σ)[j]? = some (some v)):∃k i,j=n+k/\idx[k]? = some i/\σ[i]? = some (some v):=by
 unfold J8 at h;by_cases J:j<n
 .rw[Us (by simpa using J)] at h;simp[J] at h
 .rw[Uk (by simpa using Ws J)] at h;simp only[Yx,TM] at h;refine⟨j - n,?_⟩;cases e:idx[j - n]? with
  |none=>rw[e] at h;simp at h
  |some i=>
   rw[e] at h;simp only[XH,Tv] at h;exact⟨i,by omega,rfl,by simpa using Option.join_eq_some_iff.mp h⟩
def ER (k:CompOk X scope cl N' n idx) {pins:vP_}{s2:Shared}{fp:vL_}{Y:Heap}{t4:Nat}{m:vG_}(I:Inv X pins σ H2 s2) (f:∀b∈fp,bB X pins H2 b) (fo:∀b∈fp,b<s2.heap.objs.size)
  (hC:s2.heap.objs.size+1<=C) (ns:Y.Ns C m) (M:∀b o,s2.heap.get? b=some o->Y.get? b=some o) (hD:Y.get? s2.heap.objs.size=some { cls:=.type "list",data:=.seq ([]:vV_).toArray }) :
  Inv (A4 X N' scope cl C s2 H2 fp) [] (J8 n idx σ) (k0 H2 s2.heap.objs.size (.lst [])) { s2 with heap:=Y,toks:=t4 }:=by
 have fresh:H2 s2.heap.objs.size=none:=I.hok.fresh (Su _);have fC:H2 C=none:=I.hok.fresh (by omega);have J:∀x c,(A4 X N' scope cl C s2 H2 fp).env.cells.lookup x=some c->X.env.cells.lookup x=some c:=fun x c e=>k.sub x c e
 have W:∀x c,X.env.cells.lookup x=some c->c<s2.heap.objs.size:=fun x c e=>by
  obtain⟨v,q⟩:=I.cell x c e;exact q.lt
 have ok:(A4 X N' scope cl C s2 H2 fp).Ok:={
  mod:=I.ok.mod
  kind:=k.kind
  glob:=I.ok.glob
  blt:=I.ok.blt
  above:=by show s2.heap.objs.size<=C;omega
  inj:=fun x y c e1 Z=>I.ok.inj x y c (J x c e1) (J y c Z)
  has:=fun x h=>k.has x h
  cab:=fun x c h _=>by cases h
  hd:=I.ok.hd
  frames:=I.ok.frames
  stk:=.inl rfl
  exf:=fun b hb=>⟨SV (Ta (fo b hb) (by show s2.heap.objs.size<=C;omega)),fun x c e z=>(f b hb).2.2.2.2.1 x c (J x c e) z⟩
  bs:=fun b o e=>I.bs b o e
  bsz:=SI I.ok.bsz I.sz
  noex:=fun b o e hb=>by
   rcases(f b hb).2.2.2.1 with z | z
   .exact I.ok.noex b o e z
   .exact absurd (Ta (Sw e) (SI I.ok.bsz z)) (UB _)
  exfs:=fun b hb z=>by
   rcases Sv.mp (I.stkSub b z) with y | y
   .exact(f b hb).2.1 y
   .exact(f b hb).2.2.1 y
  funs:=I.stack
  frf:=I.stkFree }
 refine⟨ok,rfl,I.bare,Un.laid M (Su _) fresh,⟨m,ns,fun j y v e1 Z e3=>?_⟩,fun x c e=>?_,?_,fun x c e=>?_,fun p hp=>(by cases hp),I.hok.laid M (Su _) ⟨TR _,[],_,.nil,hD⟩,?_⟩
 .obtain⟨kk,i,rfl,hk,hv⟩:=EU Z;obtain⟨hN,ok,U⟩:=k.cap kk i y hk e1;obtain⟨c,hc⟩:=k.has y U;obtain⟨m0,_,hl⟩:=I.loc;have hc':=k.sub y c hc;obtain⟨u,r,l⟩:=hl i y v hN hv (by rcases ok with z | z;exact .inr (.inl z);exact .inr (.inr z));refine⟨u,r,.inr ⟨U,c,hc,?_⟩⟩;rcases l with ⟨z,_⟩ | ⟨_,c',e',q⟩
  .have z':X.env.scope.names.lookup y=some .local:=z;rcases ok with w | w <;> · rw[w] at z';cases z'
  .rw[hc'] at e';cases e';obtain⟨o,ho,hd⟩:=q;exact⟨o,M _ o ho,hd⟩
 .obtain⟨v,q⟩:=I.cell x c (J x c e);obtain⟨o,ho,hd⟩:=q;exact⟨v,o,M c o ho,hd⟩
 .show k0 H2 s2.heap.objs.size (.lst []) C=none;rw[w5 (TL hC)];exact fC
 .have:=W x c (J x c e);rw[w5 (SV this)];exact I.freeC x c (J x c e)
 .rw[Hi,<-k.len];rfl
def Oa {w:World}{R:Result->Shared->Prop}{elt M iter:Expr}{ifs:List Expr}{scope:Scope}{pos:Pos}{it U:Value}{J:Env}(I:Nat->Shared->Prop)
  (W:∀n s,I n s->wpAny (model prog w) A (pyNext it) (fun r s1=>match r with
   |none=>R (.ok .next) s1
   |some v=>wpAny (model prog w) A (letOwnedTupleGo M it v) (fun _ s1'=>wpAny (model prog w) A (assign M J v) (fun _ s2=>
     wpAny (model prog w) A (forIn ifs true fun c r=>if r=true then do let ok <-isTrue c J (eval c J);pure (ForInStep.yield ok) else pure (ForInStep.yield r)) (fun ok s3=>
      if ok=true then wpAny (model prog w) A (eval elt J) (fun x s4=>
       wpAny (model prog w) A (call (.builtin "list.append") [U,x]) (fun _ s5=>∃m,m<n/\I m s5) (notedBy (model prog w) A J fun e s'=>R (.error e) s') s4) (notedBy (model prog w) A J fun e s'=>R (.error e) s') s3
      else ∃m,m<n/\I m s3) (notedBy (model prog w) A J fun e s'=>R (.error e) s') s2) (notedBy (model prog w) A J fun e s'=>R (.error e) s') s1') (notedBy (model prog w) A J fun e s'=>R (.error e) s') s1) (notedBy (model prog w) A J fun e s'=>R (.error e) s') s)
  (n:Nat) (h:I n s) :
  codeAny (model prog w) A (.compLoop (.ListComp elt [⟨M,iter,ifs,0⟩] scope pos) 0 it U J) R s:=by
 refine codeAny_loop rfl I (fun n s hI=>?_) n h;show wpAny _ A ((compTurn (.ListComp elt [⟨M,iter,ifs,0⟩] scope pos) 0 it U J).onRaise (fun x=>do noteFrame x J;theTreesLotGoes x)) _ _ s;refine wpAny_noted ?_;rw[compTurn_list];refine gV (wpAny_standAt (gV (Th (W n s hI) (fun r s₁ Z=>?_) fun _ _ h'=>h')));cases r with
 |none=>exact Sr Z
 |some v=>
  refine gV (Th Z (fun _ s1' Y=>?_) fun _ _ h'=>h');refine gV (Th Y (fun _ s₂ h₂=>gV (Th h₂ (fun ok s₃ h₃=>?_) fun _ _ h'=>h')) fun _ _ h'=>h');cases ok with
  |false=>exact Sr ⟨rfl,h₃⟩
  |true=>
   exact gV (gV (Th h₃ (fun x s₄ h₄=>gV (Th h₄ (fun _ s₅ h₅=>Sr (Sr ⟨rfl,h₅⟩)) fun _ _ h'=>h')) fun _ _ h'=>h'))
end
section
variable {X:Cx}{scope:Scope}{cl:List (Str × Addr)}{N':List Str}{n:Nat}{idx:List Nat}{tg iter elt:Expr}{ifs:List Expr}{pos:Pos}{wi:TI}{g:TG}{tc:TT}{te:TE}
def yM {use:Option (Value->Sem Unit)}{Q':vQ_}(hc:X.calm=true) (k:CompOk X scope cl N' n idx) (hi:PI X tg iter wi)
  (hg:∀C s0 H0 ex,PG (A4 X N' scope cl C s0 H0 ex) tg g) (ht:∀C s0 H0 ex,fX (A4 X N' scope cl C s0 H0 ex) ifs tc) (he:∀C s0 H0 ex,PE (A4 X N' scope cl C s0 H0 ex) elt te)
  (hs:∀x,foldedSetIterable iter X.env x=pure x) {pins:vP_}{Q:VK}(I0:Inv X pins σ H s) (h:eG n idx wi g tc te σ H Q)
  (last:∀(C D:Addr) (s':Shared) (H':Hp) (m:vG_),Inv X pins σ H' s'->bB X pins H' C->s'.heap.Ns C m->Q (.ref D) H'->compPost (model X.prog X.w) X.A X.xe use Q' (.ref D) C (.ok .next) s') :
  wpAny (model X.prog X.w) X.A (comprehension (.ListComp elt [⟨tg,iter,ifs,0⟩] scope pos) scope X.env pos2 (newList []) false (eval iter X.env) use) Q' X.xe s:=by
 refine wpAny_comprehension_free (use:=use) rfl hs k.clos k.kind k.names (t6 (hi pins s σ H _ I0 h) fun v s1 h1=>t6 h1 fun itv s2 h2=>?_);obtain⟨it,M,tn,J,H2,e,I2,T,st2,f2,hW⟩:=h2;subst e;have fo2:∀b∈M,b<s2.heap.objs.size:=fun b hb=>by
  obtain⟨o,e,_⟩:=T.obj _ _ st2 b hb;exact Sw e
 obtain⟨W,⟨m0,w0⟩,turn⟩:=hW s2.heap.objs.size (I2.hok.fresh (Su _));refine Uj (wpAny_newFunctionEnv k.cell (by intro y hy;simp at hy) (fun h4 hns4 U=>?_) k.kind)
 dsimp only at hns4 U ⊢
 generalize hH3:s2.heap.push { cls:=.type "list",dict:=none,data:=.seq ([]:vV_).toArray }=h3 at hns4 U ⊢;have Z:h3.objs.size=s2.heap.objs.size+1:=by rw[<-hH3,Vd]
 have k34:∀b o,b≠h3.objs.size->h3.get? b=some o->h4.get? b=some o:=fun b o nb e=>U.extBut b o nb (Sx _ e)
 have keep:∀b o,s2.heap.get? b=some o->h4.get? b=some o:=fun b o e=>k34 b o (SV (by rw[Z];exact Nat.lt_succ_of_lt (Sw e))) (by rw[<-hH3];exact Sx _ e)
 have hD:h4.get? s2.heap.objs.size=some { cls:=.type "list",data:=.seq ([]:vV_).toArray }:=k34 _ _ (SV (by rw[Z];exact Nat.lt_succ_self _)) (by rw[<-hH3];exact Tc _ rfl);have I4:=ER k I2 f2 fo2 (Wt Z.symm) hns4 keep hD (t4:=s2.toks+([]:List (Str × Value)).length);have stat:∀{H':Hp},(∀b∈M,H' b=none)->∀b∈M,bB (A4 X N' scope cl h3.objs.size s2 H2 M) [] H' b:=fun hn b hb=>
  ⟨hn b hb,SV (by rw[Z];exact Nat.lt_succ_of_lt (fo2 b hb)),fun z=>(Sv.mp (I2.stkSub b z)).elim (f2 b hb).2.1 (f2 b hb).2.2.1,.inl hb,fun x c e=>(f2 b hb).2.2.2.2.1 x c (k.sub x c e),fun p hp=>(by cases hp)⟩
 have fr4:∀b∈M,k0 H2 s2.heap.objs.size (.lst []) b=none:=fun b hb=>by rw[w5 (SV (fo2 b hb))];exact(f2 b hb).1
 have fin:∀(s':Shared) (H':Hp),Inv (A4 X N' scope cl h3.objs.size s2 H2 M) [] (J8 n idx σ) H' s'->Q (.ref s2.heap.objs.size) H' ->
   compPost (model X.prog X.w) X.A X.xe use Q' (.ref s2.heap.objs.size) h3.objs.size (.ok .next) s':=fun s' H' I' q=>by
  obtain⟨m',hn',_⟩:=I'.loc;have B:=I'.base;refine last _ _ s' H' m' ?_ (I2.fpOk (by rw[Z];exact Nat.le_succ _) I'.free) hn' q;refine I2.call' (s':=s') (ch:=M) (show s'.os=s2.os from I'.os) ⟨fun b o e nn hb hx=>B.keep b o e nn hb hx,fun b o e nn hb hx=>B.slot b o e nn hb hx,B.free,fun b o e hx=>B.there b o e hx,B.tups,B.frzs,B.tbls⟩ I'.hok I'.bare fun b hb=>?_
  obtain⟨p1,p2,p3,p4,p5,p6⟩:=f2 b hb;exact⟨p4,p2,p5,p6⟩
 have loop:∀s4:Shared,s4={ s2 with heap:=h4,toks:=s2.toks+([]:List (Str × Value)).length } ->
   codeAny (model X.prog X.w) X.A (.compLoop (.ListComp elt [⟨tg,iter,ifs,0⟩] scope pos) 0 (.ref it) (.ref s2.heap.objs.size) (compEnvC scope cl h3.objs.size X.env)) (compPost (model X.prog X.w) X.A X.xe use Q' (.ref s2.heap.objs.size) h3.objs.size) s4:=by
  rintro s4 rfl;refine Oa (fun m s'=>∃i H',Inv (A4 X N' scope cl h3.objs.size s2 H2 M) [] (J8 n idx σ) H' s'/\tn i s'.heap/\(∀b∈M,H' b=none)/\W i m H') ?_ m0 ⟨0,_,I4,T.keep _ _ _ st2 (fun b _ o e=>keep b o e),fr4,w0⟩;rintro m s3 ⟨i,H3,I3,st3,fr3,w3⟩;rcases turn i m H3 w3 with ⟨stop,q⟩ | ⟨go,step⟩
  .refine Th (T.done (A4 X N' scope cl h3.objs.size s2 H2 M) rfl rfl rfl hc i [] s3 _ H3 (fun _ _=>False) I3 (stat fr3) st3 stop) (fun r s5 ⟨hr,I5⟩=>?_) fun _ _ z=>z.elim
   subst hr;exact fin s5 H3 I5 q
  .refine Th (T.item (A4 X N' scope cl h3.objs.size s2 H2 M) rfl rfl rfl hc i [] s3 _ H3 (fun _ _=>False) I3 (stat fr3) st3 go) (fun r s5 ⟨u,hr,h5⟩=>?_) fun _ _ z=>z.elim
   subst hr;refine Th h5 (fun _ s6 ⟨x,H6,I6,r6,y6,st6,fr6⟩=>?_) fun _ _ z=>z.elim
   have I6':=I6.pinned (stat fr6) (T.obj _ _ st6);have Y:∀{σ7:St}{H7:Hp}{s7:Shared},Inv (A4 X N' scope cl h3.objs.size s2 H2 M) ([]++jw M s6.heap) σ7 H7 s7->σ7.length=(J8 n idx σ).length->(∀(j:Nat) v,(J8 n idx σ)[j]? = some (some v)->σ7[j]? = some (some v))->(∃m',m'<m/\W (i+1) m' H7) ->
     ∃m',m'<m/\∃i H',Inv (A4 X N' scope cl h3.objs.size s2 H2 M) [] (J8 n idx σ) H' s7/\tn i s7.heap/\(∀b∈M,H' b=none)/\W i m' H':=fun {σ7 H7 s7} I7 hl hw ⟨m',hm,w7⟩=>by
    refine⟨m',hm,i+1,H7,(I7.unpinned).weak hl.symm hw,T.keep _ _ _ st6 fun b hb o e=>(I7.pin (b,o) (Ts _ (Ts _ (jr hb e)))).1,fun b hb=>?_,w7⟩;obtain⟨o,e,d⟩:=T.obj _ _ st6 b hb;exact(I7.pin (b,o) (Ts _ (Ts _ (jr hb e)))).2.1
   refine Th (hg _ _ _ _ _ s6 _ H6 x u _ I6' r6 (step x H6 y6)) (fun _ s7 ⟨σ7,H7,I7,⟨hl,hw⟩,q7⟩=>?_) fun _ _ z=>z.elim
   refine Th (ht _ _ _ _ _ s7 σ7 H7 _ I7 q7) (fun ok s8 ⟨H8,I8,q8⟩=>?_) fun _ _ z=>z.elim
   cases ok with
   |false=>
    rw[So Sy] at q8 ⊢;exact Y I8 hl hw q8
   |true=>
    rw[tx rfl] at q8 ⊢;refine Th (he _ _ _ _ _ s8 σ7 H8 _ I8 q8) (fun v9 s9 ⟨x9,H9,I9,r9,ys,e9,l9,q9⟩=>?_) fun _ _ z=>z.elim
    refine Th (yf (X:=A4 X N' scope cl h3.objs.size s2 H2 M) _ s9 σ7 H9 (.ref s2.heap.objs.size) [x9] (.ref s2.heap.objs.size) [v9] (fun _ H'=>H'=k0 H9 s2.heap.objs.size (.lst (ys++[x9]))) I9 rfl (.cons r9 .nil) ⟨s2.heap.objs.size,ys,x9,rfl,rfl,e9,l9,rfl⟩) (fun _ s10 ⟨_,H10,I10,_,e10⟩=>?_) fun _ _ z=>z.elim
    subst e10;exact Y I10 hl hw q9
 exact codeAny_compStart_list (loop _ rfl) (T.self _ 0 _ _ _ (T.keep _ _ _ st2 (fun b _ o e=>keep b o e)) (loop _ rfl))
def Bp (hc:X.calm=true) (k:CompOk X scope cl N' n idx) (hi:PI X tg iter wi)
  (Y:∀C s0 H0 ex,PG (A4 X N' scope cl C s0 H0 ex) tg g) (ht:∀C s0 H0 ex,fX (A4 X N' scope cl C s0 H0 ex) ifs tc) (he:∀C s0 H0 ex,PE (A4 X N' scope cl C s0 H0 ex) elt te)
  (hs:∀x,foldedSetIterable iter X.env x=pure x:=by intro _;rfl):PE X (.ListComp elt [⟨tg,iter,ifs,0⟩] scope pos) (eG n idx wi g tc te):=by
 intro pins s σ H Q I0 h;rw[eval_ListComp];refine yM (use:=none) (Q':=EP X pins σ Q) hc k hi Y ht he hs I0 h ?_;intro C U s' H' m Z J hn q;exact⟨m,hn,fun h' M=>⟨.ref U,H',Z.turned (t':=s'.toks) (it:=C) (h':=h') (fun b o W e=>(M.2 b W).trans e) J.1 J.2.1 J.2.2.2.1 J.2.2.2.2.1 J.2.2.2.2.2,rfl,q⟩⟩
def wN {i:Nat}{py J:Pos}(hN:X.N.Nodup) (Y:X.N[i]? = some y) (hx:Loc X.env.scope y) (hc:X.calm=true) (k:CompOk X scope cl N' n idx) (hi:PI X tg iter wi)
  (hg:∀C s0 H0 ex,PG (A4 X N' scope cl C s0 H0 ex) tg g) (ht:∀C s0 H0 ex,fX (A4 X N' scope cl C s0 H0 ex) ifs tc) (he:∀C s0 H0 ex,PE (A4 X N' scope cl C s0 H0 ex) elt te)
  (hs:∀x,foldedSetIterable iter X.env x=pure x:=by intro _;rfl) (hsw:swapsWith (.ListComp elt [⟨tg,iter,ifs,0⟩] scope pos) (some (.Name y py)) J.line X.env=pure true:=by rfl)
  (hf:X.fn y=true\/X.env.scope.names.lookup y=some .local:=by first | exact .inl rfl | exact .inr rfl | assumption) :
  PS X (.Assign [.Name y py] (.ListComp elt [⟨tg,iter,ifs,0⟩] scope pos) J) (fD (eG n idx wi g tc te) (R3 i)):=by
 intro pins s σ H D I h;rw[exec_Assign_Name_used _ _ _ _ hsw];refine gV (wpAny_standAt (gV ?_));show wpAny _ X.A (do let _ <-comprehension (.ListComp elt [⟨tg,iter,ifs,0⟩] scope pos) scope X.env _ (newList []) false (eval iter X.env) (some (assign (.Name y py) X.env))) _ _ s;refine gV (Th (yM (use:=some (assign (.Name y py) X.env)) (Q':=fun _ s'=>SP X pins D .next s') hc k hi hg ht he hs I h ?_) (fun _ s' hq=>Sr (Sr hq)) fun _ _ e=>e);intro C U s' H' m IX M hn q;show wpAny _ X.A (assign (.Name y py) X.env (.ref U)) _ _ _;obtain⟨o,es,ep,ho,hd,hr⟩:=hn;have IP:=IX.pinned (fp:=[C]) (fun b hb=>by rw[SJ.mp hb];exact M) (fun b hb=>by rw[SJ.mp hb];exact⟨o,ho,fun v z=>by rw[hd] at z;cases z⟩);refine Th (O5 hN Y hx hf _ s' σ H' (.ref U) (.ref U) D.nx IP rfl q) (fun _ W ⟨σ2,H2,I2,q2⟩=>?_) fun _ _ e=>e
 have pn:=I2.pin (C,o) (Ts _ (Ts _ (jr (SJ.mpr rfl) ho)));refine⟨m,⟨o,es,ep,pn.1,hd,hr⟩,fun h' Z=>⟨σ2,H2,?_,q2⟩⟩;have It:=I2.unpinned.turned (t':=W.toks) (it:=C) (h':=h') (fun b o nb e=>(Z.2 b nb).trans e) pn.2.1 M.2.1 M.2.2.2.1 M.2.2.2.2.1 M.2.2.2.2.2;exact It
end
end L2
namespace DL
open PySem PySem.Spec L2
def B6 {α β γ:Type}{o:Option (α × β)}{f:α × β->Option γ}{r:γ}{G:Prop}(h:o.bind f=some r) (k:∀x y,o=some (x,y)->f (x,y)=some r->G):G:=by
 obtain⟨⟨x,y⟩,a,b⟩:=UN.mp h;exact k x y a b
def Y0 {α γ:Type}{o:Option α}{f:α->Option γ}{r:γ}{G:Prop}(h:o.bind f=some r) (k:∀x,o=some x->f x=some r->G):G:=by
 obtain⟨x,a,b⟩:=UN.mp h;exact k x a b
def mapP {α β γ:Type}{o:Option (α × β)}{f:α × β->γ}{r:γ}{G:Prop}(h:o.map f=some r) (k:∀x y,o=some (x,y)->f (x,y)=r->G):G:=by
 obtain⟨⟨x,y⟩,a,b⟩:=Wr.mp h;exact k x y a b
def av {α γ:Type}{o:Option α}{f:α->γ}{r:γ}{G:Prop}(h:o.map f=some r) (k:∀x,o=some x->f x=r->G):G:=by
 obtain⟨x,a,b⟩:=Wr.mp h;exact k x a b
inductive D where
 | non | bl (b:Bool) | int (i:Int) | str (x:Str) | tup (ds:List D) | lst (ds:List D)
 | feed | scr (ns:List Int) | fn (x:Str)
abbrev vD_:=List D
mutual
def D.py:D->PyData
 |.non=>.none
 |.bl b=>.bool b
 |.int i=>.int i
 |.str x=>.str x
 |.tup ds=>.tuple (D.pys ds)
 |.lst ds=>.list (D.pys ds)
 |.feed=>.none
 |.scr _=>.none
 |.fn _=>.none
def D.pys:List D->List PyData
 |[]=>[]
 |d::r=>D.py d::D.pys r
end
mutual
def D.plain:D->Bool
 |.non=>true
 |.bl _=>true
 |.int _=>true
 |.str _=>true
 |.tup ds=>D.plains ds
 |.lst ds=>D.plains ds
 |.feed=>false
 |.scr _=>false
 |.fn _=>false
def D.plains:List D->Bool
 |[]=>true
 |d::r=>D.plain d&&D.plains r
end
structure FS where
 cells:List Int
 pos:Int
 left:Int
 turn:Int
 kind:Nat
abbrev vO_:=Option FS
def QP (c:Addr) (f:FS):List V:=if f.kind=1 then [V.ref c,V.int f.pos,V.int f.left] else [V.ref c,V.int f.pos,V.int f.left,V.int f.turn]
def eA (c:Addr) (f:FS):HO:=if f.kind=0 then .dK [(Sum.inr ("cells" : Str),V.ref c),(Sum.inr ("at" : Str),V.int f.pos),(Sum.inr ("left" : Str),V.int f.left),(Sum.inr ("turn" : Str),V.int f.turn)] else .lst (QP c f)
def rW {f:FS}(h:f.kind=0):eA c f = .dK [(Sum.inr ("cells" : Str),V.ref c),(Sum.inr ("at" : Str),V.int f.pos),(Sum.inr ("left" : Str),V.int f.left),(Sum.inr ("turn" : Str),V.int f.turn)]:=tx h
def Hx {xs:List V}(h:eA c f = .tup xs):False:=by unfold eA at h;split at h <;> cases h
def Ny {o:Obj}(h:eA c f = .frz o u):False:=by unfold eA at h;split at h <;> cases h
def FeedR (N:vB_) (H:Hp):Option Addr->Option FS->Prop
 |none,none=>True
 |some a,some f=>f.cells.length<=63/\∃c,H a=some (eA c f)/\¬ N c/\H c=some (.lst (f.cells.map V.int))
 |_,_=>False
def SqF (K:vF_) (H:Hp) (a:Addr) (xs:List V):Prop:=
 (∃o,H a=some (.frz o (.lst xs))) \/
  ∃(o:Obj) (its:vR_) (n:Nat),K.lookup a=some o/\o.cls = .type "list" /\ o.dict=none/\o.data = .seq its n/\its.size<=sizeLine/\Vals xs its.toList
def SqF.sq {K:vF_}{xs:List V}(h:SqF K H a xs):SqL K H a xs:=by
 rcases h with ⟨o,h⟩ | h
 .exact .inl (.inr ⟨o,h⟩)
 .exact .inr h
mutual
def Rep (K:vF_) (N:vB_) (fa:vA_) (H:Hp):D->V->Prop
 |.non,v=>v = .non
 |.bl b,v=>v = .bl b
 |.int i,v=>v = .int i
 |.str x,v=>v = .str x/\x.length<=sizeLine
 |.tup ds,v=>∃a xs,v = .ref a/\SqT K H a xs/\Reps K N fa H ds xs
 |.lst ds,v=>∃a xs,v = .ref a/\¬ N a/\H a=some (.lst xs)/\Reps K N fa H ds xs
 |.feed,v=>∃a,fa=some a/\v = .ref a
 |.scr ns,v=>ns.length<=63/\∃a,v = .ref a/\SqF K H a (ns.map V.int)
 |.fn x,v=>∃a,v = .ref a/\PySem.W.nsIn K mainGlobals x=some (some (.ref a))
def Reps (K:vF_) (N:vB_) (fa:vA_) (H:Hp):List D->List V->Prop
 |[],xs=>xs=[]
 |d::r,xs=>∃x ys,xs=x::ys/\Rep K N fa H d x/\Reps K N fa H r ys
end
def RepB (K:vF_) (N:vB_) (fa:vA_) (H:Hp):D->V->Prop
 |.lst ds,v=>∃a xs,v = .ref a/\fa≠some a/\H a=some (.lst xs)/\Reps K N fa H ds xs
 |d,v=>Rep K N fa H d v
def ag (K:vF_) (N:vB_) (fa:vA_) (H:Hp):List D->List V->Prop
 |[],xs=>xs=[]
 |d::r,xs=>∃x ys,xs=x::ys/\RepB K N fa H d x/\ag K N fa H r ys
structure Car (K:vF_) (N:vB_) (fa:vA_) (H:Hp) (N':vB_) (fa':vA_) (H':Hp):Prop where
 ls:∀b xs,¬ N b->H b=some (.lst xs)->H' b=some (.lst xs)/\¬ N' b
 tp:∀b xs,SqT K H b xs->SqT K H' b xs
 fz:∀b xs,SqF K H b xs->SqF K H' b xs
 fe:∀a,fa=some a->fa'=some a
section
variable {K:vF_}{N N':vB_}{fa fa':vA_}{H H':Hp}
mutual
theorem Rep.go (c:Car K N fa H N' fa' H'):∀(d:D) (v:V),Rep K N fa H d v->Rep K N' fa' H' d v
 |.non,v,h=>by simpa only[Rep] using h
 |.bl b,v,h=>by simpa only[Rep] using h
 |.int i,v,h=>by simpa only[Rep] using h
 |.str x,v,h=>by simpa only[Rep] using h
 |.tup ds,v,h=>by
  simp only[Rep] at h ⊢;obtain⟨a,xs,e,q,r⟩:=h;exact⟨a,xs,e,c.tp a xs q,Reps.go c ds xs r⟩
 |.lst ds,v,h=>by
  simp only[Rep] at h ⊢;obtain⟨a,xs,e,n,q,r⟩:=h;obtain⟨M,J⟩:=c.ls a xs n q;exact⟨a,xs,e,J,M,Reps.go c ds xs r⟩
 |.feed,v,h=>by
  simp only[Rep] at h ⊢;obtain⟨a,e,q⟩:=h;exact⟨a,c.fe a e,q⟩
 |.scr ns,v,h=>by
  simp only[Rep] at h ⊢;obtain⟨l,a,e,q⟩:=h;exact⟨l,a,e,c.fz a _ q⟩
 |.fn x,v,h=>by simpa only[Rep] using h
theorem Reps.go (c:Car K N fa H N' fa' H'):∀(ds:vD_) (xs:List V),Reps K N fa H ds xs->Reps K N' fa' H' ds xs
 |[],xs,h=>by simpa only[Reps] using h
 |d::r,xs,h=>by
  simp only[Reps] at h ⊢;obtain⟨x,ys,e,h1,h2⟩:=h;exact⟨x,ys,e,Rep.go c d x h1,Reps.go c r ys h2⟩
end
def Rep.b (J:∀a,fa=some a->N a) {v:V}(h:Rep K N fa H d v):RepB K N fa H d v:=by
 cases d with
 |lst ds=>
  simp only[Rep] at h;obtain⟨a,xs,e,n,q,r⟩:=h;exact⟨a,xs,e,fun z=>n (J a z),q,r⟩
 |_=>simpa only[RepB] using h
def aG (K:vF_) (N:vB_) (fa:vA_) (H:Hp):D->V->Prop
 |.lst ds,v=>∃a xs,v = .ref a/\H a=some (.lst xs)/\Reps K N fa H ds xs
 |d,v=>Rep K N fa H d v
def Rep.o {v:V}(h:Rep K N fa H d v):aG K N fa H d v:=by
 cases d with
 |lst ds=>
  simp only[Rep] at h;obtain⟨a,xs,e,_,q,r⟩:=h;exact⟨a,xs,e,q,r⟩
 |_=>simpa only[aG] using h
def RepB.o {v:V}(h:RepB K N fa H d v):aG K N fa H d v:=by
 cases d with
 |lst ds=>
  obtain⟨a,xs,e,_,q,r⟩:=h;exact⟨a,xs,e,q,r⟩
 |_=>simpa only[aG,RepB] using h
theorem Reps.length:∀{ds:vD_}{xs:List V},Reps K N fa H ds xs->xs.length=ds.length
 |[],xs,h=>by simp only[Reps] at h;subst h;rfl
 |d::r,xs,h=>by
  simp only[Reps] at h;obtain⟨x,ys,e,h1,h2⟩:=h;subst e;simp[Reps.length h2]
theorem Reps.get:∀{ds:vD_}{xs:List V}{i:Nat}{d:D},Reps K N fa H ds xs->ds[i]? = some d->∃x,xs[i]? = some x/\Rep K N fa H d x
 |[],xs,i,d,h,e=>by simp at e
 |d::r,xs,0,d',h,e=>by
  simp only[Reps] at h;obtain⟨x,ys,J,h1,h2⟩:=h;simp at e;subst J;subst e;exact⟨x,rfl,h1⟩
 |d::r,xs,i+1,d',h,e=>by
  simp only[Reps] at h;obtain⟨x,ys,J,h1,h2⟩:=h;subst J;obtain⟨y,M,h3⟩:=Reps.get h2 (by simpa using e);exact⟨y,by simpa using M,h3⟩
def Reps.get':∀{ds:vD_}{xs:List V}{i:Nat}{x:V},Reps K N fa H ds xs->xs[i]? = some x->∃d,ds[i]? = some d/\Rep K N fa H d x:=fun {ds xs i x} h e=>by
 have hl:=h.length;have hi:i<xs.length:=(Tn.mp e).1;obtain⟨y,J,h3⟩:=Reps.get h (Tf (show i<ds.length by omega));rw[e] at J;cases J;exact⟨_,Tf (show i<ds.length by omega),h3⟩
theorem Reps.append:∀{ds es:vD_}{xs ys:List V},Reps K N fa H ds xs->Reps K N fa H es ys->Reps K N fa H (ds++es) (xs++ys)
 |[],es,xs,ys,h,q=>by simp only[Reps] at h;subst h;simpa using q
 |d::r,es,xs,ys,h,q=>by
  simp only[Reps] at h;obtain⟨x,zs,J,h1,h2⟩:=h;subst J;simp only[List.cons_append,Reps];exact⟨x,_,rfl,h1,Reps.append h2 q⟩
def Reps.one (h:Rep K N fa H d x):Reps K N fa H [d] [x]:=by
 simp only[Reps];exact⟨x,[],rfl,h,rfl⟩
def Reps.nil:Reps K N fa H [] []:=by simp only[Reps]
theorem Reps.take:∀{ds:vD_}{xs:List V}(n:Nat),Reps K N fa H ds xs->Reps K N fa H (ds.take n) (xs.take n)
 |_,_,0,_=>by simp only[XI,Reps]
 |[],xs,n+1,h=>by simp only[Reps] at h;subst h;simp only[List.take_nil,Reps]
 |d::r,xs,n+1,h=>by
  simp only[Reps] at h;obtain⟨x,zs,J,h1,h2⟩:=h;subst J;simp only[List.take_succ_cons,Reps];exact⟨x,_,rfl,h1,Reps.take n h2⟩
theorem Reps.drop:∀{ds:vD_}{xs:List V}(n:Nat),Reps K N fa H ds xs->Reps K N fa H (ds.drop n) (xs.drop n)
 |_,_,0,h=>by simpa using h
 |[],xs,n+1,h=>by simp only[Reps] at h;subst h;simp only[List.drop_nil,Reps]
 |d::r,xs,n+1,h=>by
  simp only[Reps] at h;obtain⟨x,zs,J,h1,h2⟩:=h;subst J;simpa using Reps.drop n h2
theorem Reps.ints:∀{ns:List Int},Reps K N fa H (ns.map D.int) (ns.map V.int)
 |[]=>by simp only[TU,Reps]
 |n::r=>by
  simp only[SN,Reps,Rep];exact⟨_,_,rfl,rfl,Reps.ints⟩
theorem Reps.reverse:∀{ds:vD_}{xs:List V},Reps K N fa H ds xs->Reps K N fa H ds.reverse xs.reverse
 |[],xs,h=>by simp only[Reps] at h;subst h;simp only[List.reverse_nil,Reps]
 |d::r,xs,h=>by
  simp only[Reps] at h;obtain⟨x,zs,J,h1,h2⟩:=h;subst J;simp only[UH];exact Reps.append (Reps.reverse h2) (Reps.one h1)
end
inductive Sl where
 | no | v (d:D) | own (ds:vD_)
structure DS where
 sl:List Sl
 fs:Option FS
def NN (F:vB_) (fa:vA_) (O:vL_):Addr->Prop:=fun b=>F b\/b∈O\/fa=some b
def SlR (K:vF_) (N:vB_) (fa:vA_) (H:Hp):List Sl->List (Option V)->List Addr->Prop
 |[],σ,O=>σ=[]/\O=[]
 |.no::r,σ,O=>∃v τ,σ=v::τ/\SlR K N fa H r τ O
 |.v d::r,σ,O=>∃u τ,σ=some u::τ/\Rep K N fa H d u/\SlR K N fa H r τ O
 |.own ds::r,σ,O=>∃a xs τ P,σ=some (.ref a)::τ/\O=a::P/\H a=some (.lst xs)/\Reps K N fa H ds xs/\SlR K N fa H r τ P
structure Stp (fa:vA_) (O:vL_) (H:Hp) (fa':vA_) (O':vL_) (H':Hp):Prop where
 sub:∀b∈O',b∈O\/H b=none
 fe:fa'=fa\/(fa=none/\∀a,fa'=some a->H a=none)
 same:∀b u,H b=some u->b ∉ O->fa≠some b->H' b=some u
 mon:∀b,H' b=none->H b=none
structure StE (fa:vA_) (O:vL_) (H:Hp) (fa':vA_) (O':vL_) (H':Hp):Prop where
 sub:∀b∈O',b∈O
 fe:fa'=fa\/(fa=none/\∀a,fa'=some a->H a=none)
 same:∀b u,H b=some u->fa≠some b->H' b=some u
 mon:∀b,H' b=none->H b=none
structure DI (K:vF_) (F:vB_) (H0:Hp) (fa0:vA_) (σ:St) (H:Hp) (fa:vA_) (O:vL_) (s:DS):Prop where
 nd:O.Nodup
 sl:SlR K (NN F fa O) fa H s.sl σ O
 fr:∀b∈O,H0 b=none
 st:Stp fa0 [] H0 fa [] H
 tr:∀b,F b->H0 b≠none
 ff:∀a,fa0=some a->F a
 fd:FeedR (NN F fa O) H fa s.fs
 nf:∀a,fa=some a->a ∉ O
section
variable {fa fa' fa'':vA_}{O O' O'':vL_}{H H' H'':Hp}
def StE.stp (h:StE fa O H fa' O' H'):Stp fa O H fa' O' H':=⟨fun b hb=>.inl (h.sub b hb),h.fe,fun b u e _ n=>h.same b u e n,h.mon⟩
def StE.refl:StE fa O H fa O H:=⟨fun _ h=>h,.inl rfl,fun _ _ e _=>e,fun _ h=>h⟩
theorem Stp.refl:Stp fa O H fa O H:=StE.refl.stp
theorem StE.trans (a:StE fa O H fa' O' H') (b:StE fa' O' H' fa'' O'' H''):StE fa O H fa'' O'' H'':=by
 refine⟨fun c J=>a.sub c (b.sub c J),?_,fun c u e n=>?_,fun c h=>a.mon c (b.mon c h)⟩
 .rcases a.fe with e | ⟨e,h⟩
  .rcases b.fe with e' | ⟨e',h'⟩
   .exact .inl (e'.trans e)
   .exact .inr ⟨e▸e',fun c z=>a.mon c (h' c z)⟩
  .rcases b.fe with e' | ⟨e',h'⟩
   .exact .inr ⟨e,fun c z=>h c (e'▸z)⟩
   .exact .inr ⟨e,fun c z=>a.mon c (h' c z)⟩
 .refine b.same c u (a.same c u e n) fun z=>?_
  rcases a.fe with q | ⟨q,h⟩
  .rw[q] at z;exact n z
  .rw[h c z] at e;cases e
theorem Stp.trans (a:Stp fa O H fa' O' H') (b:Stp fa' O' H' fa'' O'' H''):Stp fa O H fa'' O'' H'':=by
 refine⟨fun c J=>?_,?_,fun c u e J n=>?_,fun c h=>a.mon c (b.mon c h)⟩
 .rcases b.sub c J with q | q
  .exact a.sub c q
  .exact .inr (a.mon c q)
 .rcases a.fe with e | ⟨e,h⟩
  .rcases b.fe with e' | ⟨e',h'⟩
   .exact .inl (e'.trans e)
   .exact .inr ⟨e▸e',fun c z=>a.mon c (h' c z)⟩
  .rcases b.fe with e' | ⟨e',h'⟩
   .exact .inr ⟨e,fun c z=>h c (e'▸z)⟩
   .exact .inr ⟨e,fun c z=>a.mon c (h' c z)⟩
 .refine b.same c u (a.same c u e J n) (fun z=>?_) fun z=>?_
  .rcases a.sub c z with q | q
   .exact J q
   .rw[q] at e;cases e
  .rcases a.fe with q | ⟨q,h⟩
   .rw[q] at z;exact n z
   .rw[h c z] at e;cases e
def Stp.fa_keep (a:Stp fa O H fa' O' H') (h:fa=some x):fa'=some x:=by
 rcases a.fe with e | ⟨e,_⟩
 .rw[e,h]
 .rw[h] at e;cases e
variable {K:vF_}{F:vB_}{H0:Hp}{fa0:vA_}{σ:St}{s:DS}
def FeedR.no_frz {N:vB_}{fs:vO_}{o:Obj}(h:FeedR N H fa fs) (e:fa=some a) (q:H a=some (.frz o u)):False:=by
 subst e;cases fs with
 |none=>exact h
 |some f=>
  obtain⟨_,c,h1,_⟩:=h;rw[h1] at q;exact Ny (Tb q)
def FeedR.no_tup {N:vB_}{fs:vO_}{xs:List V}(h:FeedR N H fa fs) (e:fa=some a) (z:Rd H a (.tup xs)):False:=by
 rcases z with z | ⟨o,z⟩
 .subst e;cases fs with
  |none=>exact h
  |some f=>
   obtain⟨_,c,h1,_⟩:=h;rw[h1] at z;exact Hx (Tb z)
 .exact h.no_frz e z
def FeedR.tracked {N:vB_}{fs:vO_}(h:FeedR N H fa fs) (e:fa=some a):H a≠none:=by
 subst e;cases fs with
 |none=>exact h.elim
 |some f=>
  obtain⟨_,c,h1,_⟩:=h;rw[h1];simp
def SqT.stp' (a:Stp fa O H fa' O' H') (hf:∀x,fa=some x->∀xs,¬ Rd H x (.tup xs)) (U:∀x∈O,∀xs,¬ Rd H x (.tup xs)) {b:Addr}{xs:List V}(h:SqT K H b xs):SqT K H' b xs:=by
 rcases h with h | h
 .refine .inl ?_;have J:b ∉ O:=fun z=>U b z xs h
  have M:fa≠some b:=fun z=>hf b z xs h
  rcases h with h | ⟨o,h⟩
  .exact .inl (a.same _ _ h J M)
  .exact .inr ⟨o,a.same _ _ h J M⟩
 .exact .inr h
theorem SlR.owned:∀{sl:List Sl}{N:vB_}{σ:List (Option V)}{O:vL_},SlR K N fa H sl σ O->∀b∈O,∃xs,H b=some (.lst xs)
 |[],N,σ,O,h,b,hb=>by simp only[SlR] at h;rw[h.2] at hb;cases hb
 |.no::r,N,σ,O,h,b,hb=>by
  simp only[SlR] at h;obtain⟨v,τ,_,h⟩:=h;exact SlR.owned h b hb
 |.v d::r,N,σ,O,h,b,hb=>by
  simp only[SlR] at h;obtain⟨v,τ,_,_,h⟩:=h;exact SlR.owned h b hb
 |.own ds::r,N,σ,O,h,b,hb=>by
  simp only[SlR] at h;obtain⟨a,xs,τ,P,_,rfl,e,_,h⟩:=h;rcases Sv.mp hb with z | z
  .subst z;exact⟨xs,e⟩
  .exact SlR.owned h b z
theorem DI.owned (I:DI K F H0 fa0 σ H fa O s) {b:Addr}(hb:b∈O):∃xs,H b=some (.lst xs):=SlR.owned I.sl b hb
def DI.trF (I:DI K F H0 fa0 σ H fa O s) {b:Addr}(hb:F b):H b≠none:=fun z=>I.tr b hb (I.st.mon b z)
def DI.nn_tracked (I:DI K F H0 fa0 σ H fa O s) {b:Addr}(h:NN F fa O b):H b≠none:=by
 rcases h with h | h | h
 .exact I.trF h
 .obtain⟨xs,e⟩:=I.owned h;rw[e];simp
 .exact I.fd.tracked h
def DI.nf_step (I:DI K F H0 fa0 σ H fa O s) (h:fa'=fa\/(fa=none/\∀a,fa'=some a->H a=none)):∀a,fa'=some a->a ∉ O:=fun a e m=>by
 rcases h with z | ⟨z,y⟩
 .rw[z] at e;exact I.nf a e m
 .obtain⟨xs,q⟩:=I.owned m;rw[y a e] at q;cases q
def DI.car (I:DI K F H0 fa0 σ H fa O s) (a:Stp fa O H fa' O' H'):Car K (NN F fa O) fa H (NN F fa' O') fa' H':=by
 have Y:∀x xs,H x=some (.lst xs)->∀ys,¬ Rd H x (.tup ys):=fun x xs e ys z=>by
  rcases z with z | ⟨o,z⟩ <;> · rw[e] at z;cases z
 refine⟨fun b xs n q=>?_,fun b xs q=>?_,fun b xs q=>?_,fun x e=>a.fa_keep e⟩
 .have J:b ∉ O:=fun z=>n (.inr (.inl z))
  have M:fa≠some b:=fun z=>n (.inr (.inr z))
  have U:H b≠none:=by rw[q];simp
  refine⟨a.same _ _ q J M,fun z=>?_⟩
  .rcases z with z | z | z
   .exact n (.inl z)
   .rcases a.sub b z with y | y
    .exact J y
    .exact U y
   .rcases a.fe with e | ⟨e,h⟩
    .rw[e] at z;exact M z
    .exact U (h b z)
 .refine SqT.stp' a (fun x e ys z=>?_) (fun x W ys=>?_) q
  .exact I.fd.no_tup e z
  .obtain⟨xs,e⟩:=I.owned W;exact Y x xs e ys
 .rcases q with ⟨o,q⟩ | q
  .refine .inl ⟨o,a.same _ _ q (fun z=>?_) fun z=>?_⟩
   .obtain⟨ys,e⟩:=I.owned z;rw[e] at q;cases q
   .exact I.fd.no_frz z q
  .exact .inr q
end
structure Gh where
 F:Addr->Prop
 H0:Hp
 fa0:Option Addr
abbrev GI (K:vF_) (g:Gh):=DI K g.F g.H0 g.fa0
section
variable {K:vF_}{N N':vB_}{fa fa':vA_}{H H':Hp}{g:Gh}{σ:L2.St}{O O':vL_}{s:DS}
theorem SlR.go (c:Car K N fa H N' fa' H'):∀{sl:List Sl}{σ:List (Option V)}{O:vL_},(∀a xs,a∈O->H a=some (.lst xs)->H' a=some (.lst xs))->SlR K N fa H sl σ O->SlR K N' fa' H' sl σ O
 |[],σ,O,_,h=>by simpa only[SlR] using h
 |.no::r,σ,O,ho,h=>by
  simp only[SlR] at h ⊢;obtain⟨v,τ,e,h⟩:=h;exact⟨v,τ,e,SlR.go c ho h⟩
 |.v d::r,σ,O,ho,h=>by
  simp only[SlR] at h ⊢;obtain⟨u,τ,e,q,h⟩:=h;exact⟨u,τ,e,Rep.go c d u q,SlR.go c ho h⟩
 |.own ds::r,σ,O,ho,h=>by
  simp only[SlR] at h ⊢;obtain⟨a,xs,τ,P,e,rfl,ha,q,h⟩:=h;exact⟨a,xs,τ,P,e,rfl,ho a xs (SR ..) ha,Reps.go c ds xs q,SlR.go c (fun b ys hb=>ho b ys (SK _ hb)) h⟩
theorem SlR.val:∀{sl:List Sl}{σ:List (Option V)}{O:vL_}{i:Nat}{d:D},SlR K N fa H sl σ O->sl[i]? = some (.v d)->∃u,σ[i]? = some (some u)/\Rep K N fa H d u
 |[],σ,O,i,d,h,e=>by simp at e
 |.no::r,σ,O,i,d,h,e=>by
  simp only[SlR] at h;obtain⟨v,τ,rfl,h⟩:=h;cases i with
  |zero=>simp at e
  |succ i=>simpa using SlR.val h (by simpa using e)
 |.v d'::r,σ,O,i,d,h,e=>by
  simp only[SlR] at h;obtain⟨u,τ,rfl,q,h⟩:=h;cases i with
  |zero=>simp at e;subst e;exact⟨u,rfl,q⟩
  |succ i=>simpa using SlR.val h (by simpa using e)
 |.own ds::r,σ,O,i,d,h,e=>by
  simp only[SlR] at h;obtain⟨a,xs,τ,P,rfl,rfl,ha,q,h⟩:=h;cases i with
  |zero=>simp at e
  |succ i=>simpa using SlR.val h (by simpa using e)
theorem SlR.own:∀{sl:List Sl}{σ:List (Option V)}{O:vL_}{i:Nat}{ds:vD_},SlR K N fa H sl σ O->sl[i]? = some (.own ds)->∃a xs,σ[i]? = some (some (.ref a))/\a∈O/\H a=some (.lst xs)/\Reps K N fa H ds xs
 |[],σ,O,i,d,h,e=>by simp at e
 |.no::r,σ,O,i,d,h,e=>by
  simp only[SlR] at h;obtain⟨v,τ,rfl,h⟩:=h;cases i with
  |zero=>simp at e
  |succ i=>simpa using SlR.own h (by simpa using e)
 |.v d'::r,σ,O,i,d,h,e=>by
  simp only[SlR] at h;obtain⟨u,τ,rfl,q,h⟩:=h;cases i with
  |zero=>simp at e
  |succ i=>simpa using SlR.own h (by simpa using e)
 |.own ds::r,σ,O,i,d,h,e=>by
  simp only[SlR] at h;obtain⟨a,xs,τ,P,rfl,rfl,ha,q,h⟩:=h;cases i with
  |zero=>simp at e;subst e;exact⟨a,xs,rfl,SR ..,ha,q⟩
  |succ i=>
   obtain⟨b,ys,M,m,J,q2⟩:=SlR.own h (by simpa using e);exact⟨b,ys,by simpa using M,SK _ m,J,q2⟩
theorem SlR.len:∀{sl:List Sl}{σ:List (Option V)}{O:vL_},SlR K N fa H sl σ O->σ.length=sl.length
 |[],σ,O,h=>by simp only[SlR] at h;rw[h.1];rfl
 |.no::r,σ,O,h=>by
  simp only[SlR] at h;obtain⟨v,τ,rfl,h⟩:=h;simp[SlR.len h]
 |.v d'::r,σ,O,h=>by
  simp only[SlR] at h;obtain⟨u,τ,rfl,q,h⟩:=h;simp[SlR.len h]
 |.own ds::r,σ,O,h=>by
  simp only[SlR] at h;obtain⟨a,xs,τ,P,rfl,rfl,ha,q,h⟩:=h;simp[SlR.len h]
theorem SlR.put:∀{sl:List Sl}{σ:List (Option V)}{O:vL_}(i:Nat) {d:D}{u:V},SlR K N fa H sl σ O->Rep K N fa H d u ->
  ∃P,P.Sublist O/\SlR K N fa H (sl.set i (.v d)) (σ.set i (some u)) P/\(O.Nodup->∀a,sl[i]?.isSome=true->(∃ds,sl[i]? = some (.own ds))->σ[i]? = some (some (.ref a))->a ∉ P)
 |[],σ,O,i,d,u,h,q=>by
  simp only[SlR] at h;refine⟨O,XJ _,?_,fun _ a z=>by simp at z⟩;rw[h.1,h.2];simp[SlR]
 |.no::r,σ,O,i,d,u,h,q=>by
  simp only[SlR] at h;obtain⟨v,τ,rfl,h⟩:=h;cases i with
  |zero=>exact⟨O,XJ _,by simp only[Ve,SlR];exact⟨u,τ,rfl,q,h⟩,fun _ a _ z=>by obtain⟨ds,z⟩:=z;simp at z⟩
  |succ i=>
   obtain⟨P,M,h1,h2⟩:=SlR.put i h q;exact⟨P,M,by simp only[UK,SlR];exact⟨v,_,rfl,h1⟩,by simpa using h2⟩
 |.v d'::r,σ,O,i,d,u,h,q=>by
  simp only[SlR] at h;obtain⟨v,τ,rfl,W,h⟩:=h;cases i with
  |zero=>exact⟨O,XJ _,by simp only[Ve,SlR];exact⟨u,τ,rfl,q,h⟩,fun _ a _ z=>by obtain⟨ds,z⟩:=z;simp at z⟩
  |succ i=>
   obtain⟨P,M,h1,h2⟩:=SlR.put i h q;exact⟨P,M,by simp only[UK,SlR];exact⟨v,_,rfl,W,h1⟩,by simpa using h2⟩
 |.own ds::r,σ,O,i,d,u,h,q=>by
  simp only[SlR] at h;obtain⟨a,xs,τ,P,rfl,rfl,ha,W,h⟩:=h;cases i with
  |zero=>
   refine⟨P,List.sublist_cons_self ..,by simp only[Ve,SlR];exact⟨u,τ,rfl,q,h⟩,fun Z b _ _ e=>?_⟩;simp at e;subst e;exact(Tu.mp Z).1
  |succ i=>
   obtain⟨P',M,h1,h2⟩:=SlR.put i h q;refine⟨a::P',M.cons_cons a,by simp only[UK,SlR];exact⟨a,xs,_,P',rfl,rfl,ha,W,h1⟩,fun Z b e1 U Y=>?_⟩;have J:=Tu.mp Z;have n1:=h2 J.2 b (by simpa using e1) (by simpa using U) (by simpa using Y);intro z;rcases Sv.mp z with z | z
   .subst z;obtain⟨dz,U⟩:=U;obtain⟨b',_,e4,m,_⟩:=SlR.own h (i:=i) (by simpa using U);rw[Yy] at Y;rw[Y] at e4;cases e4;exact J.1 m
   .exact n1 z
theorem SlR.putN:∀{sl:List Sl}{σ:List (Option V)}{O:vL_}(i:Nat) {ds:vD_}{p:Addr}{xs:List V},SlR K N fa H sl σ O->i<sl.length->p ∉ O->O.Nodup->H p=some (.lst xs)->Reps K N fa H ds xs ->
  ∃P,(∀b∈P,b=p\/b∈O)/\P.Nodup/\SlR K N fa H (sl.set i (.own ds)) (σ.set i (some (.ref p))) P
 |[],σ,O,i,ds,p,xs,h,hi,hp,nd,e,q=>by simp at hi
 |.no::r,σ,O,i,ds,p,xs,h,hi,hp,nd,e,q=>by
  simp only[SlR] at h;obtain⟨v,τ,rfl,h⟩:=h;cases i with
  |zero=>exact⟨p::O,fun b hb=>Sv.mp hb,Tu.mpr ⟨hp,nd⟩,by simp only[Ve,SlR];exact⟨p,xs,τ,O,rfl,rfl,e,q,h⟩⟩
  |succ i=>
   obtain⟨P,h1,h2,h3⟩:=SlR.putN i h (by simpa using hi) hp nd e q;exact⟨P,h1,h2,by simp only[UK,SlR];exact⟨v,_,rfl,h3⟩⟩
 |.v d'::r,σ,O,i,ds,p,xs,h,hi,hp,nd,e,q=>by
  simp only[SlR] at h;obtain⟨v,τ,rfl,M,h⟩:=h;cases i with
  |zero=>exact⟨p::O,fun b hb=>Sv.mp hb,Tu.mpr ⟨hp,nd⟩,by simp only[Ve,SlR];exact⟨p,xs,τ,O,rfl,rfl,e,q,h⟩⟩
  |succ i=>
   obtain⟨P,h1,h2,h3⟩:=SlR.putN i h (by simpa using hi) hp nd e q;exact⟨P,h1,h2,by simp only[UK,SlR];exact⟨v,_,rfl,M,h3⟩⟩
 |.own ds'::r,σ,O,i,ds,p,xs,h,hi,hp,nd,e,q=>by
  simp only[SlR] at h;obtain⟨a,ys,τ,P,rfl,rfl,ha,M,h⟩:=h;have J:=Tu.mp nd;cases i with
  |zero=>
   refine⟨p::P,fun b hb=>(Sv.mp hb).imp id fun z=>SK _ z,Tu.mpr ⟨fun z=>hp (SK _ z),J.2⟩,?_⟩;simp only[Ve,SlR];exact⟨p,xs,τ,P,rfl,rfl,e,q,h⟩
  |succ i=>
   obtain⟨U,h1,h2,h3⟩:=SlR.putN i h (by simpa using hi) (fun z=>hp (SK _ z)) J.2 e q;refine⟨a::U,fun b hb=>?_,Tu.mpr ⟨fun z=>?_,h2⟩,by simp only[UK,SlR];exact⟨a,ys,_,U,rfl,rfl,ha,M,h3⟩⟩
   .rcases Sv.mp hb with z | z
    .exact .inr (by rw[z];exact SR ..)
    .exact(h1 b z).imp id fun y=>SK _ y
   .rcases h1 a z with y | y
    .exact hp (by rw[y];exact SR ..)
    .exact J.1 y
theorem SlR.rew:∀{sl:List Sl}{σ:List (Option V)}{O:vL_}{i:Nat}{ds es:vD_}{a:Addr}{ys:List V},SlR K N fa H sl σ O->O.Nodup->(∀b∈O,N b)->sl[i]? = some (.own ds)->σ[i]? = some (some (.ref a))->H' a=some (.lst ys) ->
  Car K N fa H N fa H'->(∀b u,b≠a->H b=some u->H' b=some u)->Reps K N fa H' es ys->SlR K N fa H' (sl.set i (.own es)) σ O
 |[],σ,O,i,ds,es,a,ys,h,nd,hN,e1,e2,e3,c,k,q=>by simp at e1
 |.no::r,σ,O,i,ds,es,a,ys,h,nd,hN,e1,e2,e3,c,k,q=>by
  simp only[SlR] at h;obtain⟨v,τ,rfl,h⟩:=h;cases i with
  |zero=>simp at e1
  |succ i=>simp only[UK,SlR];exact⟨v,τ,rfl,SlR.rew h nd hN (by simpa using e1) (by simpa using e2) e3 c k q⟩
 |.v d'::r,σ,O,i,ds,es,a,ys,h,nd,hN,e1,e2,e3,c,k,q=>by
  simp only[SlR] at h;obtain⟨v,τ,rfl,M,h⟩:=h;cases i with
  |zero=>simp at e1
  |succ i=>simp only[UK,SlR];exact⟨v,τ,rfl,Rep.go c _ _ M,SlR.rew h nd hN (by simpa using e1) (by simpa using e2) e3 c k q⟩
 |.own ds'::r,σ,O,i,ds,es,a,ys,h,nd,hN,e1,e2,e3,c,k,q=>by
  simp only[SlR] at h;obtain⟨b,zs,τ,P,rfl,rfl,ha,M,h⟩:=h;have J:=Tu.mp nd;cases i with
  |zero=>
   simp at e2;subst e2;simp only[Ve,SlR];exact⟨b,ys,τ,P,rfl,rfl,e3,q,SlR.go c (fun x xs U z=>k x _ (fun y=>J.1 (y▸U)) z) h⟩
  |succ i=>
   have Y:b≠a:=fun z=>by
    obtain⟨Z,_,W,m,_⟩:=SlR.own h (i:=i) (by simpa using e1);rw[Yy] at e2;rw[e2] at W;cases W;exact J.1 (z▸m)
   simp only[UK,SlR];exact⟨b,zs,τ,P,rfl,rfl,k b _ Y ha,Reps.go c _ _ M,SlR.rew h J.2 (fun x U=>hN x (SK _ U)) (by simpa using e1) (by simpa using e2) e3 c k q⟩
theorem RepB.stp {v:V}(I:GI K g σ H fa O s) (a:StE fa O H fa' O' H') (h:RepB K (NN g.F fa O) fa H d v):RepB K (NN g.F fa' O') fa' H' d v:=by
 have c:=I.car a.stp;cases d with
 |lst ds=>
  obtain⟨x,xs,e,J,q,r⟩:=h;refine⟨x,xs,e,fun z=>?_,a.same _ _ q J,Reps.go c ds xs r⟩;rcases a.fe with y | ⟨_,y⟩
  .rw[y] at z;exact J z
  .rw[y x z] at q;cases q
 |_=>
  simp only[RepB] at h ⊢;exact Rep.go c _ _ h
def Rep.stp {v:V}(I:GI K g σ H fa O s) (a:Stp fa O H fa' O' H') (h:Rep K (NN g.F fa O) fa H d v):Rep K (NN g.F fa' O') fa' H' d v:=Rep.go (I.car a) d v h
def Reps.stp {ds:vD_}{xs:List V}(I:GI K g σ H fa O s) (a:Stp fa O H fa' O' H') (h:Reps K (NN g.F fa O) fa H ds xs):Reps K (NN g.F fa' O') fa' H' ds xs:=Reps.go (I.car a) ds xs h
def F9 {o:HO}(h:H p=none):StE fa O H fa O (k0 H p o):=
 ⟨fun _ h=>h,.inl rfl,fun b u e _=>by rw[w5 (X9 e h)];exact e,fun b z=>by
  by_cases hb:b=p
  .subst hb;exact h
  .rw[w5 hb] at z;exact z⟩
def FeedR.car {fs:vO_}(c:Car K N fa H N' fa H') (h:∀a,fa=some a->H' a=H a) (f:FeedR N H fa fs):FeedR N' H' fa fs:=by
 cases fa with
 |none=>cases fs <;> simpa only[FeedR] using f
 |some a=>
  cases fs with
  |none=>simpa only[FeedR] using f
  |some x=>
   simp only[FeedR] at f ⊢;obtain⟨l,b,h1,h2,h3⟩:=f;obtain⟨q,n⟩:=c.ls b _ h2 h3;exact⟨l,b,by rw[h a rfl];exact h1,n,q⟩
def FeedR.same_new {fs:vO_}{o:HO}(f:FeedR N H fa fs) (h:H p=none):∀a,fa=some a->k0 H p o a=H a:=fun a e=>w5 fun z=>f.tracked e (z▸h)
def DI.new {o:HO}(I:GI K g σ H fa O s) (h:H p=none):GI K g σ (k0 H p o) fa O s:=by
 have a:StE fa O H fa O (k0 H p o):=F9 h;refine⟨I.nd,SlR.go (I.car a.stp) (fun b xs hb e=>?_) I.sl,I.fr,I.st.trans ((F9 (O:=[]) h).stp),I.tr,I.ff,I.fd.car (I.car a.stp) (I.fd.same_new h),I.nf⟩;rw[w5 (X9 e h)];exact e
end
abbrev DE:=DS->Option (D × DS)
abbrev DT:=DS->Option (Bool × DS)
abbrev DA:=DS->Option (List D × DS)
inductive Fl where
 | next | brk | cont | ret (d:D)
abbrev DM:=DS->Option (Fl × DS)
structure NewL (K:vF_) (g:Gh) (σ:L2.St) (H:Hp) (fa:vA_) (O:vL_) (s:DS) (p:Addr) (xs:List V) (ds:vD_):Prop where
 gi:GI K g σ H fa O s
 ls:H p=some (.lst xs)
 sl:SlR K (fun b=>NN g.F fa O b\/b=p) fa H s.sl σ O
 fd:FeedR (fun b=>NN g.F fa O b\/b=p) H fa s.fs
 rs:Reps K (fun b=>NN g.F fa O b\/b=p) fa H ds xs
 nf:fa≠some p
section
variable (K:vF_) (g:Gh)
def liftE (f:DE):TE:=fun σ H Q=>∃fa O s d s',GI K g σ H fa O s/\f s=some (d,s') /\
 ∀v H' fa' O',StE fa O H fa' O' H'->GI K g σ H' fa' O' s'->Rep K (NN g.F fa' O') fa' H' d v->Q v H'
def liftB (f:DE):TE:=fun σ H Q=>∃fa O s d s',GI K g σ H fa O s/\f s=some (d,s') /\
 ∀v H' fa' O',StE fa O H fa' O' H'->GI K g σ H' fa' O' s'->RepB K (NN g.F fa' O') fa' H' d v->Q v H'
def liftF (f:DA):TE:=fun σ H Q=>∃fa O s ds s',GI K g σ H fa O s/\f s=some (ds,s') /\
 ∀p xs H' fa' O',StE fa O H fa' O' H'->NewL K g σ H' fa' O' s' p xs ds->H p=none->Q (.ref p) H'
def liftT (f:DT):TT:=fun σ H Q=>∃fa O s d s',GI K g σ H fa O s/\f s=some (d,s') /\
 ∀H' fa' O',StE fa O H fa' O' H'->GI K g σ H' fa' O' s'->Q d H'
def liftA (f:DA):TA:=fun σ H Q=>∃fa O s ds s',GI K g σ H fa O s/\f s=some (ds,s') /\
 ∀vs H' fa' O',StE fa O H fa' O' H'->GI K g σ H' fa' O' s'->Reps K (NN g.F fa' O') fa' H' ds vs->Q vs H'
def liftBA (f:DA):TA:=fun σ H Q=>∃fa O s ds s',GI K g σ H fa O s/\f s=some (ds,s') /\
 ∀vs H' fa' O',StE fa O H fa' O' H'->GI K g σ H' fa' O' s'->ag K (NN g.F fa' O') fa' H' ds vs->Q vs H'
def FlK (E:Ends) (fa:vA_) (O:vL_) (H:Hp) (fl:Fl) (s':DS):Prop:=
 match fl with
 |.next=>∀σ' H' fa' O',Stp fa O H fa' O' H'->GI K g σ' H' fa' O' s'->E.nx σ' H'
 |.brk=>∀σ' H' fa' O',Stp fa O H fa' O' H'->GI K g σ' H' fa' O' s'->E.bk σ' H'
 |.cont=>∀σ' H' fa' O',Stp fa O H fa' O' H'->GI K g σ' H' fa' O' s'->E.ct σ' H'
 |.ret d=>∀σ' v H' fa' O',Stp fa O H fa' O' H'->GI K g σ' H' fa' O' s'->Rep K (NN g.F fa' O') fa' H' d v->E.rt v H'
def liftS (f:DM):TS:=fun E σ H=>∃fa O s fl s',GI K g σ H fa O s/\f s=some (fl,s')/\FlK K g E fa O H fl s'
end
section
variable {K:vF_}{g:Gh}{σ:L2.St}{H:Hp}{G:Prop}
def liftE.elim {f:DE}{Q:VK}(h:liftE K g f σ H Q) (k:∀fa O s d s',GI K g σ H fa O s->f s=some (d,s')->(∀v H' fa' O',StE fa O H fa' O' H'->GI K g σ H' fa' O' s'->Rep K (NN g.F fa' O') fa' H' d v->Q v H')->G):G:=by
 obtain⟨fa,O,s,d,s',a,b,c⟩:=h;exact k fa O s d s' a b c
def liftB.elim {f:DE}{Q:VK}(h:liftB K g f σ H Q) (k:∀fa O s d s',GI K g σ H fa O s->f s=some (d,s')->(∀v H' fa' O',StE fa O H fa' O' H'->GI K g σ H' fa' O' s'->RepB K (NN g.F fa' O') fa' H' d v->Q v H')->G):G:=by
 obtain⟨fa,O,s,d,s',a,b,c⟩:=h;exact k fa O s d s' a b c
def liftF.elim {f:DA}{Q:VK}(h:liftF K g f σ H Q) (k:∀fa O s d s',GI K g σ H fa O s->f s=some (d,s')->(∀p xs H' fa' O',StE fa O H fa' O' H'->NewL K g σ H' fa' O' s' p xs d->H p=none->Q (.ref p) H')->G):G:=by
 obtain⟨fa,O,s,d,s',a,b,c⟩:=h;exact k fa O s d s' a b c
def liftT.elim {f:DT}{Q:Bool->Hp->Prop}(h:liftT K g f σ H Q) (k:∀fa O s d s',GI K g σ H fa O s->f s=some (d,s')->(∀H' fa' O',StE fa O H fa' O' H'->GI K g σ H' fa' O' s'->Q d H')->G):G:=by
 obtain⟨fa,O,s,d,s',a,b,c⟩:=h;exact k fa O s d s' a b c
def liftA.elim {f:DA}{Q:List V->Hp->Prop}(h:liftA K g f σ H Q) (k:∀fa O s d s',GI K g σ H fa O s->f s=some (d,s')->(∀vs H' fa' O',StE fa O H fa' O' H'->GI K g σ H' fa' O' s'->Reps K (NN g.F fa' O') fa' H' d vs->Q vs H')->G):G:=by
 obtain⟨fa,O,s,d,s',a,b,c⟩:=h;exact k fa O s d s' a b c
def liftBA.elim {f:DA}{Q:List V->Hp->Prop}(h:liftBA K g f σ H Q) (k:∀fa O s d s',GI K g σ H fa O s->f s=some (d,s')->(∀vs H' fa' O',StE fa O H fa' O' H'->GI K g σ H' fa' O' s'->ag K (NN g.F fa' O') fa' H' d vs->Q vs H')->G):G:=by
 obtain⟨fa,O,s,d,s',a,b,c⟩:=h;exact k fa O s d s' a b c
def liftS.elim {f:DM}(h:liftS K g f E σ H) (k:∀fa O s d s',GI K g σ H fa O s->f s=some (d,s')->(FlK K g E fa O H d s')->G):G:=by
 obtain⟨fa,O,s,d,s',a,b,c⟩:=h;exact k fa O s d s' a b c
end
structure EO (X:Cx) (g:Gh) (e:Expr) (f:DE):Prop where
 pe:PE X e (liftE X.K g f)
structure BO (X:Cx) (g:Gh) (e:Expr) (f:DE):Prop where
 pe:PE X e (liftB X.K g f)
structure FO (X:Cx) (g:Gh) (e:Expr) (f:DA):Prop where
 pe:PE X e (liftF X.K g f)
structure TO (X:Cx) (g:Gh) (e:Expr) (f:DT):Prop where
 pe:PT X e (liftT X.K g f)
structure WO (X:Cx) (g:Gh) (e:Expr) (f:DT):Prop where
 pe:PW X e (liftT X.K g f)
structure AO (X:Cx) (g:Gh) (es:List Expr) (f:DA):Prop where
 pe:PA X es (liftA X.K g f)
structure BAO (X:Cx) (g:Gh) (es:List Expr) (f:DA):Prop where
 pe:PA X es (liftBA X.K g f)
structure SO (X:Cx) (g:Gh) (st:Stmt) (f:DM):Prop where
 pe:PS X st (liftS X.K g f)
structure SSO (X:Cx) (g:Gh) (st:List Stmt) (f:DM):Prop where
 pe:PSs X st (liftS X.K g f)
section
variable {X:Cx}{g:Gh}{e:Expr}{f:DE}
def rG {t t':TE}(h:PE X e t) (w:∀σ H Q,t' σ H Q->t σ H Q):PE X e t':=fun pins s σ H Q I q=>h pins s σ H Q I (w σ H Q q)
def HP {t t':TT}(h:PT X e t) (w:∀σ H Q,t' σ H Q->t σ H Q):PT X e t':=fun pins s σ H Q I q=>h pins s σ H Q I (w σ H Q q)
def Ks {t t':TT}(h:PW X e t) (w:∀σ H Q,t' σ H Q->t σ H Q):PW X e t':=fun J pins s σ H Q I q=>h J pins s σ H Q I (w σ H Q q)
def yR {t t':TA}(h:PA X es t) (w:∀σ H Q,t' σ H Q->t σ H Q):PA X es t':=fun pos pins s σ H Q I q=>h pos pins s σ H Q I (w σ H Q q)
def LQ {st:Stmt}{t t':TS}(h:PS X st t) (w:∀E σ H,t' E σ H->t E σ H):PS X st t':=fun pins s σ H E I q=>h pins s σ H E I (w E σ H q)
def Gi {st:List Stmt}{t t':TS}(h:PSs X st t) (w:∀E σ H,t' E σ H->t E σ H):PSs X st t':=fun pins s σ H E I q=>h pins s σ H E I (w E σ H q)
theorem EO.w {f:DE}{t:TE}(h:PE X e t) (w:∀σ H Q,liftE X.K g f σ H Q->t σ H Q):EO X g e f:=⟨rG h w⟩
theorem BO.w {f:DE}{t:TE}(h:PE X e t) (w:∀σ H Q,liftB X.K g f σ H Q->t σ H Q):BO X g e f:=⟨rG h w⟩
theorem FO.w {f:DA}{t:TE}(h:PE X e t) (w:∀σ H Q,liftF X.K g f σ H Q->t σ H Q):FO X g e f:=⟨rG h w⟩
theorem TO.w {f:DT}{t:TT}(h:PT X e t) (w:∀σ H Q,liftT X.K g f σ H Q->t σ H Q):TO X g e f:=⟨HP h w⟩
theorem WO.w {f:DT}{t:TT}(h:PW X e t) (w:∀σ H Q,liftT X.K g f σ H Q->t σ H Q):WO X g e f:=⟨Ks h w⟩
theorem AO.w {f:DA}{t:TA}(h:PA X es t) (w:∀σ H Q,liftA X.K g f σ H Q->t σ H Q):AO X g es f:=⟨yR h w⟩
theorem BAO.w {f:DA}{t:TA}(h:PA X es t) (w:∀σ H Q,liftBA X.K g f σ H Q->t σ H Q):BAO X g es f:=⟨yR h w⟩
theorem SO.w {st:Stmt}{f:DM}{t:TS}(h:PS X st t) (w:∀E σ H,liftS X.K g f E σ H->t E σ H):SO X g st f:=⟨LQ h w⟩
theorem SSO.w {st:List Stmt}{f:DM}{t:TS}(h:PSs X st t) (w:∀E σ H,liftS X.K g f E σ H->t E σ H):SSO X g st f:=⟨Gi h w⟩
theorem EO.b (h:EO X g e f):BO X g e f:=BO.w h.pe fun σ H Q ⟨fa,O,s,d,s',I,e,k⟩=>⟨fa,O,s,d,s',I,e,fun v H' fa' O' a J r=>k v H' fa' O' a J (r.b fun _ z=>.inr (.inr z))⟩
def m6 (f:DA):DE:=fun s=>(f s).map fun p=>(.lst p.1,p.2)
def je {K:vF_}{H H':Hp}{fa fa':vA_}{O O':vL_}(I:GI K g σ H fa O s) (a:StE fa O H fa' O' H') (J:GI K g σ H' fa' O' s') (e:H p=none) (e':fa'≠some p):¬ NN g.F fa' O' p:=by
 rintro(z | z | z)
 .exact I.trF z e
 .obtain⟨ys,q⟩:=I.owned (a.sub p z);rw[e] at q;cases q
 .exact e' z
def FO.v {f:DA}(h:FO X g e f):EO X g e (m6 f):=EO.w h.pe fun σ H Q U=>by
 refine U.elim fun fa O s d s' I e k=>?_
 simp only[m6] at e;cases q:f s with
 |none=>rw[q] at e;cases e
 |some p=>
  obtain⟨ds,s1⟩:=p;rw[q] at e;simp only[XH,Tv,SX] at e;obtain⟨J,M⟩:=e;subst J;subst M;refine⟨fa,O,s,ds,s1,I,q,fun p xs H' fa' O' a L J=>k _ H' fa' O' a L.gi ?_⟩;simp only[Rep];exact⟨p,xs,rfl,je I a L.gi J L.nf,L.ls,Reps.go ⟨fun b ys n q=>⟨q,fun z=>n (.inl z)⟩,fun _ _ q=>q,fun _ _ q=>q,fun _ q=>q⟩ ds xs L.rs⟩
end
def jL {g:Gh}{K:vF_}{H:Hp}{fa:vA_}{O:vL_}{o:HO}(I:GI K g σ H fa O s) (hp:H p=none):Car K (NN g.F fa O) fa H (fun b=>NN g.F fa O b\/b=p) fa (k0 H p o):=by
 have c:=I.car (F9 (fa:=fa) (O:=O) (o:=o) hp).stp;refine⟨fun b xs n q=>?_,c.tp,c.fz,c.fe⟩;obtain⟨M,J⟩:=c.ls b xs n q;refine⟨M,?_⟩;rintro(z | z)
 .exact J z
 .subst z;rw[hp] at q;cases q
def ak {g:Gh}{K:vF_}{H:Hp}{fa:vA_}{O:vL_}{ds:vD_}{xs:List V}(I:GI K g σ H fa O s) (hp:H p=none) (r:Reps K (NN g.F fa O) fa H ds xs):NewL K g σ (k0 H p (.lst xs)) fa O s p xs ds:=
 ⟨I.new hp,F6,SlR.go (jL I hp) (fun b ys _ e=>by rw[w5 (X9 e hp)];exact e) I.sl,I.fd.car (jL I hp) (I.fd.same_new hp),Reps.go (jL I hp) ds xs r,fun z=>I.fd.tracked z hp⟩
def dC (d:D):DE:=fun s=>some (d,s)
def dV (i:Nat):DE:=fun s=>match s.sl[i]? with
 |some (.v d)=>some (d,s)
 |some (.own ds)=>some (.lst ds,{ s with sl:=s.sl.set i (.v (.lst ds)) })
 |_=>none
def dL (i:Nat):DE:=fun s=>match s.sl[i]? with
 |some (.v d)=>some (d,s)
 |some (.own ds)=>some (.lst ds,s)
 |_=>none
section
variable {X:Cx}{g:Gh}
def mK {i:Nat}{pos:Pos}(h:PE X (.Name x pos) (Q4 i)):BO X g (.Name x pos) (dL i):=BO.w h fun σ H Q U=>by
 refine U.elim fun fa O s d s' I e k=>?_
 simp only[dL] at e;cases q:s.sl[i]? with
 |none=>rw[q] at e;cases e
 |some z=>
  rw[q] at e;cases z with
  |no=>cases e
  |v W=>
   cases e;obtain⟨u,J,r⟩:=SlR.val I.sl q;exact⟨u,J,k u H fa O StE.refl I (r.b fun _ z=>.inr (.inr z))⟩
  |own ds=>
   cases e;obtain⟨a,xs,J,m,M,r⟩:=SlR.own I.sl q;exact⟨_,J,k _ H fa O StE.refl I ⟨a,xs,rfl,fun z=>I.nf a z m,M,r⟩⟩
def U5 {i:Nat}{pos:Pos}(h:PE X (.Name x pos) (Q4 i)):EO X g (.Name x pos) (dV i):=EO.w h fun σ H Q hQ=>by
 refine hQ.elim fun fa O s d s' I e k=>?_
 simp only[dV] at e;cases q:s.sl[i]? with
 |none=>rw[q] at e;cases e
 |some z=>
  rw[q] at e;cases z with
  |no=>cases e
  |v d'=>
   cases e;obtain⟨u,M,r⟩:=SlR.val I.sl q;exact⟨u,M,k u H fa O StE.refl I r⟩
  |own ds=>
   cases e;obtain⟨a,xs,M,m,e2,r⟩:=SlR.own I.sl q;have i':i<s.sl.length:=(Tn.mp q).1
   let N1:Addr->Prop:=fun b=>NN g.F fa O b/\b≠a
   have U:Car X.K (NN g.F fa O) fa H N1 fa H:=⟨fun b ys n z=>⟨z,fun y=>n y.1⟩,fun _ _ z=>z,fun _ _ z=>z,fun _ z=>z⟩
   have S1:=SlR.go U (fun _ _ _ z=>z) I.sl;have R1:Rep X.K N1 fa H (.lst ds) (.ref a):=by
    simp only[Rep];exact⟨a,xs,rfl,fun z=>z.2 rfl,e2,Reps.go U ds xs r⟩
   obtain⟨P,hs,Z,hn⟩:=SlR.put i S1 R1;have na:a ∉ P:=hn I.nd a (by rw[q];rfl) ⟨ds,q⟩ M;have eσ:σ.set i (some (V.ref a))=σ:=by
    apply List.ext_getElem?;intro j;by_cases Y:j=i
    .subst Y;rw[M,VI (Tn.mp M).1]
    .rw[UC (SS Y)]
   rw[eσ] at Z;have J:∀b∈P,b∈O:=fun b hb=>hs.subset hb
   have a1:StE fa O H fa P H:=⟨J,.inl rfl,fun _ _ z _=>z,fun _ z=>z⟩
   have W:Car X.K N1 fa H (NN g.F fa P) fa H:=⟨fun b ys n z=>⟨z,fun y=>n ⟨by
     rcases y with y | y | y
     .exact .inl y
     .exact .inr (.inl (J b y))
     .exact .inr (.inr y),fun w=>by
     subst w;rcases y with y | y | y
     .exact I.tr b y (I.fr b m)
     .exact na y
     .exact I.nf b y m⟩⟩,fun _ _ z=>z,fun _ _ z=>z,fun _ z=>z⟩
   refine⟨_,M,k _ H fa P a1 ⟨hs.nodup I.nd,SlR.go W (fun _ _ _ z=>z) Z,fun b hb=>I.fr b (J b hb),I.st,I.tr,I.ff,(I.fd.car U fun _ _=>rfl).car W fun _ _=>rfl,fun b z y=>I.nf b z (J b y)⟩ (Rep.go W _ _ R1)⟩
def kh {v:V}(h:PE X e (tC v)) (r:∀K N fa H,Rep K N fa H d v):EO X g e (dC d):=EO.w h fun σ H Q J=>by
 refine J.elim fun fa O s M s' I q k=>?_
 simp only[dC,Tv,SX] at q;obtain⟨q1,q2⟩:=q;subst q1;subst q2;exact k v H fa O StE.refl I (r _ _ _ _)
def RP {i j pos}:EO X g (.Constant (.int i) j pos) (dC (.int i)):=kh gr fun _ _ _ _=>by simp only[Rep]
def tZ {i j pos}:EO X g (.Constant (.bool i) j pos) (dC (.bl i)):=kh xh fun _ _ _ _=>by simp only[Rep]
def PD {j pos}:EO X g (.Constant .none j pos) (dC .non):=kh Qh fun _ _ _ _=>by simp only[Rep]
def OX {x j pos} (J:x.length<=sizeLine):EO X g (.Constant (.str x) j pos) (dC (.str x)):=kh di fun _ _ _ _=>by simp only[Rep];exact⟨trivial,J⟩
end
def N3 (K:vF_) (r:R2) (p:D->D->Option D):Prop:=
 ∀(g:Gh) (σ:L2.St) (H:Hp) (fa:vA_) (O:vL_) (s:DS) (x y:V) (d1 d2 d:D) (Q:VK),GI K g σ H fa O s->RepB K (NN g.F fa O) fa H d1 x->RepB K (NN g.F fa O) fa H d2 y->p d1 d2=some d ->
  (∀v H',StE fa O H fa O H'->GI K g σ H' fa O s->Rep K (NN g.F fa O) fa H' d v->Q v H')->r x y H Q
def CP (K:vF_) (r:V->Hp->VK->Prop) (p:D->Option D):Prop:=
 ∀(g:Gh) (σ:L2.St) (H:Hp) (fa:vA_) (O:vL_) (s:DS) (x:V) (d1 d:D) (Q:VK),GI K g σ H fa O s->RepB K (NN g.F fa O) fa H d1 x->p d1=some d ->
  (∀v H',StE fa O H fa O H'->GI K g σ H' fa O s->Rep K (NN g.F fa O) fa H' d v->Q v H')->r x H Q
def pb (K:vF_) (r:R2) (p:D->D->Option (List D)):Prop:=
 ∀(g:Gh) (σ:L2.St) (H:Hp) (fa:vA_) (O:vL_) (s:DS) (x y:V) (d1 d2:D) (ds:vD_) (Q:VK),GI K g σ H fa O s->RepB K (NN g.F fa O) fa H d1 x->RepB K (NN g.F fa O) fa H d2 y->p d1 d2=some ds ->
  (∀q xs H',StE fa O H fa O H'->NewL K g σ H' fa O s q xs ds->H q=none->Q (.ref q) H')->r x y H Q
def bC (K:vF_) (r:List V->Hp->VK->Prop) (p:List D->Option D):Prop:=
 ∀(g:Gh) (σ:L2.St) (H:Hp) (fa:vA_) (O:vL_) (s:DS) (xs:List V) (ds:vD_) (d:D) (Q:VK),GI K g σ H fa O s->ag K (NN g.F fa O) fa H ds xs->p ds=some d ->
  (∀v H',StE fa O H fa O H'->GI K g σ H' fa O s->Rep K (NN g.F fa O) fa H' d v->Q v H')->r xs H Q
def iB (K:vF_) (r:List V->Hp->VK->Prop) (p:List D->Option (List D)):Prop:=
 ∀(g:Gh) (σ:L2.St) (H:Hp) (fa:vA_) (O:vL_) (s:DS) (xs:List V) (ds es:vD_) (Q:VK),GI K g σ H fa O s->ag K (NN g.F fa O) fa H ds xs->p ds=some es ->
  (∀q ys H',StE fa O H fa O H'->NewL K g σ H' fa O s q ys es->H q=none->Q (.ref q) H')->r xs H Q
def a7 (p:D->D->Option D) (a b:DE):DE:=fun s=>(a s).bind fun x=>(b x.2).bind fun y=>(p x.1 y.1).map fun d=>(d,y.2)
def aR (p:D->D->Option (List D)) (a b:DE):DA:=fun s=>(a s).bind fun x=>(b x.2).bind fun y=>(p x.1 y.1).map fun d=>(d,y.2)
def m8 (p:D->Option D) (a:DE):DE:=fun s=>(a s).bind fun x=>(p x.1).map fun d=>(d,x.2)
def yI {α:Type}{p:D->D->Option α}{a b:DE}{d:α}(h:((a s).bind fun x=>(b x.2).bind fun y=>(p x.1 y.1).map fun d=>(d,y.2))=some (d,s')):∃x s1 y,a s=some (x,s1)/\b s1=some (y,s')/\p x y=some d:=by
 refine B6 h fun x s1 h1 h=>?_
 refine B6 h fun y s2 h2 h=>?_
 refine av h fun U h3 h=>?_
 simp only[SX] at h;obtain⟨M,J⟩:=h;subst M;subst J;exact⟨x,s1,y,h1,h2,h3⟩
section
variable {X:Cx}{g:Gh}{a b:Expr}{fa fb:DE}{pos:Pos}{r:R2}{p:D->D->Option D}
def nH {r:R2}{p:D->D->Option D}(Z:N3 X.K r p) (σ:L2.St) (H:Hp) (Q:VK) (h:liftE X.K g (a7 p fa fb) σ H Q):fO r (liftB X.K g fa) (liftB X.K g fb) σ H Q:=by
 obtain⟨f0,O,s,d,s',I,e,k⟩:=h;obtain⟨x,s1,y,h1,h2,h3⟩:=yI e;refine⟨f0,O,s,x,s1,I,h1,fun v H1 f1 O1 a1 U r1=>⟨f1,O1,s1,y,s',U,h2,fun u H2 J W M I2 r2=>?_⟩⟩;exact Z g σ H2 J W s' v u x y d Q I2 (RepB.stp U M r1) r2 h3 fun z Y a3 I3 r3=>k z Y J W (a1.trans (M.trans a3)) I3 r3
def Gr {r:R2}{p:D->D->Option (List D)}(hr:pb X.K r p) (σ:L2.St) (H:Hp) (Q:VK) (h:liftF X.K g (aR p fa fb) σ H Q):fO r (liftB X.K g fa) (liftB X.K g fb) σ H Q:=by
 obtain⟨f0,O,s,d,s',I,e,k⟩:=h;obtain⟨x,s1,y,h1,h2,h3⟩:=yI e;refine⟨f0,O,s,x,s1,I,h1,fun v H1 f1 O1 Y U r1=>⟨f1,O1,s1,y,s',U,h2,fun u H2 M W J I2 r2=>?_⟩⟩;exact hr g σ H2 M W s' v u x y d Q I2 (RepB.stp U J r1) r2 h3 fun q xs Z a3 L e1=>k q xs Z M W (Y.trans (J.trans a3)) L (Y.mon _ (J.mon _ e1))
def Ds {J:Operator}(M:OpR X (binaryOp J) r) (U:N3 X.K r p) (ha:BO X g a fa) (hb:BO X g b fb):EO X g (.BinOp a J b pos) (a7 p fa fb):=EO.w (vF M ha.pe hb.pe) (nH U)
def oF {J:Operator}{p:D->D->Option (List D)}(M:OpR X (binaryOp J) r) (U:pb X.K r p) (ha:BO X g a fa) (hb:BO X g b fb):FO X g (.BinOp a J b pos) (aR p fa fb):=FO.w (vF M ha.pe hb.pe) (Gr U)
def PU {J:CmpOp}(M:OpR X (compareOp J) r) (U:N3 X.K r p) (ha:BO X g a fa) (hb:BO X g b fb) (W:behindInMarks J b=false):EO X g (.Compare a [J] [b] pos) (a7 p fa fb):=EO.w (Fb M ha.pe hb.pe W) (nH U)
def uh {r:R2}(J:IxR X r) (M:N3 X.K r p) (ha:BO X g a fa) (hb:BO X g b fb) (U:tT b):EO X g (.Subscript a b pos) (a7 p fa fb):=EO.w (Ii J ha.pe hb.pe U) (nH M)
def Oh {J:UnaryOp}{r:V->Hp->VK->Prop}{p:D->Option D}(ho:jE X (unaryOp J) r) (U:CP X.K r p) (ha:BO X g a fa):EO X g (.UnaryOp J a pos) (m8 p fa):=EO.w (NZ ho ha.pe) fun σ H Q hQ=>by
 refine hQ.elim fun Y O s d s' I e k=>?_
 refine B6 e fun x s1 h1 h=>?_
 refine av h fun d' h3 h=>?_
 simp only[SX] at h;obtain⟨e1,e2⟩:=h;subst e1;subst e2;exact⟨Y,O,s,x,s1,I,h1,fun v H1 f1 O1 a1 Z W=>U g σ H1 f1 O1 s1 v x d' Q Z W h3 fun z M a3 I3 r3=>k z M f1 O1 (a1.trans a3) I3 r3⟩
def dB (f:DE):DT:=fun s=>(f s).bind fun x=>match x.1 with | .bl b=>some (b,x.2) | _=>none
def jH {f:DE}{b:Bool}(h:dB f s=some (b,s')):f s=some (.bl b,s'):=by
 refine B6 h fun x s1 h1 h=>?_
 cases x with
 |bl c=>simp only[Tv,SX] at h;rw[h1,h.1,h.2]
 |_=>cases h
def QV {J:CmpOp}(Z:OpR X (compareOp J) r) (Y:N3 X.K r p) (ha:BO X g a fa) (hb:BO X g b fb) (W:behindInMarks J b=false):TO X g (.Compare a [J] [b] pos) (dB (a7 p fa fb)):=
 TO.w (Kp Z ha.pe hb.pe W) fun σ H Q ⟨M,O,s,d,s',I,e,k⟩=>nH Y σ H _ ⟨M,O,s,.bl d,s',I,jH e,fun v H' f1 O1 a U r=>by
  simp only[Rep] at r;exact⟨d,r,k H' f1 O1 a U⟩⟩
def D0:D->Option Bool
 |.non=>some false
 |.bl b=>some b
 |.int i=>some (i != 0)
 |.str x=>some ((x.length:Int) != 0)
 |.tup ds=>some (!ds.isEmpty)
 |.lst ds=>some (!ds.isEmpty)
 |_=>none
def w6 (f:DE):DT:=fun s=>(f s).bind fun x=>(D0 x.1).map fun b=>(b,x.2)
def Dw {α β:Type}{xs:List α}{ys:List β}(h:xs.length=ys.length):xs.isEmpty=ys.isEmpty:=by cases xs <;> cases ys <;> simp_all
def Ab {e:Expr}(h:BO X g e f) (he:∀whole,isTrue e X.env whole=(do let v <-whole;standAt e.pos;holding [v] (truthy v)):=by intro _;rfl):TO X g e (w6 f):=
 TO.w (RL h.pe he) fun σ H Q Z=>by
  refine Z.elim fun J O s d s' I e k=>?_
  obtain⟨⟨x,s1⟩,h1,h.pe⟩:=UN.mp e;obtain⟨U,h3,h.pe⟩:=Wr.mp h.pe;simp only[SX] at h.pe;obtain⟨Y,W⟩:=h.pe;subst Y;subst W;refine⟨J,O,s,x,s1,I,h1,fun v H' f1 O1 a M r=>⟨U,?_,k H' f1 O1 a M⟩⟩;cases x with
  |non=>simp only[RepB,Rep] at r;subst r;cases h3;rfl
  |bl b=>simp only[RepB,Rep] at r;subst r;cases h3;rfl
  |int i=>simp only[RepB,Rep] at r;subst r;cases h3;rfl
  |str x=>simp only[RepB,Rep] at r;obtain⟨r,l⟩:=r;subst r;cases h3;exact⟨l,rfl⟩
  |tup ds=>
   simp only[RepB,Rep] at r;obtain⟨c,xs,r,q,w⟩:=r;subst r;cases h3;exact .inr (.inl ⟨xs,q,by rw[Dw w.length]⟩)
  |lst ds=>
   obtain⟨c,xs,r,_,q,w⟩:=r;subst r;cases h3;exact .inl ⟨xs,SqL.of q,by rw[Dw w.length]⟩
  |feed=>cases h3
  |scr _=>cases h3
  |fn _=>cases h3
def w8 (a b:DT):DT:=fun s=>(a s).bind fun x=>if x.1=true then b x.2 else some (false,x.2)
def A5 (a b:DT):DT:=fun s=>(a s).bind fun x=>if x.1=true then some (true,x.2) else b x.2
def B0 (a:DT):DT:=fun s=>(a s).map fun x=>(!x.1,x.2)
def D4 (a b:DE):DE:=fun s=>(dB a s).bind fun x=>if x.1=true then b x.2 else some (.bl false,x.2)
def D6 (a b:DE):DE:=fun s=>(dB a s).bind fun x=>if x.1=true then some (.bl true,x.2) else b x.2
def D2 (a:DE):DE:=fun s=>(dB a s).map fun x=>(.bl (!x.1),x.2)
variable {ta tb:DT}{rest:List Expr}
def CF (h:TO X g a ta):WO X g (.BoolOp .And [a] pos) ta:=⟨Ep h.pe⟩
def IL (h:TO X g a ta):WO X g (.BoolOp .Or [a] pos) ta:=⟨He h.pe⟩
def wV (ha:TO X g a ta) (hb:WO X g (.BoolOp .And (b::rest) pos) tb):WO X g (.BoolOp .And (a::b::rest) pos) (w8 ta tb):=WO.w (Qo ha.pe hb.pe) fun σ H Q hQ=>by
 refine hQ.elim fun W O s d s' I e k=>?_
 refine B6 e fun x s1 h1 h=>?_
 refine⟨W,O,s,x,s1,I,h1,fun H1 f1 O1 M J=>?_⟩;cases x with
 |true=>rw[tx rfl] at h ⊢;exact⟨f1,O1,s1,d,s',J,h,fun H2 U O2 Y Z=>k H2 U O2 (M.trans Y) Z⟩
 |false=>
  rw[So Sy] at h ⊢;simp only[Tv,SX] at h;obtain⟨e1,e2⟩:=h;subst e1;subst e2;exact k H1 f1 O1 M J
def QE (ha:TO X g a ta) (hb:WO X g (.BoolOp .Or (b::rest) pos) tb):WO X g (.BoolOp .Or (a::b::rest) pos) (A5 ta tb):=WO.w (LD ha.pe hb.pe) fun σ H Q hQ=>by
 refine hQ.elim fun W O s d s' I e k=>?_
 refine B6 e fun x s1 h1 h=>?_
 refine⟨W,O,s,x,s1,I,h1,fun H1 f1 O1 M J=>?_⟩;cases x with
 |false=>rw[So Sy] at h ⊢;exact⟨f1,O1,s1,d,s',J,h,fun H2 U O2 Y Z=>k H2 U O2 (M.trans Y) Z⟩
 |true=>
  rw[tx rfl] at h ⊢;simp only[Tv,SX] at h;obtain⟨e1,e2⟩:=h;subst e1;subst e2;exact k H1 f1 O1 M J
def WO.t (h:WO X g e f):TO X g e f:=⟨h.pe.pt⟩
def FA (ha:TO X g a ta):TO X g (.UnaryOp .Not a pos) (B0 ta):=TO.w (KO ha.pe) fun σ H Q Y=>by
 refine Y.elim fun J O s d s' I e k=>?_
 refine mapP e fun x s1 h1 h=>?_
 simp only[SX] at h;obtain⟨W,U⟩:=h;subst W;subst U;exact⟨J,O,s,x,s1,I,h1,fun H1 f1 O1 Z M=>k H1 f1 O1 Z M⟩
def HM {op} (h:EO X g a f):EO X g (.BoolOp op [a] pos) f:=⟨HQ h.pe⟩
def Gf (ha:EO X g a fa) (hb:EO X g (.BoolOp .And (b::rest) pos) fb):EO X g (.BoolOp .And (a::b::rest) pos) (D4 fa fb):=EO.w (Km ha.pe hb.pe) fun σ H Q hQ=>by
 refine hQ.elim fun W O s d s' I e k=>?_
 refine B6 e fun x s1 h1 h=>?_
 refine⟨W,O,s,_,s1,I,jH h1,fun v H1 f1 O1 M J r=>⟨x,by simpa only[Rep] using r,?_⟩⟩;cases x with
 |true=>rw[tx rfl] at h ⊢;exact⟨f1,O1,s1,d,s',J,h,fun v H2 U O2 Y Z=>k v H2 U O2 (M.trans Y) Z⟩
 |false=>
  rw[So Sy] at h ⊢;simp only[Tv,SX] at h;obtain⟨e1,e2⟩:=h;subst e1;subst e2;exact k _ H1 f1 O1 M J (by simp only[Rep])
def Fn (ha:EO X g a fa) (hb:EO X g (.BoolOp .Or (b::rest) pos) fb):EO X g (.BoolOp .Or (a::b::rest) pos) (D6 fa fb):=EO.w (OT ha.pe hb.pe) fun σ H Q hQ=>by
 refine hQ.elim fun W O s d s' I e k=>?_
 refine B6 e fun x s1 h1 h=>?_
 refine⟨W,O,s,_,s1,I,jH h1,fun v H1 f1 O1 M J r=>⟨x,by simpa only[Rep] using r,?_⟩⟩;cases x with
 |false=>rw[So Sy] at h ⊢;exact⟨f1,O1,s1,d,s',J,h,fun v H2 U O2 Y Z=>k v H2 U O2 (M.trans Y) Z⟩
 |true=>
  rw[tx rfl] at h ⊢;simp only[Tv,SX] at h;obtain⟨e1,e2⟩:=h;subst e1;subst e2;exact k _ H1 f1 O1 M J (by simp only[Rep])
def LY (ha:EO X g a fa):EO X g (.UnaryOp .Not a pos) (D2 fa):=EO.w (Nu ha.pe) fun σ H Q Y=>by
 refine Y.elim fun J O s d s' I e k=>?_
 refine mapP e fun x s1 h1 h=>?_
 simp only[SX] at h;obtain⟨W,U⟩:=h;subst W;subst U;exact⟨J,O,s,_,s1,I,jH h1,fun v H1 f1 O1 Z M r=>⟨x,by simpa only[Rep] using r,k _ H1 f1 O1 Z M (by simp only[Rep])⟩⟩
def u4 (c:DT) (a b:DE):DE:=fun s=>(c s).bind fun x=>if x.1=true then a x.2 else b x.2
def Qu (hc:TO X g c fc) (ha:EO X g a fa) (hb:EO X g b fb):EO X g (.IfExp c a b pos) (u4 fc fa fb):=EO.w (Oc hc.pe ha.pe hb.pe) fun σ H Q hQ=>by
 refine hQ.elim fun f0 O s d s' I e k=>?_
 refine B6 e fun x s1 h1 h=>?_
 refine⟨f0,O,s,x,s1,I,h1,fun H1 f1 O1 Z Y=>?_⟩;cases x with
 |false=>rw[So Sy] at h ⊢;exact⟨f1,O1,s1,d,s',Y,h,fun v H2 J W M U=>k v H2 J W (Z.trans M) U⟩
 |true=>rw[tx rfl] at h ⊢;exact⟨f1,O1,s1,d,s',Y,h,fun v H2 J W M U=>k v H2 J W (Z.trans M) U⟩
def a9:DA:=fun s=>some ([],s)
def a6 (a:DE) (r:DA):DA:=fun s=>(a s).bind fun x=>(r x.2).map fun y=>(x.1::y.1,y.2)
def lI {a:DE}{r:DA}{ds:vD_}(h:a6 a r s=some (ds,s')):∃d s1 es,a s=some (d,s1)/\r s1=some (es,s')/\ds=d::es:=by
 refine B6 h fun x s1 h1 h=>?_
 refine mapP h fun y s2 h2 h=>?_
 simp only[SX] at h;exact⟨x,s1,y,h1,by rw[h2,h.2],h.1.symm⟩
variable {es:List Expr}{fr:DA}
def cD:AO X g [] a9:=AO.w iQ fun σ H Q W=>by
 refine W.elim fun J O s d s' I e k=>?_
 simp only[a9,Tv,SX] at e;obtain⟨U,M⟩:=e;subst U;subst M;exact k [] H J O StE.refl I (by simp only[Reps])
def yg (ha:EO X g a fa) (W:AO X g es fr) (hs:starEach (a::es) X.env=(false,eval a X.env)::starEach es X.env:=by rfl):AO X g (a::es) (a6 fa fr):=AO.w (fL ha.pe W.pe hs) fun σ H Q hQ=>by
 refine hQ.elim fun f0 O s ds s' I e k=>?_
 obtain⟨d,s1,es,h1,h2,h3⟩:=lI e;subst h3;refine⟨f0,O,s,d,s1,I,h1,fun v H1 f1 O1 a1 U Z=>⟨f1,O1,s1,es,s',U,h2,fun J H2 f2 O2 M I2 Y=>?_⟩⟩;refine k (v::J) H2 f2 O2 (a1.trans M) I2 ?_;simp only[Reps];exact⟨v,J,rfl,Rep.stp U M.stp Z,Y⟩
def iG:BAO X g [] a9:=BAO.w iQ fun σ H Q W=>by
 refine W.elim fun J O s d s' I e k=>?_
 simp only[a9,Tv,SX] at e;obtain⟨U,M⟩:=e;subst U;subst M;exact k [] H J O StE.refl I (by simp only[ag])
def Ij (ha:BO X g a fa) (W:BAO X g es fr) (hs:starEach (a::es) X.env=(false,eval a X.env)::starEach es X.env:=by rfl):BAO X g (a::es) (a6 fa fr):=BAO.w (fL ha.pe W.pe hs) fun σ H Q hQ=>by
 refine hQ.elim fun f0 O s ds s' I e k=>?_
 obtain⟨d,s1,es,h1,h2,h3⟩:=lI e;subst h3;refine⟨f0,O,s,d,s1,I,h1,fun v H1 f1 O1 a1 U Z=>⟨f1,O1,s1,es,s',U,h2,fun J H2 f2 O2 M I2 Y=>?_⟩⟩;exact k (v::J) H2 f2 O2 (a1.trans M) I2 ⟨v,J,rfl,RepB.stp U M Z,Y⟩
def i9 (f:DA):DE:=fun s=>(f s).bind fun x=>if x.1.length<=sizeLine then some (.tup x.1,x.2) else none
def l7 (f:DA):DA:=fun s=>(f s).bind fun x=>if x.1.length<=sizeLine then some (x.1,x.2) else none
def xU {x1} (h:AO X g es fr):EO X g (.Tuple es x1 pos) (i9 fr):=EO.w (Em h.pe) fun σ H Q hQ=>by
 refine hQ.elim fun Y O s d s' I e k=>?_
 obtain⟨⟨ds,s1⟩,h1,h.pe⟩:=UN.mp e;by_cases hl:ds.length<=sizeLine
 .rw[tx hl] at h.pe;simp only[Tv,SX] at h.pe;obtain⟨e1,Z⟩:=h.pe;subst e1;subst Z;refine⟨Y,O,s,ds,s1,I,h1,fun J H1 f1 O1 a1 W M=>⟨by rw[M.length];exact hl,fun p hp=>?_⟩⟩;have U:StE f1 O1 H1 f1 O1 (k0 H1 p (.tup J)):=F9 hp;refine k _ _ f1 O1 (a1.trans U) (W.new hp) ?_;simp only[Rep];exact⟨p,J,rfl,SqT.of F6,Reps.stp W U.stp M⟩
 .rw[So hl] at h.pe;cases h.pe
def vf (h:AO X g es fr):FO X g (.List es pos) (l7 fr):=FO.w (NM h.pe) fun σ H Q hQ=>by
 refine hQ.elim fun W O s d s' I e k=>?_
 obtain⟨⟨ds,s1⟩,h1,h.pe⟩:=UN.mp e;by_cases hl:ds.length<=sizeLine
 .rw[tx hl] at h.pe;simp only[Tv,SX] at h.pe;obtain⟨e1,e2⟩:=h.pe;subst e1;subst e2;refine⟨W,O,s,ds,s1,I,h1,fun J H1 f1 O1 U Z M=>⟨by rw[M.length];exact hl,fun p hp=>?_⟩⟩;have Y:StE f1 O1 H1 f1 O1 (k0 H1 p (.lst J)):=F9 hp;exact k p J _ f1 O1 (U.trans Y) (ak Z hp M) (U.mon _ hp)
 .rw[So hl] at h.pe;cases h.pe
end
section
variable {K:vF_}{g:Gh}{σ:L2.St}{H H':Hp}{fa fa':vA_}{O O':vL_}{s s':DS}
def NN.mono {F:vB_}{P:vL_}(h:∀b∈P,b∈O) {b:Addr}(z:NN F fa P b):NN F fa O b:=by
 rcases z with z | z | z
 .exact .inl z
 .exact .inr (.inl (h b z))
 .exact .inr (.inr z)
def vL {F:vB_}{N:vB_}(h:∀b,NN F fa O b->N b):Car K N fa H (NN F fa O) fa H:=⟨fun b xs n q=>⟨q,fun z=>n (h b z)⟩,fun _ _ q=>q,fun _ _ q=>q,fun _ q=>q⟩
theorem DI.put (I:GI K g σ H fa O s) (i:Nat) {v:V}(r:Rep K (NN g.F fa O) fa H d v):∃P,(∀b∈P,b∈O)/\GI K g (σ.set i (some v)) H fa P { s with sl:=s.sl.set i (.v d) }:=by
 obtain⟨P,M,S,_⟩:=SlR.put i I.sl r;have J:∀b∈P,b∈O:=fun b hb=>M.subset hb
 have c:Car K (NN g.F fa O) fa H (NN g.F fa P) fa H:=vL fun b=>NN.mono J
 exact⟨P,J,M.nodup I.nd,SlR.go c (fun _ _ _ z=>z) S,fun b hb=>I.fr b (J b hb),I.st,I.tr,I.ff,I.fd.car c fun _ _=>rfl,fun b z y=>I.nf b z (J b y)⟩
def gw {P:vL_}(h:∀b∈P,b∈O):StE fa O H fa P H:=⟨h,.inl rfl,fun _ _ e _=>e,fun _ e=>e⟩
def NewL.put {xs:List V}{ds:vD_}(L:NewL K g σ H fa O s p xs ds) (i:Nat) (hi:i<s.sl.length) (h0:g.H0 p=none) (hp:p ∉ O):∃P,(∀b∈P,b=p\/b∈O)/\GI K g (σ.set i (some (.ref p))) H fa P { s with sl:=s.sl.set i (.own ds) }:=by
 obtain⟨P,h1,h2,S⟩:=SlR.putN i L.sl hi hp L.gi.nd L.ls L.rs;have c:Car K (fun b=>NN g.F fa O b\/b=p) fa H (NN g.F fa P) fa H:=vL fun b z=>by
  rcases z with z | z | z
  .exact .inl (.inl z)
  .rcases h1 b z with y | y
   .exact .inr y
   .exact .inl (.inr (.inl y))
  .exact .inl (.inr (.inr z))
 refine⟨P,h1,h2,SlR.go c (fun _ _ _ z=>z) S,fun b hb=>?_,L.gi.st,L.gi.tr,L.gi.ff,L.fd.car c fun _ _=>rfl,fun b z hb=>?_⟩
 .rcases h1 b hb with y | y
  .rw[y];exact h0
  .exact L.gi.fr b y
 .rcases h1 b hb with y | y
  .rw[y] at z;exact L.nf z
  .exact L.gi.nf b z y
theorem DI.rew (I:GI K g σ H fa O s) {i:Nat}{ds es:vD_}{xs ys:List V}(U:s.sl[i]? = some (.own ds)) (M:σ[i]? = some (some (.ref a))) (m:a∈O) (W:H a=some (.lst xs)) (r:Reps K (NN g.F fa O) fa H es ys) :
  GI K g σ (k0 H a (.lst ys)) fa O { s with sl:=s.sl.set i (.own es) }/\Stp fa O H fa O (k0 H a (.lst ys)):=by
 have J:Stp fa O H fa O (k0 H a (.lst ys)):=⟨fun b hb=>.inl hb,.inl rfl,fun b u e n _=>by
  rw[w5 (show b≠a from fun z=>n (by rw[z];exact m))];exact e,fun b z=>by
  by_cases hb:b=a
  .subst hb;rw[F6] at z;cases z
  .rw[w5 hb] at z;exact z⟩
 have c:=I.car J;have k:∀b u,b≠a->H b=some u->k0 H a (.lst ys) b=some u:=fun b u n e=>by rw[w5 n];exact e
 refine⟨⟨I.nd,SlR.rew I.sl I.nd (fun b hb=>.inr (.inl hb)) U M F6 c k (Reps.go c es ys r),I.fr,?_,I.tr,I.ff,I.fd.car c fun b hb=>?_,I.nf⟩,J⟩
 .refine⟨fun b hb=>(by cases hb),I.st.fe,fun b u e n f=>?_,fun b z=>I.st.mon b (J.mon b z)⟩;refine k b u (fun z=>?_) (I.st.same b u e n f);rw[z,I.fr a m] at e;cases e
 .refine w5 fun z=>?_
  subst z;exact I.nf _ hb m
end
def FlK.shift {K:vF_}{fa fa':vA_}{O O':vL_}(a:Stp fa O H fa' O' H') (h:FlK K g E fa O H fl s):FlK K g E fa' O' H' fl s:=by
 cases fl with
 |next=>exact fun σ' H2 M J U W=>h σ' H2 M J (a.trans U) W
 |brk=>exact fun σ' H2 M J U W=>h σ' H2 M J (a.trans U) W
 |cont=>exact fun σ' H2 M J U W=>h σ' H2 M J (a.trans U) W
 |ret d=>exact fun σ' v H2 M J U W=>h σ' v H2 M J (a.trans U) W
def k9:DM:=fun s=>some (.next,s)
def B8 (b:DM) (x:Fl × DS):Option (Fl × DS):=match x.1 with
 |.next=>b x.2
 |.brk=>some (.brk,x.2)
 |.cont=>some (.cont,x.2)
 |.ret d=>some (.ret d,x.2)
def c9 (a b:DM):DM:=fun s=>(a s).bind (B8 b)
section
variable {X:Cx}{g:Gh}{st:Stmt}{rest:List Stmt}{e:Expr}{pos:Pos}{a b:DM}{f:DE}
def gU:SSO X g [] k9:=SSO.w EH fun E σ H J=>by
 refine J.elim fun fa O s fl s' I e k=>?_
 cases e;exact k σ H fa O Stp.refl I
def U1 (h:SO X g st a):SSO X g [st] a:=⟨yH h.pe⟩
def B9 (h:SO X g st a) (J:SSO X g rest b):SSO X g (st::rest) (c9 a b):=SSO.w (nB h.pe J.pe) fun E σ H U=>by
 refine U.elim fun fa O s fl s' I e k=>?_
 refine B6 e fun f1 s1 h1 h2=>?_
 refine⟨fa,O,s,f1,s1,I,h1,?_⟩;cases f1 with
 |next=>exact fun σ' H' f1 O1 W M=>⟨f1,O1,s1,fl,s',M,h2,k.shift W⟩
 |brk=>cases h2;exact k
 |cont=>cases h2;exact k
 |ret d=>cases h2;exact k
def f9 (f:DE):DM:=fun s=>(f s).map fun x=>(.ret x.1,x.2)
def W4 (U:EO X g e f):SO X g (.Return (some e) pos) (f9 f):=SO.w (Jp U.pe) fun E σ H M=>by
 refine M.elim fun fa O s fl s' I q k=>?_
 refine mapP q fun d s1 h1 h2=>?_
 cases h2;exact⟨fa,O,s,d,s1,I,h1,fun v H' f1 O1 W J r=>k σ v H' f1 O1 W.stp J r⟩
def j9 (c:DT) (a b:DM):DM:=fun s=>(c s).bind fun x=>if x.1=true then a x.2 else b x.2
def gx (W:TO X g c fc) (ha:SSO X g la a) (hb:SSO X g lb b):SO X g (.If c la lb pos) (j9 fc a b):=SO.w (Ei W.pe ha.pe hb.pe) fun E σ H U=>by
 refine U.elim fun fa O s fl s' I e k=>?_
 refine B6 e fun x s1 h1 h=>?_
 refine⟨fa,O,s,x,s1,I,h1,fun H1 f1 O1 M J=>?_⟩;cases x with
 |false=>rw[So Sy] at h ⊢;exact⟨f1,O1,s1,fl,s',J,h,k.shift M.stp⟩
 |true=>rw[tx rfl] at h ⊢;exact⟨f1,O1,s1,fl,s',J,h,k.shift M.stp⟩
def liftG (K:vF_) (g:Gh) (t:D->DS->Option DS):TG:=fun v σ H Q=>∃fa O s d s',GI K g σ H fa O s/\Rep K (NN g.F fa O) fa H d v/\t d s=some s'/\∀σ' H' fa' O',Stp fa O H fa' O' H'->GI K g σ' H' fa' O' s'->Q σ' H'
def liftGs (K:vF_) (g:Gh) (t:List D->DS->Option DS):au:=fun J σ H Q=>∃fa O s ds s',GI K g σ H fa O s/\Reps K (NN g.F fa O) fa H ds J/\t ds s=some s'/\∀σ' H' fa' O',Stp fa O H fa' O' H'->GI K g σ' H' fa' O' s'->Q σ' H'
section
variable {K:vF_}{g:Gh}{σ:L2.St}{Q:L2.St->Hp->Prop}{H:Hp}{G:Prop}
def liftG.elim {t:D->DS->Option DS}{v:V}(h:liftG K g t v σ H Q) (k:∀fa O s d s',GI K g σ H fa O s->Rep K (NN g.F fa O) fa H d v->t d s=some s'->(∀σ' H' fa' O',Stp fa O H fa' O' H'->GI K g σ' H' fa' O' s'->Q σ' H')->G):G:=by
 obtain⟨fa,O,s,d,s',a,r,b,c⟩:=h;exact k fa O s d s' a r b c
def liftGs.elim {t:List D->DS->Option DS}{v:List V}(h:liftGs K g t v σ H Q) (k:∀fa O s d s',GI K g σ H fa O s->Reps K (NN g.F fa O) fa H d v->t d s=some s'->(∀σ' H' fa' O',Stp fa O H fa' O' H'->GI K g σ' H' fa' O' s'->Q σ' H')->G):G:=by
 obtain⟨fa,O,s,d,s',a,r,b,c⟩:=h;exact k fa O s d s' a r b c
end
structure GO (X:Cx) (g:Gh) (e:Expr) (t:D->DS->Option DS):Prop where
 pe:PG X e (liftG X.K g t)
structure GsO (X:Cx) (g:Gh) (es:List Expr) (t:List D->DS->Option DS):Prop where
 pe:bU X es (liftGs X.K g t)
def d6 (i:Nat) (d:D):DS->Option DS:=fun s=>some { s with sl:=s.sl.set i (.v d) }
def ES {t t':TG}(h:PG X e t) (w:∀v σ H Q,t' v σ H Q->t v σ H Q):PG X e t':=fun pins s σ H v u Q I r q=>h pins s σ H v u Q I r (w v σ H Q q)
def Hs {t t':au}(h:bU X es t) (w:∀v σ H Q,t' v σ H Q->t v σ H Q):bU X es t':=fun pins s σ H v u Q I r q=>h pins s σ H v u Q I r (w v σ H Q q)
theorem GO.w {f:D->DS->Option DS}{t:TG}(h:PG X e t) (w:∀v σ H Q,liftG X.K g f v σ H Q->t v σ H Q):GO X g e f:=⟨ES h w⟩
theorem GsO.w {f:List D->DS->Option DS}{t:au}(h:bU X es t) (w:∀v σ H Q,liftGs X.K g f v σ H Q->t v σ H Q):GsO X g es f:=⟨Hs h w⟩
def MK {i:Nat}(h:PG X (.Name x pos) (R3 i)):GO X g (.Name x pos) (d6 i):=GO.w h fun v σ H Q M=>by
 refine M.elim fun fa O s d s' I r e k=>?_
 cases e;obtain⟨P,J,U⟩:=I.put i r;exact k _ H fa P (gw J).stp U
def A3:List D->DS->Option DS
 |[],s=>some s
 |_::_,_=>none
def t9 (t:D->DS->Option DS) (u:List D->DS->Option DS):List D->DS->Option DS
 |[],_=>none
 |d::r,s=>(t d s).bind (u r)
def Kk:GsO X g [] A3:=GsO.w sH fun v σ H Q J=>by
 refine J.elim fun fa O s ds s' I r e k=>?_
 cases ds with
 |nil=>cases e;simp only[Reps] at r;exact⟨r,k σ H fa O Stp.refl I⟩
 |cons d M=>cases e
def Nw {t:D->DS->Option DS}(h:GO X g e t) (M:GsO X g es u) (hs:(assignEach (e::es) X.env).map (·.2)=assign e X.env::(assignEach es X.env).map (·.2):=by rfl):GsO X g (e::es) (t9 t u):=
 GsO.w (gu h.pe M.pe hs) fun v σ H Q hQ=>by
  refine hQ.elim fun fa O s ds s' I r e k=>?_
  cases ds with
  |nil=>cases e
  |cons d r'=>
   refine Y0 e fun s1 h1 h2=>?_
   simp only[Reps] at r;obtain⟨x,ys,rfl,Z,ry⟩:=r;exact⟨x,ys,rfl,fa,O,s,d,s1,I,Z,h1,fun σ1 H1 f1 O1 J Y=>⟨f1,O1,s1,r',s',Y,Reps.stp I J ry,h2,fun σ2 H2 U O2 W I2=>k σ2 H2 U O2 (J.trans W) I2⟩⟩
def y9 (n:Nat) (u:List D->DS->Option DS) (d:D) (s:DS):Option DS:=match d with
 |.tup ds=>if ds.length=n then u ds s else none
 |_=>none
def Si {k:Nat}{n:Nat}(U:X.calm=true) (h:GsO X g es u) (W:(assignEach es X.env).length=n:=by rfl) (J:(assignEach es X.env).findIdx? (·.1)=none:=by rfl):GO X g (.Tuple es k pos) (y9 n u):=
 GO.w (sC U h.pe W J) fun v σ H Q M=>by
  refine M.elim fun fa O s d s' I r e k=>?_
  cases d with
  |tup ds=>
   simp only[y9] at e;by_cases hl:ds.length=n
   .rw[tx hl] at e;simp only[Rep] at r;obtain⟨a,xs,rfl,q,w⟩:=r;exact⟨a,xs,rfl,q,by rw[w.length];exact hl,fa,O,s,ds,s',I,w,e,k⟩
   .rw[So hl] at e;cases e
  |_=>cases e
def d7 (f:DE) (t:D->DS->Option DS):DM:=fun s=>(f s).bind fun x=>(t x.1 x.2).map fun s'=>(.next,s')
def AK {f:DE}{t:D->DS->Option DS}(E:Ends) (σ:L2.St) (H:Hp) (h:liftS X.K g (d7 f t) E σ H):fD (liftE X.K g f) (liftG X.K g t) E σ H:=by
 obtain⟨fa,O,s,fl,s',I,q,k⟩:=h;refine B6 q fun d s1 h1 h2=>?_
 refine av h2 fun s2 h3 J=>?_
 cases J;exact⟨fa,O,s,d,s1,I,h1,fun v H1 f1 O1 a1 W r=>⟨f1,O1,s1,d,_,W,r,h3,fun σ2 H2 M Z U Y=>k σ2 H2 M Z (a1.stp.trans U) Y⟩⟩
def OC {t:D->DS->Option DS}(M:EO X g e f) (U:GO X g tg t) (W:swapsWithSole [tg] e pos.line X.env=pure false:=by rfl) (J:swappedStores [tg] e X.env=pure none:=by rfl)
  (h1:(assignEach [tg] X.env).map (·.2)=[assign tg X.env]:=by rfl):SO X g (.Assign [tg] e pos) (d7 f t):=SO.w (Mt M.pe U.pe W J h1) AK
def CT {i:Nat}(hN:X.N.Nodup) (hi:X.N[i]? = some x) (Z:Loc X.env.scope x) (he:EO X g e f) (hs:swapsWith e (some (.Name x pos')) pos.line X.env=pure false:=by rfl) (hf:X.fn x=true\/X.env.scope.names.lookup x=some .local:=by first | exact .inl rfl | exact .inr rfl | assumption) :
  SO X g (.Assign [.Name x pos'] e pos) (d7 f (d6 i)):=SO.w (mv hN hi Z he.pe hs hf) fun E σ H h=>by
 obtain⟨fa,O,s,d,s1,I,h1,k⟩:=AK E σ H h;refine⟨fa,O,s,d,s1,I,h1,fun v H1 f1 O1 a1 Y r=>?_⟩;obtain⟨U,O2,s2,d2,s3,I2,M,e2,W⟩:=k v H1 f1 O1 a1 Y r;cases e2;obtain⟨P,J,I'⟩:=I2.put i M;exact W _ H1 U P (gw J).stp I'
def F5 (i:Nat) (f:DA):DM:=fun s=>(f s).bind fun x=>if i<x.2.sl.length then some (.next,{ x.2 with sl:=x.2.sl.set i (.own x.1) }) else none
def Et {i:Nat}{f:DA}(hN:X.N.Nodup) (hi:X.N[i]? = some x) (U:Loc X.env.scope x) (Y:FO X g e f) (hs:swapsWith e (some (.Name x pos')) pos.line X.env=pure false:=by rfl) (hf:X.fn x=true\/X.env.scope.names.lookup x=some .local:=by first | exact .inl rfl | exact .inr rfl | assumption) :
  SO X g (.Assign [.Name x pos'] e pos) (F5 i f):=SO.w (mv hN hi U Y.pe hs hf) fun E σ H W=>by
 refine W.elim fun fa O s fl s' I q k=>?_
 refine B6 q fun ds s1 h1 h2=>?_
 by_cases hl:i<s1.sl.length
 .simp only[] at h2;rw[tx hl] at h2;cases h2;refine⟨fa,O,s,ds,s1,I,h1,fun p xs H1 f1 O1 J L hp=>?_⟩;have M:p ∉ O1:=fun z=>by
   obtain⟨ys,e⟩:=I.owned (J.sub p z);rw[hp] at e;cases e
  obtain⟨P,sub,Z⟩:=L.put i hl (I.st.mon p hp) M;refine k _ H1 f1 P ⟨fun b hb=>?_,J.fe,fun b u e _ n=>J.same b u e n,J.mon⟩ Z;rcases sub b hb with y | y
  .exact .inr (by rw[y];exact hp)
  .exact .inl (J.sub b y)
 .simp only[] at h2;rw[So hl] at h2;cases h2
def F0 (i:Nat) (f:DE):DM:=fun s=>match s.sl[i]? with
 |some (.own _)=>(f s).bind fun x=>match x.2.sl[i]? with
  |some (.own ds)=>if ds.length<sizeLine then some (.next,{ x.2 with sl:=x.2.sl.set i (.own (ds++[x.1])) }) else none
  |_=>none
 |_=>none
def IE {i:Nat}(hv:PE X (.Name x p1) (Q4 i)) (he:EO X g e f) (U:attributeBase (.Name x p1) ("append" : Str) X.env (eval (.Name x p1) X.env)=eval (.Name x p1) X.env:=by rfl)
  (W:((backTo p3 (starEach [e] X.env)).all (fun x=>!x.1)&&(backToKw p3 (keywordEach [] X.env)).all (fun x=>x.1.isSome)
   && decide ([e].length+([]:List Keyword).length+(if ([]:List Keyword).isEmpty then 0 else 1)<30))=true:=by rfl)
  (M:(p2.endLine == p3.line)=true:=by rfl) (hs:starEach [e] X.env=(false,eval e X.env)::starEach [] X.env:=by rfl) (J:(backTo p3 (starEach [] X.env)).any (·.1)=false:=by rfl)
  (hsw:swapsWith (.Call (.Attribute (.Name x p1) ("append" : Str) p2) [e] [] p3) none p4.line X.env=pure false:=by rfl) :
  SO X g (.Expr (.Call (.Attribute (.Name x p1) ("append" : Str) p2) [e] [] p3) p4) (F0 i f):=
 SO.w (vU (Kb Yz PySem.F.slot_list_append PySem.F.type_list_append yf hv (fL he.pe iQ hs) U W M hs J) hsw) fun E σ H hQ=>by
  refine hQ.elim fun fa O s fl s' I q k=>?_
  cases Y:s.sl[i]? with
  |none=>simp only[F0,Y] at q;cases q
  |some z=>
  cases z with
  |no=>simp only[F0,Y] at q;cases q
  |v _=>simp only[F0,Y] at q;cases q
  |own ds0=>
  simp only[F0,Y] at q;obtain⟨a,Z,e1,m,e2,_⟩:=SlR.own I.sl Y;refine B6 q fun d s1 h1 h2=>?_
  cases q2:s1.sl[i]? with
  |none=>simp only[q2] at h2;cases h2
  |some z=>
   cases z with
   |no=>simp only[q2] at h2;cases h2
   |v _=>simp only[q2] at h2;cases h2
   |own ds=>
    simp only[q2] at h2;by_cases hl:ds.length<sizeLine
    .rw[tx hl] at h2;cases h2;refine⟨_,e1,.inl ⟨rfl,Z,SqL.of e2⟩,fa,O,s,d,s1,I,h1,fun v H1 f1 O1 a1 I1 r=>?_⟩;obtain⟨b,xs,e3,m1,e4,r1⟩:=SlR.own I1.sl q2;rw[e1] at e3;cases e3;obtain⟨I2,a2⟩:=I1.rew q2 e1 m1 e4 (Reps.append r1 (Reps.one r));exact⟨a,xs,v,rfl,rfl,e4,by rw[r1.length];exact hl,k σ _ f1 O1 (a1.stp.trans a2) I2⟩
    .rw[So hl] at h2;cases h2
end
def C4 (t:D->DS->Option DS) (b:DM):List D->DS->Option (Fl × DS)
 |[],s=>some (.next,s)
 |d::r,s=>(t d s).bind fun s1=>(b s1).bind fun x=>match x.1 with
  |.next=>C4 t b r x.2
  |.cont=>C4 t b r x.2
  |.brk=>some (.next,x.2)
  |.ret v=>some (.ret v,x.2)
def cH (K:vF_) (g:Gh) (f1:vA_) (O1:vL_) (H1:Hp) (t:D->DS->Option DS) (b:DM) (ds:vD_) (fl:Fl) (sf:DS) (i:Nat):L2.St->Hp->Prop:=fun σ' H'=>
 ∃fa' O' s',Stp f1 O1 H1 fa' O' H'/\GI K g σ' H' fa' O' s'/\C4 t b (ds.drop i) s'=some (fl,sf)
section
variable {K:vF_}{g:Gh}{f1:vA_}{O1:vL_}{H1 H':Hp}{t:D->DS->Option DS}{b:DM}{ds:vD_}{fl:Fl}{sf:DS}{i:Nat}{E:Ends}{σ':L2.St}
def uU {α:Type}{l:List α}{i:Nat}{d:α}(h:l[i]? = some d):l.drop i=d::l.drop (i+1):=by
 obtain⟨hi,e⟩:=Tn.mp h;rw[List.drop_eq_getElem_cons hi,e]
def qU (hk:FlK K g E f1 O1 H1 fl sf) (hd:ds[i]? = some d) (hr:∀fa' O',Stp f1 O1 H1 fa' O' H'->Rep K (NN g.F fa' O') fa' H' d x) (h:cH K g f1 O1 H1 t b ds fl sf i σ' H') :
  liftG K g t x σ' H' fun σ2 H2=>liftS K g b { E with nx:=cH K g f1 O1 H1 t b ds fl sf (i+1),ct:=cH K g f1 O1 H1 t b ds fl sf (i+1),bk:=E.nx } σ2 H2:=by
 obtain⟨fa',O',s',st,I,e⟩:=h;rw[uU hd,C4] at e;refine Y0 e fun s1 h1 h2=>?_
 refine B6 h2 fun fb s2 h3 Z=>?_
 refine⟨fa',O',s',d,s1,I,hr fa' O' st,h1,fun σ2 H2 f2 O2 a2 I2=>⟨f2,O2,s1,fb,s2,I2,h3,?_⟩⟩;cases fb with
 |next=>exact fun σ3 Y J M W U=>⟨J,M,s2,st.trans (a2.trans W),U,Z⟩
 |cont=>exact fun σ3 Y J M W U=>⟨J,M,s2,st.trans (a2.trans W),U,Z⟩
 |brk=>cases Z;exact fun σ3 Y J M W U=>hk σ3 Y J M (st.trans (a2.trans W)) U
 |ret v=>cases Z;exact fun σ3 v Y J M W U r=>hk σ3 v Y J M (st.trans (a2.trans W)) U r
def qc (hk:FlK K g E f1 O1 H1 fl sf) {n:Nat}(J:ds.length<=n) (h:cH K g f1 O1 H1 t b ds fl sf n σ' H'):E.nx σ' H':=by
 obtain⟨fa',O',s',st,I,e⟩:=h;rw[YA J,C4] at e;cases e;exact hk σ' H' fa' O' st I
end
def L8 (f:DE) (t:D->DS->Option DS) (b:DM):DM:=fun s=>(f s).bind fun x=>match x.1 with
 |.lst ds=>C4 t b ds x.2
 |.tup ds=>C4 t b ds x.2
 |_=>none
section
variable {X:Cx}{g:Gh}{tg iter:Expr}{body:List Stmt}{f:DE}{t:D->DS->Option DS}{b:DM}{pos:Pos}
def EJ (K:vF_) (tl:TE):TI:=fun σ H R=>tl σ H fun x H1=>∃a,x = .ref a/\(((∃xs,SqL K H1 a xs)/\R (gI K a) H1)\/((∃xs,SqT K H1 a xs)/\R (iY K a) H1))
def rO {tl:TE}(hl:PE X l tl):PI X tg l (EJ X.K tl):=by
 intro pins s σ H R I h;refine t6 (hl pins s σ H _ I h) fun v s1 ⟨x,H1,J,W,q1⟩=>?_
 obtain⟨a,e,q⟩:=q1;subst e;cases W;rcases q with ⟨⟨xs,U⟩,q⟩ | ⟨⟨xs,U⟩,q⟩
 .obtain⟨M,Y,p,Z⟩:=J.list U;refine wpAny_pyIter_list p.isList ?_;refine⟨s1.heap.objs.size,[s1.heap.objs.size],_,_,H1,rfl,J.kept (t':=s1.toks) fun b o e=>Sx _ e,JQ a _,⟨_,Tc _ rfl,rfl,rfl⟩,fun b hb=>?_,q⟩;have e:b=s1.heap.objs.size:=by simpa using hb
  subst e;exact J.fpOk (Su _) (J.hok.fresh (Su _))
 .obtain⟨M,Y,p,Z⟩:=J.tuple U;refine wpAny_pyIter_tuple (show s1.heap.IsTuple a M.toArray from p) ?_;refine⟨s1.heap.objs.size,[s1.heap.objs.size],_,_,H1,rfl,J.kept (t':=s1.toks) fun b o e=>Sx _ e,Od a _,⟨_,Tc _ rfl,rfl,rfl⟩,fun b hb=>?_,q⟩;have e:b=s1.heap.objs.size:=by simpa using hb
  subst e;exact J.fpOk (Su _) (J.hok.fresh (Su _))
def Cz (hp:PassesOwn (model X.prog X.w) X.A X.env X.xe) (hc:X.calm=true) (he:EO X g iter f) (Y:GO X g tg t) (hb:SSO X g body b) (hs:∀x,foldedSetIterable iter X.env x=pure x:=by intro _;rfl) :
  SO X g (.For tg iter body [] pos) (L8 f t b):=SO.w (rZ hp hc (rO he.pe) Y.pe hb.pe hs) fun E σ H Z=>by
 refine Z.elim fun fa O s fl sf I q k=>?_
 refine B6 q fun d s1 h1 h2=>?_
 refine⟨fa,O,s,d,s1,I,h1,fun v H1 f1 O1 a1 J r=>?_⟩;have M:=k.shift a1.stp;cases d with
 |lst ds=>
  simp only[Rep] at r;obtain⟨a,xs,rfl,na,q,w⟩:=r;refine⟨a,rfl,.inl ⟨⟨xs,SqL.of q⟩,Dg (xs:=xs) (cH X.K g f1 O1 H1 t b ds fl sf) ⟨f1,O1,s1,Stp.refl,J,h2⟩ ?_ ?_ ?_⟩⟩
  .rintro i σ' H' _ ⟨fa',O',s',st,I',e⟩;exact SqL.of ((J.car st).ls a xs na q).1
  .intro i x σ' H' U h;obtain⟨d,hd,W⟩:=Reps.get' w U;exact qU M hd (fun fa' O' st=>Rep.stp J st W) h
  .intro σ' H' h;exact qc M (Wt w.length.symm) h
 |tup ds=>
  simp only[Rep] at r;obtain⟨a,xs,rfl,q,w⟩:=r;refine⟨a,rfl,.inr ⟨⟨xs,q⟩,nv (xs:=xs) (cH X.K g f1 O1 H1 t b ds fl sf) ⟨f1,O1,s1,Stp.refl,J,h2⟩ ?_ ?_ ?_⟩⟩
  .rintro i σ' H' _ ⟨fa',O',s',st,I',e⟩;exact(J.car st).tp a xs q
  .intro i x σ' H' U h;obtain⟨d,hd,W⟩:=Reps.get' w U;exact qU M hd (fun fa' O' st=>Rep.stp J st W) h
  .intro σ' H' h;exact qc M (Wt w.length.symm) h
 |_=>cases h2
def P7 (lo:Int) (n:Nat):List D:=(List.range n).map fun (i:Nat)=>D.int (lo+(i:Int))
def xN {lo:Int}{n i:Nat}(h:i<n):(P7 lo n)[i]? = some (.int (lo+(i:Int))):=by simp[P7,h]
def gG (lo:Int) (n:Nat):(P7 lo n).length=n:=by simp[P7]
def fP:List D->Option (List D)
 |[.int j]=>if -(2 ^ 62)<=j/\j<2 ^ 62 then some (P7 0 j.toNat) else none
 |[.int i,.int j]=>if -(2 ^ 62)<=i/\i<2 ^ 62 /\ -(2 ^ 62)<=j/\j<2 ^ 62 then some (P7 i (j - i).toNat) else none
 |_=>none
def ar (f:DA) (t:D->DS->Option DS) (b:DM):DM:=fun s=>(f s).bind fun x=>(fP x.1).bind fun ds=>C4 t b ds x.2
def JO {ds es:vD_}(h:fP ds=some es) (l:ds=[a]):∃j:Int,a = .int j /\ -(2 ^ 62)<=j/\j<2 ^ 62/\es=P7 0 j.toNat:=by
 subst l;cases a with
 |int j=>
  have h:(if -(2 ^ 62)<=j/\j<2 ^ 62 then some (P7 0 j.toNat) else none)=some es:=h;by_cases J:-(2 ^ 62)<=j/\j<2 ^ 62
  .rw[tx J] at h;cases h;exact⟨j,rfl,J.1,J.2,rfl⟩
  .rw[So J] at h;cases h
 |_=>cases h
def Gp (hp:PassesOwn (model X.prog X.w) X.A X.env X.xe) (hc:X.calm=true) (M:Gl X "range") (hm:X.mg "range" = none) (ha:EO X g a fa) (Z:GO X g tg t) (hb:SSO X g body b)
  (J:starEach [a] X.env=[(false,eval a X.env)]:=by rfl) (hs:∀x,foldedSetIterable (.Call (.Name "range" p) [a] [] cpos) X.env x=pure x:=by intro _;rfl) :
  SO X g (.For tg (.Call (.Name "range" p) [a] [] cpos) body [] pos) (ar (a6 fa a9) t b):=
 SO.w (rZ hp hc (OW M hm (yg ha cD J).pe J) Z.pe hb.pe hs) fun E σ H hQ=>by
  refine hQ.elim fun fa O s fl sf I q k=>?_
  refine B6 q fun ds s1 h1 h2=>?_
  refine Y0 h2 fun es h3 Y=>?_
  obtain⟨d,s2,rs,e1,e2,U⟩:=lI h1;cases e2;obtain⟨j,rfl,j1,j2,rfl⟩:=JO h3 U;refine⟨fa,O,s,ds,s1,I,h1,fun vs H1 f1 O1 a1 I1 r=>?_⟩;have W:=k.shift a1.stp;rw[U] at r;simp only[Reps,Rep] at r;obtain⟨x,ys,rfl,rfl,rfl⟩:=r;refine⟨j,rfl,j1,j2,Po (lo:=0) (n:=j.toNat) (cH X.K g f1 O1 H1 t b (P7 0 j.toNat) fl sf) ⟨f1,O1,s1,Stp.refl,I1,Y⟩ ?_ ?_⟩
  .intro i σ' H' hi h;exact qU W (xN hi) (fun fa' O' st=>by simp only[Rep]) h
  .intro σ' H' h;exact qc W (by rw[gG];exact Su _) h
def O7 (c:DT) (b:DM):Nat->DS->Option (Fl × DS)
 |0,_=>none
 |n+1,s=>(c s).bind fun x=>if x.1=true then (b x.2).bind fun y=>match y.1 with
   |.next=>O7 c b n y.2
   |.cont=>O7 c b n y.2
   |.brk=>some (.next,y.2)
   |.ret v=>some (.ret v,y.2)
  else some (.next,x.2)
open Classical in
def F7 (c:DT) (b:DM):DM:=fun s=>if h:∃n r,O7 c b n s=some r then O7 c b h.choose s else none
theorem sQ {b:DM}:∀(n:Nat) {s:DS}{r:Fl × DS},O7 c b n s=some r->O7 c b (n+1) s=some r
 |0,s,r,h=>by cases h
 |n+1,s,r,h=>by
  rw[O7] at h ⊢;refine B6 h fun x s1 h1 h2=>?_
  refine UN.mpr ⟨(x,s1),h1,?_⟩;cases x with
  |false=>exact h2
  |true=>
   simp only[TB] at h2 ⊢;refine B6 h2 fun y s2 h3 J=>?_
   refine UN.mpr ⟨(y,s2),h3,?_⟩;cases y with
   |next=>exact sQ n J
   |cont=>exact sQ n J
   |brk=>exact J
   |ret v=>exact J
def AE {b:DM}{n m:Nat}(J:n<=m) (h:O7 c b n s=some r):O7 c b m s=some r:=by
 induction J with
 |refl=>exact h
 |step _ M=>exact sQ _ M
def Ag {b:DM}{n:Nat}(h:O7 c b n s=some r):F7 c b s=some r:=by
 have J:∃n r,O7 c b n s=some r:=⟨n,r,h⟩
 unfold F7;rw[dif_pos J];obtain⟨W,h'⟩:=J.choose_spec;have U:=AE (Nat.le_max_left n J.choose) h;have M:=AE (Nat.le_max_right n J.choose) h';rw[U] at M;rw[h',M]
def xJ {b:DM}(h:F7 c b s=some r):∃n,O7 c b n s=some r:=by
 unfold F7 at h;by_cases J:∃n r,O7 c b n s=some r
 .rw[dif_pos J] at h;exact⟨_,h⟩
 .rw[dif_neg J] at h;cases h
def X8 {c:DT}{b:DM}{s s1 s2:DS}(h1:c s=some (true,s1)) (h2:b s1=some (.next,s2)) (h3:F7 c b s2=some r):F7 c b s=some r:=by
 obtain⟨n,h⟩:=xJ h3;refine Ag (n:=n+1) ?_;rw[O7,h1];simp only[SH,TB,h2];exact h
def W0 {c:DT}{b:DM}{s s1:DS}(h1:c s=some (false,s1)):F7 c b s=some (.next,s1):=by
 refine Ag (n:=1) ?_;rw[O7,h1];simp
def xn (hp:PassesOwn (model X.prog X.w) X.A X.env X.xe) (hc:TO X g c fc) (hb:SSO X g body b):SO X g (.While c body [] pos) (F7 fc b):=SO.w (Nf hp hc.pe hb.pe) fun E σ H hQ=>by
 refine hQ.elim fun fa O s fl sf I q k=>?_
 obtain⟨n,h⟩:=xJ q;refine⟨fun m σ' H'=>∃fa' O' s',Stp fa O H fa' O' H'/\GI X.K g σ' H' fa' O' s'/\O7 fc b m s'=some (fl,sf),⟨n,fa,O,s,Stp.refl,I,h⟩,?_⟩;rintro m σ1 H1 ⟨f1,O1,s1,a1,I1,h1⟩;cases m with
 |zero=>cases h1
 |succ m=>
  rw[O7] at h1;refine B6 h1 fun x s2 h2 h3=>?_
  refine⟨f1,O1,s1,x,s2,I1,h2,fun H2 f2 O2 a2 I2=>?_⟩;cases x with
  |false=>rw[So Sy] at h3 ⊢;cases h3;exact k σ1 H2 f2 O2 (a1.trans a2.stp) I2
  |true=>
   rw[tx rfl] at h3 ⊢;refine B6 h3 fun y s3 h4 h5=>?_
   refine⟨fun σ' H'=>∃fa' O' s',Stp fa O H fa' O' H'/\GI X.K g σ' H' fa' O' s'/\O7 fc b m s'=some (fl,sf),fun σ' H' z=>⟨m,Nat.lt_succ_self m,z⟩,f2,O2,s2,y,s3,I2,h4,?_⟩;have J:=a1.trans a2.stp;cases y with
   |next=>exact fun σ3 Z M U Y W=>⟨M,U,s3,J.trans Y,W,h5⟩
   |cont=>exact fun σ3 Z M U Y W=>⟨M,U,s3,J.trans Y,W,h5⟩
   |brk=>cases h5;exact fun σ3 Z M U Y W=>k σ3 Z M U (J.trans Y) W
   |ret v=>cases h5;exact fun σ3 v Z M U Y W r=>k σ3 v Z M U (J.trans Y) W r
end
abbrev a8:=List D->Option FS->Option (D × Option FS)
def cZ (K:vF_) (n:Nat) (m:a8):Sp:=fun J H Q _=>∃(F:vB_) (fa:vA_) (ds:vD_) (fs:vO_) (d:D) (fs':vO_),
 (∀b,F b->H b≠none)/\(∀a,fa=some a->F a)/\Reps K F fa H ds J/\FeedR F H fa fs/\m ds fs=some (d,fs')/\ds.length=n /\
  ∀v H' fa',Stp fa [] H fa' [] H'->FeedR (fun b=>F b\/fa'=some b) H' fa' fs'->Rep K (fun b=>F b\/fa'=some b) fa' H' d v->Q v H'
abbrev jm (P:Program) (w:World) (K:vF_) (mg:vG_) (base:Heap) (k:Nat) (f:Addr) (fd:FuncData) (ps:List Str) (m:a8):Prop:=FnOk P w K mg base Z8 k f fd ps (cZ K ps.length m)
def l6 (n:Nat) (b:DM):a8:=fun ds fs=>(b ⟨ds.map .v++List.replicate (n - ds.length) .no,fs⟩).bind fun x=>match x.1 with
 |.ret d=>some (d,x.2.fs)
 |.next=>some (.non,x.2.fs)
 |_=>none
theorem Bc {K:vF_}{N:vB_}{fa:vA_}:∀n:Nat,SlR K N fa H (List.replicate n .no) (List.replicate n none) []
 |0=>by simp[SlR]
 |n+1=>by
  simp only[Vc,SlR];exact⟨_,_,rfl,Bc n⟩
theorem xW {K:vF_}{N:vB_}{fa:vA_}{n:Nat}:∀{ds:vD_}{vs:List V},Reps K N fa H ds vs->SlR K N fa H (ds.map .v++List.replicate n .no) (vs.map some++List.replicate n none) []
 |[],vs,h=>by simp only[Reps] at h;subst h;simpa using Bc n
 |d::r,vs,h=>by
  simp only[Reps] at h;obtain⟨x,ys,rfl,h1,h2⟩:=h;simp only[SN,List.cons_append,SlR];exact⟨x,_,rfl,h1,xW h2⟩
section
variable {P:Program}{w:World}{K:vF_}{mg:vG_}{base:Heap}
def Bb {st:Stmt}{fd:FuncData}{N ps:List Str}{k:Nat}{b:DM}(F:Fun K x qual st f fd) (S:FnScope N ps (G2 st))
  (J:∀(cdv:Value) (A:Around) (outer:List Env) (s:Shared) (H:Hp) (E:XK) (g:Gh),Room k (A.deeper (PyProof.Rows.envOfC qual (G2 st) s.heap.objs.size f cdv))->SSO (aK Z8 P w K mg base N qual (G2 st) f cdv A outer s H E).nox g (T4 st) b) :
  jm P w K mg base (k+1) f fd ps (l6 N.length b):=by
 refine F.ok S (fun U H Q E h=>?_) (fun cdv A outer s H U Q E hr h=>?_)
 .obtain⟨F,fa,ds,fs,d,fs',_,_,r,_,_,hl,_⟩:=h;rw[r.length];exact hl
 obtain⟨F,fa,ds,fs,d,fs',tr,ff,r,fd,e,hl,q⟩:=h;refine⟨_,(J cdv A outer s H E ⟨F,H,fa⟩ hr).pe,?_⟩;refine B6 e fun fl s' h1 h2=>?_
 have hN:∀b,NN F fa [] b->F b:=fun b z=>by
  rcases z with z | z | z
  .exact z
  .cases z
  .exact ff b z
 have c:Car K F fa H (NN F fa []) fa H:=⟨fun b xs n q=>⟨q,fun z=>n (hN b z)⟩,fun _ _ q=>q,fun _ _ q=>q,fun _ q=>q⟩
 have el:(L2.start N U)=U.map some++List.replicate (N.length - ds.length) none:=by rw[L2.start,r.length]
 have I:GI K ⟨F,H,fa⟩ (L2.start N U) H fa [] ⟨ds.map .v++List.replicate (N.length - ds.length) .no,fs⟩:=by
  refine⟨VO,?_,fun b hb=>(by cases hb),Stp.refl,tr,ff,fd.car c fun _ _=>rfl,fun _ _ z=>(by cases z)⟩;rw[el];exact xW (Reps.go c ds U r)
 have Y:∀{fa':vA_}{O':vL_}{H':Hp}{σ':L2.St}{v:V}{dd:D},Stp fa [] H fa' O' H'->GI K ⟨F,H,fa⟩ σ' H' fa' O' s'->Rep K (NN F fa' O') fa' H' dd v->dd=d->s'.fs=fs'->Q v H':=by
  intro fa' O' H' σ' v dd M W Z e1 e2;subst e1;subst e2;have c1:Car K (NN F fa' O') fa' H' (fun b=>F b\/fa'=some b) fa' H':=⟨fun b xs n q=>⟨q,fun z=>n (by
   rcases z with z | z
   .exact .inl z
   .exact .inr (.inr z))⟩,fun _ _ q=>q,fun _ _ q=>q,fun _ q=>q⟩
  exact q v H' fa' ⟨fun b hb=>(by cases hb),M.fe,M.same,M.mon⟩ (W.fd.car c1 fun _ _=>rfl) (Rep.go c1 _ _ Z)
 refine⟨fa,[],_,fl,s',I,h1,?_⟩;cases fl with
 |next=>
  simp only[Tv,SX] at h2;exact fun σ' H' fa' O' M W=>Y M W (v:=.non) (dd:=.non) (by simp only[Rep]) h2.1 h2.2
 |ret dd=>
  simp only[Tv,SX] at h2;exact fun σ' v H' fa' O' M W Z=>Y M W Z h2.1 h2.2
 |brk=>cases h2
 |cont=>cases h2
end
def c8 (m:a8) (f:DA):DE:=fun s=>(f s).bind fun x=>(m x.1 x.2.fs).map fun y=>(y.1,{ x.2 with fs:=y.2 })
section
variable {X:Cx}{g:Gh}{k:Nat}{f:Addr}{fd:FuncData}{ps:List Str}{m:a8}{x:Str}{p pos:Pos}{e:Expr}{es:List Expr}{t:DA}
def pT {n:Nat}(hn:∀s ds s',t s=some (ds,s')->ds.length=n) (σ:L2.St) (H:Hp) (Q:VK) (h:liftE X.K g (c8 m t) σ H Q):oy (cZ X.K n m) [] E0 (liftA X.K g t) σ H Q:=by
 obtain⟨fa,O,s,d,s',I,q,k⟩:=h;refine B6 q fun ds s1 h1 h2=>?_
 refine mapP h2 fun d1 Y h3 h4=>?_
 simp only[SX] at h4;obtain⟨e1,e2⟩:=h4;subst e1;subst e2;refine⟨fa,O,s,ds,s1,I,h1,fun vs H1 f1 O1 a1 J r=>?_⟩;show cZ X.K n m (vs++[]) H1 Q E0;rw[Tt];refine⟨NN g.F f1 O1,f1,ds,s1.fs,d1,Y,fun b hb=>J.nn_tracked hb,fun a ha=>.inr (.inr ha),r,J.fd,h3,hn s ds s1 h1,fun v H2 U M Z r2=>?_⟩;have W:StE f1 O1 H1 U O1 H2:=⟨fun b hb=>hb,M.fe,fun b u e n=>M.same b u e (by simp) n,M.mon⟩
 have c:=J.car W.stp;have c2:Car X.K (fun b=>NN g.F f1 O1 b\/U=some b) U H2 (NN g.F U O1) U H2:=⟨fun b xs n q=>⟨q,fun z=>n (by
   rcases z with z | z | z
   .exact .inl (.inl z)
   .exact .inl (.inr (.inl z))
   .exact .inr z)⟩,fun _ _ q=>q,fun _ _ q=>q,fun _ q=>q⟩
 refine k v H2 U O1 (a1.trans W) ⟨J.nd,SlR.go c (fun b xs hb e=>?_) J.sl,J.fr,J.st.trans ⟨fun b hb=>(by cases hb),M.fe,fun b u e n z=>M.same b u e n z,M.mon⟩,J.tr,J.ff,Z.car c2 fun _ _=>rfl,J.nf_step W.fe⟩ (Rep.go c2 _ _ r2);exact W.same b _ e fun z=>J.nf b z hb
def RU (F:jm X.prog X.w X.K X.mg X.base k f fd ps m) (U:Room k X.A) (hg:Gl X x) (Y:X.mg x=some (.ref f)) (hk:PySem.W.keepIn X.K (.ref f)=true) (hb:Binds X.K fd ps [])
  (ha:AO X g (e::es) t) (hn:∀s ds s',t s=some (ds,s')->ds.length=ps.length) (M:(x == ("__debug__" : Str))=false:=by decide) (Z:starEach (e::es) X.env=(false,eval e X.env)::starEach es X.env:=by rfl) (J:(backTo pos (starEach es X.env)).any (·.1)=false:=by rfl) :
  EO X g (.Call (.Name x p) (e::es) [] pos) (c8 m t):=EO.w (wM F U hg Y hk hb .nil pF ha.pe M Z J) (pT hn)
def fT:∀s ds s',a9 s=some (ds,s')->ds.length=0:=fun s ds s' h=>by cases h;rfl
def cK {r:DA}{n:Nat}(h:∀s ds s',r s=some (ds,s')->ds.length=n):∀s ds s',a6 a r s=some (ds,s')->ds.length=n+1:=fun s ds s' q=>by
 obtain⟨d,s1,es,h1,h2,h3⟩:=lI q;subst h3;simp[h _ _ _ h2]
end
def zP (K:vF_) (N:vB_) (fa:vA_) (H1:Hp) (J:It) (ds:vD_):Prop:=∀N' fa' H',Car K N fa H1 N' fa' H'->(∀b u,H1 b=some u->fa≠some b->H' b=some u)->∀i:Nat,
 (∀d,ds[i]? = some d->J.go i H'/\∀x H'',J.yld i H' x H''->H''=H'/\Rep K N' fa' H' d x)/\(ds.length<=i->J.stop i H')
def liftI (K:vF_) (g:Gh) (f:DA):TI:=fun σ H R=>∃fa O s ds s',GI K g σ H fa O s/\f s=some (ds,s')/\ds.length<=sizeLine /\
 ∀J H' fa' O',StE fa O H fa' O' H'->GI K g σ H' fa' O' s'->zP K (NN g.F fa' O') fa' H' J ds->R J H'
section
variable {K:vF_}{g:Gh}{σ:L2.St}{H:Hp}{G:Prop}
def liftI.elim {f:DA}{R:It->Hp->Prop}(h:liftI K g f σ H R) (k:∀fa O s ds s',GI K g σ H fa O s->f s=some (ds,s')->ds.length<=sizeLine->(∀J H' fa' O',StE fa O H fa' O' H'->GI K g σ H' fa' O' s'->zP K (NN g.F fa' O') fa' H' J ds->R J H')->G):G:=by
 obtain⟨fa,O,s,d,s',a,r,b,c⟩:=h;exact k fa O s d s' a r b c
end
structure IO (X:Cx) (g:Gh) (tg iter:Expr) (f:DA):Prop where
 pe:PI X tg iter (liftI X.K g f)
def G5 (f:DE):DA:=fun s=>(f s).bind fun x=>match x.1 with
 |.lst ds=>some (ds,x.2)
 |.tup ds=>some (ds,x.2)
 |_=>none
section
variable {X:Cx}{g:Gh}{tg iter:Expr}{f:DE}
def Ip {t t':TI}(h:PI X tg iter t) (w:∀σ H R,t' σ H R->t σ H R):PI X tg iter t':=fun pins s σ H R I q=>h pins s σ H R I (w σ H R q)
theorem IO.w {f:DA}{t:TI}(h:PI X tg iter t) (w:∀σ H R,liftI X.K g f σ H R->t σ H R):IO X g tg iter f:=⟨Ip h w⟩
def V1 (h:EO X g iter f):IO X g tg iter (G5 f):=IO.w (rO h.pe) fun σ H R hQ=>by
 refine hQ.elim fun fa O s ds s' I e hz k=>?_
 refine B6 e fun d s1 h1 h2=>?_
 refine⟨fa,O,s,d,s1,I,h1,fun v H1 f1 O1 a1 I1 r=>?_⟩;cases d with
 |lst es=>
  cases h2;simp only[Rep] at r;obtain⟨a,xs,rfl,na,q,w⟩:=r;refine⟨a,rfl,.inl ⟨⟨xs,SqL.of q⟩,k _ H1 f1 O1 a1 I1 fun N' fa' H' c _ i=>⟨fun d hd=>?_,fun hl=>?_⟩⟩⟩
  .obtain⟨x,J,U⟩:=Reps.get w hd;have M:=(c.ls a xs na q).1;refine⟨⟨xs,x,SqL.of M,J⟩,fun y H'' Y=>?_⟩;obtain⟨Z,W⟩:=Y;have:=W xs (SqL.of M);rw[J] at this;cases this;exact⟨Z,Rep.go c d x U⟩
  .exact⟨xs,SqL.of (c.ls a xs na q).1,by rw[w.length];exact hl⟩
 |tup es=>
  cases h2;simp only[Rep] at r;obtain⟨a,xs,rfl,q,w⟩:=r;refine⟨a,rfl,.inr ⟨⟨xs,q⟩,k _ H1 f1 O1 a1 I1 fun N' fa' H' c _ i=>⟨fun d hd=>?_,fun hl=>?_⟩⟩⟩
  .obtain⟨x,J,U⟩:=Reps.get w hd;have M:=c.tp a xs q;refine⟨⟨xs,x,M,J⟩,fun y H'' Y=>?_⟩;obtain⟨Z,W⟩:=Y;have:=W xs M;rw[J] at this;cases this;exact⟨Z,Rep.go c d x U⟩
  .exact⟨xs,c.tp a xs q,by rw[w.length];exact hl⟩
 |_=>cases h2
end
def fj (sl:List Sl) (i:Nat):Sl:=match sl[i]? with
 |some (Sl.v d)=>Sl.v d
 |_=>Sl.no
def Y6 (idx:List Nat) (sl:List Sl):List Sl:=idx.map (fj sl)
def C2 (mk:D->Option (List Sl)) (fc:DT) (fe:DE):List D->Option FS->Option (List D × Option FS)
 |[],fs=>some ([],fs)
 |d::r,fs=>(mk d).bind fun sl=>(fc ⟨sl,fs⟩).bind fun c=>if c.1=true then (fe c.2).bind fun y=>(C2 mk fc fe r y.2.fs).map fun z=>(y.1::z.1,z.2) else C2 mk fc fe r c.2.fs
def N0 (idx:List Nat) (fi:DA) (fc:DT) (fe:DE):DA:=fun s=>(fi s).bind fun x=>if x.1.length<=sizeLine then (C2 (fun d=>some (.v d::Y6 idx x.2.sl)) fc fe x.1 x.2.fs).map fun y=>(y.1,{ x.2 with fs:=y.2 }) else none
def FF (g:Gh) (fa:vA_) (O:vL_) (p:Addr):Addr->Prop:=fun b=>NN g.F fa O b\/b=p
structure CI (K:vF_) (g:Gh) (f1:vA_) (O1:vL_) (Hd:Hp) (p:Addr) (fa:vA_) (H:Hp) (ys:List V) (res:vD_) (fs:vO_):Prop where
 st:Stp f1 [p] Hd fa [p] H
 ls:H p=some (.lst ys)
 rs:Reps K (FF g fa O1 p) fa H res ys
 fd:FeedR (FF g fa O1 p) H fa fs
 nf:fa≠some p
section
variable {K:vF_}{g:Gh}{f1 fa fa':vA_}{O1:vL_}{Hd H H':Hp}{p:Addr}{ys:List V}{res:vD_}{fs:vO_}
def CI.nofa (c:CI K g f1 O1 Hd p fa H ys res fs):fa≠some p:=c.nf
def Ha (h0:∀xs,fa≠none->∀a,fa=some a->¬ Rd H a (.tup xs)) (J:∀a,fa=some a->∀o u,¬ H a=some (.frz o u)) (a:StE fa [] H fa' [] H'):Car K (FF g fa O1 p) fa H (FF g fa' O1 p) fa' H':=by
 refine⟨fun b xs n q=>⟨a.same b _ q fun z=>n (.inl (.inr (.inr z))),fun z=>?_⟩,fun b xs q=>?_,fun b xs q=>?_,fun x e=>a.stp.fa_keep e⟩
 .rcases z with (z | z | z) | z
  .exact n (.inl (.inl z))
  .exact n (.inl (.inr (.inl z)))
  .rcases a.fe with e | ⟨e,h⟩
   .exact n (.inl (.inr (.inr (e▸z))))
   .rw[h b z] at q;cases q
  .exact n (.inr z)
 .refine SqT.stp' a.stp (fun x e ys=>h0 ys (by rw[e];simp) x e) (fun x M=>by cases M) q
 .rcases q with ⟨o,q⟩ | q
  .exact .inl ⟨o,a.same _ _ q fun z=>J b z _ _ q⟩
  .exact .inr q
def KJ {N:vB_}(h:FeedR N H fa fs):∀xs,fa≠none->∀a,fa=some a->¬ Rd H a (.tup xs):=fun xs _ a e z=>h.no_tup e z
def CI.step (c:CI K g f1 O1 Hd p fa H ys res fs) (a:StE fa [] H fa' [] H') {g':Gh}{s':DS}(J:∀b,FF g fa' O1 p b->NN g'.F fa' [] b) (I:GI K g' σ H' fa' [] s'):CI K g f1 O1 Hd p fa' H' ys res s'.fs:=by
 have M:Car K (FF g fa O1 p) fa H (FF g fa' O1 p) fa' H':=Ha (KJ c.fd) (fun x e o u=>c.fd.no_frz e) a;refine⟨c.st.trans ⟨fun b hb=>.inl hb,a.fe,fun b u e _ n=>a.same b u e n,a.mon⟩,a.same p _ c.ls c.nofa,Reps.go M _ _ c.rs,I.fd.car (K:=K) ⟨fun b xs n q=>⟨q,fun z=>n (J b z)⟩,fun _ _ q=>q,fun _ _ q=>q,fun _ q=>q⟩ fun _ _=>rfl,fun z=>?_⟩;rcases a.fe with y | ⟨_,y⟩
 .rw[y] at z;exact c.nf z
 .have:=c.ls;rw[y p z] at this;cases this
def CI.app (c:CI K g f1 O1 Hd p fa H ys res fs) {N:vB_}{v:V}(M:∀b,FF g fa O1 p b->N b) (r:Rep K N fa H d v):CI K g f1 O1 Hd p fa (k0 H p (.lst (ys++[v]))) (ys++[v]) (res++[d]) fs:=by
 have J:Car K (FF g fa O1 p) fa H (FF g fa O1 p) fa (k0 H p (.lst (ys++[v]))):=by
  refine⟨fun b xs n q=>⟨by rw[w5 (fun z=>n (.inr z))];exact q,n⟩,fun b xs q=>?_,fun b xs q=>?_,fun _ q=>q⟩
  .rcases q with (q | ⟨o,q⟩) | q
   .exact .inl (.inl (by rw[w5 (fun z=>by rw[z,c.ls] at q;cases q)];exact q))
   .exact .inl (.inr ⟨o,by rw[w5 (fun z=>by rw[z,c.ls] at q;cases q)];exact q⟩)
   .exact .inr q
  .rcases q with ⟨o,q⟩ | q
   .exact .inl ⟨o,by rw[w5 (fun z=>by rw[z,c.ls] at q;cases q)];exact q⟩
   .exact .inr q
 have U:Car K N fa H (FF g fa O1 p) fa H:=⟨fun b xs n q=>⟨q,fun z=>n (M b z)⟩,fun _ _ q=>q,fun _ _ q=>q,fun _ q=>q⟩
 refine⟨c.st.trans ⟨fun b hb=>.inl hb,.inl rfl,fun b u e n _=>by rw[w5 (fun z=>n (by simp[z]))];exact e,fun b z=>?_⟩,F6,?_,c.fd.car J fun a e=>w5 fun z=>c.nofa (z▸e),c.nf⟩
 .by_cases hb:b=p
  .subst hb;rw[F6] at z;cases z
  .rw[w5 hb] at z;exact z
 .exact Reps.append (Reps.go J _ _ c.rs) (Reps.one (Rep.go J _ _ (Rep.go U _ _ r)))
end
section
variable {X:Cx}{g:Gh}{scope:Scope}{cl:List (Str × Addr)}{N':List Str}{idx:List Nat}{iter elt tg:Expr}{ifs:List Expr}{pos:Pos}{fi:DA}{fc:DT}{fe:DE}
def bZ (X:Cx) (g:Gh) (ifs:List Expr) (f:DT):Prop:=fX X ifs (liftT X.K g f)
def E3:DT:=fun s=>some (true,s)
def aH:bZ X g [] E3:=fun pins s σ H Q I ⟨fa,O,J,d,s',G,e,k⟩=>Fg pins s σ H Q I (by cases e;exact k H fa O StE.refl G)
def ri (h:TO X g c f):bZ X g [c] f:=OY h.pe
theorem Dd {K:vF_}{N:vB_}{fa:vA_}{O:vL_}(h:SlR K N fa H sl σ O):∀idx:List Nat,SlR K N fa H (Y6 idx sl) (idx.map fun i=>(σ[i]?).join) []
 |[]=>by simp[Y6,SlR]
 |i::r=>by
  have J:=Dd h r;have M:∀e:sl[i]? = none\/(∃z,sl[i]? = some z/\∀d,z ≠ .v d),fj sl i = .no:=fun e=>by
   unfold fj;rcases e with e | ⟨z,e,n⟩
   .rw[e]
   .rw[e];cases z with
    |v d=>exact absurd rfl (n d)
    |no=>rfl
    |own ds=>rfl
  show SlR K N fa H (fj sl i::Y6 r sl) ((σ[i]?).join::r.map fun i=>(σ[i]?).join) [];cases e:sl[i]? with
  |none=>
   rw[M (.inl e)];simp only[SlR];exact⟨_,_,rfl,J⟩
  |some z=>
   cases z with
   |no=>
    rw[M (.inr ⟨_,e,fun d z=>by cases z⟩)];simp only[SlR];exact⟨_,_,rfl,J⟩
   |own ds=>
    rw[M (.inr ⟨_,e,fun d z=>by cases z⟩)];simp only[SlR];exact⟨_,_,rfl,J⟩
   |v d=>
    obtain⟨u,W,q⟩:=SlR.val h e;have U:fj sl i = .v d:=by unfold fj;rw[e]
    rw[U];simp only[SlR];exact⟨u,_,by rw[W];rfl,q,J⟩
def Nq (mk:List Sl->D->Option (List Sl)) (fi:DA) (fc:DT) (fe:DE):DA:=fun s=>(fi s).bind fun x=>if x.1.length<=sizeLine then (C2 (mk x.2.sl) fc fe x.1 x.2.fs).map fun y=>(y.1,{ x.2 with fs:=y.2 }) else none
def vW {n:Nat}{G:TG}{mk:List Sl->D->Option (List Sl)}(hG:∀(N:vB_) (fa:vA_) (sl:List Sl) (d:D) (sl0:List Sl) (x:V) (σ:L2.St) (H:Hp) (Q:L2.St->Hp->Prop),mk sl d=some sl0->Rep X.K N fa H d x->SlR X.K N fa H (Y6 idx sl) (idx.map fun i=>(σ[i]?).join) [] ->
  (∀σ':L2.St,(σ'.length=(J8 n idx σ).length/\∀(j:Nat) (v:V),(J8 n idx σ)[j]? = some (some v)->σ'[j]? = some (some v))->SlR X.K N fa H sl0 σ' []->Q σ' H)->G x (J8 n idx σ) H Q):∀σ H Q,liftF X.K g (Nq mk fi fc fe) σ H Q->eG n idx (liftI X.K g fi) G (fun σ H Q=>∃g',liftT X.K g' fc σ H Q) (fun σ H Q=>∃g',liftE X.K g' fe σ H Q) σ H Q:=by
 intro σ H Q ⟨fa,O,s,res,s',I,e,kk⟩;refine B6 e fun ds s1 h1 h2=>?_
 by_cases hz:ds.length<=sizeLine
 .simp only[tx hz] at h2;refine mapP h2 fun out fsf h3 h4=>?_
  simp only[SX] at h4;obtain⟨e1,e2⟩:=h4;subst e1;subst e2;refine⟨fa,O,s,ds,s1,I,h1,hz,fun J H1 f1 O1 a1 M J1 p hp=>?_⟩;have W:∀{fa':vA_}{H':Hp},Stp f1 [p] (k0 H1 p (.lst [])) fa' [p] H'->StE f1 O1 H1 fa' O1 H':=fun {fa' H'} a=>by
   refine⟨fun _ h=>h,?_,fun b u e n=>?_,fun b z=>(F9 (fa:=f1) (O:=O1) hp).mon b (a.mon b z)⟩
   .rcases a.fe with e | ⟨e,h⟩
    .exact .inl e
    .exact .inr ⟨e,fun x z=>(F9 (fa:=f1) (O:=O1) hp).mon x (h x z)⟩
   .have nb:b≠p:=X9 e hp;exact a.same b u (by rw[w5 nb];exact e) (by simp[nb]) n
  have carP:∀{fa':vA_}{H':Hp},Stp f1 [p] (k0 H1 p (.lst [])) fa' [p] H'->Car X.K (NN g.F f1 O1) f1 H1 (FF g fa' O1 p) fa' H':=fun {fa' H'} a=>by
   have c:=M.car (W a).stp;refine⟨fun b xs n q=>?_,c.tp,c.fz,c.fe⟩;obtain⟨q',n'⟩:=c.ls b xs n q;refine⟨q',?_⟩;rintro(z | z)
   .exact n' z
   .subst z;rw[hp] at q;cases q
  refine⟨fun i m H'=>m=ds.length - i/\i<=ds.length/\∃fa' ys U rest fs',CI X.K g f1 O1 (k0 H1 p (.lst [])) p fa' H' ys U fs'/\C2 (mk s1.sl) fc fe (ds.drop i) fs'=some (rest,fsf)/\U++rest=out/\ys.length<=i,?_,?_⟩
  .refine⟨ds.length,by simp,TR _,f1,[],[],out,s1.fs,⟨Stp.refl,F6,Reps.nil,?_,fun z=>M.fd.tracked z hp⟩,by simpa using h3,rfl,Su _⟩;exact M.fd.car (jL M hp) (M.fd.same_new hp)
  .rintro i m H' ⟨rfl,hil,fa',ys,U,rest,fs',c,hd,ho,hy⟩;have Hcar:=carP c.st;obtain⟨jgo,jstop⟩:=J1 _ _ _ Hcar (fun b u e n=>(W c.st).same b u e n) i;by_cases Y:i<ds.length
   .have hdi:ds[i]? = some ds[i]:=Tf Y;obtain⟨go,yl⟩:=jgo _ hdi;refine .inr ⟨go,fun x H'' hx=>?_⟩;obtain⟨e1,rx⟩:=yl x H'' hx;subst e1;rw[uU hdi,C2] at hd;refine Y0 hd fun sl0 hm hd=>?_
    refine B6 hd fun b sb h5 h6=>?_
    have hNN:∀b,NN (FF g fa' O1 p) fa' [] b->FF g fa' O1 p b:=fun b z=>by
     rcases z with z | z | z
     .exact z
     .cases z
     .exact .inl (.inr (.inr z))
    have cN:Car X.K (FF g fa' O1 p) fa' H'' (NN (FF g fa' O1 p) fa' []) fa' H'':=⟨fun b xs n q=>⟨q,fun z=>n (hNN b z)⟩,fun _ _ q=>q,fun _ _ q=>q,fun _ q=>q⟩
    have dU:∀b,FF g fa' O1 p b->H'' b≠none:=fun b z=>by
     rcases z with (z | z | z) | z
     .exact fun w=>M.trF z ((W c.st).mon b w)
     .obtain⟨xs,e⟩:=M.owned z;exact fun w=>by have:=(W c.st).mon b w;rw[e] at this;cases this
     .exact c.fd.tracked z
     .rw[z,c.ls];simp
    refine hG (NN (FF g fa' O1 p) fa' []) fa' s1.sl ds[i] sl0 x σ H'' _ hm (Rep.go cN _ _ rx) (SlR.go cN (fun a xs ha=>by cases ha) (Dd (SlR.go Hcar (fun a xs ha e=>(W c.st).same a _ e fun z=>M.nf a z ha) M.sl) idx)) fun σ1 hσ hsl=>⟨hσ,?_⟩
    have G0:GI X.K ⟨FF g fa' O1 p,H'',fa'⟩ σ1 H'' fa' [] ⟨sl0,fs'⟩:=⟨VO,hsl,fun b hb=>(by cases hb),Stp.refl,dU,fun a ha=>.inl (.inr (.inr ha)),c.fd.car cN fun _ _=>rfl,fun _ _ z=>(by cases z)⟩
    refine⟨⟨FF g fa' O1 p,H'',fa'⟩,fa',[],_,b,sb,G0,h5,fun H3 f3 O3 a3 I3=>?_⟩;have eO:O3=[]:=YB.mpr fun z hz=>by have:=a3.sub z hz;cases this
    subst eO;have hF3:∀b,FF g f3 O1 p b->NN (FF g fa' O1 p) f3 [] b:=fun b z=>by
     rcases z with (z | z | z) | z
     .exact .inl (.inl (.inl z))
     .exact .inl (.inl (.inr (.inl z)))
     .exact .inr (.inr z)
     .exact .inl (.inr z)
    have c3:=c.step a3 hF3 I3;cases b with
    |false=>
     rw[So Sy] at h6;refine Qa ?_;exact⟨ds.length - (i+1),by omega,rfl,Y,f3,ys,U,rest,sb.fs,c3,h6,ho,Nat.le_succ_of_le hy⟩
    |true=>
     rw[tx rfl] at h6;refine Fu ?_;refine B6 h6 fun dd sd h7 h8=>?_
     refine mapP h8 fun rest2 fs2 h9 h10=>?_
     simp only[SX] at h10;refine⟨⟨FF g fa' O1 p,H'',fa'⟩,f3,[],sb,dd,sd,I3,h7,fun v H4 f4 O4 a4 I4 r4=>?_⟩;have eO:O4=[]:=YB.mpr fun z hz=>by have:=a4.sub z hz;cases this
     subst eO;have hF4:∀b,FF g f4 O1 p b->NN (FF g fa' O1 p) f4 [] b:=fun b z=>by
      rcases z with (z | z | z) | z
      .exact .inl (.inl (.inl z))
      .exact .inl (.inl (.inr (.inl z)))
      .exact .inr (.inr z)
      .exact .inl (.inr z)
     have c4:=c3.step a4 hF4 I4;refine⟨ys,c4.ls,by omega,ds.length - (i+1),by omega,rfl,Y,f4,ys++[v],U++[dd],rest2,sd.fs,c4.app hF4 r4,by rw[h9,h10.2],?_,by simp;omega⟩;rw[<-ho,<-h10.1];simp
   .refine .inl ⟨jstop (Ws Y),?_⟩;rw[YA (Ws Y),C2] at hd;simp only[Tv,SX] at hd;obtain⟨hd1,hd2⟩:=hd;subst hd1;subst hd2;rw[Tt] at ho;subst ho;have aE:=W c.st;have car1:=M.car aE.stp;have Z:∀a xs,a∈O1->H1 a=some (.lst xs)->H' a=some (.lst xs):=fun a xs ha e=>aE.same a _ e fun z=>M.nf a z ha
    refine kk p ys H' fa' O1 (a1.trans aE) ⟨⟨M.nd,SlR.go car1 Z M.sl,M.fr,M.st.trans ⟨fun b hb=>(by cases hb),aE.fe,fun b u e _ n=>aE.same b u e n,aE.mon⟩,M.tr,M.ff,?_,M.nf_step aE.fe⟩,c.ls,SlR.go Hcar Z M.sl,c.fd,c.rs,c.nf⟩ (a1.mon p hp);exact c.fd.car (K:=X.K) ⟨fun b xs n q=>⟨q,fun z=>n (.inl z)⟩,fun _ _ q=>q,fun _ _ q=>q,fun _ q=>q⟩ fun _ _=>rfl
 .simp only[So hz] at h2;cases h2
def tP (k:CompOk X scope cl N' 1 idx):∀σ H Q,liftF X.K g (N0 idx fi fc fe) σ H Q->eG 1 idx (liftI X.K g fi) (R3 0) (fun σ H Q=>∃g',liftT X.K g' fc σ H Q) (fun σ H Q=>∃g',liftE X.K g' fe σ H Q) σ H Q:=
 vW (mk:=fun sl d=>some (.v d::Y6 idx sl)) fun N fa sl d U x σ H Q M Y W kk=>by
  cases M;refine kk _ ⟨by simp,fun j v J=>?_⟩ ?_
  .cases j with
   |zero=>simp[J8] at J
   |succ j=>rw[UC (by simp)];exact J
  .have Z:(J8 1 idx σ).set 0 (some x)=some x::idx.map fun i=>(σ[i]?).join:=by simp[J8]
   rw[Z];simp only[SlR];exact⟨x,_,rfl,Y,W⟩
def dt (W:X.calm=true) (k:CompOk X scope cl N' 1 idx) (hi:IO X g tg iter fi) (J:∀C s0 H0 ex,PG (A4 X N' scope cl C s0 H0 ex) tg (R3 0))
  (M:∀C s0 H0 ex g',bZ (A4 X N' scope cl C s0 H0 ex) g' ifs fc) (U:∀C s0 H0 ex g',EO (A4 X N' scope cl C s0 H0 ex) g' elt fe) (Y:∀x,foldedSetIterable iter X.env x=pure x:=by intro _;rfl) :
  FO X g (.ListComp elt [⟨tg,iter,ifs,0⟩] scope pos) (N0 idx fi fc fe):=by
 exact FO.w (Bp (tc:=fun σ H Q=>∃g',liftT X.K g' fc σ H Q) (te:=fun σ H Q=>∃g',liftE X.K g' fe σ H Q) W k hi.pe J (fun C s0 H0 ex pins s σ H Q I ⟨g',h⟩=>M C s0 H0 ex g' pins s σ H Q I h) (fun C s0 H0 ex pins s σ H Q I ⟨g',h⟩=>(U C s0 H0 ex g').pe pins s σ H Q I h) Y) (tP k)
end
end DL
namespace HT2
open PySem PyProof.Rows
def cat_tup0 {w:World}{E:vQ_}{s:Shared}{t b:Addr}{ws:vV_}{Q:vQ_}(ht:IsTup s.heap t ([]:vV_).toArray) (hb:IsTup s.heap b ws.toArray)
  (h:Q (.ref b) s):wpAny (model prog w) A (binaryOp .Add (.ref t) (.ref b)) Q E s:=by
 obtain⟨⟨cls,dd,data,sl⟩,ho,hc,n,hd⟩:=id ht;obtain⟨⟨cls2,W,Z,Y⟩,M,J,n2,U⟩:=id hb;simp only at hc hd J U;subst hc hd J U;exact concat_meets ⟨_,ho,rfl⟩ ⟨_,M,rfl⟩ Xw seq_tuple_add Xx Xy (Xz _ _)
  (tuple_addW0 t b _ ws.toArray n n2 dd W sl Y (by simp)) ⟨ho,M,h⟩
end HT2
namespace DL
open PySem PySem.Spec L2
def A9 (i:Int):Bool:=decide (i.natAbs.log2<1000000)
def zW {i:Int}(h:A9 i=true):Builtin.Int.intBits i<=2 ^ 20:=by
 have h1:i.natAbs.log2<1000000:=TQ h;unfold Builtin.Int.intBits;split
 .exact TR _
 .have e:(2:Nat) ^ 20=1048576:=by decide
  rw[e];omega
def J7 (j:Int):Bool:=decide (j≠0)&&decide (j.natAbs.log2<9000)
section
variable {X:Cx}
def op_mulB:OpR X (binaryOp .Mult) (rI (fun i j=>A9 i=true/\A9 j=true) fun i j=>.int (i*j)):=ka fun _ _ _ _ _ _ _ J q=>PyProof.Rows.mul_int q (IntMulOk.of_bits (zW J.1) (zW J.2))
def Ql:OpR X (binaryOp .FloorDiv) (rI (fun _ j=>J7 j=true) fun i j=>.int (i.fdiv j)):=ka fun i j _ _ _ _ _ M q=>by
 have J:J7 j=true:=M;unfold J7 at J;rw[TK] at J;exact PyProof.Rows.floordiv_int (TQ J.1) q (.inl (PyProof.noPylong_of_log2 (TQ J.2)))
def Dc (K:vF_):R2:=fun x y H Q=>∃a b ys,x = .ref a/\y = .ref b/\SqT K H a []/\SqT K H b ys/\Q (.ref b) H
def op_catT0:OpR X (binaryOp .Add) (Dc X.K):=by
 intro pins s σ H x y v u Q I W Z h;obtain⟨a,b,ys,rfl,rfl,ha,hb,q⟩:=h;cases W;cases Z;obtain⟨its,U,Y,_⟩:=I.tuple ha;obtain⟨M,r2,J,_⟩:=I.tuple hb;cases U;exact HT2.cat_tup0 Y J ⟨.ref b,H,I,rfl,q⟩
def wY (K:vF_):R2:=fun x y H Q=>(X0 (fun i j=>.int (i+j)) x y H Q\/(∃i j,x = .str i/\y = .str j/\i.length+j.length<=sizeLine/\Q (.str (i++j)) H))\/((Dc K x y H Q\/xV K x y H Q)\/pN x y H Q)
def uf:OpR X (binaryOp .Add) (wY X.K):=(op_add.or My).or ((op_catT0.or Ry).or mJ)
def Co:R2:=fun x y H Q=>rI (fun i j=>A9 i=true/\A9 j=true) (fun i j=>.int (i*j)) x y H Q\/DV x y H Q
def Ke:OpR X (binaryOp .Mult) Co:=op_mulB.or KH
end
def m9:D->D->Option D
 |.int i,.int j=>some (.int (i+j))
 |.str x,.str y=>if x.length+y.length<=sizeLine then some (.str (x++y)) else none
 |.tup xs,.tup ys=>if xs.length+ys.length<=sizeLine then some (.tup (xs++ys)) else none
 |.lst xs,.lst ys=>if xs.length+ys.length<=sizeLine then some (.lst (xs++ys)) else none
 |_,_=>none
def u7:D->D->Option D
 |.int i,.int j=>some (.int (i - j))
 |_,_=>none
def i6:D->D->Option D
 |.int i,.int j=>if A9 i&&A9 j then some (.int (i*j)) else none
 |.lst xs,.int k=>if -(2 ^ 63)<=k/\k<2 ^ 63/\xs.length*k.toNat<=sizeLine then some (.lst (List.replicate k.toNat xs).flatten) else none
 |_,_=>none
def E7:D->D->Option D
 |.int i,.int j=>if J7 j then some (.int (i.fdiv j)) else none
 |_,_=>none
def J3:D->D->Option D
 |.int i,.int j=>if j≠0 then some (.int (i.fmod j)) else none
 |_,_=>none
def ia:D->D->Option D
 |.int i,.int j=>if 0<=j/\j<=1000000/\i.natAbs<2 ^ 64 then some (.int (i ^ j.toNat)) else none
 |_,_=>none
def o7:D->Option D
 |.int i=>some (.int (-i))
 |_=>none
def j6 (p:Int->Int->Bool):D->D->Option D
 |.int i,.int j=>some (.bl (p i j))
 |_,_=>none
def fN:D->D->Option D
 |.non,.non=>some (.bl true)
 |.feed,.non=>none
 |.scr _,.non=>none
 |.fn _,.non=>none
 |_,.non=>some (.bl false)
 |_,_=>none
def bE:D->D->Option D
 |.non,.non=>some (.bl false)
 |.feed,.non=>none
 |.scr _,.non=>none
 |.fn _,.non=>none
 |_,.non=>some (.bl true)
 |_,_=>none
def ua {K:vF_}{N:vB_}{fa:vA_}{ds:vD_}{xs:List V}(r:Reps K N fa H ds xs):xs=[]↔ds=[]:=by
 have:=r.length;cases xs <;> cases ds <;> simp_all
theorem Reps.flat {K:vF_}{N:vB_}{fa:vA_}{ds:vD_}{xs:List V}(r:Reps K N fa H ds xs):∀k:Nat,Reps K N fa H (List.replicate k ds).flatten (List.replicate k xs).flatten
 |0=>by simp[Reps]
 |k+1=>by
  simp only[Vc,VM];exact Reps.append r (Reps.flat r k)
section
variable {K:vF_}
def yS:N3 K (wY K) m9:=by
 intro g σ H fa O s x y d1 d2 d Q I U Y e k;cases d1 with
 |int i=>
  cases d2 with
  |int j=>
   cases e;simp only[RepB,Rep] at U Y;exact .inl (.inl ⟨i,j,U,Y,k _ H StE.refl I (by simp only[Rep])⟩)
  |_=>cases e
 |str a=>
  cases d2 with
  |str b=>
   have e:(if a.length+b.length<=sizeLine then some (D.str (a++b)) else none)=some d:=e;by_cases h:a.length+b.length<=sizeLine
   .rw[tx h] at e;cases e;simp only[RepB,Rep] at U Y;refine .inl (.inr ⟨a,b,U.1,Y.1,h,k _ H StE.refl I ?_⟩);simp only[Rep];exact⟨trivial,by rw[strLen_append];exact h⟩
   .rw[So h] at e;cases e
  |_=>cases e
 |tup as=>
  cases d2 with
  |tup W=>
   have e:(if as.length+W.length<=sizeLine then some (D.tup (as++W)) else none)=some d:=e;by_cases h:as.length+W.length<=sizeLine
   .rw[tx h] at e;cases e;simp only[RepB,Rep] at U Y;obtain⟨a,xs,rfl,qa,J⟩:=U;obtain⟨b,ys,rfl,qb,M⟩:=Y;by_cases hx:xs=[]
    .have ha:=(ua J).mp hx;subst hx;subst ha;refine .inr (.inl (.inl ⟨a,b,ys,rfl,rfl,qa,qb,k _ H StE.refl I ?_⟩));simp only[Rep,Uv];exact⟨b,ys,rfl,qb,M⟩
    .refine .inr (.inl (.inr ⟨a,b,xs,ys,rfl,rfl,qa,qb,hx,by rw[J.length,M.length];exact h,fun hy=>?_,fun hy p hp=>?_⟩))
     .have hb:=(ua M).mp hy;subst hy;subst hb;refine k _ H StE.refl I ?_;simp only[Rep,Tt];exact⟨a,xs,rfl,qa,J⟩
     .have Z:StE fa O H fa O (k0 H p (.tup (xs++ys))):=F9 hp;refine k _ _ Z (I.new hp) ?_;simp only[Rep];exact⟨p,_,rfl,SqT.of F6,Reps.stp I Z.stp (Reps.append J M)⟩
   .rw[So h] at e;cases e
  |_=>cases e
 |lst as=>
  cases d2 with
  |lst W=>
   have e:(if as.length+W.length<=sizeLine then some (D.lst (as++W)) else none)=some d:=e;by_cases h:as.length+W.length<=sizeLine
   .rw[tx h] at e;cases e;obtain⟨a,xs,rfl,_,qa,J⟩:=U;obtain⟨b,ys,rfl,_,qb,M⟩:=Y;refine .inr (.inr ⟨a,b,xs,ys,rfl,rfl,qa,qb,by rw[J.length,M.length];exact h,fun p hp=>?_⟩);have Z:StE fa O H fa O (k0 H p (.lst (xs++ys))):=F9 hp;have L:=ak I hp (Reps.append J M);refine k _ _ Z L.gi ?_;simp only[Rep];exact⟨p,_,rfl,je I Z L.gi hp L.nf,F6,Reps.stp I Z.stp (Reps.append J M)⟩
   .rw[So h] at e;cases e
  |_=>cases e
 |_=>cases e
def aX:D->D->Option (List D)
 |.lst xs,.lst ys=>if xs.length+ys.length<=sizeLine then some (xs++ys) else none
 |_,_=>none
def oz:pb K pN aX:=by
 intro g σ H fa O s x y Y d2 ds Q I W U e k;cases Y with
 |lst as=>
  cases d2 with
  |lst Z=>
   simp only[aX] at e;by_cases h:as.length+Z.length<=sizeLine
   .rw[tx h] at e;cases e;obtain⟨a,xs,rfl,_,qa,J⟩:=W;obtain⟨b,ys,rfl,_,qb,M⟩:=U;refine⟨a,b,xs,ys,rfl,rfl,qa,qb,by rw[J.length,M.length];exact h,fun p hp=>?_⟩;exact k p _ _ (F9 hp) (ak I hp (Reps.append J M)) hp
   .rw[So h] at e;cases e
  |_=>cases e
 |_=>cases e
def pW {C:Int->Int->Prop}{f:Int->Int->D}{U:Int->Int->V}{p:D->D->Option D}(hp:∀d1 d2 d,p d1 d2=some d->∃i j,d1 = .int i/\d2 = .int j/\C i j/\d=f i j) (hf:∀N fa H i j,Rep K N fa H (f i j) (U i j)):N3 K (rI C U) p:=by
 intro g σ H fa O s x y d1 d2 d Q I M J e k;obtain⟨i,j,rfl,rfl,c,rfl⟩:=hp d1 d2 d e;simp only[RepB,Rep] at M J;exact⟨i,j,M,J,c,k _ H StE.refl I (hf _ _ _ _ _)⟩
def xm {f:Int->Int->D}{U:Int->Int->V}{p:D->D->Option D}(hp:∀d1 d2 d,p d1 d2=some d->∃i j,d1 = .int i/\d2 = .int j/\d=f i j) (hf:∀N fa H i j,Rep K N fa H (f i j) (U i j)):N3 K (X0 U) p:=by
 intro g σ H fa O s x y d1 d2 d Q I M J e k;obtain⟨i,j,rfl,rfl,rfl⟩:=hp d1 d2 d e;simp only[RepB,Rep] at M J;exact⟨i,j,M,J,k _ H StE.refl I (hf _ _ _ _ _)⟩
def pO (F:Int->Int->Option D):D->D->Option D
 |.int i,.int j=>F i j
 |_,_=>none
def zy {F:Int->Int->Option D}(e:pO F d1 d2=some d):∃i j,d1 = .int i/\d2 = .int j/\F i j=some d:=by
 cases d1 with
 |int i=>
  cases d2 with
  |int j=>exact⟨i,j,rfl,rfl,e⟩
  |_=>cases e
 |_=>cases e
def sM {C:Int->Int->Prop}[∀i j,Decidable (C i j)] {f:Int->Int->D}(e:pO (fun i j=>if C i j then some (f i j) else none) d1 d2=some d):∃i j,d1 = .int i/\d2 = .int j/\C i j/\d=f i j:=by
 obtain⟨i,j,h1,h2,h3⟩:=zy e;by_cases h:C i j
 .have h3:(if C i j then some (f i j) else none)=some d:=h3;rw[tx h] at h3;exact⟨i,j,h1,h2,h,(Tb h3).symm⟩
 .have h3:(if C i j then some (f i j) else none)=some d:=h3;rw[So h] at h3;cases h3
def yE {f:Int->Int->D}(e:pO (fun i j=>some (f i j)) d1 d2=some d):∃i j,d1 = .int i/\d2 = .int j/\d=f i j:=by
 obtain⟨i,j,h1,h2,h3⟩:=zy e;exact⟨i,j,h1,h2,(Tb h3).symm⟩
def Rm:N3 K (X0 fun i j=>.int (i - j)) u7:=xm (f:=fun i j=>.int (i - j)) (fun J M d e=>yE (f:=fun i j=>.int (i - j)) e) fun _ _ _ _ _=>by simp only[Rep]
def Gb (p:Int->Int->Bool):N3 K (X0 fun i j=>.bl (p i j)) (j6 p):=xm (f:=fun i j=>.bl (p i j)) (fun J M d e=>yE (f:=fun i j=>.bl (p i j)) e) fun _ _ _ _ _=>by simp only[Rep]
def QC:N3 K Co i6:=by
 intro g σ H fa O s x y Z Y d Q I M J e k;cases Z with
 |int i=>
  cases Y with
  |int j=>
   have e:(if A9 i&&A9 j then some (D.int (i*j)) else none)=some d:=e;by_cases h:(A9 i&&A9 j)=true
   .rw[tx h] at e;cases e;rw[TK] at h;simp only[RepB,Rep] at M J;exact .inl ⟨i,j,M,J,h,k _ H StE.refl I (by simp only[Rep])⟩
   .rw[So h] at e;cases e
  |_=>cases e
 |lst as=>
  cases Y with
  |int j=>
   simp only[i6] at e;by_cases h:-(2 ^ 63)<=j/\j<2 ^ 63/\as.length*j.toNat<=sizeLine
   .rw[tx h] at e;cases e;obtain⟨a,xs,rfl,_,qa,W⟩:=M;simp only[RepB,Rep] at J;subst J;refine .inr ⟨a,j,xs,rfl,rfl,qa,h.1,h.2.1,by rw[W.length];exact h.2.2,fun p hp=>?_⟩;have U:StE fa O H fa O (k0 H p (.lst (List.replicate j.toNat xs).flatten)):=F9 hp;have L:=ak I hp (W.flat j.toNat);refine k _ _ U L.gi ?_;simp only[Rep];exact⟨p,_,rfl,je I U L.gi hp L.nf,F6,Reps.stp I U.stp (W.flat j.toNat)⟩
   .rw[So h] at e;cases e
  |_=>cases e
 |_=>cases e
def Ng:N3 K (rI (fun _ j=>J7 j=true) fun i j=>.int (i.fdiv j)) E7:=pW (f:=fun i j=>.int (i.fdiv j)) (fun J M d e=>sM (C:=fun _ j=>J7 j=true) (f:=fun i j=>.int (i.fdiv j)) e) fun _ _ _ _ _=>by simp only[Rep]
def OS:N3 K (rI (fun _ j=>j≠0) fun i j=>.int (i.fmod j)) J3:=pW (f:=fun i j=>.int (i.fmod j)) (fun J M d e=>sM (C:=fun _ j=>j≠0) (f:=fun i j=>.int (i.fmod j)) e) fun _ _ _ _ _=>by simp only[Rep]
def KG:N3 K (rI DK fun i j=>.int (i ^ j.toNat)) ia:=pW (f:=fun i j=>.int (i ^ j.toNat)) (fun J M d e=>sM (C:=fun i j=>0<=j/\j<=1000000/\i.natAbs<2 ^ 64) (f:=fun i j=>.int (i ^ j.toNat)) e) fun _ _ _ _ _=>by simp only[Rep]
def Jf:CP K (rU fun i=>.int (-i)) o7:=by
 intro g σ H fa O s x M d Q I J e k;cases M with
 |int i=>cases e;simp only[RepB,Rep] at J;exact⟨i,J,k _ H StE.refl I (by simp only[Rep])⟩
 |_=>cases e
def oJ:D->Bool
 |.non=>true
 |_=>false
def wC {N:vB_}{fa:vA_}(r:RepB K N fa H d x):decide (x = .non)=oJ d:=by
 cases d with
 |non=>simp only[RepB,Rep] at r;subst r;rfl
 |bl b=>simp only[RepB,Rep] at r;subst r;rfl
 |int i=>simp only[RepB,Rep] at r;subst r;rfl
 |str x=>simp only[RepB,Rep] at r;obtain⟨r,_⟩:=r;subst r;rfl
 |tup ds=>simp only[RepB,Rep] at r;obtain⟨a,xs,rfl,_⟩:=r;rfl
 |lst ds=>obtain⟨a,xs,rfl,_⟩:=r;rfl
 |feed=>simp only[RepB,Rep] at r;obtain⟨a,_,rfl⟩:=r;rfl
 |scr J=>simp only[RepB,Rep] at r;obtain⟨_,a,rfl,_⟩:=r;rfl
 |fn x=>simp only[RepB,Rep] at r;obtain⟨a,rfl,_⟩:=r;rfl
def Rb:N3 K (fun x y H Q=>y = .non/\Q (.bl (decide (x = .non))) H) fN:=by
 intro g σ H fa O s x y M U d Q I W J e k;have h2:U = .non:=by cases M <;> cases U <;> first | rfl | cases e
 subst h2;simp only[RepB,Rep] at J;refine⟨J,k _ H StE.refl I ?_⟩;rw[wC W];cases M <;> first | (cases e;simp[Rep,oJ];done) | cases e
def LJ:N3 K (fun x y H Q=>y = .non/\Q (.bl (!decide (x = .non))) H) bE:=by
 intro g σ H fa O s x y M U d Q I W J e k;have h2:U = .non:=by cases M <;> cases U <;> first | rfl | cases e
 subst h2;simp only[RepB,Rep] at J;refine⟨J,k _ H StE.refl I ?_⟩;rw[wC W];cases M <;> first | (cases e;simp[Rep,oJ];done) | cases e
end
section
variable {X:Cx}{pins:vP_}{σ:L2.St}{H:Hp}{s:Shared}{N:vB_}{fa:vA_}
mutual
theorem ft (I:Inv X pins σ H s):∀(d:D) (v:V) (u:Value),aG X.K N fa H d v->RelV v u->d.plain=true->∃as,Reads s.heap u d.py as
 |.non,v,u,r,ru,_=>by
  simp only[aG,Rep] at r;subst r;cases ru;simp only[D.py];exact⟨[],.none⟩
 |.bl b,v,u,r,ru,_=>by
  simp only[aG,Rep] at r;subst r;cases ru;simp only[D.py];exact⟨[],.bool b⟩
 |.int i,v,u,r,ru,_=>by
  simp only[aG,Rep] at r;subst r;obtain⟨t,rfl⟩:=ru;simp only[D.py];exact⟨[],.int i t⟩
 |.str x,v,u,r,ru,_=>by
  simp only[aG,Rep] at r;obtain⟨r,_⟩:=r;subst r;obtain⟨t,rfl⟩:=ru;simp only[D.py];exact⟨[],.str x t⟩
 |.tup ds,v,u,r,ru,hp=>by
  simp only[aG,Rep] at r;obtain⟨a,xs,rfl,q,w⟩:=r;cases ru;obtain⟨J,U,⟨o,h1,h2,n,h3⟩,_⟩:=I.tuple q;obtain⟨as,M⟩:=oH I ds xs J w U (by simpa only[D.plain] using hp);simp only[D.py];exact⟨as,.tuple h1 h2 h3 (by simpa using M)⟩
 |.lst ds,v,u,r,ru,hp=>by
  obtain⟨a,xs,rfl,q,w⟩:=r;cases ru;obtain⟨J,U,⟨o,n,h1,h2,h3,W⟩,_⟩:=I.list (SqL.of q);obtain⟨as,M⟩:=oH I ds xs J w U (by simpa only[D.plain] using hp);simp only[D.py];exact⟨_,.list h1 h2 W (by simpa using M)⟩
 |.feed,v,u,r,ru,hp=>by simp only[D.plain] at hp;cases hp
 |.scr _,v,u,r,ru,hp=>by simp only[D.plain] at hp;cases hp
 |.fn _,v,u,r,ru,hp=>by simp only[D.plain] at hp;cases hp
theorem oH (I:Inv X pins σ H s):∀(ds:vD_) (xs:List V) (us:vV_),Reps X.K N fa H ds xs->Vals xs us->D.plains ds=true->∃as,ReadsAll s.heap us (D.pys ds) as
 |[],xs,us,r,ru,_=>by
  simp only[Reps] at r;subst r;cases ru;simp only[D.pys];exact⟨[],.nil⟩
 |d::ds,xs,us,r,ru,hp=>by
  simp only[Reps] at r;obtain⟨x,ys,rfl,M,J⟩:=r;cases ru with
  |cons q qs=>
   simp only[D.plains,TK] at hp;obtain⟨as,h1⟩:=ft I d x _ M.o q hp.1;obtain⟨U,h2⟩:=oH I ds ys _ J qs hp.2;simp only[D.pys];exact⟨_,.cons h1 h2⟩
end
end
def L5 (d:D):Bool:=d.plain&&SeqAt.shaped d.py
def w9 (J M:D):Option D:=match J,M with
 |.str x,.str y=>some (.bl (decide (x=y)))
 |J,M=>if L5 J&&L5 M then some (.bl (PyData.eqv J.py M.py)) else none
def B4 (J M:D):Option D:=match J,M with
 |.str x,.str y=>some (.bl (!decide (x=y)))
 |J,M=>if L5 J&&L5 M then some (.bl (!PyData.eqv J.py M.py)) else none
def dX (K:vF_) (f:Bool->Bool):R2:=fun x y H Q=>∃N fa d1 d2,RepB K N fa H d1 x/\RepB K N fa H d2 y/\L5 d1=true/\L5 d2=true/\Q (.bl (f (PyData.eqv d1.py d2.py))) H
section
variable {X:Cx}{K:vF_}
def OF (hu:X.A.units+64<cLine):OpR X (compareOp .Eq) (dX X.K id):=by
 intro pins s σ H x y v u Q I Z ry h;obtain⟨N,fa,Y,d2,W,U,J,M,q⟩:=h;unfold L5 at J M;rw[TK] at J M;obtain⟨as,h1⟩:=ft I Y x v W.o Z J.1;obtain⟨bs,h2⟩:=ft I d2 y u U.o ry M.1;exact PyProof.Rows.eq_dataH h1 h2 J.2 M.2 hu ⟨.bl _,H,I,rfl,q⟩
def RM (hu:X.A.units+64<cLine):OpR X (compareOp .NotEq) (dX X.K not):=by
 intro pins s σ H x y v u Q I Z ry h;obtain⟨N,fa,Y,d2,W,U,J,M,q⟩:=h;unfold L5 at J M;rw[TK] at J M;obtain⟨as,h1⟩:=ft I Y x v W.o Z J.1;obtain⟨bs,h2⟩:=ft I d2 y u U.o ry M.1;exact PyProof.Rows.ne_dataH h1 h2 J.2 M.2 hu ⟨.bl _,H,I,rfl,q⟩
def Li (hu:X.A.units+64<cLine):OpR X (compareOp .Eq) (fun x y H Q=>nX x y H Q\/dX X.K id x y H Q):=op_eq.or (OF hu)
def EX (hu:X.A.units+64<cLine):OpR X (compareOp .NotEq) (fun x y H Q=>qm x y H Q\/dX X.K not x y H Q):=op_ne.or (RM hu)
def RK {J M d:D}(h:w9 J M=some d):(∃x y,J = .str x/\M = .str y/\d = .bl (decide (x=y)))\/(L5 J=true/\L5 M=true/\d = .bl (PyData.eqv J.py M.py)):=by
 unfold w9 at h;split at h
 .cases h;exact .inl ⟨_,_,rfl,rfl,rfl⟩
 .split at h
  .rename_i q;rw[TK] at q;cases h;exact .inr ⟨q.1,q.2,rfl⟩
  .cases h
def Ew {J M d:D}(h:B4 J M=some d):(∃x y,J = .str x/\M = .str y/\d = .bl (!decide (x=y)))\/(L5 J=true/\L5 M=true/\d = .bl (!PyData.eqv J.py M.py)):=by
 unfold B4 at h;split at h
 .cases h;exact .inl ⟨_,_,rfl,rfl,rfl⟩
 .split at h
  .rename_i q;rw[TK] at q;cases h;exact .inr ⟨q.1,q.2,rfl⟩
  .cases h
def BZ (x y:Str):decide (V.str x=V.str y)=decide (x=y):=by
 by_cases h:x=y
 .subst h;simp
 .rw[SF h,SF fun z=>h (V.str.inj z)]
def FV:N3 K (fun x y H Q=>nX x y H Q\/dX K id x y H Q) w9:=by
 intro g σ H fa O s x y U W d Q I M J e k;rcases RK e with ⟨a,b,rfl,rfl,rfl⟩ | ⟨h1,h2,rfl⟩
 .simp only[RepB,Rep] at M J;obtain⟨rfl,_⟩:=M;obtain⟨rfl,_⟩:=J;exact .inl ⟨rfl,k _ H StE.refl I (by simp only[Rep,BZ])⟩
 .exact .inr ⟨_,_,U,W,M,J,h1,h2,k _ H StE.refl I (by simp only[Rep,id])⟩
def KA:N3 K (fun x y H Q=>qm x y H Q\/dX K not x y H Q) B4:=by
 intro g σ H fa O s x y U W d Q I M J e k;rcases Ew e with ⟨a,b,rfl,rfl,rfl⟩ | ⟨h1,h2,rfl⟩
 .simp only[RepB,Rep] at M J;obtain⟨rfl,_⟩:=M;obtain⟨rfl,_⟩:=J;exact .inl ⟨rfl,k _ H StE.refl I (by simp only[Rep,BZ])⟩
 .exact .inr ⟨_,_,U,W,M,J,h1,h2,k _ H StE.refl I (by simp only[Rep])⟩
def b0:D->D->Option D
 |.tup ds,.int i=>v8 ds i
 |.lst ds,.int i=>v8 ds i
 |_,_=>none
abbrev Zf(i:Int):DE:=dC (.int i)
abbrev Zg(i:Nat)(j:Int):DE:=a7 b0 (dL i) (Zf j)
def Ea {N:vB_}{fa:vA_}{ds:vD_}{xs:List V}{i:Int}(r:Reps K N fa H ds xs) (h:v8 ds i=some d):∃v,v8 xs i=some v/\Rep K N fa H d v:=by
 unfold v8 at h ⊢;rw[r.length];cases e:S6 ds.length i with
 |none=>rw[e] at h;cases h
 |some j=>
  rw[e] at h;simp only[SH] at h ⊢;exact Reps.get r h
def vw:N3 K (fun x y H Q=>qF K x y H Q\/oK K x y H Q) b0:=by
 intro g σ H fa O s x y Y W d Q I M J e k;cases Y with
 |tup ds=>
  cases W with
  |int i=>
   simp only[RepB,Rep] at M J;obtain⟨a,xs,rfl,q,w⟩:=M;obtain⟨v,hv,U⟩:=Ea w (show v8 ds i=some d from e);exact .inr ⟨a,xs,i,v,rfl,J,q,hv,k v H StE.refl I U⟩
  |_=>cases e
 |lst ds=>
  cases W with
  |int i=>
   obtain⟨a,xs,rfl,_,q,w⟩:=M;simp only[RepB,Rep] at J;obtain⟨v,hv,U⟩:=Ea w (show v8 ds i=some d from e);exact .inl ⟨a,xs,i,v,rfl,J,SqL.of q,hv,k v H StE.refl I U⟩
  |_=>cases e
 |_=>cases e
def ve:IxR X (fun x y H Q=>qF X.K x y H Q\/oK X.K x y H Q):=ix_list.or GQ
end
def j7 (p:List D->Option D) (f:DA):DE:=fun s=>(f s).bind fun x=>(p x.1).map fun d=>(d,x.2)
def V7 (p:List D->Option (List D)) (f:DA):DA:=fun s=>(f s).bind fun x=>(p x.1).map fun d=>(d,x.2)
section
variable {X:Cx}{g:Gh}{x:Str}{p pos:Pos}{e:Expr}{es:List Expr}{t:DA}{id T:String}{r:List V->Hp->VK->Prop}{pr:List D->Option D}{pf:List D->Option (List D)}
def yY (U:bC X.K r pr) (σ:L2.St) (H:Hp) (Q:VK) (h:liftE X.K g (j7 pr t) σ H Q):eR r (liftBA X.K g t) σ H Q:=by
 obtain⟨Y,O,s,d,s',I,e,k⟩:=h;refine B6 e fun ds s1 h1 h=>?_
 refine av h fun d' h3 h=>?_
 simp only[SX] at h;obtain⟨e1,e2⟩:=h;subst e1;subst e2;exact⟨Y,O,s,ds,s1,I,h1,fun J H1 f1 O1 a1 Z W=>U g σ H1 f1 O1 s1 J ds d' Q Z W h3 fun z M a3 I3 r3=>k z M f1 O1 (a1.trans a3) I3 r3⟩
def rD (W:iB X.K r pf) (σ:L2.St) (H:Hp) (Q:VK) (h:liftF X.K g (V7 pf t) σ H Q):eR r (liftBA X.K g t) σ H Q:=by
 obtain⟨Z,O,s,d,s',I,e,k⟩:=h;refine B6 e fun ds s1 h1 h=>?_
 refine av h fun d' h3 h=>?_
 simp only[SX] at h;obtain⟨e1,e2⟩:=h;subst e1;subst e2;exact⟨Z,O,s,ds,s1,I,h1,fun M H1 f1 O1 J I1 Y=>W g σ H1 f1 O1 s1 M ds d' Q I1 Y h3 fun q ys U a3 L e3=>k q ys U f1 O1 (J.trans a3) L (J.mon _ e3)⟩
def GG (hc:CallR X (.builtin id) r) (U:bC X.K r pr) (Z:Gl X x) (W:X.mg x=none) (hv:bootBuiltins x=some (.builtin id)) (ha:BAO X g (e::es) t) (hn:x ≠ "__name__" := by decide) (M:(x == ("__debug__" : Str))=false:=by decide)
  (Y:starEach (e::es) X.env=(false,eval e X.env)::starEach es X.env:=by rfl) (J:(backTo pos (starEach es X.env)).any (·.1)=false:=by rfl):EO X g (.Call (.Name x p) (e::es) [] pos) (j7 pr t):=
 EO.w (QZ hc Z W hv ha.pe hn M Y J) (yY U)
def gy (hc:CallR X (.type T) r) (U:bC X.K r pr) (Z:Gl X x) (W:X.mg x=none) (hv:bootBuiltins x=some (.type T)) (ha:BAO X g (e::es) t) (hn:x ≠ "__name__" := by decide) (M:(x == ("__debug__" : Str))=false:=by decide)
  (Y:starEach (e::es) X.env=(false,eval e X.env)::starEach es X.env:=by rfl) (J:(backTo pos (starEach es X.env)).any (·.1)=false:=by rfl):EO X g (.Call (.Name x p) (e::es) [] pos) (j7 pr t):=
 EO.w (yw hc Z W hv ha.pe hn M Y J) (yY U)
def Ro (hc:CallR X (.type T) r) (U:iB X.K r pf) (Z:Gl X x) (W:X.mg x=none) (hv:bootBuiltins x=some (.type T)) (ha:BAO X g (e::es) t) (hn:x ≠ "__name__" := by decide) (M:(x == ("__debug__" : Str))=false:=by decide)
  (Y:starEach (e::es) X.env=(false,eval e X.env)::starEach es X.env:=by rfl) (J:(backTo pos (starEach es X.env)).any (·.1)=false:=by rfl):FO X g (.Call (.Name x p) (e::es) [] pos) (V7 pf t):=
 FO.w (yw hc Z W hv ha.pe hn M Y J) (rD U)
end
def uM {K:vF_}{N:vB_}{fa:vA_}{xs:List V}(r:ag K N fa H [d] xs):∃x,xs=[x]/\RepB K N fa H d x:=by
 obtain⟨x,ys,rfl,M,J⟩:=r;simp only[ag] at J;subst J;exact⟨x,rfl,M⟩
def one {α:Type}(p:D->Option α):List D->Option α
 |[d]=>p d
 |_=>none
def Az {α:Type}{p:D->Option α}{ds:vD_}{a:α}(h:one p ds=some a):∃d,ds=[d]/\p d=some a:=by
 cases ds with
 |nil=>cases h
 |cons d r=>
  cases r with
  |nil=>exact⟨d,rfl,h⟩
  |cons _ _=>cases h
def r8:D->Option D
 |.tup ds=>some (.int (ds.length:Nat))
 |.lst ds=>some (.int (ds.length:Nat))
 |.str x=>some (.int (x.length:Nat))
 |_=>none
def ba:D->Option D
 |.int i=>some (.int (if i<0 then -i else i))
 |_=>none
def ai:D->Option D
 |.int i=>some (.int i)
 |.bl b=>some (.int (if b then 1 else 0))
 |_=>none
def S8:D->Option D
 |.tup ds=>some (.tup ds)
 |.lst ds=>some (.tup ds)
 |_=>none
def DH:D->Option (List D)
 |.tup ds=>some ds
 |.lst ds=>some ds
 |_=>none
def bV (d:D):Bool:=d.plain&&d.py.showable&&d.py.canLay0&&decide (d.py.depth<=64)&&decide (d.py.shown.length<=sizeLine)
def T6 (d:D):Option D:=if bV d then some (.str d.py.shown) else none
section
variable {X:Cx}{K:vF_}
def Ie:CallR X (.builtin "len") (fun xs H Q=>(∃p ys,xs=[.ref p]/\(SqL X.K H p ys\/SqT X.K H p ys)/\Q (.int ys.length) H)\/(∃z,xs=[.str z]/\z.length<=sizeLine/\Q (.int z.length) H)):=call_len_seq.or Mj
def gY {r:List V->Hp->VK->Prop}{p:D->Option D}(h:∀(g:Gh) (σ:L2.St) (H:Hp) (fa:vA_) (O:vL_) (s:DS) (x:V) (d1 d:D) (Q:VK),GI K g σ H fa O s->RepB K (NN g.F fa O) fa H d1 x->p d1=some d ->
  (∀v H',StE fa O H fa O H'->GI K g σ H' fa O s->Rep K (NN g.F fa O) fa H' d v->Q v H')->r [x] H Q):bC K r (one p):=by
 intro g σ H fa O s xs ds d Q I U e k;obtain⟨d1,rfl,M⟩:=Az e;obtain⟨x,rfl,J⟩:=uM U;exact h g σ H fa O s x d1 d Q I J M k
def LO:bC K (fun xs H Q=>(∃p ys,xs=[.ref p]/\(SqL K H p ys\/SqT K H p ys)/\Q (.int ys.length) H)\/(∃z,xs=[.str z]/\z.length<=sizeLine/\Q (.int z.length) H)) (one r8):=gY fun g σ H fa O s x J d Q I r e k=>by
 cases J with
 |tup es=>
  cases e;simp only[RepB,Rep] at r;obtain⟨a,ys,rfl,q,w⟩:=r;exact .inl ⟨a,ys,rfl,.inr q,k _ H StE.refl I (by rw[w.length];simp only[Rep])⟩
 |lst es=>
  cases e;obtain⟨a,ys,rfl,_,q,w⟩:=r;exact .inl ⟨a,ys,rfl,.inl (SqL.of q),k _ H StE.refl I (by rw[w.length];simp only[Rep])⟩
 |str z=>
  cases e;simp only[RepB,Rep] at r;obtain⟨rfl,l⟩:=r;exact .inr ⟨z,rfl,l,k _ H StE.refl I (by simp only[Rep])⟩
 |_=>cases e
def HH:bC K (fun xs H Q=>∃i,xs=[.int i]/\Q (.int (if i<0 then -i else i)) H) (one ba):=gY fun g σ H fa O s x J d Q I r e k=>by
 cases J with
 |int i=>
  cases e;simp only[RepB,Rep] at r;subst r;exact⟨i,rfl,k _ H StE.refl I (by simp only[Rep])⟩
 |_=>cases e
def JJ:bC K (fun xs H Q=>(∃i,xs=[.int i]/\Q (.int i) H)\/∃k,xs=[.bl k]/\Q (.int (if k then 1 else 0)) H) (one ai):=gY fun g σ H fa O s x J d Q I r e k=>by
 cases J with
 |int i=>
  cases e;simp only[RepB,Rep] at r;subst r;exact .inl ⟨i,rfl,k _ H StE.refl I (by simp only[Rep])⟩
 |bl b=>
  cases e;simp only[RepB,Rep] at r;subst r;exact .inr ⟨b,rfl,k _ H StE.refl I (by simp only[Rep])⟩
 |_=>cases e
def gq:bC K (fun xs H Q=>∃p ys,xs=[.ref p]/\((SqL K H p ys/\∀l,H l=none->Q (.ref l) (k0 H l (.tup ys)))\/(SqT K H p ys/\Q (.ref p) H))) (one S8):=gY fun g σ H fa O s x M d Q I r e k=>by
 cases M with
 |tup es=>
  cases e;simp only[RepB,Rep] at r;obtain⟨a,ys,rfl,q,w⟩:=r;exact⟨a,ys,rfl,.inr ⟨q,k _ H StE.refl I (by simp only[Rep];exact⟨a,ys,rfl,q,w⟩)⟩⟩
 |lst es=>
  cases e;obtain⟨a,ys,rfl,_,q,w⟩:=r;refine⟨a,ys,rfl,.inl ⟨SqL.of q,fun p hp=>?_⟩⟩;have J:StE fa O H fa O (k0 H p (.tup ys)):=F9 hp;refine k _ _ J (I.new hp) ?_;simp only[Rep];exact⟨p,ys,rfl,SqT.of F6,Reps.stp I J.stp w⟩
 |_=>cases e
def Nj:iB K (fun xs H Q=>∃p ys,xs=[.ref p]/\(SqL K H p ys\/SqT K H p ys)/\∀l,H l=none->Q (.ref l) (k0 H l (.lst ys))) (one DH):=by
 intro g σ H fa O s xs ds es Q I W e k;obtain⟨U,rfl,J⟩:=Az e;obtain⟨x,rfl,r⟩:=uM W;cases U with
 |tup M=>
  cases J;simp only[RepB,Rep] at r;obtain⟨a,ys,rfl,q,w⟩:=r;exact⟨a,ys,rfl,.inr q,fun p hp=>k p ys _ (F9 hp) (ak I hp w) hp⟩
 |lst M=>
  cases J;obtain⟨a,ys,rfl,_,q,w⟩:=r;exact⟨a,ys,rfl,.inl (SqL.of q),fun p hp=>k p ys _ (F9 hp) (ak I hp w) hp⟩
 |_=>cases J
def vp (K:vF_):List V->Hp->VK->Prop:=fun xs H Q=>∃N fa d x,xs=[x]/\RepB K N fa H d x/\bV d=true/\Q (.str d.py.shown) H
def FZ (hu:X.A.units+66<cLine) (hg:X.A.guards=some []):CallR X (.builtin "repr") (vp X.K):=by
 intro pins s σ H xs us Q I r h;obtain⟨N,fa,d,x,rfl,J,ok,q⟩:=h;obtain⟨u,rfl,U⟩:=aD r;unfold bV at ok;simp only[TK,XM] at ok;obtain⟨⟨⟨⟨hp,Y⟩,hl⟩,hd⟩,Z⟩:=ok;obtain⟨as,ra⟩:=ft I d x u J.o U hp;have M:∀(h':Heap) (W:Nat) (t:Tok),(∀b o,s.heap.get? b=some o->h'.get? b=some o)->EP X pins σ Q (.str d.py.shown t) { s with heap:=h',toks:=W }:=fun h' W t hk=>⟨.str d.py.shown,H,I.kept hk,⟨t,rfl⟩,q⟩
 cases d with
 |non=>
  simp only[RepB,Rep] at J;subst J;cases U;exact P.repr_of_none (M s.heap _ _ fun _ _ e=>e)
 |bl b=>
  simp only[RepB,Rep] at J;subst J;cases U;have:=M s.heap (s.toks+1) s.toks fun _ _ e=>e
  refine P.repr_of_bool ?_;cases b <;> simpa only[D.py,PyData.shown] using this
 |int i=>
  simp only[RepB,Rep] at J;subst J;obtain⟨t,rfl⟩:=U;have:=M s.heap (s.toks+1) s.toks fun _ _ e=>e
  simp only[D.py,PyData.showable,XM] at Y;exact P.repr_of_int Y (by simpa only[D.py,PyData.shown] using this)
 |str z=>
  simp only[RepB,Rep] at J;obtain⟨J,_⟩:=J;subst J;obtain⟨t,rfl⟩:=U;have:=M s.heap (s.toks+1) s.toks fun _ _ e=>e
  exact P.repr_of_str (by simpa only[D.py,PyData.shown] using this) (by simpa only[D.py,PyData.shown] using Z)
 |tup ds=>
  simp only[RepB,Rep] at J;obtain⟨a,ys,rfl,_⟩:=J;cases U;exact repr_of_reads' ra Y (PyData.noDict_hsm (PyData.hasDict_of_canLay _ hl)) hg (by omega) (fun _ _ e=>e) (fun h' t W hk=>M h' W t hk) Z
 |lst ds=>
  obtain⟨a,ys,rfl,_⟩:=J;cases U;exact repr_of_reads' ra Y (PyData.noDict_hsm (PyData.hasDict_of_canLay _ hl)) hg (by omega) (fun _ _ e=>e) (fun h' t W hk=>M h' W t hk) Z
 |feed=>cases hp
 |scr _=>cases hp
 |fn _=>cases hp
def Pr:bC K (vp K) (one T6):=gY fun g σ H fa O s x J d Q I r e k=>by
 unfold T6 at e;by_cases h:bV J=true
 .rw[tx h] at e;cases e;refine⟨_,_,J,x,rfl,r,h,k _ H StE.refl I ?_⟩;simp only[Rep];unfold bV at h;simp only[TK,XM] at h;exact⟨trivial,h.2⟩
 .rw[So h] at e;cases e
end
end DL
namespace DL
open PySem PySem.Spec L2
def FS.get (key:Str) (f:FS):Option D:=
 if f.kind=0 then if key = "cells" then some (.lst (f.cells.map .int)) else if key = "at" then some (.int f.pos) else if key = "left" then some (.int f.left) else if key = "turn" then some (.int f.turn) else none else none
def FS.put (key:Str) (n:Int) (f:FS):Option FS:=
 if f.kind=0 then if key = "at" then some { f with pos:=n } else if key = "left" then some { f with left:=n } else if key = "turn" then some { f with turn:=n } else none else none
def J9 (i:Nat) (key:Str):DE:=fun s=>match s.sl[i]? with
 |some (.v .feed)=>s.fs.bind fun f=>(f.get key).map fun d=>(d,s)
 |_=>none
def Z3 (i:Nat) (key:Str) (fe:DE):DM:=fun s=>(fe s).bind fun x=>match x.2.sl[i]?,x.1 with
 |some (.v .feed),.int n=>x.2.fs.bind fun f=>(f.put key n).map fun J=>(.next,{ x.2 with fs:=some J })
 |_,_=>none
def nM (i:Nat):DE:=fun s=>match s.sl[i]?,s.fs with
 |some (.v (.scr J)),none=>some (.feed,{ s with fs:=some ⟨J,0,0,0,0⟩ })
 |_,_=>none
abbrev Q1 (c:Addr) (f:FS):List (l5 × V):=[(Sum.inr ("cells" : Str),V.ref c),(Sum.inr ("at" : Str),V.int f.pos),(Sum.inr ("left" : Str),V.int f.left),(Sum.inr ("turn" : Str),V.int f.turn)]
def oU:¬ (Sum.inr ("cells" : Str):l5)=Sum.inr ("at" : Str):=by intro h;exact absurd (UY h) (by decide +kernel)
def ou:¬ (Sum.inr ("cells" : Str):l5)=Sum.inr ("left" : Str):=by intro h;exact absurd (UY h) (by decide +kernel)
def sA:¬ (Sum.inr ("cells" : Str):l5)=Sum.inr ("turn" : Str):=by intro h;exact absurd (UY h) (by decide +kernel)
def kN:¬ (Sum.inr ("at" : Str):l5)=Sum.inr ("left" : Str):=by intro h;exact absurd (UY h) (by decide +kernel)
def kF:¬ (Sum.inr ("at" : Str):l5)=Sum.inr ("turn" : Str):=by intro h;exact absurd (UY h) (by decide +kernel)
def jS:¬ (Sum.inr ("left" : Str):l5)=Sum.inr ("turn" : Str):=by intro h;exact absurd (UY h) (by decide +kernel)
def OV (c:Addr) (f:FS):N7 (Q1 c f) (Sum.inr ("cells" : Str))=some (.ref c):=cL rfl
def tN (c:Addr) (f:FS):N7 (Q1 c f) (Sum.inr ("at" : Str))=some (.int f.pos):=by rw[R8 oU,cL rfl]
def CQ (c:Addr) (f:FS):N7 (Q1 c f) (Sum.inr ("left" : Str))=some (.int f.left):=by rw[R8 ou,R8 kN,cL rfl]
def vi (c:Addr) (f:FS):N7 (Q1 c f) (Sum.inr ("turn" : Str))=some (.int f.turn):=by rw[R8 sA,R8 kF,R8 jS,cL rfl]
def pB {J:List (l5 × V)}{k:l5}{v x:V}(h:N7 J k=some x):F1 J k v=J.map (fun kv=>if kv.1=k then (kv.1,v) else kv):=by
 unfold F1;rw[tx (by rw[mB,h];rfl)]
def Gk (c:Addr) (f:FS) (n:Int):F1 (Q1 c f) (Sum.inr ("at" : Str)) (.int n)=Q1 c { f with pos:=n }:=by
 rw[pB (tN c f)];simp only[SN,TU,So oU,So (SS kN),So (SS kF),TB]
def Sf (c:Addr) (f:FS) (n:Int):F1 (Q1 c f) (Sum.inr ("left" : Str)) (.int n)=Q1 c { f with left:=n }:=by
 rw[pB (CQ c f)];simp only[SN,TU,So ou,So kN,So (SS jS),TB]
def OH (c:Addr) (f:FS) (n:Int):F1 (Q1 c f) (Sum.inr ("turn" : Str)) (.int n)=Q1 c { f with turn:=n }:=by
 rw[pB (vi c f)];simp only[SN,TU,So sA,So kF,So jS,TB]
def FS.get_val {key:Str}{f:FS}(h:f.get key=some d) (c:Addr):∃v,N7 (Q1 c f) (Sum.inr key)=some v/\((v = .ref c/\d = .lst (f.cells.map .int))\/∃i,v = .int i/\d = .int i)/\f.kind=0:=by
 unfold FS.get at h;split at h
 case isFalse=>cases h
 rename_i hk;split at h
 .rename_i e;subst e;cases h;exact⟨_,OV c f,.inl ⟨rfl,rfl⟩,hk⟩
 split at h
 .rename_i e;subst e;cases h;exact⟨_,tN c f,.inr ⟨_,rfl,rfl⟩,hk⟩
 split at h
 .rename_i e;subst e;cases h;exact⟨_,CQ c f,.inr ⟨_,rfl,rfl⟩,hk⟩
 split at h
 .rename_i e;subst e;cases h;exact⟨_,vi c f,.inr ⟨_,rfl,rfl⟩,hk⟩
 .cases h
def FS.put_val {key:Str}{f J:FS}{n:Int}(h:f.put key n=some J) (c:Addr):F1 (Q1 c f) (Sum.inr key) (.int n)=Q1 c J/\J.cells=f.cells/\f.kind=0/\J.kind=0:=by
 unfold FS.put at h;split at h
 case isFalse=>cases h
 rename_i hk;split at h
 .rename_i e;subst e;cases h;exact⟨Gk c f n,rfl,hk,hk⟩
 split at h
 .rename_i e;subst e;cases h;exact⟨Sf c f n,rfl,hk,hk⟩
 split at h
 .rename_i e;subst e;cases h;exact⟨OH c f n,rfl,hk,hk⟩
 .cases h
section
variable {X:Cx}{g:Gh}{i:Nat}{x key:Str}{p1 p2 pos pos':Pos}{j:Nat}
def Ki (hu:X.A.units+1<cLine) (hv:PE X (.Name x p1) (Q4 i)):EO X g (.Subscript (.Name x p1) (.Constant (.str key) j p2) pos) (J9 i key):=
 EO.w (JC hu hv di (fun _ _=>rfl)) fun σ H Q U=>by
  refine U.elim fun fa O s d s' I e k=>?_
  unfold J9 at e;cases q:s.sl[i]? with
  |none=>rw[q] at e;cases e
  |some z=>
   rw[q] at e;cases z with
   |no=>cases e
   |own _=>cases e
   |v W=>
    cases W with
    |feed=>
     refine Y0 e fun f h1 h2=>?_
     refine av h2 fun d' h3 Z=>?_
     cases Z;obtain⟨u,e1,r⟩:=SlR.val I.sl q;simp only[Rep] at r;obtain⟨a,ha,rfl⟩:=r;have fd:=I.fd;rw[h1,ha] at fd;obtain⟨_,c,M,Y,lc⟩:=fd;obtain⟨v,J,hd,hk⟩:=FS.get_val h3 c;rw[rW hk] at M;refine⟨_,e1,a,v,rfl,?_,k v H fa O StE.refl I ?_⟩
     .have:=DGet.k (k:=Sum.inr key) M;rw[J] at this;exact this
     .rcases hd with ⟨rfl,rfl⟩ | ⟨n,rfl,rfl⟩
      .simp only[Rep];exact⟨c,_,rfl,by rw[ha];exact Y,lc,Reps.ints⟩
      .simp only[Rep]
    |_=>cases e
def KS (hu:X.A.units+1<cLine) (hv:PE X (.Name x p1) (Q4 i)) (he:EO X g e fe) (hs:swapsWith e (some (.Subscript (.Name x p1) (.Constant (.str key) j p2) pos')) pos.line X.env=pure false:=by rfl) :
  SO X g (.Assign [.Subscript (.Name x p1) (.Constant (.str key) j p2) pos'] e pos) (Z3 i key fe):=
 SO.w (JM hu hv di he.pe hs) fun E σ H hQ=>by
  refine hQ.elim fun fa O s fl s' I q k=>?_
  refine B6 q fun d s1 h1 h2=>?_
  simp only[] at h2;cases q1:s1.sl[i]? with
  |none=>rw[q1] at h2;cases h2
  |some z=>
   rw[q1] at h2;cases z with
   |no=>cases h2
   |own _=>cases h2
   |v dz=>
    cases dz with
    |feed=>
     cases d with
     |int n=>
      simp only[] at h2;refine Y0 h2 fun f h3 h4=>?_
      refine av h4 fun f' h5 h6=>?_
      cases h6;refine⟨fa,O,s,.int n,s1,I,h1,fun v H1 f1 O1 a1 J r=>?_⟩;simp only[Rep] at r;subst r;obtain⟨u,e1,ru⟩:=SlR.val J.sl q1;simp only[Rep] at ru;obtain⟨a,ha,rfl⟩:=ru;have fd:=J.fd;rw[h3,ha] at fd;obtain⟨Y,c,hc,nc,lc⟩:=fd;obtain⟨U,M,hk,hk'⟩:=FS.put_val h5 c;rw[rW hk] at hc;have hp:=DPut.k (k:=Sum.inr key) (v:=.int n) hc (by show 4<sizeLine;decide);rw[U] at hp;refine⟨_,e1,a,_,rfl,hp,?_⟩;have W:StE f1 O1 H1 f1 O1 (k0 H1 a (.dK (Q1 c f'))):=⟨fun _ h=>h,.inl rfl,fun b w e Z=>by rw[w5 (fun z=>Z (by rw[z];exact ha))];exact e,fun b z=>by
       by_cases hb:b=a
       .subst hb;rw[F6] at z;cases z
       .rw[w5 hb] at z;exact z⟩
      have cr:=J.car W.stp;refine k σ _ f1 O1 (a1.stp.trans W.stp) ⟨J.nd,SlR.go cr (fun b xs hb e=>W.same b _ e fun z=>J.nf b z hb) J.sl,J.fr,?_,J.tr,J.ff,?_,J.nf⟩
      .refine⟨fun b hb=>(by cases hb),J.st.fe,fun b w e _ Z=>?_,fun b z=>J.st.mon b (W.mon b z)⟩;refine W.same b w (J.st.same b w e (by simp) Z) fun z=>?_
       rcases J.st.fe with y | ⟨y,y2⟩
       .rw[y] at z;exact Z z
       .rw[y2 b z] at e;cases e
      .rw[ha];refine⟨by rw[M];exact Y,c,by rw[rW hk',F6],nc,?_⟩;rw[w5 (fun z=>by rw[z,hc] at lc;cases lc),M];exact lc
     |_=>cases h2
    |_=>cases h2
def Rw (xs:List V) (h:xs.length<=63):X5 xs none (some 63)=xs:=by
 unfold X5;have M:HT.sIx xs.length 0 none=0:=rfl;have J:HT.sIx xs.length xs.length (some 63)=xs.length:=by
  have:=HT.sIx_nat xs.length xs.length 63;rw[show ((63:Nat):Int)=63 from rfl] at this;rw[this];omega
 rw[M,J,VP,UO,Vw]
def ET (q:Addr):eU [] [(Sum.inr ("cells" : Str),V.ref q),(Sum.inr ("at" : Str),V.int 0),(Sum.inr ("left" : Str),V.int 0),(Sum.inr ("turn" : Str),V.int 0)]=Q1 q ⟨[],0,0,0,0⟩:=by
 show F1 (F1 (F1 (F1 ([]:List (l5 × V)) (Sum.inr ("cells" : Str)) (V.ref q)) (Sum.inr ("at" : Str)) (V.int 0)) (Sum.inr ("left" : Str)) (V.int 0)) (Sum.inr ("turn" : Str)) (V.int 0)=_;have U:F1 ([]:List (l5 × V)) (Sum.inr ("cells" : Str)) (V.ref q)=[(Sum.inr ("cells" : Str),V.ref q)]:=mC _ kU;have M:F1 ([(Sum.inr ("cells" : Str),V.ref q)]:List (l5 × V)) (Sum.inr ("at" : Str)) (V.int 0)=[(Sum.inr ("cells" : Str),V.ref q),(Sum.inr ("at" : Str),V.int 0)]:=mC _ (by rw[R8 oU,kU]);have J:F1 ([(Sum.inr ("cells" : Str),V.ref q),(Sum.inr ("at" : Str),V.int 0)]:List (l5 × V)) (Sum.inr ("left" : Str)) (V.int 0)=[(Sum.inr ("cells" : Str),V.ref q),(Sum.inr ("at" : Str),V.int 0),(Sum.inr ("left" : Str),V.int 0)]:=mC _ (by rw[R8 ou,R8 kN,kU]);rw[U,M,J];exact mC _ (by rw[R8 sA,R8 kF,R8 jS,kU])
def LM {k1 k2 k3 k4 j63 j0 j1 j2:Nat}(hv:PE X (.Name x p1) (Q4 i)) :
  EO X g (.Dict [some (.Constant (.str ("cells" : Str)) k1 q1),some (.Constant (.str ("at" : Str)) k2 q2),some (.Constant (.str ("left" : Str)) k3 q3),some (.Constant (.str ("turn" : Str)) k4 q4)]
   [.Subscript (.Name x p1) (.Slice none (some (.Constant (.int 63) j63 q5)) none q6) q7,.Constant (.int 0) j0 q8,.Constant (.int 0) j1 q9,.Constant (.int 0) j2 q10] pos) (nM i):=
 EO.w (Hn (jQ di (Br Bq hv BU (zQ gr)) (jQ di gr (jQ di gr (jQ di gr Pl)))) rfl rfl (by simp) (by show 4<=15;decide)) fun σ H Q hQ=>by
  refine hQ.elim fun fa O s d s' I e k=>?_
  unfold nM at e;cases q:s.sl[i]? with
  |none=>rw[q] at e;cases e
  |some z=>
   rw[q] at e;cases z with
   |no=>cases e
   |own _=>cases e
   |v dz=>
    cases dz with
    |scr ns=>
     cases hf:s.fs with
     |some f=>rw[hf] at e;cases e
     |none=>
      rw[hf] at e;cases e;obtain⟨u,e1,r⟩:=SlR.val I.sl q;simp only[Rep] at r;obtain⟨Y,a,rfl,sq⟩:=r;have fd:=I.fd;rw[hf] at fd;have fan:fa=none:=by cases fa with | none=>rfl | some _=>exact fd.elim
      subst fan;intro p hp;have sq1:SqF X.K (k0 H p (.dK [])) a (ns.map V.int):=by
       rcases sq with ⟨o,sq⟩ | sq
       .exact .inl ⟨o,by rw[w5 (X9 sq hp)];exact sq⟩
       .exact .inr sq
      refine⟨_,e1,63,rfl,a,_,rfl,sq1.sq,fun c Z=>?_⟩;rw[Rw _ (by rw[Ss];exact Y)];have M:c≠p:=fun z=>by rw[z,F6] at Z;cases Z
      have J:H c=none:=by rw[w5 M] at Z;exact Z
      refine⟨by rw[w5 (SS M),F6],[(Sum.inr ("cells" : Str),V.ref c),(Sum.inr ("at" : Str),V.int 0),(Sum.inr ("left" : Str),V.int 0),(Sum.inr ("turn" : Str),V.int 0)],rfl,by show 4<=15;decide,?_⟩;rw[ET];have W:∀b u,H b=some u->b≠p/\b≠c:=fun b u e=>⟨X9 e hp,X9 e J⟩
      have U:StE none O H (some p) O (k0 (k0 (k0 H p (.dK [])) c (.lst (ns.map V.int))) p (.dK (Q1 c ⟨[],0,0,0,0⟩))):=by
       refine⟨fun _ h=>h,.inr ⟨rfl,fun b z=>by cases z;exact hp⟩,fun b u e _=>?_,fun b z=>?_⟩
       .obtain⟨n1,n2⟩:=W b u e;rw[w5 n1,w5 n2,w5 n1];exact e
       .by_cases h1:b=p
        .subst h1;exact hp
        .by_cases h2:b=c
         .subst h2;exact J
         .rw[w5 h1,w5 h2,w5 h1] at z;exact z
      have cr:=I.car U.stp;refine k _ _ (some p) O U ⟨I.nd,SlR.go cr (fun b xs hb e=>U.same b _ e (by simp)) I.sl,I.fr,I.st.trans ⟨fun b hb=>(by cases hb),U.fe,fun b u e _ n=>U.same b u e n,U.mon⟩,I.tr,I.ff,?_,I.nf_step U.fe⟩ (by simp only[Rep];exact⟨p,rfl,rfl⟩);refine⟨Y,c,F6,?_,?_⟩
      .rintro(z | z | z)
       .exact I.trF z J
       .obtain⟨xs,e⟩:=I.owned z;rw[J] at e;cases e
       .exact M (Tb z).symm
      .rw[w5 M,F6]
    |_=>cases e
end
structure Cal (P:Program) (w:World) (K:vF_) (mg:vG_) (base:Heap) (k:Nat) (x:Str) (ps:List Str) (m:a8):Prop where
 ex:∃(f:Addr) (fd:FuncData),jm P w K mg base k f fd ps m/\mg x=some (.ref f)/\PySem.W.keepIn K (.ref f)=true/\Binds K fd ps []
structure Blt (mg:vG_):Prop where
 len:mg "len" = none
 range:mg "range" = none
 abs:mg "abs" = none
 tuple:mg "tuple" = none
 list:mg "list" = none
 int:mg "int" = none
 bool:mg "bool" = none
 str:mg "str" = none
 repr:mg "repr" = none
 all:mg "all" = none
 isinstance:mg "isinstance" = none
 zip:mg "zip" = none
 enumerate:mg "enumerate" = none
 min:mg "min" = none
 max:mg "max" = none
 reversed:mg "reversed" = none
 any:mg "any" = none
 sum:mg "sum" = none
 sorted:mg "sorted" = none
section
variable {X:Cx}{g:Gh}{k:Nat}{ps:List Str}{m:a8}{x:Str}{p pos:Pos}{e:Expr}{es:List Expr}{t:DA}
def gv (C:Cal X.prog X.w X.K X.mg X.base k x ps m) (k':Nat) (W:Room k' X.A) (hk:k<=k') (Y:Gl X x)
  (ha:AO X g (e::es) t) (hn:∀s ds s',t s=some (ds,s')->ds.length=ps.length) (U:(x == ("__debug__" : Str))=false:=by decide) (he:starEach (e::es) X.env=(false,eval e X.env)::starEach es X.env:=by rfl) (J:(backTo pos (starEach es X.env)).any (·.1)=false:=by rfl) :
  EO X g (.Call (.Name x p) (e::es) [] pos) (c8 m t):=by
 obtain⟨f,fd,F,Z,M,hb⟩:=C.ex;exact RU F (W.mono hk) Y Z M hb ha hn U he J
end
def Hj {w:World}{K:vF_}{mg:vG_}{st:Stmt}{fd:FuncData}{N ps:List Str}{k:Nat}{b:DM}(F:Fun K x x st f fd) (M:mg x=some (.ref f)) (hb:Binds K fd ps []) (S:FnScope N ps (G2 st))
  (J:∀(cdv:Value) (A:Around) (outer:List Env) (s:Shared) (H:Hp) (E:XK) (g:Gh),Room k (A.deeper (PyProof.Rows.envOfC x (G2 st) s.heap.objs.size f cdv))->SSO (aK Z8 P w K mg base N x (G2 st) f cdv A outer s H E).nox g (T4 st) b) :
  Cal P w K mg base (k+1) x ps (l6 N.length b):=⟨f,fd,Bb F S J,M,F.kp,hb⟩
def zi {A:Around}{k:Nat}(J:Room k A):A.units+64<cLine:=by have:=J.un;omega
def Lk {A:Around}{k:Nat}(J:Room k A):A.units+66<cLine:=by have:=J.un;omega
def MP:bootBuiltins ("len" : Str)=some (.builtin "len"):=by decide +kernel
def FE:bootBuiltins ("abs" : Str)=some (.builtin "abs"):=by decide +kernel
def GL:bootBuiltins ("repr" : Str)=some (.builtin "repr"):=by decide +kernel
def ij:bootBuiltins ("tuple" : Str)=some (.type "tuple"):=by decide +kernel
def tK:bootBuiltins ("list" : Str)=some (.type "list"):=by decide +kernel
def NS:bootBuiltins ("int" : Str)=some (.type "int"):=by decide +kernel
theorem lx {κ:Type}[BEq κ] [LawfulBEq κ] {β:Type}:∀{l:List (κ × β)}{x:κ}{v:β},l.lookup x=some v->(x,v)∈l
 |[],_,_,h=>by simp at h
 |(a,b)::r,x,v,h=>by
  rw[List.lookup_cons] at h;cases e:x == a with
  |true=>
   rw[e] at h;cases h;rw[eq_of_beq e];exact SR ..
  |false=>
   rw[e] at h;exact SK _ (lx h)
def hasAll (J:List (Str × NameKind)) (cl:List (Str × Addr)):Bool:=J.all fun p=>!(p.2 == .cell||p.2 == .free)||(cl.lookup p.1).isSome
def DW {J:List (Str × NameKind)}{cl:List (Str × Addr)}(h:hasAll J cl=true):∀x,(J.lookup x=some .cell\/J.lookup x=some .free)->∃c,cl.lookup x=some c:=fun x U=>by
 have key:∀M,J.lookup x=some M->(M == NameKind.cell||M == NameKind.free)=true->∃c,cl.lookup x=some c:=fun M e q=>by
  have m:=lx e;have z:=XN.mp h _ m;simp only[q,Bool.not_true,XF] at z;exact Yw.mp z
 rcases U with e | e
 .exact key _ e rfl
 .exact key _ e rfl
inductive CapL (X:Cx) (scope:Scope):List Nat->List Str->Prop where
 | nil:CapL X scope [] []
 | cons {i:Nat}{y:Str}{r:List Nat}{ys:List Str}(h1:X.N[i]? = some y) (h2:X.env.scope.names.lookup y=some .cell\/X.env.scope.names.lookup y=some .free)
   (h3:(relabel scope X.env).names.lookup y=some .cell\/(relabel scope X.env).names.lookup y=some .free) (t:CapL X scope r ys):CapL X scope (i::r) (y::ys)
def CapL.len :∀{idx:List Nat}{ys:List Str},CapL X scope idx ys->ys.length=idx.length
:= by
 intro idx ys h;induction h with
 |nil=>rfl
 |cons _ _ _ t ih=>rw[SW,SW,ih]
def CapL.at {X:Cx}:∀{idx:List Nat}{ys:List Str},CapL X scope idx ys->∀(j i:Nat) (y:Str),idx[j]? = some i->ys[j]? = some y ->
  X.N[i]? = some y/\(X.env.scope.names.lookup y=some .cell\/X.env.scope.names.lookup y=some .free)/\((relabel scope X.env).names.lookup y=some .cell\/(relabel scope X.env).names.lookup y=some .free)
:= by
 intro idx ys h;induction h with
 |nil=>intro j i y h;cases h
 |cons h1 h2 h3 t ih=>
  intro j i y e1 e2;cases j with
  |zero=>
   cases e1;cases e2;exact⟨h1,h2,h3⟩
  |succ j=>exact ih j i y e1 e2
inductive SubL (cells:List (Str × Addr)):List (Str × Addr)->Prop where
 | nil:SubL cells []
 | cons {x:Str}{c:Addr}{r:List (Str × Addr)}(h:cells.lookup x=some c) (t:SubL cells r):SubL cells ((x,c)::r)
def SubL.mem {J:List (Str × Addr)}:∀{cl:List (Str × Addr)},SubL J cl->∀x c,(x,c)∈cl->J.lookup x=some c
:= by
 intro cl h;induction h with
 |nil=>intro x c h;cases h
 |cons e t ih=>
  intro x c h;rcases Sv.mp h with z | z
  .cases z;exact e
  .exact ih x c z
def Y5 {X:Cx}{scope:Scope}{cl:List (Str × Addr)}{idx:List Nat}(J:closureFor scope X.env=pure cl) (W:SubL X.env.cells cl) (cell:∀y∈scope.names,y.2 ≠ .cell) (kind:scope.kind = .function)
  (names:∀y∈scope.names,y.2 = .local->scope.names.lookup y.1=some .local) (U:hasAll (relabel scope X.env).names cl=true) (M:CapL X scope idx caps):CompOk X scope cl (x::caps) 1 idx:=
 ⟨J,fun y c e=>W.mem y c (lx e),cell,kind,names,DW U,by rw[SW,M.len,UM],fun j i y Z Y=>M.at j i y Z (by rw[UM] at Y;simpa using Y)⟩
def B5 (i j:Nat) (f:DA):DM:=fun s=>(f s).bind fun x=>match x.1 with
 |[a,b]=>some (.next,{ x.2 with sl:=(x.2.sl.set i (.v a)).set j (.v b) })
 |_=>none
section
variable {X:Cx}{g:Gh}
def Ms {i j:Nat}{a b:Expr}{px py U pos:Pos}{kt k2 pt2} (hc:X.calm=true) (hN:X.N.Nodup) (hi:X.N[i]? = some x) (hj:X.N[j]? = some y) (M:i≠j)
  (hx:X.env.scope.names.lookup x=some .local) (hy:X.env.scope.names.lookup y=some .local) (ha:AO X g [a,b] f)
  (hw:swappedStores [.Tuple [.Name x px,.Name y py] kt U] (.Tuple [a,b] k2 pt2) X.env=pure (some [x,y]))
  (hs:swapsWithSole [.Tuple [.Name x px,.Name y py] kt U] (.Tuple [a,b] k2 pt2) pos.line X.env=pure false:=by rfl) :
  SO X g (.Assign [.Tuple [.Name x px,.Name y py] kt U] (.Tuple [a,b] k2 pt2) pos) (B5 i j f):=SO.w (Pf hc hN hi hj M hx hy ha.pe hw hs) fun E σ H hQ=>by
 refine hQ.elim fun fa O s fl s' I q k=>?_
 refine B6 q fun ds s1 h1 h2=>?_
 refine⟨fa,O,s,ds,s1,I,h1,fun vs H1 f1 O1 a1 Z r=>?_⟩
 match ds,h2,r with
 |[d1,d2],h2,r=>
  simp only[Tv,SX] at h2;obtain⟨e1,e2⟩:=h2;subst e1;subst e2;simp only[Reps] at r;obtain⟨v,ys,rfl,rv,u,zs,rfl,ru,rfl⟩:=r;refine⟨v,u,rfl,?_⟩;obtain⟨P,W,I2⟩:=Z.put i rv;have Y:StE f1 O1 H1 f1 P H1:=gw W;obtain⟨P3,J,I3⟩:=I2.put j (Rep.stp Z Y.stp ru);exact k _ H1 f1 P3 (a1.stp.trans (Y.stp.trans (gw J).stp)) I3
end
def walkD {l:PySem.W.OpenLaw}{U:World->Heap->Prop}{d:DefRec}{K:Params->PySem.W.Frag}{m:a8}{k:Nat}(Y:l.most=some 63) (M:d.params.defaults=[]) (Z:Room k callerA)
  (hY:∀(w:World) (h:Heap),U w h->(K w.params).In h)
  (F:∀(w:World) (mg:vG_) (fa:Addr) (h:Heap),(K w.params).In h->h.Ns mainGlobals mg->mg d.name=some (.ref fa) ->
   ∃fd:FuncData,(∀(s:Shared) (u:Value),BindsTo s fd ⟨[u],[]⟩ [("_law_script",u)])/\∀base:Heap,(K w.params).In base->base.Ns mainGlobals mg->FnOk l.prog w (K w.params) mg base Z8 k fa fd ["_law_script"] (cZ (K w.params) 1 m))
  (J:∀ns:List Int,ns.length<=63->∃fs',m [.scr ns] none=some (.bl true,fs')) :
  PySem.W.WalkO q loose XP U l.row.toRowW d [] (fun f vs=>PySem.call f vs):=
 L2.walk_of (n:=63) (k:=k) (x := "_law_script") (CX:=fun _=>Z8) (sp:=fun w=>cZ (K w.params) 1 m) Y (by decide) M Z hY F (fun w H a ns hl hO hS=>by
  obtain⟨fs',e⟩:=J ns hl;refine⟨fun _=>False,none,[.scr ns],none,.bl true,fs',fun b z=>z.elim,fun a z=>(by cases z),?_,trivial,e,rfl,fun v H' fa' _ _ r=>by simpa only[Rep] using r⟩;simp only[Reps,Rep];refine⟨_,_,rfl,⟨hl,a,rfl,?_⟩,rfl⟩;rcases hS with (z | ⟨o,z⟩) | z
  .rcases hO a with y | ⟨o,xs,y⟩ <;> · rw[z] at y;cases y
  .exact .inl ⟨o,z⟩
  .exact .inr z) fun _ _ _ _ _ z=>z
section
variable {X:Cx}{g:Gh}{a b c:Expr}{fa fb fc:DE}{pos:Pos}
abbrev DO:=DS->Option (Option Int × DS)
def liftO (K:vF_) (g:Gh) (f:DO):L2.TO:=fun σ H Q=>∃fa O s d s',GI K g σ H fa O s/\f s=some (d,s')/\∀H' fa' O',StE fa O H fa' O' H'->GI K g σ H' fa' O' s'->Q d H'
def liftO.elim {K:vF_}{g:Gh}{σ:L2.St}{H:Hp}{G:Prop}{f:DO}{Q:Option Int->Hp->Prop}(h:liftO K g f σ H Q) (k:∀fa O s d s',GI K g σ H fa O s->f s=some (d,s')->(∀H' fa' O',StE fa O H fa' O' H'->GI K g σ H' fa' O' s'->Q d H')->G):G:=by
 obtain⟨fa,O,s,d,s',a,b,c⟩:=h;exact k fa O s d s' a b c
structure OO (X:Cx) (g:Gh) (e:Option Expr) (f:DO):Prop where
 pe:PO X e (liftO X.K g f)
def L6:DO:=fun s=>some (none,s)
def K9 (f:DE):DO:=fun s=>(f s).bind fun x=>match x.1 with | .int i=>some (some i,x.2) | _=>none
def Qy {t t':L2.TO}(h:PO X e t) (w:∀σ H Q,t' σ H Q->t σ H Q):PO X e t':=fun pins s σ H Q I q=>h pins s σ H Q I (w σ H Q q)
theorem OO.w {t:L2.TO}(h:PO X e t) (w:∀σ H Q,liftO X.K g f σ H Q->t σ H Q):OO X g e f:=⟨Qy h w⟩
def AX:OO X g none L6:=OO.w BU fun σ H Q M=>by
 refine M.elim fun J O s d s' I e k=>?_
 cases e;exact k H J O StE.refl I
def Ra (h:BO X g a fa):OO X g (some a) (K9 fa):=OO.w (zQ h.pe) fun σ H Q Z=>by
 refine Z.elim fun M O s d s' I e k=>?_
 refine B6 e fun x s1 h1 e=>?_
 cases x with
 |int i=>
  simp only[Tv,SX] at e;obtain⟨Y,W⟩:=e;subst Y;subst W;exact⟨M,O,s,.int i,s1,I,h1,fun v H1 f1 O1 a1 U J=>⟨i,by simpa only[RepB,Rep] using J,k H1 f1 O1 a1 U⟩⟩
 |_=>cases e
def E5 (xs:vD_) (lo hi:Option Int):List D:=(xs.drop (HT.sIx xs.length 0 lo)).take (HT.sIx xs.length xs.length hi - HT.sIx xs.length 0 lo)
def oS {K:vF_}{N:vB_}{fa:vA_}{ds:vD_}{xs:List V}(r:Reps K N fa H ds xs) (lo hi:Option Int):Reps K N fa H (E5 ds lo hi) (X5 xs lo hi):=by
 unfold E5 X5;rw[r.length];exact(r.drop _).take _
end
end DL
namespace HT2
open PySem PyProof.Rows HT
section
variable {prog:Program}{w:World}{A:Around}{E:vQ_}{s:Shared}
def getItem_tuple_whole {t sl:Addr}{items:vR_}{lo hi:Option Int}{Q:vQ_}(J:IsTup s.heap t items) (hs:s.heap.IsSliceOf sl vl vu .none) (pl:IsPart vl lo) (pu:IsPart vu hi)
  (Z:sIx items.size 0 lo=0/\sIx items.size items.size hi=items.size) (h:Q (.ref t) s):wpAny (model prog w) A (getItem (.ref t) (.ref sl)) Q E s:=by
 obtain⟨os,Y,W,hds⟩:=id hs;have U:s.TypeIs (.ref sl) "slice" := ⟨os,Y,W⟩
 unfold getItem
 try with_reducible refine Ut ?_
 first | refine gV (Sr ?_) | skip
 refine gV (wpAny_sequenceKey J.typeIs (by decide) ?_);refine gV (Uu (name:=Str.ofString "__getitem__") J.typeIs Vs
  (Ub Vs J.typeIs entry_tuple_getitem ?_ (args_tuple_getitem _ _)))
 show wpAny _ _ (Builtin.Tuple.tupleItemsOf (.ref t) >>= _) _ _ s;refine gV (tupleItemsOf_ J ?_);refine gV (Vt U ?_);rw[tx (by decide)];refine gV (uL hs pl pu ?_);have M:(((sIx items.size 0 lo:Nat):Int) == 0&&(1:Int) == 1&&(sIx items.size items.size hi - sIx items.size 0 lo) == items.size)=true:=by
  rw[Z.1,Z.2];simp
 show wpAny _ _ (if (((sIx items.size 0 lo:Nat):Int) == 0&&(1:Int) == 1&&(sIx items.size items.size hi - sIx items.size 0 lo) == items.size)=true then _ else _) _ _ s;rw[tx M];refine gV (m:=Builtin.Tuple.tupleIsExact _) (gV (Vt J.typeIs (Sr ?_)));rw[tx (by decide)]
 first
  | exact gV (UD (gV (Sr (Sr ⟨_,rfl,Sr h⟩))))
  | exact gV (UD (Sr ⟨_,rfl,Sr h⟩))
  | exact gV (UD (gV (Sr ⟨_,rfl,Sr h⟩)))
end
end HT2
namespace DL
open PySem PySem.Spec L2
section
variable {X:Cx}{g:Gh}{a:Expr}{fa:DE}{pos:Pos}
def Rt (K:vF_):V->Option Int->Option Int->Hp->VK->Prop:=fun x lo hi H Q=>∃a xs,x = .ref a/\SqT K H a xs/\(HT.sIx xs.length 0 lo=0/\HT.sIx xs.length xs.length hi=xs.length)/\Q (.ref a) H
def NF:L2.SlR X (Rt X.K):=by
 intro pins s σ H x v vl vu lo hi sl Q I W hs pl pu h;obtain⟨a,xs,rfl,Y,Z,q⟩:=h;cases W;obtain⟨M,r,U,hz⟩:=I.tuple Y;have J:M.toArray.size=xs.length:=by rw[SY];exact r.length.symm
 refine⟨"tuple",_,Vs.lookup,U.typeIs,?_⟩;exact HT2.getItem_tuple_whole U hs pl pu (by rw[J];exact Z) ⟨.ref a,H,I,rfl,q⟩
def Rn {xs:vD_}{lo hi:Option Int}(h:HT.sIx xs.length 0 lo=0/\HT.sIx xs.length xs.length hi=xs.length):E5 xs lo hi=xs:=by
 unfold E5;rw[h.1,h.2,VP,UO,Vw]
def J6 (f:DE) (lo hi:DO):DE:=fun s=>(f s).bind fun x=>(lo x.2).bind fun l=>(hi l.2).bind fun h=>match x.1 with
 |.tup ds=>some (.tup (E5 ds l.1 h.1),h.2)
 |.lst ds=>some (.lst (E5 ds l.1 h.1),h.2)
 |_=>none
def RO {x r:D}{F:List D->List D}{t z:DS}(e:(match x with
 |.tup ds=>some (D.tup (F ds),t)
 |.lst ds=>some (D.lst (F ds),t)
 |_=>none)=some (r,z)):t=z/\((∃ds,x = .lst ds/\r = .lst (F ds))\/∃ds,x = .tup ds/\r = .tup (F ds)):=by
 cases x with
 |tup ds=>cases e;exact⟨rfl,.inr ⟨ds,rfl,rfl⟩⟩
 |lst ds=>cases e;exact⟨rfl,.inl ⟨ds,rfl,rfl⟩⟩
 |_=>cases e
def Cv {lo hi:Option Expr}{fl fh:DO}{p2:Pos}(ha:BO X g a fa) (hl:OO X g lo fl) (hh:OO X g hi fh):EO X g (.Subscript a (.Slice lo hi none p2) pos) (J6 fa fl fh):=
 EO.w (Br (L2.SlR.or (L2.SlR.or Nv NF) Bq) ha.pe hl.pe hh.pe) fun σ H Q hQ=>by
  refine hQ.elim fun f0 O s d s' I e k=>?_
  refine B6 e fun x s1 h1 e=>?_
  refine B6 e fun l s2 h2 e=>?_
  refine B6 e fun h s3 h3 e=>?_
  obtain⟨rfl,c⟩:=RO (F:=fun ds=>E5 ds l h) e;refine⟨f0,O,s,x,s1,I,h1,fun v H1 f1 O1 a1 I1 r1=>⟨f1,O1,s1,l,s2,I1,h2,fun H2 f2 O2 Z I2=>⟨f2,O2,s2,h,s3,I2,h3,fun Y J M a3 W=>?_⟩⟩⟩;have r3:=RepB.stp I2 a3 (RepB.stp I1 Z r1);rcases c with ⟨ds,rfl,rfl⟩ | ⟨ds,rfl,rfl⟩
  .obtain⟨c,xs,rfl,_,q,w⟩:=r3;refine .inr ⟨c,xs,rfl,SqL.of q,fun p hp=>?_⟩;have U:StE J M Y J M (k0 Y p (.lst (X5 xs l h))):=F9 hp;have L:=ak W hp (oS w l h);refine k _ _ J M (a1.trans (Z.trans (a3.trans U))) L.gi ?_;simp only[Rep];exact⟨p,_,rfl,je W U L.gi hp L.nf,F6,Reps.stp W U.stp (oS w l h)⟩
  .simp only[RepB,Rep] at r3;obtain⟨c,xs,rfl,q,w⟩:=r3;by_cases hw:HT.sIx xs.length 0 l=0/\HT.sIx xs.length xs.length h=xs.length
   .refine .inl (.inr ⟨c,xs,rfl,q,hw,k _ Y J M (a1.trans (Z.trans a3)) W ?_⟩);rw[w.length] at hw;rw[Rn hw];simp only[Rep];exact⟨c,xs,rfl,q,w⟩
   .refine .inl (.inl ⟨c,xs,rfl,q,hw,fun p hp=>?_⟩);have U:StE J M Y J M (k0 Y p (.tup (X5 xs l h))):=F9 hp;refine k _ _ J M (a1.trans (Z.trans (a3.trans U))) (W.new hp) ?_;simp only[Rep];exact⟨p,_,rfl,SqT.of F6,Reps.stp W U.stp (oS w l h)⟩
end
end DL
namespace HT3
open PySem PyProof.Rows HT
section
variable {prog:Program}{w:World}{A:Around}{E:vQ_}{s:Shared}
def pick_rev (xs:vR_):((List.range xs.size).filterMap fun (m:Nat)=>xs[(((xs.size:Int) - 1)+(m:Int)*(-1)).toNat]?).toArray=xs.toList.reverse.toArray:=by
 congr 1;have e:((List.range xs.size).filterMap fun (m:Nat)=>xs[(((xs.size:Int) - 1)+(m:Int)*(-1)).toNat]?)=((List.range xs.size).filterMap fun (m:Nat)=>xs.toList.reverse[m]?):=by
  have W:∀(l:List Nat) (f g:Nat->Option Value),(∀m∈l,f m=g m)->l.filterMap f=l.filterMap g:=by
   intro l f g;induction l with
   |nil=>intro _;rfl
   |cons a r U=>intro h;rw[Vq,Vq,h a (SR ..),U fun m M=>h m (SK _ M)]
  refine W _ _ _ fun m M=>?_
  have J:m<xs.size:=Wm.mp M;have:(((xs.size:Int) - 1)+(m:Int)*(-1)).toNat=xs.size - 1 - m:=by omega
  rw[this,YC (by simpa using J)];simp
 rw[e];have hl:xs.size=xs.toList.reverse.length:=by simp
 rw[hl];generalize xs.toList.reverse=l;clear e hl;induction l with
 |nil=>rfl
 |cons a r U=>
  rw[SW,List.range_succ_eq_map,Vq];simp only[List.getElem?_cons_zero,XB];congr 1
end
end HT3
namespace DL
open PySem PySem.Spec L2 PyProof.Rows
def LV {w:World}{K:vF_}{mg:vG_}{k:Nat}{fd:FuncData}{ps:List Str}:jm P w K mg base k f fd ps (fun _ _=>none):=by
 refine⟨fun U H Q E h=>?_,fun A J s H M W U Q E _ _ _ _ h=>?_⟩ <;> (obtain⟨F,fa,ds,fs,d,fs',_,_,_,_,e,_⟩:=h;cases e)
end DL
namespace DL
open PySem PySem.Spec L2
def sr:Expr->Bool
 |.Starred _ _=>false
 |_=>true
def tu {J:Env}(h:sr a=true):starEach (a::es) J=(false,eval a J)::starEach es J:=by
 cases a <;> first | rfl | (cases h)
section
variable {X:Cx}{g:Gh}{a:Expr}{es:List Expr}{fa:DE}{fr:DA}
def ac (ha:EO X g a fa) (J:AO X g es fr) (M:sr a=true:=by rfl):AO X g (a::es) (a6 fa fr):=yg ha J (tu M)
def bc (ha:BO X g a fa) (J:BAO X g es fr) (M:sr a=true:=by rfl):BAO X g (a::es) (a6 fa fr):=Ij ha J (tu M)
end
end DL
namespace DL
open PySem PySem.Spec L2 PyProof.Rows
structure LitV (K:vF_) (d:D) (u:Value):Prop where
 ex:∃v:V,RelV v u/\∀N fa H,Rep K N fa H d v
structure LitVs (K:vF_) (ds:vD_) (us:vV_):Prop where
 ex:∃vs:List V,Vals vs us/\∀N fa H,Reps K N fa H ds vs
section
variable {K:vF_}
def G8 (i:Int) (t:Tok):LitV K (.int i) (.int i t):=⟨.int i,⟨t,rfl⟩,fun _ _ _=>by simp only[Rep]⟩
def V4:LitVs K [] []:=⟨[],.nil,fun _ _ _=>by simp only[Reps]⟩
def C6 {ds:vD_}{M:vV_}(h:LitV K d u) (U:LitVs K ds M):LitVs K (d::ds) (u::M):=by
 obtain⟨v,r,q⟩:=h.ex;obtain⟨J,W,qs⟩:=U.ex;exact⟨v::J,.cons r W,fun N fa H=>by simp only[Reps];exact⟨v,J,rfl,q N fa H,qs N fa H⟩⟩
def V8 {ds:vD_}{U:vA_}{J:vV_}{n:Nat}{sl:vS_}(l:K.lookup a=some ⟨.type "tuple",U,.seq J.toArray n,sl⟩) (W:LitVs K ds J) (hz:J.length<=sizeLine:=by decide):LitV K (.tup ds) (.ref a):=by
 obtain⟨M,Y,qs⟩:=W.ex;refine⟨.ref a,rfl,fun N fa H=>?_⟩;simp only[Rep];exact⟨a,M,rfl,.inr ⟨_,J.toArray,n,l,rfl,rfl,by simpa using hz,by simpa using Y⟩,qs N fa H⟩
end
structure Con (K:vF_) (mg:vG_) (x:Str) (d:D):Prop where
 ex:∃u:Value,mg x=some u/\LitV K d u
def Ek {X:Cx}{pos:Pos}(C:Con X.K X.mg x d) (J:Gl X x) (hd:(x == ("__debug__" : Str))=false:=by decide):EO X g (.Name x pos) (dC d):=by
 obtain⟨u,M,h⟩:=C.ex;obtain⟨v,r,q⟩:=h.ex;exact EO.w (Ac (v:=v) J M r hd) fun σ H Q U=>by
  refine U.elim fun fa O s W s' I e k=>?_
  simp only[dC,Tv,SX] at e;obtain⟨q1,q2⟩:=e;subst q1;subst q2;exact k v H fa O StE.refl I (q _ _ _)
end DL
namespace DL
open PySem PySem.Spec L2
def dM (idx:List Nat) (sl:List Sl):D->Option (List Sl)
 |.tup [a,b]=>some (.v a :: .v b::Y6 idx sl)
 |_=>none
def Pn {idx:List Nat}(h:dM idx sl d=some r):∃a b,d = .tup [a,b]/\r = .v a :: .v b::Y6 idx sl:=by
 cases d with
 |tup ds=>
  match ds,h with
  |[a,b],h=>cases h;exact⟨a,b,rfl,rfl⟩
 |_=>cases h
def bw (idx:List Nat) (fi:DA) (fc:DT) (fe:DE):DA:=fun s=>(fi s).bind fun x=>if x.1.length<=sizeLine then (C2 (dM idx x.2.sl) fc fe x.1 x.2.fs).map fun y=>(y.1,{ x.2 with fs:=y.2 }) else none
section
variable {X:Cx}{g:Gh}{scope:Scope}{cl:List (Str × Addr)}{N':List Str}{idx:List Nat}{iter elt tg:Expr}{ifs:List Expr}{pos:Pos}{fi:DA}{fc:DT}{fe:DE}
def AA {G:TG}(k:CompOk X scope cl N' 2 idx)
  (hG:∀(a:Addr) (x y:V) (σ:L2.St) (H:Hp) (Q:L2.St->Hp->Prop),SqT X.K H a [x,y]->Q ((σ.set 0 (some x)).set 1 (some y)) H->G (.ref a) σ H Q):∀σ H Q,liftF X.K g (bw idx fi fc fe) σ H Q->eG 2 idx (liftI X.K g fi) G (fun σ H Q=>∃g',liftT X.K g' fc σ H Q) (fun σ H Q=>∃g',liftE X.K g' fe σ H Q) σ H Q:=
 vW (mk:=dM idx) fun N fa sl d sl0 x σ H Q hm W hc kk=>by
  obtain⟨da,db,rfl,rfl⟩:=Pn hm;simp only[Rep,Reps] at W;obtain⟨ad,Z,rfl,J,u,Y,rfl,ru,w,ys1,rfl,U,rfl⟩:=W;refine hG ad u w _ _ _ J (kk _ ⟨by simp,fun j v M=>?_⟩ ?_)
  .cases j with
   |zero=>simp[J8] at M
   |succ j=>
    cases j with
    |zero=>simp[J8] at M
    |succ j=>rw[UC (by simp),UC (by simp)];exact M
  .have eb:((J8 2 idx σ).set 0 (some u)).set 1 (some w)=some u::some w::idx.map fun i=>(σ[i]?).join:=by simp[J8]
   rw[eb];simp only[SlR];exact⟨u,_,rfl,ru,w,_,rfl,U,hc⟩
def Le {G:TG}(W:X.calm=true) (k:CompOk X scope cl N' 2 idx) (hi:IO X g tg iter fi) (J:∀C s0 H0 ex,PG (A4 X N' scope cl C s0 H0 ex) tg G)
  (Z:∀(a:Addr) (x y:V) (σ:L2.St) (H:Hp) (Q:L2.St->Hp->Prop),SqT X.K H a [x,y]->Q ((σ.set 0 (some x)).set 1 (some y)) H->G (.ref a) σ H Q)
  (M:∀C s0 H0 ex g',bZ (A4 X N' scope cl C s0 H0 ex) g' ifs fc) (U:∀C s0 H0 ex g',EO (A4 X N' scope cl C s0 H0 ex) g' elt fe) (Y:∀x,foldedSetIterable iter X.env x=pure x:=by intro _;rfl) :
  FO X g (.ListComp elt [⟨tg,iter,ifs,0⟩] scope pos) (bw idx fi fc fe):=by
 exact FO.w (Bp (tc:=fun σ H Q=>∃g',liftT X.K g' fc σ H Q) (te:=fun σ H Q=>∃g',liftE X.K g' fe σ H Q) W k hi.pe J (fun C s0 H0 ex pins s σ H Q I ⟨g',h⟩=>M C s0 H0 ex g' pins s σ H Q I h) (fun C s0 H0 ex pins s σ H Q I ⟨g',h⟩=>(U C s0 H0 ex g').pe pins s σ H Q I h) Y) (AA k Z)
def Af {X:Cx}{scope:Scope}{cl:List (Str × Addr)}{idx:List Nat}(J:closureFor scope X.env=pure cl) (W:SubL X.env.cells cl) (cell:∀y∈scope.names,y.2 ≠ .cell) (kind:scope.kind = .function)
  (names:∀y∈scope.names,y.2 = .local->scope.names.lookup y.1=some .local) (U:hasAll (relabel scope X.env).names cl=true) (M:CapL X scope idx caps):CompOk X scope cl (x::y::caps) 2 idx:=
 ⟨J,fun y c e=>W.mem y c (lx e),cell,kind,names,DW U,by rw[SW,SW,M.len];omega,fun j i y Z Y=>M.at j i y Z (by
  rw[show 2+j=j+1+1 by omega] at Y;simpa using Y)⟩
end
def RwIt (h:Heap) (i l:Addr) (xs:vR_) (k:Nat):Prop:=(h.IsListIter i l k/\h.IsList l xs)\/(h.IsTupleIter i l k/\h.IsTuple l xs)
section
variable {h h':Heap}{i l:Addr}{xs:vR_}{k:Nat}
def RwIt.at (x:RwIt h i l xs k) (J:∀o,h.get? i=some o->h'.get? i=some o) (M:∀o,h.get? l=some o->h'.get? l=some o):RwIt h' i l xs k:=by
 rcases x with ⟨⟨o,q,r⟩,⟨p,u,v⟩⟩ | ⟨⟨o,q,r⟩,⟨p,u,v⟩⟩
 .exact .inl ⟨⟨o,J o q,r⟩,⟨p,M p u,v⟩⟩
 .exact .inr ⟨⟨o,J o q,r⟩,⟨p,M p u,v⟩⟩
def RwIt.lt (x:RwIt h i l xs k):i<h.objs.size:=by
 rcases x with ⟨⟨o,q,r⟩,_⟩ | ⟨⟨o,q,r⟩,_⟩ <;> exact Sw q
end
section
variable {prog:Program}{w:World}{A:Around}{E:vQ_}{s:Shared}
def Rk {it t:Addr}{i:Nat}{items:vR_}{Q:vQ_}(J:s.heap.IsTupleIter it t i) (ht:s.heap.IsTuple t items) (hx:items[i]? = some x)
  (Y:∀h',h'.IsTupleIter it t (i+1)->Heap.SameBut it s.heap h'->Q x { s with heap:=h' }):wpAny (model prog w) A (Builtin.SmallTypes.nextOf (.ref it)) Q E s:=by
 obtain⟨o,M,Z,hd⟩:=id J;obtain⟨ol,W,_,nl,U⟩:=ht;unfold Builtin.SmallTypes.nextOf;refine gV (Uu (name:=Str.ofString "__next__") J.typeIs Wu (Ub Wu J.typeIs YD ?_ (YE _)));show wpAny _ _ (field (.ref it) 0 >>= _) _ _ s;refine gV (Ti M hd (x:=.ref t) rfl ?_);show wpAny _ _ (if (Value.ref t == Value.none)=true then _ else _) _ _ s;rw[So (show ¬ ((Value.ref t == Value.none)=true) from Sy)];show wpAny _ _ (field (.ref it) 1 >>= _) _ _ s;refine gV (Ti M hd (x:=.int i 0) rfl ?_);show wpAny _ _ (seqItems? (.ref t) >>= _) _ _ s;refine gV (TZ W U ?_);simp only[UG,hx];refine gV (Wv M hd (by simp) (Sr ⟨x,rfl,Sr (Y _ ?_ (Ww ..))⟩));exact⟨_,Uw _ M (Obj.isFreed_of_fields (Wx hd _)),(Obj.cls_mapFields ..).trans Z,by rw[Wx hd];simp[rawInt]⟩
def QK {it t:Addr}{i:Nat}{items:vR_}{Q:vQ_}(hh:A.handled=none) (J:s.heap.IsTupleIter it t i) (ht:s.heap.IsTuple t items) (Z:items[i]? = none)
  (Y:∀h' e,Heap.ExtBut it s.heap h'->(∃o,h'.get? e=some o/\o.cls = .type "StopIteration")->E (.ref e) { s with heap:=h' }):wpAny (model prog w) A (Builtin.SmallTypes.nextOf (.ref it)) Q E s:=by
 obtain⟨o,M,hc,hd⟩:=id J;obtain⟨ol,W,_,nl,U⟩:=ht;unfold Builtin.SmallTypes.nextOf;refine gV (Uu (name:=Str.ofString "__next__") J.typeIs Wu (Ub Wu J.typeIs YD ?_ (YE _)));show wpAny _ _ (field (.ref it) 0 >>= _) _ _ s;refine gV (Ti M hd (x:=.ref t) rfl ?_);show wpAny _ _ (if (Value.ref t == Value.none)=true then _ else _) _ _ s;rw[So (show ¬ ((Value.ref t == Value.none)=true) from Sy)];show wpAny _ _ (field (.ref it) 1 >>= _) _ _ s;refine gV (Ti M hd (x:=.int i 0) rfl ?_);show wpAny _ _ (seqItems? (.ref t) >>= _) _ _ s;refine gV (TZ W U ?_);simp only[UG,Z];refine gV (UD (gV (Wv M hd (by simp) ?_)));show wpAny _ _ (newExc (.type "StopIteration") [] >>= _) _ _ _;refine gV ?_;simp only[newExc,newTuple];refine gV (Uj ?_ (by size_fits));refine gV (m:=firstArgMember _ _) (wpAny_of_eq (a:=Value.none) (by first | rfl | (simp only[firstArgMember];rfl)) ?_);refine Uj ?_ (by size_fits);simp only[raiseNew];refine gV (wpAny_handled ?_)
 first | rw[show A.in1.handled=none from hh] | rw[hh]
 refine gV (Sr (wpAny_throw ?_));exact Y _ _ (((Ww ..).extBut.push _).push _) ⟨_,Tc _ rfl,rfl⟩
def eT {it l:Addr}{i:Nat}{xs:vR_}{Q:vQ_}(r:RwIt s.heap it l xs i) (hl:l≠it) (U:xs[i]? = some x)
  (W:∀h',RwIt h' it l xs (i+1)->Heap.SameBut it s.heap h'->Q x { s with heap:=h' }):wpAny (model prog w) A (Builtin.SmallTypes.nextOf (.ref it)) Q E s:=by
 rcases r with ⟨a,b⟩ | ⟨a,b⟩
 .exact wpAny_nextOf_list_item a b U fun h' M J=>W h' (.inl ⟨M,b.extBut J.extBut hl⟩) J
 .exact Rk a b U fun h' M J=>W h' (.inr ⟨M,b.extBut J.extBut hl⟩) J
def kR {it l:Addr}{i:Nat}{xs:vR_}{Q:vQ_}(hh:A.handled=none) (r:RwIt s.heap it l xs i) (M:xs[i]? = none)
  (J:∀h' e,Heap.ExtBut it s.heap h'->(∃o,h'.get? e=some o/\o.cls = .type "StopIteration")->E (.ref e) { s with heap:=h' }):wpAny (model prog w) A (Builtin.SmallTypes.nextOf (.ref it)) Q E s:=by
 rcases r with ⟨a,b⟩ | ⟨a,b⟩
 .exact wpAny_nextOf_list_end hh a b M J
 .exact QK hh a b M J
abbrev N9 (h:Heap) (z TI TO:Addr) (f0 f1:Value):Prop:=h.get? z=some { cls:=.type "zip",dict:=none,data:=.fields #[f0,f1,.bool false,.ref TI,.ref TO],slots:=#[] }
variable {z TI TO i1 i2 l1 l2:Addr}{xs ys:vR_}{k:Nat}
def Pm {x y a b:Value}{Q:vQ_}(D:ZipApart z TI TO i1 i2 l1 l2)
  (hz:N9 s.heap z TI TO .none (.bool false)) (hTI:IsPair s.heap TI (.ref i1) (.ref i2)) (hTO:IsPair s.heap TO a b) (h1:RwIt s.heap i1 l1 xs k) (h2:RwIt s.heap i2 l2 ys k) (hx:xs[k]? = some x) (hy:ys[k]? = some y)
  (hQ:∀h',N9 h' z TI TO (rawInt s.heap.objs.size) (.bool false)->RwIt h' i1 l1 xs (k+1)->RwIt h' i2 l2 ys (k+1)->IsPair h' s.heap.objs.size x y ->
   (∀c o,c≠z->c≠TO->c≠i1->c≠i2->s.heap.get? c=some o->h'.get? c=some o)->IsPair h' TO x y->Q (.ref s.heap.objs.size) { s with heap:=h' }) :
  wpAny (model prog w) A (Builtin.«zip.__next__» ⟨[.ref z],[]⟩) (fun fin s'=>∃v,fin = .done (.ret v)/\Q v s') E s:=by
 show wpAny _ _ (field (.ref z) 2 >>= _) _ _ _;refine gV (Ti hz rfl (x:=.bool false) rfl ?_);show wpAny _ _ (field (.ref z) 3 >>= _) _ _ _;refine gV (Ti hz rfl (x:=.ref TI) rfl ?_);refine gV (TZ hTI rfl ?_);show wpAny _ _ (Builtin.SmallTypes.ownedTupleIsFree (.ref z) >>= _) _ _ _;refine gV ?_;unfold Builtin.SmallTypes.ownedTupleIsFree;refine gV (Ti hz rfl (x:=.none) rfl (Sr ?_));simp only[TB];refine gV (UD ?_);refine gV (Ti hz rfl (x:=.ref TO) rfl ?_);refine gV (Vf hz (by simp) fun g1 z1 M=>?_)
 replace z1:N9 g1 z TI TO .ellipsis (.bool false):=z1
 refine gV ?_;simp only[List.zipIdx_cons,List.zipIdx_nil,Wy,Wz];refine gV (gV (WA ?_));show wpAny _ _ (Builtin.SmallTypes.nextOf (.ref i1) >>= _) _ _ _;refine gV (eT (h1.at (fun o e=>M.extBut _ o D.i1z e) fun o e=>M.extBut _ o D.l1z e) D.l1i1 hx fun g2 r2 k2=>Sr ?_);have o2:IsPair g2 TO a b:=k2.extBut _ _ D.TOi1 (M.extBut _ _ D.TOz hTO);refine gV (TZ o2 rfl ?_);refine gV (XO o2 fun g3 o3 U=>?_)
 replace o3:IsPair g3 TO x b:=o3
 refine gV (Vx (Sr ?_));refine gV (gV (WA ?_));show wpAny _ _ (Builtin.SmallTypes.nextOf (.ref i2) >>= _) _ _ _;refine gV (eT (h2.at (fun o e=>U.extBut _ o D.TOi2.symm (k2.extBut _ o D.i12.symm (M.extBut _ o D.i2z e))) fun o e=>U.extBut _ o D.l2TO (k2.extBut _ o D.l2i1 (M.extBut _ o D.l2z e))) D.l2i2 hy fun g4 r4 Z=>Sr ?_);have o4:IsPair g4 TO x b:=Z.extBut _ _ D.TOi2 o3;refine gV (TZ o4 rfl ?_);refine gV (XO o4 fun J o5 Y=>?_)
 replace o5:IsPair J TO x y:=o5
 refine gV (Vx (Sr (Sr ?_)));refine gV (TZ o5 rfl ?_);refine gV (wpAny_newTuple ?_);have sz:J.objs.size=s.heap.objs.size:=by rw[Y.1,Z.1,U.1,k2.1,M.1]
 have z5:N9 J z TI TO .ellipsis (.bool false):=Y.extBut _ _ D.TOz.symm (Z.extBut _ _ D.i2z.symm (U.extBut _ _ D.TOz.symm (k2.extBut _ _ D.i1z.symm z1)));have q5:∀c o,c≠z->c≠TO->c≠i1->c≠i2->s.heap.get? c=some o->J.get? c=some o:=fun c o W c2 c3 c4 e=>
  Y.extBut _ _ c2 (Z.extBut _ _ c4 (U.extBut _ _ c2 (k2.extBut _ _ c3 (M.extBut _ _ W e))))
 have p1:RwIt J i1 l1 xs (k+1):=r2.at (fun o e=>Y.extBut _ o D.TOi1.symm (Z.extBut _ o D.i12 (U.extBut _ o D.TOi1.symm e))) fun o e=>Y.extBut _ o D.l1TO (Z.extBut _ o D.l1i2 (U.extBut _ o D.l1TO e))
 have p2:RwIt J i2 l2 ys (k+1):=r4.at (fun o e=>Y.extBut _ o D.TOi2.symm e) fun o e=>Y.extBut _ o D.l2TO e
 have zl:z<J.objs.size:=Sw z5;show wpAny _ _ (Builtin.SmallTypes.ownedTupleHandOut (.ref z) (.ref J.objs.size) >>= _) _ _ _;refine gV ?_;unfold Builtin.SmallTypes.ownedTupleHandOut;have z6:N9 (J.push { cls:=.type "tuple",data:=.seq #[x,y] }) z TI TO .ellipsis (.bool false):=Sx _ z5;refine gV (Vf z6 (by simp) fun g7 z7 k7=>?_)
 replace z7:N9 g7 z TI TO (rawInt J.objs.size) (.bool false):=z7
 refine Vf z7 (by simp) fun g8 z8 k8=>?_
 replace z8:N9 g8 z TI TO (rawInt J.objs.size) (.bool false):=z8
 have up:∀c o,c≠z->J.get? c=some o->g8.get? c=some o:=fun c o W e=>k8.extBut _ _ W (k7.extBut _ _ W (Sx _ e))
 have t8:IsPair g8 J.objs.size x y:=k8.extBut _ _ (TL zl) (k7.extBut _ _ (TL zl) (Tc _ rfl));rw[sz] at z8 t8;refine Sr ⟨_,rfl,?_⟩;show Q (.ref J.objs.size) _;rw[sz];exact hQ g8 z8 (p1.at (fun o e=>up _ o D.i1z e) fun o e=>up _ o D.l1z e) (p2.at (fun o e=>up _ o D.i2z e) fun o e=>up _ o D.l2z e) t8 (fun c o W c2 c3 c4 e=>up c o W (q5 c o W c2 c3 c4 e)) (up _ _ D.TOz o5)
def LI {a b:Value}(hh:A.handled=none) (D:ZipApart z TI TO i1 i2 l1 l2)
  (hz:N9 s.heap z TI TO .none (.bool false)) (hTI:IsPair s.heap TI (.ref i1) (.ref i2)) (hTO:IsPair s.heap TO a b) (h1:RwIt s.heap i1 l1 xs k) (h2:RwIt s.heap i2 l2 ys k) (hend:xs[k]? = none\/ys[k]? = none)
  (hE:∀h' e,(∀c o,c≠z->c≠TO->c≠i1->c≠i2->s.heap.get? c=some o->h'.get? c=some o)->(∃o,h'.get? e=some o/\o.cls = .type "StopIteration")->E (.ref e) { s with heap:=h' }) :
  wpAny (model prog w) A (Builtin.«zip.__next__» ⟨[.ref z],[]⟩) Q E s:=by
 show wpAny _ _ (field (.ref z) 2 >>= _) _ _ _;refine gV (Ti hz rfl (x:=.bool false) rfl ?_);show wpAny _ _ (field (.ref z) 3 >>= _) _ _ _;refine gV (Ti hz rfl (x:=.ref TI) rfl ?_);refine gV (TZ hTI rfl ?_);show wpAny _ _ (Builtin.SmallTypes.ownedTupleIsFree (.ref z) >>= _) _ _ _;refine gV ?_;unfold Builtin.SmallTypes.ownedTupleIsFree;refine gV (Ti hz rfl (x:=.none) rfl (Sr ?_));simp only[TB];refine gV (UD ?_);refine gV (Ti hz rfl (x:=.ref TO) rfl ?_);refine gV (Vf hz (by simp) fun g1 z1 U=>?_)
 replace z1:N9 g1 z TI TO .ellipsis (.bool false):=z1
 refine gV ?_;simp only[List.zipIdx_cons,List.zipIdx_nil,Wy,Wz];refine gV (gV (WA ?_));show wpAny _ _ (Builtin.SmallTypes.nextOf (.ref i1) >>= _) _ _ _;cases hx:xs[k]? with
 |none=>
  refine gV (kR hh (h1.at (fun o e=>U.extBut _ o D.i1z e) fun o e=>U.extBut _ o D.l1z e) hx fun g2 e W he=>?_);obtain⟨oe,J,M⟩:=he;have z2:N9 g2 z TI TO .ellipsis (.bool false):=W _ _ D.i1z.symm z1;have Z:e≠z:=fun x=>by subst x;rw[z2] at J;cases J;simp at M
  exact Vf z2 (by simp) fun g3 _ Y=>hE g3 e (fun c o c1 _ c3 _ x=>Y.extBut _ _ c1 (W _ _ c3 (U.extBut _ _ c1 x))) ⟨oe,Y.extBut _ _ Z J,M⟩
 |some x=>
  have hy:ys[k]? = none:=by
   rcases hend with h | h
   .rw[hx] at h;cases h
   .exact h
  refine gV (eT (h1.at (fun o e=>U.extBut _ o D.i1z e) fun o e=>U.extBut _ o D.l1z e) D.l1i1 hx fun g2 r2 W=>Sr ?_);have o2:IsPair g2 TO a b:=W.extBut _ _ D.TOi1 (U.extBut _ _ D.TOz hTO);refine gV (TZ o2 rfl ?_);refine gV (XO o2 fun g3 o3 Y=>?_);refine gV (Vx (Sr ?_));refine gV (gV (WA ?_));show wpAny _ _ (Builtin.SmallTypes.nextOf (.ref i2) >>= _) _ _ _;refine gV (kR hh (h2.at (fun o e=>Y.extBut _ o D.TOi2.symm (W.extBut _ o D.i12.symm (U.extBut _ o D.i2z e))) fun o e=>Y.extBut _ o D.l2TO (W.extBut _ o D.l2i1 (U.extBut _ o D.l2z e))) hy fun g4 e k4 he=>?_);obtain⟨oe,J,M⟩:=he;have z4:N9 g4 z TI TO .ellipsis (.bool false):=k4 _ _ D.i2z.symm (Y.extBut _ _ D.TOz.symm (W.extBut _ _ D.i1z.symm z1));have Z:e≠z:=fun x=>by subst x;rw[z4] at J;cases J;simp at M
  exact Vf z4 (by simp) fun g5 _ k5=>hE g5 e (fun c o c1 c2 c3 c4 x=>k5.extBut _ _ c1 (k4 _ _ c4 (Y.extBut _ _ c2 (W.extBut _ _ c3 (U.extBut _ _ c1 x))))) ⟨oe,k5.extBut _ _ Z J,M⟩
end
section
variable {prog:Program}{w:World}{A:Around}{E:vQ_}{s:Shared}
variable {z TI TO i1 i2 l1 l2:Addr}{xs ys:vR_}{k:Nat}
def Na {o:Obj}{Q:Option Obj->Shared->Prop}(J:s.heap.get? a=some o) (h:Q (some o) s):wpAny (model prog w) A (loadIfAlive a) Q E s:=by
 have h':Q (s.heap.get? a) s:=by rw[J];exact h
 exact fun _ _ _=>h'
def yn {T:Addr}{f:Bool}{W:Obj}{Q:Bool->Shared->Prop}(hz:N9 s.heap z TI TO (rawInt T) (.bool f)) (Y:s.heap.get? T=some W)
  (J:∀h',N9 h' z TI TO (rawInt T) (.bool true)->Heap.SameBut z s.heap h'->Q false { s with heap:=h' }):wpAny (model prog w) A (Builtin.SmallTypes.ownedTupleIsFree (.ref z)) Q E s:=by
 unfold Builtin.SmallTypes.ownedTupleIsFree;refine gV (Ti hz rfl (x:=rawInt T) rfl ?_);show wpAny _ _ (loadIfAlive ((T:Int).toNat) >>= _) _ _ _;rw[UG];refine gV (Na Y ?_);simp only[Option.isNone_some,Ux,Tz];refine gV (Ti hz rfl (x:=.bool f) rfl ?_);cases f with
 |true=>
  rw[So (show ¬ ((Value.bool true != Value.bool true)=true) from Sy)];exact Sr (J s.heap hz (Heap.SameBut.refl _ _))
 |false=>
  rw[tx (show (Value.bool false != Value.bool true)=true from rfl)];exact gV (Vf hz (by simp) fun g M U=>Sr (J g M U))
def IZ {x y:Value}{T:Addr}{f:Bool}{oT:Obj}{Q:vQ_}(D:ZipApart z TI TO i1 i2 l1 l2)
  (hz:N9 s.heap z TI TO (rawInt T) (.bool f)) (hT:s.heap.get? T=some oT) (W:IsPair s.heap TI (.ref i1) (.ref i2)) (h1:RwIt s.heap i1 l1 xs k) (h2:RwIt s.heap i2 l2 ys k) (hx:xs[k]? = some x) (hy:ys[k]? = some y)
  (hQ:∀h',N9 h' z TI TO (rawInt T) (.bool true)->RwIt h' i1 l1 xs (k+1)->RwIt h' i2 l2 ys (k+1)->IsPair h' s.heap.objs.size x y ->
   (∀c o,c≠z->c≠TO->c≠i1->c≠i2->s.heap.get? c=some o->h'.get? c=some o)->Q (.ref s.heap.objs.size) { s with heap:=h' }) :
  wpAny (model prog w) A (Builtin.«zip.__next__» ⟨[.ref z],[]⟩) (fun fin s'=>∃v,fin = .done (.ret v)/\Q v s') E s:=by
 show wpAny _ _ (field (.ref z) 2 >>= _) _ _ _;refine gV (Ti hz rfl (x:=.bool false) rfl ?_);show wpAny _ _ (field (.ref z) 3 >>= _) _ _ _;refine gV (Ti hz rfl (x:=.ref TI) rfl ?_);refine gV (TZ W rfl ?_);show wpAny _ _ (Builtin.SmallTypes.ownedTupleIsFree (.ref z) >>= _) _ _ _;refine gV (yn hz hT fun g1 z1 J=>?_);simp only[Ux,Tz];simp only[List.forIn_toArray,Wy,Wz];refine gV (gV (gV (Ut ?_)));show wpAny _ _ (Builtin.SmallTypes.nextOf (.ref i1) >>= _) _ _ _;refine gV (eT (h1.at (fun o e=>J.extBut _ o D.i1z e) fun o e=>J.extBut _ o D.l1z e) D.l1i1 hx fun g2 r2 M=>Sr ?_);refine Sr ?_;refine gV (gV (Ut ?_));show wpAny _ _ (Builtin.SmallTypes.nextOf (.ref i2) >>= _) _ _ _;refine gV (eT (h2.at (fun o e=>M.extBut _ o D.i12.symm (J.extBut _ o D.i2z e)) fun o e=>M.extBut _ o D.l2i1 (J.extBut _ o D.l2z e)) D.l2i2 hy fun Y r4 U=>Sr ?_);refine Sr (Sr ?_);show wpAny _ _ (newTuple [x,y] >>= _) _ _ _;refine gV (wpAny_newTuple (items:=[x,y]) ?_ (show 2<=sizeLine by decide));have sz:Y.objs.size=s.heap.objs.size:=by rw[U.1,M.1,J.1]
 have q4:∀c o,c≠z->c≠i1->c≠i2->s.heap.get? c=some o->Y.get? c=some o:=fun c o c1 c3 Z e=>U.extBut _ _ Z (M.extBut _ _ c3 (J.extBut _ _ c1 e))
 refine Sr ⟨_,rfl,?_⟩;show Q (.ref Y.objs.size) _;rw[sz];refine hQ _ (Sx _ (U.extBut _ _ D.i2z.symm (M.extBut _ _ D.i1z.symm z1)))
  (r2.at (fun o e=>Sx _ (U.extBut _ o D.i12 e)) fun o e=>Sx _ (U.extBut _ o D.l1i2 e))
  (r4.at (fun o e=>Sx _ e) fun o e=>Sx _ e) ?_ fun c o c1 c2 c3 Z e=>Sx _ (q4 c o c1 c3 Z e)
 rw[<-sz];exact Tc _ rfl
def PN {T:Addr}{f:Bool}{oT:Obj}{Q:Fin->Shared->Prop}(hh:A.handled=none) (D:ZipApart z TI TO i1 i2 l1 l2)
  (hz:N9 s.heap z TI TO (rawInt T) (.bool f)) (hT:s.heap.get? T=some oT) (W:IsPair s.heap TI (.ref i1) (.ref i2)) (h1:RwIt s.heap i1 l1 xs k) (h2:RwIt s.heap i2 l2 ys k) (U:xs[k]? = none\/ys[k]? = none)
  (hE:∀h' e,(∀c o,c≠z->c≠TO->c≠i1->c≠i2->s.heap.get? c=some o->h'.get? c=some o)->(∃o,h'.get? e=some o/\o.cls = .type "StopIteration")->E (.ref e) { s with heap:=h' }) :
  wpAny (model prog w) A (Builtin.«zip.__next__» ⟨[.ref z],[]⟩) Q E s:=by
 show wpAny _ _ (field (.ref z) 2 >>= _) _ _ _;refine gV (Ti hz rfl (x:=.bool false) rfl ?_);show wpAny _ _ (field (.ref z) 3 >>= _) _ _ _;refine gV (Ti hz rfl (x:=.ref TI) rfl ?_);refine gV (TZ W rfl ?_);show wpAny _ _ (Builtin.SmallTypes.ownedTupleIsFree (.ref z) >>= _) _ _ _;refine gV (yn hz hT fun g1 z1 J=>?_);simp only[Ux,Tz];simp only[List.forIn_toArray,Wy,Wz];refine gV (gV (gV (Ut ?_)));show wpAny _ _ (Builtin.SmallTypes.nextOf (.ref i1) >>= _) _ _ _;cases Z:xs[k]? with
 |none=>
  refine gV (kR hh (h1.at (fun o e=>J.extBut _ o D.i1z e) fun o e=>J.extBut _ o D.l1z e) Z fun g2 e M he=>?_);exact hE g2 e (fun c o c1 _ Y _ x=>M _ _ Y (J.extBut _ _ c1 x)) he
 |some x=>
  have hy:ys[k]? = none:=by
   rcases U with h | h
   .rw[Z] at h;cases h
   .exact h
  refine gV (eT (h1.at (fun o e=>J.extBut _ o D.i1z e) fun o e=>J.extBut _ o D.l1z e) D.l1i1 Z fun g2 r2 M=>Sr ?_);refine Sr ?_;refine gV (gV (Ut ?_));show wpAny _ _ (Builtin.SmallTypes.nextOf (.ref i2) >>= _) _ _ _;refine gV (kR hh (h2.at (fun o e=>M.extBut _ o D.i12.symm (J.extBut _ o D.i2z e)) fun o e=>M.extBut _ o D.l2i1 (J.extBut _ o D.l2z e)) hy fun g4 e k4 he=>?_);exact hE g4 e (fun c o c1 c2 Y c4 x=>k4 _ _ c4 (M.extBut _ _ Y (J.extBut _ _ c1 x))) he
structure ZSt (h:Heap) (z TI TO i1 i2 l1 l2 S:Addr) (xs ys:vR_) (k:Nat):Prop where
 ti:IsPair h TI (.ref i1) (.ref i2)
 r1:RwIt h i1 l1 xs k
 r2:RwIt h i2 l2 ys k
 zz:(N9 h z TI TO .none (.bool false)/\∃a b,IsPair h TO a b)\/∃(T:Addr) (f:Bool) (oT:Obj),N9 h z TI TO (rawInt T) (.bool f)/\h.get? T=some oT/\T≠z/\T≠TO/\T≠i1/\T≠i2/\T≠S
def OP {Q:Option Value->Shared->Prop}(D:ZipApart z TI TO i1 i2 l1 l2) (st:ZSt s.heap z TI TO i1 i2 l1 l2 S xs ys k) (hS:S<s.heap.objs.size) (hTO:TO<s.heap.objs.size) (hx:xs[k]? = some x) (hy:ys[k]? = some y)
  (hQ:∀h',ZSt h' z TI TO i1 i2 l1 l2 S xs ys (k+1)->IsPair h' s.heap.objs.size x y->(∀c o,c ∉ [z,TO,i1,i2]->s.heap.get? c=some o->h'.get? c=some o)->Q (some (.ref s.heap.objs.size)) { s with heap:=h' }) :
  wpAny (model prog w) A (pyNext (.ref z)) Q E s:=by
 obtain⟨Y,r1,r2,zz⟩:=st;have K:∀{h':Heap},(∀c o,c≠z->c≠TO->c≠i1->c≠i2->s.heap.get? c=some o->h'.get? c=some o)->∀c o,c ∉ [z,TO,i1,i2]->s.heap.get? c=some o->h'.get? c=some o:=fun k c o U e=>by
  simp only[Sv,Um,Uo,not_or] at U;exact k c o U.1 U.2.1 U.2.2.1 U.2.2.2 e
 unfold pyNext;rcases zz with ⟨M,a,b,ho⟩ | ⟨T,f,oT,M,hT,t1,t2,t3,t4,t5⟩
 .have W:s.TypeIs (.ref z) "zip" := ⟨_,M,rfl⟩
  exact gV (Vy (Uu (name:=Str.ofString "__next__") W UL (Ub UL W WB
   (Pm D M Y ho r1 r2 hx hy fun h' a1 a2 a3 Z J _=>Sr (hQ h' ⟨J _ _ D.TIz D.TITO D.TIi1 D.TIi2 Y,a2,a3,.inr ⟨_,_,_,a1,Z,TL (Sw M),TL hTO,TL r1.lt,TL r2.lt,TL hS⟩⟩ Z (K J))) (WC _))))
 .have W:s.TypeIs (.ref z) "zip" := ⟨_,M,rfl⟩
  exact gV (Vy (Uu (name:=Str.ofString "__next__") W UL (Ub UL W WB
   (IZ D M hT Y r1 r2 hx hy fun h' a1 a2 a3 Z J=>Sr (hQ h' ⟨J _ _ D.TIz D.TITO D.TIi1 D.TIi2 Y,a2,a3,.inr ⟨T,true,oT,a1,J _ _ t1 t2 t3 t4 hT,t1,t2,t3,t4,t5⟩⟩ Z (K J))) (WC _))))
def LB {Q:Option Value->Shared->Prop}(hh:A.handled=none) (D:ZipApart z TI TO i1 i2 l1 l2) (st:ZSt s.heap z TI TO i1 i2 l1 l2 S xs ys k) (M:xs[k]? = none\/ys[k]? = none)
  (hQ:∀h',(∀c o,c ∉ [z,TO,i1,i2]->s.heap.get? c=some o->h'.get? c=some o)->Q none { s with heap:=h' }):wpAny (model prog w) A (pyNext (.ref z)) Q E s:=by
 obtain⟨ti,r1,r2,zz⟩:=st;have K:∀{h':Heap},(∀c o,c≠z->c≠TO->c≠i1->c≠i2->s.heap.get? c=some o->h'.get? c=some o)->∀c o,c ∉ [z,TO,i1,i2]->s.heap.get? c=some o->h'.get? c=some o:=fun k c o J e=>by
  simp only[Sv,Um,Uo,not_or] at J;exact k c o J.1 J.2.1 J.2.2.1 J.2.2.2 e
 unfold pyNext;rcases zz with ⟨W,a,b,U⟩ | ⟨T,f,oT,W,hT,t1,t2,t3,t4,t5⟩
 .have Y:s.TypeIs (.ref z) "zip" := ⟨_,W,rfl⟩
  refine gV (Vy (Uu (name:=Str.ofString "__next__") Y UL (Ub UL Y WB (LI hh D W ti U r1 r2 M fun h' e hk Z=>?_) (WC _))));obtain⟨o,U,J⟩:=Z;refine gV (WD (T := "StopIteration") (b:=true) ⟨o,U,J⟩ isSubtype_stop ?_);exact Sr (hQ _ (K hk))
 .have Y:s.TypeIs (.ref z) "zip" := ⟨_,W,rfl⟩
  refine gV (Vy (Uu (name:=Str.ofString "__next__") Y UL (Ub UL Y WB (PN hh D W hT ti r1 r2 M fun h' e hk Z=>?_) (WC _))));obtain⟨o,U,J⟩:=Z;refine gV (WD (T := "StopIteration") (b:=true) ⟨o,U,J⟩ isSubtype_stop ?_);exact Sr (hQ _ (K hk))
end
structure LW (prog:Program) (w:World) (A:Around) (I S:Addr) (wr:vL_) (n:Nat) (P:Nat->Value->Heap->Prop) (St:Nat->Heap->Prop):Prop where
 item:∀(i:Nat) (s:Shared) (Q:Option Value->Shared->Prop) (E:vQ_),i<n->St i s.heap->S<s.heap.objs.size ->
  (∀v h',P i v h'->St (i+1) h'->(∀j u,P j u s.heap->u≠v)->(∀b o,b ∉ wr->s.heap.get? b=some o->h'.get? b=some o)->Q (some v) { s with heap:=h' })->wpAny (model prog w) A (pyNext (.ref I)) Q E s
 done:∀(s:Shared) (Q:Option Value->Shared->Prop) (E:vQ_),St n s.heap->(∀h',(∀b o,b ∉ wr->s.heap.get? b=some o->h'.get? b=some o)->Q none { s with heap:=h' })->wpAny (model prog w) A (pyNext (.ref I)) Q E s
 stay:∀i h h',St i h->(∀b o,b≠S->h.get? b=some o->h'.get? b=some o)->St i h'
 pay:∀i v h h',P i v h->(∀b o,b≠S->b ∉ wr->h.get? b=some o->h'.get? b=some o)->P i v h'
 self:∀(A:Around) (s:Shared) (Q:vQ_) (E:vQ_),St 0 s.heap->Q (.ref I) s->wpAny (model prog w) A (pyIter (.ref I)) Q E s
 out:S ∉ wr
section
variable {prog:Program}{w:World}{A:Around}{I S:Addr}{wr:vL_}{n:Nat}{P:Nat->Value->Heap->Prop}{St:Nat->Heap->Prop}{s:Shared}{R:Result->Shared->Prop}
def iD (P:Nat->Value->Heap->Prop) (h:Heap) (J:vR_) (i:Nat):Prop:=J.size=i/\(∀j v,J[j]? = some v->P j v h)/\J.toList.Nodup
abbrev R7 (h:Heap) (S:Addr) (acc:vR_) (c:Nat):Prop:=h.get? S=some { cls:=.type "list",dict:=none,data:=.seq acc c,slots:=#[] }
def Rl (W:LW prog w A.in1 I S wr n P St) (hn:n<=sizeLine) (res:Value) {h₁:Heap}
  (hR:∀h' acc c,(∀b o,b≠S->b ∉ wr->h₁.get? b=some o->h'.get? b=some o)->R7 h' S acc c->iD P h' acc n->R (.ok (.ret res)) { s with heap:=h' }) :
  ∀(k i:Nat) (h:Heap) (c:Nat) (acc:vR_),n - i=k->i<=n->St i h->(∀b o,b≠S->b ∉ wr->h₁.get? b=some o->h.get? b=some o)->R7 h S acc c->iD P h acc i ->
   codeAny (model prog w) A (.builtin "list.extend.loop" ⟨[.ref S,.ref I,res],[]⟩) R { s with heap:=h }:=by
 intro k;induction k with
 |zero=>
  intro i h c acc hk hi Y kp hS U;have e:i=n:=by omega
  subst e;refine codeAny_builtin YF ?_;rw[Around.under_plainId Vz _];show wpAny _ A.in1 (pyNext (.ref I) >>= _) _ _ _;refine gV (W.done { s with heap:=h } _ _ Y fun h' M=>?_);exact Sr (hR h' acc c (fun b o h1 h2 e=>M b o h2 (kp b o h1 h2 e)) (M S _ W.out hS) ⟨U.1,fun j v e=>W.pay j v h h' (U.2.1 j v e) fun b o _ h2 e=>M b o h2 e,U.2.2⟩)
 |succ k ih=>
  intro i h c acc hk hi Y kp hS U;have hlt:i<n:=by omega
  refine codeAny_builtin YF ?_;rw[Around.under_plainId Vz _];show wpAny _ A.in1 (pyNext (.ref I) >>= _) _ _ _;refine gV (W.item i { s with heap:=h } _ _ hlt Y (Sw hS) fun v h' hP hst' hne M=>?_)
  dsimp only at M hne ⊢
  have hS':R7 h' S acc c:=M S _ W.out hS;have up:∀b o,b≠S->h'.get? b=some o->(h'.update S (Obj.mapSeq (·.push v))).get? b=some o:=fun b o hb e=>(UI _ _ (SS hb)).trans e
  show wpAny _ A.in1 (updateSeq S (·.push v) >>= _) _ _ _;refine gV ?_;have J:=U.1;refine UP hS' rfl (Sr ⟨WE Vz _,ih (i+1) _ _ (acc.push v) (by omega) hlt (W.stay _ h' _ hst' up)
   (fun b o h1 h2 e=>up b o h1 (M b o h2 (kp b o h1 h2 e))) (Uw _ hS' rfl) ⟨by rw[Array.size_push,J],fun j x Z=>?_,?_⟩⟩) (by rw[J];omega) (by show (acc.push v).size<=sizeLine+1;rw[Array.size_push,J];omega)
  .rw[Array.getElem?_push] at Z;split at Z
   .rename_i e;cases Z;rw[e,J];exact W.pay i v h' _ hP fun b o h1 _ e=>up b o h1 e
   .exact W.pay j x h _ (U.2.1 j x Z) fun b o h1 h2 e=>up b o h1 (M b o h2 e)
  .rw[Array.toList_push];refine WG.mpr ⟨U.2.2,by simp,fun a ha b hb=>?_⟩;have e:b=v:=by simpa using hb
   subst e;obtain⟨j,Z⟩:=WH.mp ha;exact hne j a (U.2.1 j a (by simpa using Z))
def Ru (W:LW prog w A.in1 I S wr n P St) (hn:n<=sizeLine) (hT:s.TypeIs (.ref I) T) (hl:(Value.type T == Value.type "list")=false) (ht:(Value.type T == Value.type "tuple")=false)
  (nl:typeLookup (.type T) "__len__" = pure none) (nh:typeLookup (.type T) "__length_hint__" = pure none) (J:St 0 s.heap) (Z:S≠I) (res:Value) (c₀:Nat) (hS:R7 s.heap S #[] c₀)
  (hR:∀h' acc c,(∀b o,b≠S->b ∉ wr->s.heap.get? b=some o->h'.get? b=some o)->R7 h' S acc c->iD P h' acc n->R (.ok (.ret res)) { s with heap:=h' }) :
  wpAny (model prog w) A.in1 (Builtin.List.listExtendWith (.ref S) (.ref I) res)
   (fun fin s'=>match fin with | .done f=>R (.ok f) s' | .again c'=>c'.quiet=true/\codeAny (model prog w) A c' R s') (fun e s'=>R (.error e) s') s:=by
 have key:∀(h:Heap) (U:Nat),(∀b o,b≠S->s.heap.get? b=some o->h.get? b=some o)->R7 h S #[] U ->
   codeAny (model prog w) A (.builtin "list.extend.loop" ⟨[.ref S,.ref I,res],[]⟩) R { s with heap:=h }:=fun h U hk hS₁=>
  Rl (h₁:=s.heap) W hn res hR n 0 h U #[] (UO _) (TR _) (W.stay 0 _ h J hk) (fun b o h1 _ e=>hk b o h1 e) hS₁ ⟨rfl,fun j v e=>by simp at e,by simp⟩
 unfold Builtin.List.listExtendWith;refine gV (Vt hT ?_);have h1:Builtin.List.listSameRef (.ref S) (.ref I)=false:=by simp[Builtin.List.listSameRef,Z]
 simp only[h1,hl,ht,XQ,Ux,Tz];refine gV (W.self _ _ _ _ J ?_);refine gV (Ut ?_);unfold Builtin.List.listLengthHint;refine gV (VN hT nl ?_);show wpAny _ A.in1 (specialOf (Value.ref I) (Str.ofString "__length_hint__") >>= _) _ _ _;refine gV (VN hT nh ?_);refine Sr ?_;show wpAny _ A.in1 (rule "list.extend.makes-room" >>= fun _=>Builtin.List.listTouch (.ref S) >>= fun _=>
  again (.builtin "list.extend.loop" ⟨[.ref S,.ref I,res],[]⟩)) _ _ _
 refine gV (UD ?_);refine gV ?_;show wpAny _ A.in1 (updateSeq S (·.push .none) >>= fun _=>updateSeq S (·.pop)) _ _ _;refine gV (UP hS rfl ?_);have M:=Uw (Obj.mapSeq (·.push Value.none)) hS rfl;refine UP (hz:=by seq_fits) M rfl ?_;have Y:=Uw (Obj.mapSeq (·.pop)) M rfl;refine Sr ⟨WE Vz _,key _ _ (fun b o hb e=>?_) Y⟩;exact(UI _ _ (SS hb)).trans ((UI _ _ (SS hb)).trans e)
def Ir {E:vQ_}{Q:vQ_}(W:LW prog w A.in1.in1 I s.heap.objs.size wr n P St) (hn:n<=sizeLine) (hT:s.TypeIs (.ref I) T) (hl:(Value.type T == Value.type "list")=false) (ht:(Value.type T == Value.type "tuple")=false)
  (nl:typeLookup (.type T) "__len__" = pure none) (nh:typeLookup (.type T) "__length_hint__" = pure none) (hst:St 0 s.heap)
  (hQ:∀h' acc c,(∀b o,b ∉ wr->s.heap.get? b=some o->h'.get? b=some o)->R7 h' s.heap.objs.size acc c->iD P h' acc n->Q (.ref s.heap.objs.size) { s with heap:=h' }) :
  wpAny (model prog w) A (call (.type "list") [.ref I]) Q E s:=by
 refine callType_codes (Q₁:=fun U s₁=>U = .ref s.heap.objs.size/\s₁={ s with heap:=s.heap.push { cls:=.type "list",data:=.seq #[] } }) XR (XS _) XT
  (code_list_new _ ⟨rfl,rfl⟩) fun U s₁ h₁=>?_
 obtain⟨rfl,rfl⟩:=h₁;have Y:(s.heap.push { cls:=.type "list",data:=.seq #[] }).get? s.heap.objs.size=some { cls:=.type "list",data:=.seq #[] }:=Tc _ rfl;obtain⟨oI,M,Z⟩:=id hT;have hI:I<s.heap.objs.size:=Sw M;refine⟨⟨_,Y,rfl⟩,XU _ _,?_⟩;show wpAny _ _ (do let old <-Builtin.List.listItems (.ref s.heap.objs.size);Builtin.List.listUpdate (.ref s.heap.objs.size) (fun _=>#[]);letGo old.toList.reverse;Builtin.List.listExtendWith (.ref s.heap.objs.size) (.ref I) .none) _ _ _;refine gV ?_;unfold Builtin.List.listItems;refine gV (TZ Y rfl (Sr ?_));show wpAny _ _ (updateSeq s.heap.objs.size (fun _=>#[]) >>= fun _=>letGo (#[]:vR_).toList.reverse >>= fun _=>Builtin.List.listExtendWith (.ref s.heap.objs.size) (.ref I) .none) _ _ _;refine gV (UP Y rfl ?_);have hS₂:=Uw (Obj.mapSeq (fun _=>(#[]:vR_))) Y rfl;have J:∀b o,b≠s.heap.objs.size->s.heap.get? b=some o->((s.heap.push { cls:=.type "list",data:=.seq #[] }).update s.heap.objs.size (Obj.mapSeq (fun _=>(#[]:vR_)))).get? b=some o:=
  fun b o hb e=>(UI _ _ (SS hb)).trans (Sx _ e)
 refine gV (Vx ?_);refine Ru (A:=A.in1) W hn ⟨oI,J I _ (SV hI) M,Z⟩ hl ht nl nh (W.stay 0 s.heap _ hst J) (TL hI) .none _ hS₂ fun h' acc c hk hS' hG=>?_
 exact⟨rfl,hQ h' acc c (fun b o h2 e=>hk b o (SV (Sw e)) h2 (J b o (SV (Sw e)) e)) hS' hG⟩
end
def Nm:typeLookup (.type "zip") "__len__" = pure none:=by rw[WI,WJ];kernel_rfl
def Mk:typeLookup (.type "zip") "__length_hint__" = pure none:=by rw[WI,WJ];kernel_rfl
def MG {w:World}{A:Around}{z TI TO i1 i2 l1 l2 S:Addr}{xs ys:vR_}(hh:A.handled=none) (D:ZipApart z TI TO i1 i2 l1 l2) (hTO:TO<S) (hS:S ∉ [z,TI,TO,i1,i2,l1,l2]) (top:∀b∈[z,TO,i1,i2],b<S) :
  LW prog w A z S [z,TO,i1,i2] (min xs.size ys.size) (fun j v h=>∃a x y,v = .ref a/\S<=a/\a≠S/\xs[j]? = some x/\ys[j]? = some y/\IsPair h a x y) (fun k h=>ZSt h z TI TO i1 i2 l1 l2 S xs ys k) where
 item:=fun i s Q E hi st Z M=>by
  have W:i<xs.size:=Ta hi (WK ..);have Y:i<ys.size:=Ta hi (XA ..);exact OP D st Z (Nat.lt_trans hTO Z) (Uy W) (Uy Y) fun h' a1 a2 a3=>M _ h' ⟨_,_,_,rfl,UZ Z,TL Z,Uy W,Uy Y,a2⟩ a1 (fun j u ⟨a,x,y,e,_,_,_,_,q⟩ z=>by
   rw[e] at z;cases z;exact absurd (Sw q) (UB _)) a3
 done:=fun s Q E st M=>by
  have U:xs[min xs.size ys.size]? = none\/ys[min xs.size ys.size]? = none:=by
   rcases Nat.le_total xs.size ys.size with h | h
   .exact .inl (by rw[Vg h];exact Vh (Su _))
   .exact .inr (by rw[VQ h];exact Vh (Su _))
  exact LB hh D st U M
 stay:=fun i h h' st k=>by
  simp only[Sv,Um,Uo,not_or] at hS;obtain⟨n1,n2,n3,n4,n5,n6,n7⟩:=hS;obtain⟨ti,r1,r2,zz⟩:=st;refine⟨k _ _ (SS n2) ti,r1.at (fun o e=>k _ o (SS n4) e) (fun o e=>k _ o (SS n6) e),r2.at (fun o e=>k _ o (SS n5) e) (fun o e=>k _ o (SS n7) e),?_⟩;rcases zz with ⟨J,a,b,ho⟩ | ⟨T,f,oT,J,hT,t1,t2,t3,t4,t5⟩
  .exact .inl ⟨k _ _ (SS n1) J,a,b,k _ _ (SS n3) ho⟩
  .exact .inr ⟨T,f,oT,k _ _ (SS n1) J,k _ _ t5 hT,t1,t2,t3,t4,t5⟩
 pay:=fun i v h h' p k=>by
  obtain⟨a,x,y,e,ha,na,hx,hy,q⟩:=p;refine⟨a,x,y,e,ha,na,hx,hy,k _ _ na (fun hb=>?_) q⟩;exact absurd (Ta (top a hb) ha) (UB _)
 self:=fun A s Q E st M=>by
  have tz:s.TypeIs (.ref z) "zip":= by
   rcases st.zz with ⟨J,_⟩ | ⟨T,f,oT,J,_⟩ <;> exact⟨_,J,rfl⟩
  refine wpAny_pyIter_slot tz YG (Ub YG tz PySem.F.entry_zip_iter ?_ (PySem.F.args_zip_iter_1 _));show wpAny _ _ (ret (.ref z)) _ _ s;exact Sr ⟨_,rfl, "zip",_,tz,UL.lookup,M⟩
 out:=fun h=>hS (by
  simp only[Sv,Um,Uo] at h ⊢;rcases h with h | h | h | h <;> simp[h])
def ay (t:Bool) (l:Addr):Obj:={ cls:=.type (if t then "tuple_iterator" else "list_iterator"),data:=.fields #[.ref l,.int 0 0] }
def RwB (t:Bool) (h:Heap) (l:Addr) (xs:vR_):Prop:=if t then h.IsTuple l xs else h.IsList l xs
section
variable {prog:Program}{w:World}{A:Around}{E:vQ_}{s:Shared}
def Cq {t:Bool}{xs:vR_}{Q:vQ_}(h:RwB t s.heap l xs) (J:Q (.ref s.heap.objs.size) { s with heap:=s.heap.push (ay t l) }):wpAny (model prog w) A (pyIter (.ref l)) Q E s:=by
 cases t with
 |true=>exact wpAny_pyIter_tuple h J
 |false=>exact wpAny_pyIter_list h J
end
abbrev kK (h:Heap) (t1:Bool) (l1:Addr):Heap:=h.push (ay t1 l1)
abbrev ku (h:Heap) (t1 t2:Bool) (l1 l2:Addr):Heap:=(kK h t1 l1).push (ay t2 l2)
abbrev lj (h:Heap) (t1 t2:Bool) (l1 l2:Addr):Heap:=(ku h t1 t2 l1 l2).push { cls:=.type "tuple",data:=.seq #[.ref h.objs.size,.ref (kK h t1 l1).objs.size] }
abbrev kO (h:Heap) (t1 t2:Bool) (l1 l2:Addr):Heap:=(lj h t1 t2 l1 l2).push { cls:=.type "tuple",data:=.seq #[.none,.none] }
abbrev bP (h:Heap) (t1 t2:Bool) (l1 l2:Addr):Heap:=(kO h t1 t2 l1 l2).push { cls:=.type "zip",data:=.fields #[.none,.bool false,.bool false,.ref (ku h t1 t2 l1 l2).objs.size,.ref (lj h t1 t2 l1 l2).objs.size] }
theorem RwB.push {t:Bool}{h:Heap}{xs:vR_}(x:RwB t h l xs) (o:Obj):RwB t (h.push o) l xs:=by
 cases t with
 |true=>exact Heap.IsTuple.push x o
 |false=>exact Heap.IsList.push x o
def Me (J M:Bool) (l1 l2:Addr) (xs ys:vR_) :
  Meets (Builtin.«zip.__new__» ⟨[.type "zip",.ref l1,.ref l2],[]⟩) (fun _ R s=>RwB J s.heap l1 xs/\RwB M s.heap l2 ys /\
   R (.ok (.ret (.ref (kO s.heap J M l1 l2).objs.size))) { s with heap:=bP s.heap J M l1 l2 }):=
 .of_wp fun prog w A R s h=>by
  obtain⟨hp,g,d,tk,os⟩:=s;obtain⟨Y,Z,h⟩:=h;have hsub:=sub_zip;have U:RwB J (Shared.heap ⟨hp,g,d,tk,os⟩) l1 xs:=Y;have W:RwB M (Shared.heap ⟨hp.push (ay J l1),g,d,tk,os⟩) l2 ys:=RwB.push Z _
  wp_walk using Cq U,Cq W
  exact⟨_,rfl,h⟩
section
variable {prog:Program}{w:World}{A:Around}{E:vQ_}{s:Shared}
def RwB.it {t:Bool}{h:Heap}{xs:vR_}(x:RwB t h l xs) (e:h.get? i=some (ay t l)):RwIt h i l xs 0:=by
 cases t with
 |true=>exact .inr ⟨⟨_,e,rfl,rfl⟩,x⟩
 |false=>exact .inl ⟨⟨_,e,rfl,rfl⟩,x⟩
def RwB.at {t:Bool}{h h':Heap}{xs:vR_}(x:RwB t h l xs) (e:∀o,h.get? l=some o->h'.get? l=some o):RwB t h' l xs:=by
 cases t with
 |true=>obtain⟨o,q,r⟩:=x;exact⟨o,e o q,r⟩
 |false=>obtain⟨o,q,r⟩:=x;exact⟨o,e o q,r⟩
def RwB.lt {t:Bool}{h:Heap}{xs:vR_}(x:RwB t h l xs):l<h.objs.size:=by
 cases t with
 |true=>obtain⟨o,q,r⟩:=x;exact Sw q
 |false=>obtain⟨o,q,r⟩:=x;exact Sw q
def uw (h:Heap) (m:Nat) (xs ys:vR_):Prop:=∃l1 l2,ZipApart (m+4) (m+2) (m+3) m (m+1) l1 l2/\l1<m/\l2<m/\h.objs.size=m+5/\∀S,m+5<=S->ZSt h (m+4) (m+2) (m+3) m (m+1) l1 l2 S xs ys 0
def Oe (h:Heap) (m:Nat) (J M:Bool) (l1 l2:Addr):Prop:=ZipApart (m+4) (m+2) (m+3) m (m+1) l1 l2/\h.get? m=some (ay J l1)/\h.get? (m+1)=some (ay M l2)/\IsPair h (m+2) (.ref m) (.ref (m+1))/\N9 h (m+4) (m+2) (m+3) .none (.bool false)/\∃a b,IsPair h (m+3) a b
def Rp {J M:Bool}{xs ys:vR_}{Q:vQ_}(h1:RwB J s.heap l1 xs) (h2:RwB M s.heap l2 ys)
  (h:∀h',uw h' s.heap.objs.size xs ys->(∀c o,s.heap.get? c=some o->h'.get? c=some o)->Oe h' s.heap.objs.size J M l1 l2->Q (.ref (s.heap.objs.size+4)) { s with heap:=h' }) :
  wpAny (model prog w) A (call (.type "zip") [.ref l1,.ref l2]) Q E s:=by
 refine callType_new PySem.F.called_zip (by decide) (PySem.F.typeCall_zip_2 _ _) (PySem.F.newCall_zip_2 _ _) (fun obj=>PySem.F.args_object_init_3 obj _ _) PySem.F.entry_zip_new
  (Me J M l1 l2 xs ys) ⟨h1,h2,?_⟩
 have Y:(kK s.heap J l1).objs.size=s.heap.objs.size+1:=Vd ..;have z2:(ku s.heap J M l1 l2).objs.size=s.heap.objs.size+2:=by rw[Vd,Y]
 have z3:(lj s.heap J M l1 l2).objs.size=s.heap.objs.size+3:=by rw[Vd,z2]
 have Z:(kO s.heap J M l1 l2).objs.size=s.heap.objs.size+4:=by rw[Vd,z3]
 have z5:(bP s.heap J M l1 l2).objs.size=s.heap.objs.size+5:=by rw[Vd,Z]
 have fr:∀t l,(ay t l).isFreed=false:=fun t l=>rfl
 have U:(bP s.heap J M l1 l2).get? (kO s.heap J M l1 l2).objs.size=some _:=Tc _ rfl;have W:(bP s.heap J M l1 l2).get? (lj s.heap J M l1 l2).objs.size=some _:=Sx _ (Tc _ rfl);have g3:(bP s.heap J M l1 l2).get? (ku s.heap J M l1 l2).objs.size=some _:=Sx _ (Sx _ (Tc _ rfl));have g2:(bP s.heap J M l1 l2).get? (kK s.heap J l1).objs.size=some (ay M l2):=Sx _ (Sx _ (Sx _ (Tc _ (fr _ _))));have g1:(bP s.heap J M l1 l2).get? s.heap.objs.size=some (ay J l1):=Sx _ (Sx _ (Sx _ (Sx _ (Tc _ (fr _ _)))));show _/\_;rw[z2,z3,Z] at U;rw[Y,z2] at g3;rw[z3] at W;rw[Y] at g2;rw[Z];have up:∀c o,s.heap.get? c=some o->(bP s.heap J M l1 l2).get? c=some o:=fun c o x=>
  Sx _ (Sx _ (Sx _ (Sx _ (Sx _ x))))
 refine⟨⟨_,U,rfl⟩,h _ ⟨l1,l2,YH h1.lt h2.lt,h1.lt,h2.lt,z5,fun S hS=>⟨g3,(h1.at fun o e=>up _ o e).it g1,(h2.at fun o e=>up _ o e).it g2,.inl ⟨U,_,_,W⟩⟩⟩ up ⟨YH h1.lt h2.lt,g1,g2,g3,U,_,_,W⟩⟩
structure LZ (h h':Heap) (S:Addr) (xs ys:vR_) (as:vL_) (c:Nat):Prop where
 keep:∀b o,h.get? b=some o->h'.get? b=some o
 low:h.objs.size<=S
 lst:R7 h' S (as.map Value.ref).toArray c
 len:as.length=min xs.size ys.size
 new:∀a∈as,h.objs.size<=a/\a≠S
 nd:as.Nodup
 at':∀(j:Nat) a,as[j]? = some a->∃x y,xs[j]? = some x/\ys[j]? = some y/\IsPair h' a x y
def QA {P:Nat->Value->Heap->Prop}{J:vR_}{n:Nat}(g:iD P h J n) (hp:∀j v,P j v h->∃a,v = .ref a):∃as:List Addr,J=(as.map Value.ref).toArray:=by
 have:∀l:List Value,(∀v∈l,∃a,v=Value.ref a)->∃as:List Addr,l=as.map Value.ref:=by
  intro l;induction l with
  |nil=>exact fun _=>⟨[],rfl⟩
  |cons v r U=>
   intro hv;obtain⟨a,e⟩:=hv v (.head _);obtain⟨as,e'⟩:=U fun u hu=>hv u (.tail _ hu)
   exact⟨a::as,by rw[e,e'];rfl⟩
 obtain⟨as,e⟩:=this J.toList fun v hv=>by
  obtain⟨j,M⟩:=WH.mp hv;exact hp j v (g.2.1 j v (by simpa using M))
 exact⟨as,by rw[<-e,Array.toArray_toList]⟩
def Jc {m:Nat}{h₀:Heap}{xs ys:vR_}{Q:vQ_}(hh:A.handled=none) (Z:uw s.heap m xs ys) (k₀:∀c o,h₀.get? c=some o->s.heap.get? c=some o) (hm:h₀.objs.size=m) (hn:xs.size<=sizeLine)
  (hQ:∀S h' as c,LZ h₀ h' S xs ys as c->Q (.ref S) { s with heap:=h' }):wpAny (model prog w) A (call (.type "list") [.ref (m+4)]) Q E s:=by
 obtain⟨l1,l2,D,b1,b2,sz,st⟩:=Z;have J:=st s.heap.objs.size (by omega);have tz:s.TypeIs (.ref (m+4)) "zip":= by
  rcases J.zz with ⟨hz,_⟩ | ⟨T,f,oT,hz,_⟩ <;> exact⟨_,hz,rfl⟩
 refine Ir (T := "zip") (MG (A:=A.in1.in1) hh D (show (m+3:Nat)<s.heap.objs.size by omega) (by
  simp only[Sv,Um,Uo,not_or];have W:m<=s.heap.objs.size:=by omega
  exact⟨show (s.heap.objs.size:Nat)≠m+4 by omega,show (s.heap.objs.size:Nat)≠m+2 by omega,show (s.heap.objs.size:Nat)≠m+3 by omega,show (s.heap.objs.size:Nat)≠m by omega,show (s.heap.objs.size:Nat)≠m+1 by omega,
   TL (Ta b1 W),TL (Ta b2 W)⟩) (by
  simp only[Sv,Um,Uo];intro b hb;have M:∀j,j<=4->m+j<s.heap.objs.size:=fun j _=>by omega
  rcases hb with e | e | e | e
  .rw[e];exact M 4 (by omega)
  .rw[e];exact M 3 (by omega)
  .rw[e];exact M 0 (by omega)
  .rw[e];exact M 1 (by omega))) (SI (WK ..) hn) tz (by decide) (by decide) Nm Mk J fun h' acc c k l g=>?_
 obtain⟨as,ea⟩:=QA g fun j v ⟨a,_,_,e,_⟩=>⟨a,e⟩
 subst ea;refine hQ _ h' as c ⟨fun b o e=>k b o (fun hb=>?_) (k₀ b o e),by omega,l,by simpa using g.1,fun a ha=>?_,?_,fun j a e=>?_⟩
 .have hl:b<m:=hm▸Sw e;simp only[Sv,Um,Uo] at hb;have U:∀j:Nat,¬ (m+j<m):=fun j=>by omega
  rcases hb with e | e | e | e
  .exact U 4 (e▸hl)
  .exact U 3 (e▸hl)
  .exact U 0 (e▸hl)
  .exact U 1 (e▸hl)
 .obtain⟨j,hj⟩:=WH.mp ha;obtain⟨a',x,y,e,q1,q2,_⟩:=g.2.1 j (.ref a) (by simp[hj]);cases e;exact⟨SI (show (h₀.objs.size:Nat)<=s.heap.objs.size by omega) q1,q2⟩
 .have Y:=g.2.2;simp only[List.toList_toArray] at Y;exact(XW.mp Y).imp fun h e=>h (by rw[e])
 .obtain⟨a',x,y,e',q1,q2,q3,q4,q5⟩:=g.2.1 j (.ref a) (by simp[e]);cases e';exact⟨x,y,q3,q4,q5⟩
end
def T9 (H:Hp):List (Addr × List V)->Hp
 |[]=>H
 |(a,p)::r=>k0 (T9 H r) a (.tup p)
section
variable {H:Hp}
theorem hJ:∀{ps:List (Addr × List V)}{b:Addr},(∀q∈ps,q.1≠b)->T9 H ps b=H b
 |[],b,h=>rfl
 |(a,p)::r,b,h=>by
  show k0 (T9 H r) a (.tup p) b=H b;rw[w5 (SS (h _ (.head _)))];exact hJ fun q J=>h q (.tail _ J)
theorem yk:∀{ps:List (Addr × List V)}{b:Addr}{u:HO},T9 H ps b=some u->(∃p,(b,p)∈ps/\u = .tup p)\/H b=some u
 |[],b,u,h=>.inr h
 |(a,p)::r,b,u,h=>by
  replace h:k0 (T9 H r) a (.tup p) b=some u:=h
  by_cases hb:b=a
  .subst hb;rw[F6] at h;cases h;exact .inl ⟨p,.head _,rfl⟩
  .rw[w5 hb] at h;rcases yk h with ⟨p',q,e⟩ | e
   .exact .inl ⟨p',.tail _ q,e⟩
   .exact .inr e
theorem zg:∀{ps:List (Addr × List V)}{b:Addr}{p:List V},(ps.map (·.1)).Nodup->(b,p)∈ps->T9 H ps b=some (.tup p)
 |(a,p')::r,b,p,nd,h=>by
  show k0 (T9 H r) a (.tup p') b=_;rcases Sv.mp h with e | h
  .cases e;exact F6
  .have J:=Tu.mp nd;have hb:b≠a:=fun e=>J.1 (e▸Tg.mpr ⟨(b,p),h,rfl⟩)
   rw[w5 hb];exact zg J.2 h
end
def IT {fs ex:vL_}{H H':Hp}{h h':Heap}(k:∀b u,h.get? b=some u->h'.get? b=some u) (M:∀b,b<h.objs.size->H' b=H b) (J:∀b u,H b=some u->H' b=some u):Un fs ex H H' h h' where
 keep:=fun b u q _ _ _=>k b u q
 slot:=fun b u q _ _ _=>⟨u.slots,k b u q⟩
 free:=fun b u q n _=>by rw[M b (Sw q)];exact n
 there:=fun b u q _=>⟨u,k b u q⟩
 tups:=fun b xs q=>J b _ q
 frzs:=fun b u xs q=>J b _ q
 tbls:=fun b ps q=>⟨#[],by rw[J b _ q];simp⟩
def J4 (xs ys:List V):List (List V):=List.zipWith (fun x y=>[x,y]) xs ys
def PK {xs ys:List V}{j:Nat}(e:(J4 xs ys)[j]? = some p):∃x y,xs[j]? = some x/\ys[j]? = some y/\p=[x,y]:=by
 unfold J4 at e;rw[List.getElem?_zipWith] at e;cases J:xs[j]? with
 |none=>rw[J] at e;simp at e
 |some x=>
  cases M:ys[j]? with
  |none=>rw[J,M] at e;simp at e
  |some y=>rw[J,M] at e;simp at e;exact⟨x,y,rfl,rfl,e.symm⟩
def Sq (K:vF_) (H:Hp) (a:Addr) (xs:List V):Prop:=SqL K H a xs\/SqT K H a xs
def ue (K:vF_):List V->Hp->VK->Prop:=fun J H Q=>∃p q xs ys,J=[.ref p,.ref q]/\Sq K H p xs/\Sq K H q ys /\
 ∀S as,(S::as).Nodup->(∀a∈S::as,H a=none)->as.length=(J4 xs ys).length->Q (.ref S) (k0 (T9 H (as.zip (J4 xs ys))) S (.lst (as.map V.ref)))
section
variable {X:Cx}{pins:vP_}{σ:St}{H:Hp}{s:Shared}
def vj (I:Inv X pins σ H s) {xs:List V}(h:Sq X.K H p xs):∃(t:Bool) (its:vV_),Vals xs its/\RwB t s.heap p its.toArray/\xs.length<=sizeLine:=by
 rcases h with h | h
 .obtain⟨its,r,⟨o,n,e,c,_,d⟩,z⟩:=I.list h;exact⟨false,its,r,⟨o,e,c,n,d⟩,z⟩
 .obtain⟨its,r,⟨o,e,c,n,d⟩,z⟩:=I.tuple h;exact⟨true,its,r,⟨o,e,c,n,d⟩,z⟩
def yK {as:vL_}{ps:List (List V)}(h:as.length=ps.length):(as.zip ps).map (·.1)=as:=by
 rw[List.map_fst_zip (by omega)]
def Inv.lz {xs ys:List V}{it jt:vV_}{as:vL_}{c:Nat}(I:Inv X pins σ H s) (rx:Vals xs it) (ry:Vals ys jt) (zx:xs.length<=sizeLine) (Z:LZ s.heap h' S it.toArray jt.toArray as c) :
  (S::as).Nodup/\(∀a∈S::as,H a=none)/\as.length=(J4 xs ys).length/\Inv X pins σ (k0 (T9 H (as.zip (J4 xs ys))) S (.lst (as.map V.ref))) { s with heap:=h' }:=by
 have hl:as.length=(J4 xs ys).length:=by
  have e:=Z.len;simp only[SY] at e;rw[e,J4,List.length_zipWith,rx.length,ry.length]
 have fr:∀a∈S::as,s.heap.objs.size<=a:=fun a ha=>by
  rcases Sv.mp ha with e | e
  .rw[e];exact Z.low
  .exact(Z.new a e).1
 have nn:∀a∈S::as,H a=none:=fun a ha=>I.hok.fresh (fr a ha)
 have nd:(S::as).Nodup:=Tu.mpr ⟨fun h=>(Z.new S h).2 rfl,Z.nd⟩;have ky:=yK hl;have ndz:((as.zip (J4 xs ys)).map (·.1)).Nodup:=by rw[ky];exact Z.nd
 have M:∀q∈as.zip (J4 xs ys),q.1∈as:=fun q J=>(Vr J).1
 refine⟨nd,nn,hl,?_⟩;have Y:∀b u,H b=some u->k0 (T9 H (as.zip (J4 xs ys))) S (.lst (as.map V.ref)) b=some u:=fun b u e=>by
  have n:∀a∈S::as,a≠b:=fun a ha z=>by rw[z] at ha;rw[nn b ha] at e;cases e
  rw[w5 (SS (n S (.head _))),hJ fun q J=>n _ (.tail _ (M q J))];exact e
 refine I.un (t':=s.toks) (IT Z.keep (fun b hb=>?_) Y) fun b u e=>?_
 .have n:∀a∈S::as,a≠b:=fun a ha z=>absurd (Ta hb (z▸fr a ha)) (UB _)
  rw[w5 (SS (n S (.head _))),hJ fun q J=>n _ (.tail _ (M q J))]
 .by_cases hb:b=S
  .subst hb;rw[F6] at e;cases e;refine⟨?_,as.map Value.ref,c,?_,Z.lst⟩
   .rw[Ss,hl,J4,List.length_zipWith];exact SI (WK ..) zx
   .have:∀l:List Addr,Vals (l.map V.ref) (l.map Value.ref):=fun l=>by
     induction l with
     |nil=>exact .nil
     |cons a r ih=>exact .cons rfl ih
    exact this as
  .rw[w5 hb] at e;rcases yk e with ⟨p,hp,rfl⟩ | e0
   .obtain⟨j,hj⟩:=WH.mp hp;obtain⟨ha,U⟩:=VA.mp hj;obtain⟨x,y,ex,ey,rfl⟩:=PK U;obtain⟨x',y',ex',W,q⟩:=Z.at' j b ha;obtain⟨u1,f1,g1⟩:=rx.get ex;obtain⟨u2,f2,g2⟩:=ry.get ey;have e1:u1=x':=by simpa [f1] using ex'
    have e2:u2=y':=by simpa [f2] using W
    subst e1;subst e2;exact⟨show 2<=sizeLine by decide,[u1,u2],.cons g1 (.cons g2 .nil),⟨_,q,rfl,_,rfl⟩⟩
   .exact(I.hok b u e0).stay (fun c v _ q=>Z.keep c v q) (fun c q=>Y c _ q) fun c xs q=>Y c _ q
end
section
variable {X:Cx}{p p' pos pos':Pos}{e:Expr}{es:List Expr}{t:TA}
def Ku (hc:X.calm=true) (hgl:Gl X "list") (hml:X.mg "list" = none) (hgz:Gl X "zip") (U:X.mg "zip" = none) (ha:PA X (e::es) t)
  (he:starEach (e::es) X.env=(false,eval e X.env)::starEach es X.env:=by rfl) (Y:(backTo pos' (starEach es X.env)).any (·.1)=false:=by rfl)
  (M:starEach [.Call (.Name "zip" p') (e::es) [] pos'] X.env=[(false,eval (.Call (.Name "zip" p') (e::es) [] pos') X.env)]:=by rfl) :
  PE X (.Call (.Name "list" p) [.Call (.Name "zip" p') (e::es) [] pos'] [] pos) (eR (ue X.K) t):=by
 intro pins s σ H Q I h;refine UE (bJ I hgl hml (show bootBuiltins ("list" : Str)=some (.type "list") by decide +kernel) ?_ (by decide) (by decide));refine Vb ?_ M rfl;rw[M];show wpAny _ _ (spliced [(false,eval (.Call (.Name "zip" p') (e::es) [] pos') X.env)]) _ _ s;refine Xu ?_;refine UE (bJ I hgz U (show bootBuiltins ("zip" : Str)=some (.type "zip") by decide +kernel) ?_ (by decide) (by decide));refine Vb (t6 (ha pos' pins s σ H _ I h) fun us s1 ⟨vs,H1,W,J,q1⟩=>?_) he Y;obtain⟨a,b,xs,ys,rfl,qa,qb,k⟩:=q1;obtain⟨u1,u2,rfl,e1,e2⟩:∃u1 u2,us=[u1,u2]/\u1=Value.ref a/\u2=Value.ref b:=by
  cases J with
  |cons h1 J=>
   cases J with
   |cons h2 J=>cases J;exact⟨_,_,rfl,h1,h2⟩
 subst e1;subst e2;obtain⟨ta,it,rx,wa,za⟩:=vj W qa;obtain⟨tb,jt,ry,wb,zb⟩:=vj W qb;refine Rp wa wb fun h1 Z1 k1 _=>?_
 refine Xt ?_;refine Jc (h₀:=s1.heap) (I.ok.hd hc) Z1 k1 rfl (by simpa [<-rx.length] using za) fun S h2 as c Z=>?_
 obtain⟨nd,nn,hl,I2⟩:=Inv.lz W rx ry za Z;exact⟨.ref S,_,I2,rfl,k S as nd nn hl⟩
end
def aO:D->Option (List D)
 |.tup ds=>some ds
 |.lst ds=>some ds
 |_=>none
def jc (x y:D):D:=.tup [x,y]
def cn:List D->Option (List D)
 |[a,b]=>(aO a).bind fun xs=>(aO b).map fun ys=>List.zipWith jc xs ys
 |_=>none
theorem xP {K:vF_}{H:Hp}{fa:vA_}{O:vL_}(I:GI K g σ H fa O s):∀(ps:List (Addr × List V)),(ps.map (·.1)).Nodup->(∀q∈ps,H q.1=none)->GI K g σ (T9 H ps) fa O s/\StE fa O H fa O (T9 H ps)
 |[],_,_=>⟨I,StE.refl⟩
 |(a,p)::r,nd,h=>by
  have J:=Tu.mp nd;obtain⟨W,s1⟩:=xP I r J.2 fun q M=>h q (.tail _ M)
  have U:T9 H r a=none:=by
   rw[hJ fun q M z=>J.1 (Tg.mpr ⟨q,M,z⟩)];exact h _ (.head _)
  exact⟨W.new U,s1.trans (F9 U)⟩
theorem As {K:vF_}{N:vB_}{fa:vA_}{H:Hp}:∀{ds es:vD_}{xs ys:List V}{as:vL_},Reps K N fa H ds xs->Reps K N fa H es ys->as.length=(J4 xs ys).length->(∀q∈as.zip (J4 xs ys),H q.1=some (.tup q.2)) ->
  Reps K N fa H (List.zipWith jc ds es) (as.map V.ref)
 |[],es,xs,ys,as,h,q,l,k=>by
  simp only[Reps] at h;subst h;simp only[J4,YI,UJ] at l;rw[XX l];simp only[YI,TU,Reps]
 |d::r,[],xs,ys,as,h,q,l,k=>by
  simp only[Reps] at q;subst q;simp only[J4,YJ,UJ] at l;rw[XX l];simp only[YJ,TU,Reps]
 |d::r,e::f,xs,ys,as,h,q,l,k=>by
  simp only[Reps] at h q;obtain⟨x,J,rfl,h1,h2⟩:=h;obtain⟨y,M,rfl,q1,q2⟩:=q;cases as with
  |nil=>simp[J4] at l
  |cons a as=>
   have W:(a::as).zip (J4 (x::J) (y::M))=(a,[x,y])::as.zip (J4 J M):=rfl;rw[W] at k;simp only[YK,SN,Reps];refine⟨_,_,rfl,?_,As h2 q2 (by simpa [J4] using l) fun q U=>k q (.tail _ U)⟩;simp only[jc,Rep,Reps];exact⟨a,[x,y],rfl,SqT.of (k _ (.head _)),x,[y],rfl,h1,y,[],rfl,q1,rfl⟩
def wI {K:vF_}{N:vB_}{fa:vA_}{v:V}{ds:vD_}(r:RepB K N fa H d v) (e:aO d=some ds):∃a xs,v = .ref a/\Sq K H a xs/\Reps K N fa H ds xs:=by
 cases d with
 |tup es=>
  cases e;simp only[RepB,Rep] at r;obtain⟨a,ys,rfl,q,w⟩:=r;exact⟨a,ys,rfl,.inr q,w⟩
 |lst es=>
  cases e;obtain⟨a,ys,rfl,_,q,w⟩:=r;exact⟨a,ys,rfl,.inl (SqL.of q),w⟩
 |_=>cases e
def RH {K:vF_}:iB K (ue K) cn:=by
 intro g σ H fa O s xs ds es Q I rs e k
 match ds,e with
 |[d1,d2],e=>
  refine Y0 (show (aO d1).bind (fun xs=>(aO d2).map fun ys=>List.zipWith jc xs ys)=some es from e) fun xs1 e1 e=>?_
  refine av e fun ys1 e2 e=>?_
  subst e;simp only[ag] at rs;obtain⟨x,zs,rfl,r1,y,zs',rfl,r2,rfl⟩:=rs;obtain⟨a,M,rfl,q1,w1⟩:=wI r1 e1;obtain⟨b,Y,rfl,q2,w2⟩:=wI r2 e2;refine⟨a,b,M,Y,rfl,q1,q2,fun S as nd nn hl=>?_⟩;have W:=Tu.mp nd;have ky:=yK hl;have Z:∀q∈as.zip (J4 M Y),q.1∈as:=fun q J=>(Vr J).1
  have U:((as.zip (J4 M Y)).map (·.1)).Nodup:=by rw[ky];exact W.2
  obtain⟨I1,s1⟩:=xP I (as.zip (J4 M Y)) U fun q J=>nn _ (.tail _ (Z q J))
  have hS:T9 H (as.zip (J4 M Y)) S=none:=by
   rw[hJ fun q J (z:q.1=S)=>W.1 (by rw[<-z];exact Z q J)];exact nn S (.head _)
  have rp:=As (Reps.stp I s1.stp w1) (Reps.stp I s1.stp w2) hl fun q J=>zg (b:=q.1) (p:=q.2) U J
  exact k S (as.map V.ref) _ (s1.trans (F9 hS)) (ak I1 hS rp) (nn S (.head _))
section
variable {X:Cx}{g:Gh}{p p' pos pos':Pos}{e:Expr}{es:List Expr}{t:DA}
def xi (hc:X.calm=true) (Z:Gl X "list") (Y:X.mg "list" = none) (U:Gl X "zip") (J:X.mg "zip" = none) (ha:BAO X g (e::es) t)
  (he:starEach (e::es) X.env=(false,eval e X.env)::starEach es X.env:=by rfl) (M:(backTo pos' (starEach es X.env)).any (·.1)=false:=by rfl)
  (W:starEach [.Call (.Name "zip" p') (e::es) [] pos'] X.env=[(false,eval (.Call (.Name "zip" p') (e::es) [] pos') X.env)]:=by rfl) :
  FO X g (.Call (.Name "list" p) [.Call (.Name "zip" p') (e::es) [] pos'] [] pos) (V7 cn t):=
 FO.w (Ku hc Z Y U J ha.pe he M W) (rD RH)
end
section
variable {X:Cx}{g:Gh}{scope:Scope}{cl:List (Str × Addr)}{idx:List Nat}{iter elt:Expr}{ifs:List Expr}{pos:Pos}{fi:DA}{fc:DT}{fe:DE}{x y:Str}{px py pp:Pos}{kt:Nat}{caps:List Str}
def HU (M:X.calm=true) (k:CompOk X scope cl (x::y::caps) 2 idx) (hi:IO X g (.Tuple [.Name x px,.Name y py] kt pp) iter fi) (U:(x::y::caps).Nodup)
  (J:∀C s0 H0 ex,(A4 X (x::y::caps) scope cl C s0 H0 ex).env.scope.names.lookup x=some .local) (W:∀C s0 H0 ex,(A4 X (x::y::caps) scope cl C s0 H0 ex).env.scope.names.lookup y=some .local)
  (Y:∀C s0 H0 ex g',bZ (A4 X (x::y::caps) scope cl C s0 H0 ex) g' ifs fc) (Z:∀C s0 H0 ex g',EO (A4 X (x::y::caps) scope cl C s0 H0 ex) g' elt fe) (hs:∀x,foldedSetIterable iter X.env x=pure x:=by intro _;rfl) :
  FO X g (.ListComp elt [⟨.Tuple [.Name x px,.Name y py] kt pp,iter,ifs,0⟩] scope pos) (bw idx fi fc fe):=
 Le (G:=oj X.K 2 (ib (R3 0) (ib (R3 1) sJ))) M k hi (fun C s0 H0 ex=>sC (X:=A4 X (x::y::caps) scope cl C s0 H0 ex) (n:=2) M (gu (X:=A4 X (x::y::caps) scope cl C s0 H0 ex) (O5 (X:=A4 X (x::y::caps) scope cl C s0 H0 ex) (i:=0) U rfl (Or.inl (J C s0 H0 ex)) (Or.inr (J C s0 H0 ex))) (gu (X:=A4 X (x::y::caps) scope cl C s0 H0 ex) (O5 (X:=A4 X (x::y::caps) scope cl C s0 H0 ex) (i:=1) U rfl (Or.inl (W C s0 H0 ex)) (Or.inr (W C s0 H0 ex))) sH)))
  (fun a x y σ H Q h q=>⟨a,[x,y],rfl,h,rfl,x,[y],rfl,y,[],rfl,rfl,q⟩) Y Z hs
end
def PC (X:Cx) (e:Expr) (te:TE):Prop:=∀(i:Nat) (y:Str) (py spos:Pos),X.N.Nodup->X.N[i]? = some y->Loc X.env.scope y->swapsWith e (some (.Name y py)) spos.line X.env=pure true->(X.fn y=true\/X.env.scope.names.lookup y=some .local)->PS X (.Assign [.Name y py] e spos) (fD te (R3 i))
structure CO (X:Cx) (g:Gh) (e:Expr) (f:DA):Prop where
 pe:PC X e (liftF X.K g f)
theorem CO.w {X:Cx}{t:TE}(h:PC X e t) (w:∀σ H Q,liftF X.K g f σ H Q->t σ H Q):CO X g e f:=
 ⟨fun i y py J h1 h2 h3 M U pins s σ H D I q=>h i y py J h1 h2 h3 M U pins s σ H D I (w σ H _ q)⟩
section
variable {X:Cx}{g:Gh}{scope:Scope}{cl:List (Str × Addr)}{N':List Str}{idx:List Nat}{iter elt tg:Expr}{ifs:List Expr}{pos:Pos}{fi:DA}{fc:DT}{fe:DE}
def lD (hc:X.calm=true) (k:CompOk X scope cl N' 1 idx) (hi:IO X g tg iter fi) (U:∀C s0 H0 ex,PG (A4 X N' scope cl C s0 H0 ex) tg (R3 0))
  (W:∀C s0 H0 ex g',bZ (A4 X N' scope cl C s0 H0 ex) g' ifs fc) (Z:∀C s0 H0 ex g',EO (A4 X N' scope cl C s0 H0 ex) g' elt fe) (hs:∀x,foldedSetIterable iter X.env x=pure x:=by intro _;rfl) :
  CO X g (.ListComp elt [⟨tg,iter,ifs,0⟩] scope pos) (N0 idx fi fc fe):=
 CO.w (fun i y py J h1 h2 h3 M Y=>wN (tc:=fun σ H Q=>∃g',liftT X.K g' fc σ H Q) (te:=fun σ H Q=>∃g',liftE X.K g' fe σ H Q) h1 h2 h3 hc k hi.pe U (fun C s0 H0 ex pins s σ H Q I ⟨g',h⟩=>W C s0 H0 ex g' pins s σ H Q I h) (fun C s0 H0 ex pins s σ H Q I ⟨g',h⟩=>(Z C s0 H0 ex g').pe pins s σ H Q I h) hs M Y) (tP k)
def Mc {G:TG}(hc:X.calm=true) (k:CompOk X scope cl N' 2 idx) (hi:IO X g tg iter fi) (U:∀C s0 H0 ex,PG (A4 X N' scope cl C s0 H0 ex) tg G)
  (hG:∀(a:Addr) (x y:V) (σ:L2.St) (H:Hp) (Q:L2.St->Hp->Prop),SqT X.K H a [x,y]->Q ((σ.set 0 (some x)).set 1 (some y)) H->G (.ref a) σ H Q)
  (W:∀C s0 H0 ex g',bZ (A4 X N' scope cl C s0 H0 ex) g' ifs fc) (Z:∀C s0 H0 ex g',EO (A4 X N' scope cl C s0 H0 ex) g' elt fe) (hs:∀x,foldedSetIterable iter X.env x=pure x:=by intro _;rfl) :
  CO X g (.ListComp elt [⟨tg,iter,ifs,0⟩] scope pos) (bw idx fi fc fe):=
 CO.w (fun i y py J h1 h2 h3 M Y=>wN (tc:=fun σ H Q=>∃g',liftT X.K g' fc σ H Q) (te:=fun σ H Q=>∃g',liftE X.K g' fe σ H Q) h1 h2 h3 hc k hi.pe U (fun C s0 H0 ex pins s σ H Q I ⟨g',h⟩=>W C s0 H0 ex g' pins s σ H Q I h) (fun C s0 H0 ex pins s σ H Q I ⟨g',h⟩=>(Z C s0 H0 ex g').pe pins s σ H Q I h) hs M Y) (AA k hG)
def iZ {i:Nat}(hN:X.N.Nodup) (hi:X.N[i]? = some x) (U:Loc X.env.scope x) (Y:CO X g e f) (hs:swapsWith e (some (.Name x pos')) pos.line X.env=pure true:=by rfl) (hf:X.fn x=true\/X.env.scope.names.lookup x=some .local:=by first | exact .inl rfl | exact .inr rfl | assumption) :
  SO X g (.Assign [.Name x pos'] e pos) (F5 i f):=SO.w (Y.pe i x pos' pos hN hi U hs hf) fun E σ H W=>by
 refine W.elim fun fa O s fl s' I q k=>?_
 refine B6 q fun ds s1 h1 h2=>?_
 by_cases hl:i<s1.sl.length
 .simp only[] at h2;rw[tx hl] at h2;cases h2;refine⟨fa,O,s,ds,s1,I,h1,fun p xs H1 f1 O1 J L hp=>?_⟩;have M:p ∉ O1:=fun z=>by
   obtain⟨ys,e⟩:=I.owned (J.sub p z);rw[hp] at e;cases e
  obtain⟨P,sub,Z⟩:=L.put i hl (I.st.mon p hp) M;refine k _ H1 f1 P ⟨fun b hb=>?_,J.fe,fun b u e _ n=>J.same b u e n,J.mon⟩ Z;rcases sub b hb with y | y
  .exact .inr (by rw[y];exact hp)
  .exact .inl (J.sub b y)
 .simp only[] at h2;rw[So hl] at h2;cases h2
end
section
variable {X:Cx}{g:Gh}{scope:Scope}{cl:List (Str × Addr)}{idx:List Nat}{iter elt:Expr}{ifs:List Expr}{pos:Pos}{fi:DA}{fc:DT}{fe:DE}{x y:Str}{px py pp:Pos}{kt:Nat}{caps:List Str}
def Fo (M:X.calm=true) (k:CompOk X scope cl (x::y::caps) 2 idx) (hi:IO X g (.Tuple [.Name x px,.Name y py] kt pp) iter fi) (U:(x::y::caps).Nodup)
  (J:∀C s0 H0 ex,(A4 X (x::y::caps) scope cl C s0 H0 ex).env.scope.names.lookup x=some .local) (W:∀C s0 H0 ex,(A4 X (x::y::caps) scope cl C s0 H0 ex).env.scope.names.lookup y=some .local)
  (Y:∀C s0 H0 ex g',bZ (A4 X (x::y::caps) scope cl C s0 H0 ex) g' ifs fc) (Z:∀C s0 H0 ex g',EO (A4 X (x::y::caps) scope cl C s0 H0 ex) g' elt fe) (hs:∀x,foldedSetIterable iter X.env x=pure x:=by intro _;rfl) :
  CO X g (.ListComp elt [⟨.Tuple [.Name x px,.Name y py] kt pp,iter,ifs,0⟩] scope pos) (bw idx fi fc fe):=
 Mc (G:=oj X.K 2 (ib (R3 0) (ib (R3 1) sJ))) M k hi (fun C s0 H0 ex=>sC (X:=A4 X (x::y::caps) scope cl C s0 H0 ex) (n:=2) M (gu (X:=A4 X (x::y::caps) scope cl C s0 H0 ex) (O5 (X:=A4 X (x::y::caps) scope cl C s0 H0 ex) (i:=0) U rfl (Or.inl (J C s0 H0 ex)) (Or.inr (J C s0 H0 ex))) (gu (X:=A4 X (x::y::caps) scope cl C s0 H0 ex) (O5 (X:=A4 X (x::y::caps) scope cl C s0 H0 ex) (i:=1) U rfl (Or.inl (W C s0 H0 ex)) (Or.inr (W C s0 H0 ex))) sH)))
  (fun a x y σ H Q h q=>⟨a,[x,y],rfl,h,rfl,x,[y],rfl,y,[],rfl,rfl,q⟩) Y Z hs
end
end DL
namespace DL
open PySem PySem.Spec L2 PyProof.Rows
section
variable {X:Cx}{g:Gh}{a st:Expr}{fa fs:DE}{pos p2:Pos}
def MH (J:vV_):slicePick J.toArray none none (some (-1))=J.reverse.toArray:=by
 have e:=HT3.pick_rev J.toArray;have M:sliceRange ((J.toArray.size:Int) - 1) (-1) (-1)=(List.range J.toArray.size).map fun (k:Nat)=>(((J.toArray.size:Int) - 1)+(-1)*(k:Int)).toNat:=by
  unfold sliceRange;have h1:¬ ((-1:Int)>0):=by omega
  simp only[h1,Tz];have h2:(if (J.toArray.size:Int) - 1 > -1 then ((J.toArray.size:Int) - 1 - -1 - -1 - 1) / - -1 else 0).toNat=J.toArray.size:=by
   have e:-(-1:Int)=1:=rfl;rw[e,Int.ediv_one];split <;> omega
  rw[h2]
 show ((sliceRange ((J.toArray.size:Int) - 1) (-1) (-1)).filterMap (J.toArray[·]?)).toArray=_;rw[M,XB];refine Eq.trans ?_ e;congr 2;funext k;show J.toArray[(((J.toArray.size:Int) - 1)+(-1)*(k:Int)).toNat]? = J.toArray[(((J.toArray.size:Int) - 1)+(k:Int)*(-1)).toNat]?;rw[Vi]
def Io (K:vF_) (te J:TE):TE:=fun σ H Q=>te σ H fun x H1=>J σ H1 fun y H2=>y = .int (-1)/\∃p xs,x = .ref p/\SqL K H2 p xs/\∀l,H2 l=none->Q (.ref l) (k0 H2 l (.lst xs.reverse))
def QW (he:PE X a te) (hs:PE X st ts):PE X (.Subscript a (.Slice none none (some st) p2) pos) (Io X.K te ts):=by
 intro pins s σ H Q I h;refine Subscript_ (t6 (he pins s σ H _ I h) fun v s1 ⟨x,H1,I1,r1,q1⟩=>?_);refine wpAny_Slice ?_;rw[evalPart_none];refine Sr (Sr ?_);rw[evalPart_some];refine t6 (hs pins s1 σ H1 _ I1 q1) fun u s3 ⟨y,Y,I3,r3,q3⟩=>?_
 obtain⟨rfl,p,xs,rfl,hx,q⟩:=q3;obtain⟨M,rfl⟩:=r3;cases r1;have J:Inv X pins σ Y { s3 with heap:=s3.heap.push { cls:=.type "slice",data:=.fields #[.none,.none,.int (-1) M] } }:=I3.kept (t':=s3.toks) fun b Z q=>Sx _ q
 obtain⟨its,r,W,hz⟩:=J.list hx;have U:=r.length;show wpAny (model X.prog X.w) X.A (subscriptTail a (.Slice none none (some st) p2) (.ref p) (.ref s3.heap.objs.size)) (EP X pins σ Q) X.xe { s3 with heap:=s3.heap.push { cls:=.type "slice",data:=.fields #[.none,.none,.int (-1) M] } };refine tail_any (ops:=[.ref p,.ref s3.heap.objs.size]) W.isList.typeIs XC.lookup ?_ (by with_unfolding_all rfl);refine wpAny_getItem_list_slice W.isList (Heap.IsSliceOf.new ..) .none .none (.int _ _) (by simp) ?_ (by rw[SY] <;> omega);rw[MH];refine⟨.ref (s3.heap.push { cls:=.type "slice",data:=.fields #[.none,.none,.int (-1) M] }).objs.size,_,J.laid (t':=s3.toks) (o:=.lst xs.reverse) (fun b Z q=>Sx _ q) (Su _) ?_,rfl,q _ (J.hok.fresh (Su _))⟩;exact⟨by rw[UQ];exact hz,_,0,r.reverse,Tc _ rfl⟩
def lS (f h:DE):DE:=fun s=>(f s).bind fun x=>(h x.2).bind fun y=>match x.1,y.1 with
 |.lst ds,.int i=>if i = -1 then some (.lst ds.reverse,y.2) else none
 |_,_=>none
def Ol (ha:BO X g a fa) (hs:BO X g st fs):EO X g (.Subscript a (.Slice none none (some st) p2) pos) (lS fa fs):=EO.w (QW ha.pe hs.pe) fun σ H Q hQ=>by
 refine hQ.elim fun f0 O s d s' I e k=>?_
 refine B6 e fun x s1 h1 e=>?_
 refine B6 e fun y s2 h2 e=>?_
 refine⟨f0,O,s,x,s1,I,h1,fun v H1 f1 O1 a1 Z r1=>⟨f1,O1,s1,y,s2,Z,h2,fun u H2 M J Y W r2=>?_⟩⟩;have r3:=RepB.stp Z Y r1;cases x with
 |lst ds=>
  cases y with
  |int i=>
   by_cases hi:i = -1
   .simp only[hi,TB,Tv,SX] at e;obtain⟨e1,e2⟩:=e;subst e1;subst e2;subst hi;simp only[RepB,Rep] at r2;subst r2;obtain⟨c,xs,rfl,_,q,w⟩:=r3;refine⟨rfl,c,xs,rfl,SqL.of q,fun l hl=>?_⟩;have U:StE M J H2 M J (k0 H2 l (.lst xs.reverse)):=F9 hl;have L:=ak W hl (Reps.reverse w);refine k _ _ M J (a1.trans (Y.trans U)) L.gi ?_;simp only[Rep];exact⟨l,_,rfl,je W U L.gi hl L.nf,F6,Reps.stp W U.stp (Reps.reverse w)⟩
   .simp only[hi,Tz] at e;cases e
  |_=>cases e
 |_=>cases y <;> cases e
end
def oi (s:DS) (i:Nat):Option (List D):=match s.sl[i]? with
 |some (.own ds)=>some ds
 |_=>none
def KQ {s:DS}{i:Nat}{ds:vD_}(h:oi s i=some ds):s.sl[i]? = some (.own ds):=by
 unfold oi at h;cases q:s.sl[i]? with
 |none=>rw[q] at h;cases h
 |some z=>
  rw[q] at h;cases z with
  |own ds=>cases h;rfl
  |no=>cases h
  |v _=>cases h
end DL
namespace DL
open PySem PySem.Spec L2
def EI {α:Type _}{P:List α->Prop}(h:∀a1:α,P [a1]):∀us:List α,us.length=1->P us:=by
 intro us e
 match us,e with | [a1],_=>exact h a1
def nR {α:Type _}{P:List α->Prop}(h:∀a1 a2:α,P [a1,a2]):∀us:List α,us.length=2->P us:=by
 intro us e
 match us,e with | [a1,a2],_=>exact h a1 a2
def MF {α:Type _}{P:List α->Prop}(h:∀a1 a2 a3:α,P [a1,a2,a3]):∀us:List α,us.length=3->P us:=by
 intro us e
 match us,e with | [a1,a2,a3],_=>exact h a1 a2 a3
def MJ {α:Type _}{P:List α->Prop}(h:∀a1 a2 a3 a4:α,P [a1,a2,a3,a4]):∀us:List α,us.length=4->P us:=by
 intro us e
 match us,e with | [a1,a2,a3,a4],_=>exact h a1 a2 a3 a4
structure GF (K:vF_) (mg:vG_) (n:Str) (st:Stmt) (f:Addr) (fd:FuncData):Prop where
 F:Fun K n n st f fd
 m:mg n=some (.ref f)
section
variable {K:vF_}{h:Heap}{mg:vG_}{n:Str}{st:Stmt}{f:Addr}{fd:FuncData}
def gf_mk (X:K.In h) (G:h.Ns mainGlobals mg) {od Z:vA_}{U:vS_}{kV M Y J ct:Value}(a:PySem.W.nsIn K mainGlobals n=some (some (.ref f))) (l:K.lookup f=some ⟨oc,od,.func (PySem.W.fnOf n n (br st) (T4 st) (G2 st) .none kV M Y Z J ct),U⟩)
  (c:PySem.W.codeIn K J n=true) (k:PySem.W.keepIn K (.ref f)=true):GF K mg n st f (PySem.W.fnOf n n (br st) (T4 st) (G2 st) .none kV M Y Z J ct):=⟨Gn l c k,WM X G a⟩
def QJ (F:Fun K n n st f fd) (q:∀(kV doc pm:Value) (an:vA_) (cdv ct:Value) (s:Shared) (v:Value),BindsTo s (PySem.W.fnOf n n (br st) (T4 st) (G2 st) .none kV doc pm an cdv ct) ⟨[v],[]⟩ [(x,v)]):∀(s:Shared) (v:Value),BindsTo s fd ⟨[v],[]⟩ [(x,v)]:=by
 obtain⟨U,Z,kV,doc,pm,an,cdv,ct,M,rfl,Y,J⟩:=F.ex;exact fun s v=>q kV doc pm an cdv ct s v
def blt_mk (X:K.In h) (G:h.Ns mainGlobals mg) (z0:PySem.W.nsIn K mainGlobals "len" = some none) (z1:PySem.W.nsIn K mainGlobals "range" = some none) (z2:PySem.W.nsIn K mainGlobals "abs" = some none) (z3:PySem.W.nsIn K mainGlobals "tuple" = some none) (z4:PySem.W.nsIn K mainGlobals "list" = some none) (z5:PySem.W.nsIn K mainGlobals "int" = some none) (z6:PySem.W.nsIn K mainGlobals "bool" = some none) (z7:PySem.W.nsIn K mainGlobals "str" = some none) (z8:PySem.W.nsIn K mainGlobals "repr" = some none) (z9:PySem.W.nsIn K mainGlobals "all" = some none) (z10:PySem.W.nsIn K mainGlobals "isinstance" = some none) (U:PySem.W.nsIn K mainGlobals "zip" = some none) (Z:PySem.W.nsIn K mainGlobals "enumerate" = some none) (z13:PySem.W.nsIn K mainGlobals "min" = some none) (M:PySem.W.nsIn K mainGlobals "max" = some none) (Y:PySem.W.nsIn K mainGlobals "reversed" = some none) (z16:PySem.W.nsIn K mainGlobals "any" = some none) (J:PySem.W.nsIn K mainGlobals "sum" = some none) (z18:PySem.W.nsIn K mainGlobals "sorted" = some none):Blt mg:=⟨Tw X G z0,Tw X G z1,Tw X G z2,Tw X G z3,Tw X G z4,Tw X G z5,Tw X G z6,Tw X G z7,Tw X G z8,Tw X G z9,Tw X G z10,Tw X G U,Tw X G Z,Tw X G z13,Tw X G M,Tw X G Y,Tw X G z16,Tw X G J,Tw X G z18⟩
def AB {w:World}{N ps:List Str}{k:Nat}{b:DM}(F:GF K mg n st f fd) (q:∀(kV doc pm:Value) (an:vA_) (cdv ct:Value) (us:vV_),us.length=ps.length->bindArgs (PySem.W.fnOf n n (br st) (T4 st) (G2 st) .none kV doc pm an cdv ct) ⟨us,[]⟩=pure (ps.zip us)) (S:FnScope N ps (G2 st))
  (J:∀(cdv:Value) (A:Around) (outer:List Env) (s:Shared) (H:Hp) (E:XK) (g:Gh),Room k (A.deeper (PyProof.Rows.envOfC n (G2 st) s.heap.objs.size f cdv))->SSO (aK Z8 P w K mg base N n (G2 st) f cdv A outer s H E).nox g (T4 st) b) :
  Cal P w K mg base (k+1) n ps (l6 N.length b):=Hj F.F F.m (F.F.binds q) S J
end
end DL
namespace DL
open PySem PySem.Spec L2 PyProof.Rows
def gZ (i:Nat):DM:=fun s=>(oi s i).bind fun ds=>if 0<ds.length then some (.next,{ s with sl:=s.sl.set i (.own ds.dropLast) }) else none
def Ls {i:Nat}{s:DS}(q:gZ i s=some r):∃ds,s.sl[i]? = some (.own ds)/\0<ds.length/\(Fl.next,{ s with sl:=s.sl.set i (.own ds.dropLast) })=r:=by
 refine Y0 q fun ds h2 q=>?_
 by_cases hl:0<ds.length
 .exact⟨ds,KQ h2,hl,Tb ((tx hl).symm.trans q)⟩
 .cases (So hl).symm.trans q
section
variable {X:Cx}{g:Gh}{i:Nat}{x:Str}{p1 p2 p3 p4:Pos}
def GB (hv:PE X (.Name x p1) (Q4 i)) (M:attributeBase (.Name x p1) ("pop" : Str) X.env (eval (.Name x p1) X.env)=eval (.Name x p1) X.env:=by rfl)
  (J:(p2.endLine == p3.line)=true:=by rfl) (U:swapsWith (.Call (.Attribute (.Name x p1) ("pop" : Str) p2) [] [] p3) none p4.line X.env=pure false:=by rfl) :
  SO X g (.Expr (.Call (.Attribute (.Name x p1) ("pop" : Str) p2) [] [] p3) p4) (gZ i):=
 SO.w (vU (QO Yz PySem.F.slot_list_pop PySem.F.type_list_pop Pd hv M J) U) fun E σ H hQ=>by
  refine hQ.elim fun fa O s fl s' I q k=>?_
  obtain⟨ds,h2,hl,e⟩:=Ls q;cases e;obtain⟨b,xs,Z,m1,W,Y⟩:=SlR.own I.sl h2;have rl:=Y.length;have rd:Reps X.K (NN g.F fa O) fa H ds.dropLast xs.dropLast:=by
   rw[XY,XY,rl];exact Y.take _
  obtain⟨I2,a2⟩:=I.rew h2 Z m1 W rd;have hx:xs.length - 1<xs.length:=by omega
  exact⟨_,Z,.inl ⟨rfl,xs,SqL.of W⟩,b,xs,xs[xs.length - 1],rfl,rfl,W,Tf hx,k σ _ fa O a2 I2⟩
end
structure FnV (K:vF_) (mg:vG_) (x:Str):Prop where
 ex:∃a:Addr,mg x=some (.ref a)/\PySem.W.nsIn K mainGlobals x=some (some (.ref a))
structure CalT (P:Program) (w:World) (K:vF_) (mg:vG_) (base:Heap) (k:Nat) (ps:Nat) (tab:List (Str × a8)):Prop where
 ex:∀x m,(x,m)∈tab->∃(j:Nat) (qs:List Str),j<=k/\qs.length=ps/\Cal P w K mg base j x qs m
def dI (i:Nat) (tab:List (Str × a8)) (t:DA):DE:=fun s=>match s.sl[i]? with
 |some (.v (.fn x))=>(tab.find? fun p=>decide (p.1=x)).bind fun p=>c8 p.2 t s
 |_=>none
def JD {i:Nat}{tab:List (Str × a8)}{t:DA}{s:DS}(h:dI i tab t s=some r):∃x m,s.sl[i]? = some (.v (.fn x))/\(x,m)∈tab/\c8 m t s=some r:=by
 unfold dI at h;cases q:s.sl[i]? with
 |none=>rw[q] at h;cases h
 |some z=>
  rw[q] at h;cases z with
  |no=>cases h
  |own _=>cases h
  |v d=>
   cases d with
   |fn x=>
    refine Y0 h fun p h1 h2=>?_
    have e:=List.find?_some h1;have m:=List.mem_of_find?_eq_some h1;have e:p.1=x:=TQ e;subst e;exact⟨p.1,p.2,rfl,m,h2⟩
   |_=>cases h
section
variable {X:Cx}{g:Gh}{x:Str}{p pos:Pos}{e:Expr}{es:List Expr}{t:DA}{i k n:Nat}{tab:List (Str × a8)}
def Ig (C:CalT X.prog X.w X.K X.mg X.base k n tab) (hr:Room k X.A) (hv:PE X (.Name x p) (Q4 i)) (ha:AO X g (e::es) t) (hn:∀s ds s',t s=some (ds,s')->ds.length=n)
  (he:starEach (e::es) X.env=(false,eval e X.env)::starEach es X.env:=by rfl) (J:(backTo pos (starEach es X.env)).any (·.1)=false:=by rfl) :
  EO X g (.Call (.Name x p) (e::es) [] pos) (dI i tab t):=⟨fun pins s σ H Q I h=>by
 obtain⟨fa,O,s0,d,s',I0,q,kk⟩:=h;obtain⟨y,m,q1,q2,q3⟩:=JD q;obtain⟨j,qs,hj,hl,c⟩:=C.ex y m q2;obtain⟨f,fd,F,hm,hk,hb⟩:=c.ex;obtain⟨u,e1,U⟩:=SlR.val I0.sl q1;simp only[Rep] at U;obtain⟨a,rfl,M⟩:=U;have Y:X.mg y=some (.ref a):=WM I.kIn (I.mod.glob.keeps I.bk) M;rw[hm] at Y;obtain rfl:f=a:=by injection Y with z;injection z
 have tc:=pT (X:=X) (g:=g) (m:=m) hn σ H Q ⟨fa,O,s0,d,s',I0,q3,kk⟩;subst hl;refine UE (t6 (hv pins s σ H (fun v H'=>v = .ref f/\H'=H) I ⟨_,e1,rfl,rfl⟩) fun uv s1 ⟨v,H1,I1,r,ev,eh⟩=>?_);subst ev;subst eh;cases r;exact PySem.W.callWith_K (h₀:=X.base) I.ok.mod.kin hk (t6 (ha.pe pos pins s1 σ _ _ I1 tc) fun us s2 ⟨vs,H2,Z,r2,q2⟩=>⟨Z.kIn,tE F (hr.mono hj) hb .nil pF Z r2 q2⟩) he J⟩
end
section
variable {P:Program}{w:World}{K:vF_}{mg:vG_}{base:Heap}{k n:Nat}
def JR:CalT P w K mg base k n []:=⟨fun _ _ h=>by cases h⟩
def RN {j:Nat}{qs:List Str}{tab:List (Str × a8)}(C:Cal P w K mg base j x qs m) (U:j<=k) (M:qs.length=n) (T:CalT P w K mg base k n tab):CalT P w K mg base k n ((x,m)::tab):=⟨fun y J h=>by
 rcases Sv.mp h with e | e
 .cases e;exact⟨j,qs,U,M,C⟩
 .exact T.ex y J e⟩
end
def Fq:typeLookup (.type "list_reverseiterator") "__len__" = pure none:=by rw[WI,WJ];kernel_rfl
def QS:typeLookup (.type "list_reverseiterator") "__length_hint__" = pure (some (.builtin "list_reverseiterator.__length_hint__")):=by rw[WI,WJ];kernel_rfl
section
variable {prog:Program}{w:World}{A:Around}{E:vQ_}{s:Shared}
def OU {Q:Bool->Shared->Prop}(U:s.TypeIs (.ref r) "list_reverseiterator") (h:Q false s):wpAny (model prog w) A (Builtin.List.listLengthHint (.ref r)) Q E s:=by
 unfold Builtin.List.listLengthHint;refine gV (VN U Fq ?_);show wpAny _ A (specialOf (Value.ref r) (Str.ofString "__length_hint__") >>= _) _ _ _;refine gV (VN U QS ?_);generalize M:("list_reverseiterator.__length_hint__" : String)=id0
 wp_delta
 rw[show splitId id0=some ("list_reverseiterator", "__length_hint__") from by subst M;decide +kernel];subst M;refine gV (WD (T := "list_reverseiterator") (b:=true) U (by rw[isSubtype_type];kernel_rfl) ?_);refine VR (fun J=>absurd J (by decide)) (fun _=>?_);refine VR (fun _=>?_) (fun J=>absurd (by decide +kernel) J);refine VR (fun J=>absurd J (by decide +kernel)) (fun _=>?_);exact Sr h
def FU {R:Result->Shared->Prop}{items:vR_}{c₀:Nat}(hh:A.handled=none) (J:s.heap.IsRevIter I l ((items.size:Int) - 1)) (hl:s.heap.IsList l items) (Z:l≠I) (M:S≠I) (Y:S≠l) (hn:items.size<=sizeLine) (hS:R7 s.heap S #[] c₀)
  (hR:∀s' acc c,Moved (S::[I]) (fun a b=>b=a) s s'->R7 s'.heap S acc c->ItemsOf (fun i v=>items[items.size - 1 - i]? = some v) acc items.size->R (.ok (.ret .none)) s') :
  wpAny (model prog w) A.in1 (Builtin.List.listExtendWith (.ref S) (.ref I) .none)
   (fun fin s'=>match fin with | .done f=>R (.ok f) s' | .again c'=>c'.quiet=true/\codeAny (model prog w) A c' R s') (fun e s'=>R (.error e) s') s:=by
 have hT:=J.typeIs;unfold Builtin.List.listExtendWith;refine gV (Vt hT ?_);have h1:Builtin.List.listSameRef (.ref S) (.ref I)=false:=by simp[Builtin.List.listSameRef,M]
 have h2:(Value.type "list_reverseiterator" == Value.type "list")=false:=by decide
 have h3:(Value.type "list_reverseiterator" == Value.type "tuple")=false:=by decide
 simp only[h1,h2,h3,XQ,Ux,Tz];refine gV (wpAny_pyIter_revIter J ?_);refine gV (Ut (OU hT ?_));refine VR (fun U=>absurd U (by decide +kernel)) (fun _=>?_);have W:A.in1.handled=none:=hh;exact Sr ⟨WE Vz _,codeAny_extend_loopS (Walks.listRev (w:=w) W I l Z items).toS hn S (by simp[M,Y]) .none items.size 0 s #[] c₀ (UO _) (TR _) ⟨TR _,by simpa using J,hl⟩ hS (ItemsOf.nil _) hR⟩
def IJ {Q:vQ_}{items:vR_}(hh:A.handled=none) (hit:s.heap.IsRevIter I l ((items.size:Int) - 1)) (hl:s.heap.IsList l items) (hne:l≠I) (hn:items.size<=sizeLine)
  (hQ:∀h' tk c,(∀b o,b≠I->s.heap.get? b=some o->h'.get? b=some o)->R7 h' s.heap.objs.size items.toList.reverse.toArray c->Q (.ref s.heap.objs.size) { s with heap:=h',toks:=tk }) :
  wpAny (model prog w) A (call (.type "list") [.ref I]) Q E s:=by
 refine callType_codes (Q₁:=fun Z s₁=>Z = .ref s.heap.objs.size/\s₁={ s with heap:=s.heap.push { cls:=.type "list",data:=.seq #[] } }) XR (XS _) XT
  (code_list_new _ ⟨rfl,rfl⟩) fun Z s₁ h₁=>?_
 obtain⟨rfl,rfl⟩:=h₁;have hS:(s.heap.push { cls:=.type "list",data:=.seq #[] }).get? s.heap.objs.size=some { cls:=.type "list",data:=.seq #[] }:=Tc _ rfl;obtain⟨oI,U,hcI,hdI⟩:=id hit;obtain⟨ol,hol,hcl⟩:=id hl;have hI:I<s.heap.objs.size:=Sw U;have M:l<s.heap.objs.size:=Sw hol;refine⟨⟨_,hS,rfl⟩,XU _ _,?_⟩;show wpAny _ _ (do let old <-Builtin.List.listItems (.ref s.heap.objs.size);Builtin.List.listUpdate (.ref s.heap.objs.size) (fun _=>#[]);letGo old.toList.reverse;Builtin.List.listExtendWith (.ref s.heap.objs.size) (.ref I) .none) _ _ _;refine gV ?_;unfold Builtin.List.listItems;refine gV (TZ hS rfl (Sr ?_));show wpAny _ _ (updateSeq s.heap.objs.size (fun _=>#[]) >>= fun _=>letGo (#[]:vR_).toList.reverse >>= fun _=>Builtin.List.listExtendWith (.ref s.heap.objs.size) (.ref I) .none) _ _ _;refine gV (UP hS rfl ?_);have hS₂:=Uw (Obj.mapSeq (fun _=>(#[]:vR_))) hS rfl;have J:∀b o,b≠s.heap.objs.size->s.heap.get? b=some o->((s.heap.push { cls:=.type "list",data:=.seq #[] }).update s.heap.objs.size (Obj.mapSeq (fun _=>(#[]:vR_)))).get? b=some o:=
  fun b o hb e=>(UI _ _ (SS hb)).trans (Sx _ e)
 refine gV (Vx ?_);refine FU (A:=A.in1) (l:=l) (items:=items) hh ⟨oI,J I _ (SV hI) U,hcI,hdI⟩ ⟨ol,J l _ (SV M) hol,hcl⟩ hne (TL hI) (TL M) hn hS₂ fun s' Y c hm W hG=>?_
 have ea:Y=items.toList.reverse.toArray:=by
  refine Array.ext_getElem? fun i=>?_
  by_cases hi:i<items.size
  .have:i<Y.size:=by rw[hG.1];exact hi
   rw[Uy this];have e:=hG.2 i _ (Uy this);refine e.symm.trans ?_;have e2:items.toList.reverse.toArray[i]? = items.toList.reverse[i]?:=by simp
   rw[e2,YC (by simpa using hi)];simp
  .rw[Vh (by rw[hG.1];omega),Vh (by simpa using hi)]
 rw[ea] at W;obtain⟨h',g,d,tk,os'⟩:=s';obtain rfl:g=s.gens:=hm.gens;obtain rfl:d=s.drawn:=hm.drawn;obtain rfl:os'=s.os:=hm.os;exact⟨rfl,hQ h' tk c (fun b o hb e=>hm.heap b o (by
  intro z;rcases Sv.mp z with z | z
  .exact absurd z (SV (Sw e))
  .exact hb (SJ.mp z)) (J b o (SV (Sw e)) e)) W⟩
end
def vH (K:vF_):List V->Hp->VK->Prop:=fun xs H Q=>∃a vs,xs=[V.ref a]/\SqL K H a vs/\∀S,H S=none->Q (.ref S) (k0 H S (.lst vs.reverse))
section
variable {X:Cx}{p p' pos pos':Pos}{e:Expr}{t:TA}
def HG (hc:X.calm=true) (hgl:Gl X "list") (hml:X.mg "list" = none) (Z:Gl X "reversed") (hmr:X.mg "reversed" = none) (ha:PA X [e] t)
  (he:starEach [e] X.env=(false,eval e X.env)::starEach [] X.env:=by rfl)
  (U:starEach [.Call (.Name "reversed" p') [e] [] pos'] X.env=[(false,eval (.Call (.Name "reversed" p') [e] [] pos') X.env)]:=by rfl) :
  PE X (.Call (.Name "list" p) [.Call (.Name "reversed" p') [e] [] pos'] [] pos) (eR (vH X.K) t):=by
 intro pins s σ H Q I h;refine UE (bJ I hgl hml (show bootBuiltins ("list" : Str)=some (.type "list") by decide +kernel) ?_ (by decide) (by decide));refine Vb ?_ U rfl;rw[U];show wpAny _ _ (spliced [(false,eval (.Call (.Name "reversed" p') [e] [] pos') X.env)]) _ _ s;refine Xu ?_;refine UE (bJ I Z hmr (show bootBuiltins ("reversed" : Str)=some (.type "reversed") by decide +kernel) ?_ (by decide) (by decide));refine Vb (t6 (ha pos' pins s σ H _ I h) fun us s1 ⟨vs,H1,I1,r1,q1⟩=>?_) he rfl;obtain⟨a,xs,rfl,qa,k⟩:=q1;obtain⟨u,rfl,ru⟩:=aD r1;cases ru;obtain⟨J,rv,hl,hz⟩:=I1.list qa;have M:=rv.length;refine call_reversed_list hl.isList ?_;refine Xt ?_;obtain⟨oa,W,ha2⟩:=id hl.isList;have lt:a<s1.heap.objs.size:=Sw W;refine IJ (l:=a) (items:=J.toArray) (I.ok.hd hc) ⟨_,Tc _ rfl,rfl,rfl⟩ ⟨oa,Sx _ W,ha2⟩ (SV lt) (by rw[SY,<-M];exact hz) fun h' tk c hk hS=>?_
 have Y:s1.heap.objs.size<=(s1.heap.push (revObj a ((J.toArray.size:Int) - 1))).objs.size:=by rw[Vd];exact Nat.le_succ _
 refine⟨.ref (s1.heap.push (revObj a ((J.toArray.size:Int) - 1))).objs.size,_,I1.laid (t':=tk) (o:=.lst xs.reverse) (h':=h') (fun b ob q=>hk b ob (SV (Sw q)) (Sx _ q)) Y ?_,rfl,k _ (I1.hok.fresh Y)⟩;refine⟨by rw[UQ];exact hz,J.reverse,c,rv.reverse,?_⟩;simpa using hS
end
def jg:List D->Option (List D)
 |[.lst ds]=>some ds.reverse
 |_=>none
def FK {ds es:vD_}(h:jg ds=some es):∃cs,ds=[.lst cs]/\es=cs.reverse:=by
 cases ds with
 |nil=>cases h
 |cons d r=>
  cases r with
  |cons _ _=>cases d <;> cases h
  |nil=>
   cases d with
   |lst cs=>cases h;exact⟨cs,rfl,rfl⟩
   |_=>cases h
def Lr {K:vF_}:iB K (vH K) jg:=by
 intro g σ H fa O s xs ds es Q I M e k;obtain⟨W,rfl,rfl⟩:=FK e;simp only[ag] at M;obtain⟨x,zs,rfl,U,rfl⟩:=M;obtain⟨a,ys,rfl,_,q,w⟩:=U;refine⟨a,ys,rfl,SqL.of q,fun S J=>?_⟩;exact k S ys.reverse _ (F9 J) (ak I J (Reps.reverse w)) J
section
variable {X:Cx}{g:Gh}{p p' pos pos':Pos}{e:Expr}{t:DA}
def OL (hc:X.calm=true) (Y:Gl X "list") (W:X.mg "list" = none) (M:Gl X "reversed") (J:X.mg "reversed" = none) (ha:BAO X g [e] t)
  (Z:starEach [e] X.env=(false,eval e X.env)::starEach [] X.env:=by rfl)
  (U:starEach [.Call (.Name "reversed" p') [e] [] pos'] X.env=[(false,eval (.Call (.Name "reversed" p') [e] [] pos') X.env)]:=by rfl) :
  FO X g (.Call (.Name "list" p) [.Call (.Name "reversed" p') [e] [] pos'] [] pos) (V7 jg t):=
 FO.w (HG hc Y W M J ha.pe Z U) (rD Lr)
end
def RawD (h:Heap) (d:Addr) (es:Array DictEntry) (ep:Nat):Prop:=∃o,h.get? d=some o/\o.ExactDict/\o.data = .dict es ep
section
variable {prog:Program}{w:World}{A:Around}{E:vQ_}{s:Shared}{d it:Addr}{es:Array DictEntry}{ep i:Nat}
def RawD.ty (x:RawD s.heap d es ep):s.TypeIs (.ref d) "dict" := let ⟨o,a,b,_⟩:=x;⟨o,a,b.1⟩
def QN {Q:vQ_}(lo:(d == sysModules)=false) (x:RawD s.heap d es ep)
  (k:Q (.ref s.heap.objs.size) { s with heap:=s.heap.push { cls:=.type "dict_keyiterator",data:=.fields #[.ref d,.int 0 0,.int es.size 0,.int ep 0] } }) :
  wpAny (model prog w) A (pyIter (.ref d)) Q E s:=by
 have ty:=x.ty;obtain⟨o,M,U,J⟩:=x;refine wpAny_pyIter_slot ty YL (Ub YL ty PySem.F.entry_dict_iter ?_ (PySem.F.args_dict_iter_1 _));unfold Builtin.«dict.__iter__»;refine gV ?_;unfold Builtin.Dict.dictSlotNone;refine gV (wpAny_notOrdered_dict ty ?_);show wpAny _ _ (pure (Value.ref d)) _ _ s;refine Sr ?_;show wpAny _ _ (Builtin.Dict.showsAll d >>= _) _ _ s;unfold Builtin.Dict.showsAll;rw[So (fun z=>by rw[lo] at z;cases z)];refine gV (Sr ?_);refine gV (XZ M J ?_);refine gV (Ya M J ?_);refine gV (Uj (Sr ⟨_,rfl, "dict_keyiterator",_,⟨_,Tc _ rfl,rfl⟩,VS.lookup,?_⟩));simpa [rawInt] using k
def Hm {e:DictEntry}{Q:Option Value->Shared->Prop}(y:s.heap.IsKeyIter it d i es.size ep) (x:RawD s.heap d es ep) (Z:es[i]? = some e)
  (k:∀h',h'.IsKeyIter it d (i+1) es.size ep->Heap.SameBut it s.heap h'->Q (some e.key) { s with heap:=h' }) :
  wpAny (model prog w) A (pyNext (.ref it)) Q E s:=by
 have ty:=y.typeIs;obtain⟨o,M,a2,J⟩:=id y;obtain⟨od,U,g2,W⟩:=x;unfold pyNext;refine gV (Vy (Uu (name:=Str.ofString "__next__") ty VS
  (Ub VS ty YM ?_ (YN _))))
 refine gV (Sr ?_);refine gV ?_;refine gV ?_
 first | refine gV (WN ty (Sr ?_)) | refine gV (WQ ty (Sr ?_))
 refine gV (wpAny_fieldsOf M J ?_);have ow:Builtin.Dict_items.ownsTuple "dict_keyiterator" = false:=by decide
 simp only[ow,Ux,Tz];show wpAny _ _ (if (Value.ref d == Value.none)=true then _ else _) _ _ s;have nn:¬ ((Value.ref d == Value.none)=true):=Sy;rw[So nn];refine gV (Sr ?_);refine gV (XZ U W ?_);rw[So (by simp)];refine gV (Sr ?_);refine gV (Ya U W ?_);rw[So (by simp)];refine Sr ?_;obtain⟨hlt,he⟩:=Array.getElem?_eq_some_iff.mp Z;simp only[show ¬ ((i:Int)<0) from by omega,Tz,UG,Z];refine gV ?_
 first | refine gV (WN ty (Sr ?_)) | refine gV (WQ ty (Sr ?_))
 refine gV (wpAny_isOneOf_keyiter ty ?_);show wpAny _ _ (setField (.ref it) 1 (rawInt ((i:Int)+1)) >>= _) _ _ s;refine gV (Wv M J (by simp) ?_);have Y:(s.heap.update it (Obj.mapFields (·.setIfInBounds 1 (rawInt ((i:Int)+1))))).IsKeyIter it d (i+1) es.size ep:=
  ⟨_,Uw _ M (Obj.isFreed_of_fields (Wx J _)),(Obj.cls_mapFields ..).trans a2,by rw[Wx J];simp[rawInt]⟩
 refine gV (Ut ?_);refine gV (wpAny_isOneOf_keyiter (s:={ s with heap:=s.heap.update it (Obj.mapFields (·.setIfInBounds 1 (rawInt ((i:Int)+1)))) }) Y.typeIs ?_);show wpAny _ _ (pure e.key) _ _ _;exact Sr (Sr ⟨_,rfl,Sr (k _ Y (Ww ..))⟩)
def Lh {Q:Option Value->Shared->Prop}(hh:A.handled=none) (y:s.heap.IsKeyIter it d i es.size ep) (x:RawD s.heap d es ep) (Z:es.size<=i)
  (k:∀h',Heap.ExtBut it s.heap h'->Q none { s with heap:=h' }):wpAny (model prog w) A (pyNext (.ref it)) Q E s:=by
 have ty:=y.typeIs;obtain⟨o,W,a2,M⟩:=id y;obtain⟨od,J,g2,U⟩:=x;unfold pyNext;refine gV (Vy (Uu (name:=Str.ofString "__next__") ty VS
  (Ub VS ty YM ?_ (YN _))))
 refine gV (Sr ?_);refine gV ?_;refine gV ?_
 first | refine gV (WN ty (Sr ?_)) | refine gV (WQ ty (Sr ?_))
 refine gV (wpAny_fieldsOf W M ?_);have ow:Builtin.Dict_items.ownsTuple "dict_keyiterator" = false:=by decide
 simp only[ow,Ux,Tz];show wpAny _ _ (if (Value.ref d == Value.none)=true then _ else _) _ _ s;have Y:¬ ((Value.ref d == Value.none)=true):=Sy;rw[So Y];refine gV (Sr ?_);refine gV (XZ J U ?_);rw[So (by simp)];refine gV (Sr ?_);refine gV (Ya J U ?_);rw[So (by simp)];refine Sr ?_;simp only[show ¬ ((i:Int)<0) from by omega,Tz,UG,Vh Z];refine gV ?_
 first | refine gV (WN ty (Sr ?_)) | refine gV (WQ ty (Sr ?_))
 show wpAny _ _ (setField (.ref it) 0 .none >>= _) _ _ s;refine gV (Wv W M (by simp) ?_);show wpAny _ _ (newExc (.type "StopIteration") [] >>= _) _ _ _;refine gV ?_;simp only[newExc,newTuple];refine gV (Uj ?_ (by size_fits));refine gV (m:=firstArgMember _ _) (wpAny_of_eq (a:=Value.none) (by first | rfl | (simp only[firstArgMember];rfl)) ?_);refine Uj ?_ (by size_fits);simp only[raiseNew];refine gV (wpAny_handled ?_);rw[show A.in1.handled=none from hh];refine gV (Sr (wpAny_throw ?_));refine gV (WD (T := "StopIteration") (b:=true) ⟨_,Tc _ rfl,rfl⟩ isSubtype_stop ?_);exact Sr (k _ (((Ww ..).extBut.push _).push _))
def RawD.at_ {h h':Heap}(x:RawD h d es ep) (e:∀o,h.get? d=some o->h'.get? d=some o):RawD h' d es ep:=let ⟨o,a,r⟩:=x;⟨o,e o a,r⟩
def Mb (hh:A.handled=none) (Y:d≠it):Walks prog w A it [it,d] [it] es.size (fun i v=>∃e,es[i]? = some e/\v=e.key) (fun i h=>h.IsKeyIter it d i es.size ep/\RawD h d es ep) where
 sub:=fun b hb=>by simp at hb;simp[hb]
 frame:=fun _ _ _ st hk=>⟨st.1.at fun o e=>hk it (by simp) o e,st.2.at_ fun o e=>hk d (by simp) o e⟩
 item:=fun i s Q E hi st J=>Hm st.1 st.2 (Uy hi) fun h' U M=>
  J _ h' s.toks ⟨_,Uy hi,rfl⟩ ⟨U,st.2.at_ fun o e=>M.extBut d o Y e⟩ fun b o hb e=>M.extBut b o (fun h=>hb (by simp[h])) e
 done:=fun s Q E st J=>Lh hh st.1 st.2 (Su _) fun h' W=>J h' s.toks fun b o hb e=>W b o (fun h=>hb (by simp[h])) e
 self:=fun _ _ _ _ st J=>wpAny_pyIter_keyiter st.1 J
def RI {R:Result->Shared->Prop}{c₀:Nat}(hh:A.handled=none) (lo:(d == sysModules)=false) (x:RawD s.heap d es ep) (J:S≠d) (hn:es.size<=sizeLine) (hS:R7 s.heap S #[] c₀)
  (hR:∀h' tk acc c,(∀b o,b≠S->s.heap.get? b=some o->h'.get? b=some o)->R7 h' S acc c->ItemsOf (fun i v=>∃e,es[i]? = some e/\v=e.key) acc es.size->R (.ok (.ret .none)) { s with heap:=h',toks:=tk }) :
  wpAny (model prog w) A.in1 (Builtin.List.listExtendWith (.ref S) (.ref d) .none)
   (fun fin s'=>match fin with | .done f=>R (.ok f) s' | .again c'=>c'.quiet=true/\codeAny (model prog w) A c' R s') (fun e s'=>R (.error e) s') s:=by
 have hT:=x.ty;unfold Builtin.List.listExtendWith;refine gV (Vt hT ?_);have h1:Builtin.List.listSameRef (.ref S) (.ref d)=false:=by simp[Builtin.List.listSameRef,J]
 have h2:(Value.type "dict" == Value.type "list")=false:=by decide
 have h3:(Value.type "dict" == Value.type "tuple")=false:=by decide
 simp only[h1,h2,h3,XQ,Ux,Tz];refine gV (QN lo x ?_);have x₁:RawD (s.heap.push { cls:=.type "dict_keyiterator",data:=.fields #[.ref d,.int 0 0,.int es.size 0,.int ep 0] }) d es ep:=x.at_ fun o e=>Sx _ e
 refine gV (Ut (PySem.W.kdl_hint_dict (s:={ s with heap:=s.heap.push { cls:=.type "dict_keyiterator",data:=.fields #[.ref d,.int 0 0,.int es.size 0,.int ep 0] } }) x₁.ty ?_));refine VR (fun _=>?_) (fun hab=>absurd (by decide +kernel) hab);obtain⟨od,hod,_⟩:=id x;have M:S≠s.heap.objs.size:=SV (Sw hS);have hdI:d≠s.heap.objs.size:=SV (Sw hod);have U:R7 (s.heap.push { cls:=.type "dict_keyiterator",data:=.fields #[.ref d,.int 0 0,.int es.size 0,.int ep 0] }) S #[] c₀:=Sx _ hS;have y₁:(s.heap.push { cls:=.type "dict_keyiterator",data:=.fields #[.ref d,.int 0 0,.int es.size 0,.int ep 0] }).IsKeyIter s.heap.objs.size d 0 es.size ep:=⟨_,Tc _ rfl,rfl,rfl⟩
 have kp₁:∀b o,s.heap.get? b=some o->(s.heap.push { cls:=.type "dict_keyiterator",data:=.fields #[.ref d,.int 0 0,.int es.size 0,.int ep 0] }).get? b=some o:=fun b o e=>Sx _ e
 generalize s.heap.push { cls:=.type "dict_keyiterator",data:=.fields #[.ref d,.int 0 0,.int es.size 0,.int ep 0] }=hp at *;refine gV (UD ?_);refine gV ?_;show wpAny _ A.in1 (updateSeq S (·.push .none) >>= fun _=>updateSeq S (·.pop)) _ _ _;refine gV (UP U rfl ?_);have Y:=Uw (Obj.mapSeq (·.push Value.none)) U rfl;refine UP (hz:=by seq_fits) Y rfl ?_;have hS₃:=Uw (Obj.mapSeq (·.pop)) Y rfl;have up:∀b o,b≠S->hp.get? b=some o->((hp.update S (Obj.mapSeq (·.push Value.none))).update S (Obj.mapSeq (·.pop))).get? b=some o:=fun b o hb e=>(UI _ _ (SS hb)).trans ((UI _ _ (SS hb)).trans e)
 have hin:A.in1.handled=none:=hh;refine Sr ⟨WE Vz _,codeAny_extend_loopS (Mb (w:=w) (es:=es) (ep:=ep) hin hdI).toS hn S (by simp[M,J]) .none es.size 0 _ #[] _ (UO _) (TR _) ⟨y₁.at fun o e=>up _ o (SS M) e,x₁.at_ fun o e=>up d o (SS J) e⟩ hS₃ (ItemsOf.nil _) fun s' acc c Z hS' hG=>?_⟩;obtain⟨h',g,dr,tk,os'⟩:=s';obtain rfl:g=s.gens:=Z.gens;obtain rfl:dr=s.drawn:=Z.drawn;obtain rfl:os'=s.os:=Z.os;refine hR h' tk acc c (fun b o hb e=>Z.heap b o (fun z=>?_) (up b o hb (kp₁ b o e))) hS' hG;rcases Sv.mp z with z | z
 .exact hb z
 .exact absurd (SJ.mp z) (SV (Sw e))
def Gs {Q:vQ_}(hh:A.handled=none) (lo:(d == sysModules)=false) (x:RawD s.heap d es ep) (hn:es.size<=sizeLine)
  (hQ:∀h' tk c,(∀b o,s.heap.get? b=some o->h'.get? b=some o)->R7 h' s.heap.objs.size (es.toList.map (·.key)).toArray c->Q (.ref s.heap.objs.size) { s with heap:=h',toks:=tk }) :
  wpAny (model prog w) A (call (.type "list") [.ref d]) Q E s:=by
 refine callType_codes (Q₁:=fun M s₁=>M = .ref s.heap.objs.size/\s₁={ s with heap:=s.heap.push { cls:=.type "list",data:=.seq #[] } }) XR (XS _) XT
  (code_list_new _ ⟨rfl,rfl⟩) fun M s₁ h₁=>?_
 obtain⟨rfl,rfl⟩:=h₁;have Y:(s.heap.push { cls:=.type "list",data:=.seq #[] }).get? s.heap.objs.size=some { cls:=.type "list",data:=.seq #[] }:=Tc _ rfl;obtain⟨od,hod,_⟩:=id x;have hd:d<s.heap.objs.size:=Sw hod;refine⟨⟨_,Y,rfl⟩,XU _ _,?_⟩;show wpAny _ _ (do let old <-Builtin.List.listItems (.ref s.heap.objs.size);Builtin.List.listUpdate (.ref s.heap.objs.size) (fun _=>#[]);letGo old.toList.reverse;Builtin.List.listExtendWith (.ref s.heap.objs.size) (.ref d) .none) _ _ _;refine gV ?_;unfold Builtin.List.listItems;refine gV (TZ Y rfl (Sr ?_));show wpAny _ _ (updateSeq s.heap.objs.size (fun _=>#[]) >>= fun _=>letGo (#[]:vR_).toList.reverse >>= fun _=>Builtin.List.listExtendWith (.ref s.heap.objs.size) (.ref d) .none) _ _ _;refine gV (UP Y rfl ?_);have hS₂:=Uw (Obj.mapSeq (fun _=>(#[]:vR_))) Y rfl;have W:∀b o,b≠s.heap.objs.size->s.heap.get? b=some o->((s.heap.push { cls:=.type "list",data:=.seq #[] }).update s.heap.objs.size (Obj.mapSeq (fun _=>(#[]:vR_)))).get? b=some o:=
  fun b o hb e=>(UI _ _ (SS hb)).trans (Sx _ e)
 refine gV (Vx ?_);refine RI (A:=A.in1) hh lo (x.at_ fun o e=>W d o (SV hd) e) (TL hd) hn hS₂ fun h' tk U c hk J Z=>?_
 have ea:U=(es.toList.map (·.key)).toArray:=by
  refine Array.ext_getElem? fun i=>?_
  by_cases hi:i<es.size
  .have:i<U.size:=by rw[Z.1];exact hi
   rw[Uy this];obtain⟨e,he,ek⟩:=Z.2 i _ (Uy this);rw[ek];simp[he]
  .rw[Vh (by rw[Z.1];omega),Vh (by simpa using hi)]
 rw[ea] at J;exact⟨rfl,hQ h' tk c (fun b o e=>hk b o (SV (Sw e)) (W b o (SV (Sw e)) e)) J⟩
end
def O9 (P:Program) (w:World) (p:Addr) (ks:List (List l5 × Addr)):HO:=.ext fun h=>∃o es ep,∃xs:List (List l5 × Addr × Value),h.get? p=some o/\o.ExactDict/\o.data = .dict es ep/\es.toList=xs.map (entryOfKey (tupleKind (L3 P w)))/\xs.map (fun x=>(x.1,x.2.1))=ks
def wB {w:World}{h:Heap}{o:Obj}{es:Array DictEntry}{ep:Nat}{xs:List (List l5 × Addr × Value)}(h1:h.get? p=some o) (h2:o.ExactDict) (h3:o.data = .dict es ep)
  (J:es.toList=xs.map (entryOfKey (tupleKind (L3 P w)))) (M:xs.map (fun x=>(x.1,x.2.1))=ks):ObjOk P w H h p (O9 P w p ks):=by
 refine⟨⟨o,es,ep,xs,h1,h2,h3,J,M⟩,⟨o,h1⟩,?_⟩;rintro a b ⟨o,es,ep,xs,h1,r⟩ k;exact⟨o,es,ep,xs,k o h1,r⟩
def vN {w:World}{H:Hp}{h:Heap}(J:HOk P w H h) (e:H p=some (O9 P w p ks)) :
  ∃o es ep,∃xs:List (List l5 × Addr × Value),h.get? p=some o/\o.ExactDict/\o.data = .dict es ep/\es.toList=xs.map (entryOfKey (tupleKind (L3 P w)))/\xs.map (fun x=>(x.1,x.2.1))=ks:=
 (show ObjOk P w H h p (O9 P w p ks) from J p _ e).1
def bW (ks:List (List l5 × Addr)) (k:List l5) (b:Addr):List (List l5 × Addr):=if (ks.any fun x=>decide (x.1=k))=true then ks else ks++[(k,b)]
def anyU {ks:List (List l5 × Addr)}{k:List l5}:(ks.any fun x=>decide (x.1=k))=true↔k∈ks.map (·.1):=by
 rw[List.any_eq_true,Tg];constructor
 .rintro⟨x,J,e⟩;exact⟨x,J,TQ e⟩
 .rintro⟨x,J,e⟩;exact⟨x,J,SA e⟩
def atKey_mem {xs:List (List l5 × Addr × Value)}{k:List l5}:(atKey xs k).isSome=true↔k∈xs.map (·.1):=by
 unfold atKey;rw[Option.isSome_map,List.find?_isSome,Tg];constructor
 .rintro⟨x,J,e⟩;exact⟨x,J,TQ e⟩
 .rintro⟨x,J,e⟩;exact⟨x,J,SA e⟩
def Ko (xs:List (List l5 × Addr × Value)) (k:List l5) (b:Addr) (v:Value):(storedH xs k b v).map (fun x=>(x.1,x.2.1))=bW (xs.map fun x=>(x.1,x.2.1)) k b:=by
 unfold storedH bW;have J:(xs.map fun x=>(x.1,x.2.1)).map (·.1)=xs.map (·.1):=by rw[TN];rfl
 by_cases h:k∈xs.map (·.1)
 .rw[tx (atKey_mem.mpr h),tx (anyU.mpr (by rw[J];exact h)),TN];refine List.map_congr_left fun x _=>?_
  show ((putAt k v x).1,(putAt k v x).2.1)=_;unfold putAt;split <;> rfl
 .rw[So (fun z=>h (atKey_mem.mp z)),So (fun z=>h (by rw[<-J];exact anyU.mp z)),Tj];rfl
section
variable {X:Cx}{pins:vP_}{σ:L2.St}{H:Hp}{s:Shared}{p b:Addr}{k:List l5}{ks:List (List l5 × Addr)}{A:Around}{E:vQ_}{r:Value}
def vo (I:Inv X pins σ H s) (h:SqT X.K H b (k.map kV)):(tupleKind (L3 X.prog X.w)).is s.heap k b:=by
 obtain⟨J,M,⟨o,h1,h2,n,h3⟩,_⟩:=I.tuple h;exact⟨o,J.toArray,n,h1,h2,h3,by simpa using qZ M⟩
def Eg {Q:Unit->Shared->Prop}(hu:A.units+1<cLine) (I:Inv X pins σ H s) (e:H p=some (O9 X.prog X.w p ks)) (hk:∀x∈ks,SqT X.K H x.2 (x.1.map kV)) (nd:(ks.map (·.1)).Nodup)
  (Y:SqT X.K H b (k.map kV)) (hz:ks.length<=sizeLine) (h:∀s',Inv X pins σ (k0 H p (O9 X.prog X.w p (bW ks k b))) s'->Q () s') :
  wpAny (model X.prog X.w) A (setItem (.ref p) (.ref b) r) Q E s:=by
 obtain⟨o,es,ep,xs,h1,h2,h3,W,J⟩:=vN I.hok e;have em:ks.map (·.1)=xs.map (·.1):=by rw[<-J,TN];rfl
 have dd:s.heap.DictOfH (tupleKind (L3 X.prog X.w)) p xs:=by
  refine⟨o,es,ep,h1,h2,h3,W,fun x Z=>?_,by rw[<-em];exact nd⟩;exact vo I (hk (x.1,x.2.1) (by rw[<-J];exact VT Z))
 have hl:xs.length<=sizeLine:=by rw[<-J,Ss] at hz;exact hz
 refine wpAny_setItem_heap (hsz:=hl) (XG hu) (vo I Y) dd fun h' M hs=>h _ ?_
 obtain⟨q,es',ep',U,q2,q3,q4,_,_⟩:=M;refine mf I (by rw[e];exact True.intro) hs ⟨q,U⟩ (wB U q2 q3 q4 ?_);rw[Ko,J]
end
def Rg (P:Program) (w:World):TE:=fun _ H Q=>∀p,H p=none->(p == sysModules)=false->Q (.ref p) (k0 H p (O9 P w p []))
def rh (X:Cx) (iU iO:Nat):TS:=fun D σ H=>∃p b k ks,σ[iU]? = some (some (.ref p))/\σ[iO]? = some (some (.ref b))/\H p=some (O9 X.prog X.w p ks)/\(∀x∈ks,SqT X.K H x.2 (x.1.map kV))/\(ks.map (·.1)).Nodup /\
 SqT X.K H b (k.map kV)/\ks.length<=sizeLine/\D.nx σ (k0 H p (O9 X.prog X.w p (bW ks k b)))
def Bs (X:Cx) (iU:Nat):TE:=fun σ H Q=>∃p ks,σ[iU]? = some (some (.ref p))/\(p == sysModules)=false/\H p=some (O9 X.prog X.w p ks)/\ks.length<=sizeLine/\∀S,H S=none->Q (.ref S) (k0 H S (.lst (ks.map fun x=>V.ref x.2)))
section
variable {X:Cx}{pos pos' p1 p2:Pos}{x y:Str}{iU iO:Nat}{value:Expr}{v:V}
def IM:PE X (.Dict [] [] pos) (Rg X.prog X.w):=fun pins s σ H Q I h=>
 wpAny_Dict_empty ⟨.ref s.heap.objs.size,_,I.laid (a:=s.heap.objs.size) (o:=O9 X.prog X.w s.heap.objs.size []) (t':=s.toks) (fun _ _ q=>Sx _ q) (Su _)
  (wB (xs:=[]) (Tc _ rfl) ⟨rfl,rfl,rfl⟩ rfl rfl rfl),rfl,h _ (I.hok.fresh (Su _)) (Xs.mpr (SS (SV I.big)))⟩
def Ef (hu:X.A.units+1<cLine) (hU:PE X (.Name x p1) (Q4 iU)) (hO:PE X (.Name y p2) (Q4 iO)) (hv:PE X value (tC v)) (hs:swapsWith value (some (.Subscript (.Name x p1) (.Name y p2) pos')) pos.line X.env=pure false) :
  PS X (.Assign [.Subscript (.Name x p1) (.Name y p2) pos'] value pos) (rh X iU iO):=by
 intro pins s σ H D I h;obtain⟨p,b,k,ks,e1,e2,e3,e4,e5,Y,W,J⟩:=h;refine wpAny_Assign_Subscript (t6 (hv pins s σ H (fun x H'=>H'=H) I rfl) fun r s1 ⟨v,H1,M,rv,q1⟩=>t6 (hU pins s1 σ H1 (fun x H'=>x = .ref p/\H'=H) M ⟨_,e1,rfl,q1⟩) fun u s2 ⟨x,H2,I2,U,q2⟩=>
  t6 (hO pins s2 σ H2 (fun x H'=>x = .ref b/\H'=H) I2 ⟨_,e2,rfl,q2.2⟩) fun Z s3 ⟨y,H3,I3,ry,q3⟩=>?_) hs
 obtain⟨rfl,rfl⟩:=q3;obtain⟨rfl,_⟩:=q2;obtain rfl:u=Value.ref p:=U;obtain rfl:Z=Value.ref b:=ry;exact Eg hu I3 e3 e4 e5 Y W fun s4 I4=>⟨σ,_,I4,J⟩
theorem AR:∀(ks:List (List l5 × Addr)),Vals (ks.map fun x=>V.ref x.2) (ks.map fun x=>Value.ref x.2)
 |[]=>.nil
 |_::r=>.cons rfl (AR r)
def EZ (hc:X.calm=true) (M:Gl X "list") (U:X.mg "list" = none) (hv:PE X (.Name x p') (Q4 iU)) (he:starEach [.Name x p'] X.env=(false,eval (.Name x p') X.env)::starEach [] X.env:=by rfl) :
  PE X (.Call (.Name "list" p) [.Name x p'] [] pos) (Bs X iU):=by
 intro pins s σ H Q I h;obtain⟨d,ks,e1,lo,e3,W,k⟩:=h;refine UE (bJ I M U (show bootBuiltins ("list" : Str)=some (.type "list") by decide +kernel) ?_ (by decide) (by decide));refine Vb (t6 ((fL hv iQ he) pos pins s σ H (fun Y H'=>Y=[.ref d]/\H'=H) I ⟨_,e1,rfl,rfl⟩) fun us s1 ⟨Y,H1,J,r1,q1⟩=>?_) he rfl;obtain⟨rfl,rfl⟩:=q1;obtain⟨u,rfl,ru⟩:=aD r1;cases ru;obtain⟨o,es,ep,xs,h1,h2,h3,Z,h5⟩:=vN J.hok e3;have hl:es.size<=sizeLine:=by
  rw[<-Wn,Z,Ss];rw[<-h5,Ss] at W;exact W
 refine Gs (I.ok.hd hc) lo ⟨o,h1,h2,h3⟩ hl fun h' tk c hk hS=>?_
 refine⟨.ref s1.heap.objs.size,_,J.laid (t':=tk) (o:=.lst (ks.map fun x=>V.ref x.2)) (h':=h') hk (Su _) ?_,rfl,k _ (J.hok.fresh (Su _))⟩;refine⟨by rw[Ss];exact W,_,c,AR ks,?_⟩;have ek:es.toList.map (·.key)=ks.map fun x=>Value.ref x.2:=by
  rw[Z,<-h5,TN,TN];rfl
 rw[ek] at hS;exact hS
end
def qy:List D->Option (List Int)
 |[]=>some []
 |.int i::r=>(qy r).map (i :: ·)
 |_::_=>none
def Df:D->Option (List Int)
 |.tup ds=>qy ds
 |_=>none
def dH:List D->Option (List (List Int))
 |[]=>some []
 |d::r=>(Df d).bind fun k=>(dH r).map (k :: ·)
def fw (k:List Int):D:=.tup (k.map D.int)
def W7 (J:List (List Int)) (k:List Int):List (List Int):=if k∈J then J else J++[k]
def S9 (ks:List (List Int)):List (List Int):=ks.foldl W7 []
def jM:D->Option (List D)
 |.lst ds=>some ds
 |.tup ds=>some ds
 |_=>none
def ja (iS iU iO iR:Nat) (m:a8) (x:Str):DM:=fun s=>match s.sl[iU]?,s.sl[iO]?,s.sl[iS]? with
 |some .no,some .no,some (.v d)=>(jM d).bind fun ds=>(dH ds).bind fun qs=>if qs.length<=sizeLine then (m [.lst ((S9 qs).map fw),.fn x] s.fs).map fun y=>(.next,⟨s.sl.set iR (.v y.1),y.2⟩) else none
 |_,_,_=>none
def EK {iS iU iO iR:Nat}{m:a8}{s:DS}(h:ja iS iU iO iR m x s=some r):∃d ds qs d1 fs1,s.sl[iU]? = some .no/\s.sl[iO]? = some .no/\s.sl[iS]? = some (.v d)/\jM d=some ds/\dH ds=some qs/\qs.length<=sizeLine /\
  m [.lst ((S9 qs).map fw),.fn x] s.fs=some (d1,fs1)/\r=(.next,⟨s.sl.set iR (.v d1),fs1⟩):=by
 unfold ja at h;split at h
 .rename_i d h1 h2 h3;refine Y0 h fun ds M h=>?_
  refine Y0 h fun qs U h=>?_
  by_cases hl:qs.length<=sizeLine
  .rw[tx hl] at h;refine mapP h fun d1 fs1 J W=>?_
   exact⟨d,ds,qs,d1,fs1,h1,h2,h3,M,U,hl,J,W.symm⟩
  .rw[So hl] at h;cases h
 .cases h
section
variable {K:vF_}{N:vB_}{fa:vA_}{H:Hp}
theorem vJ:∀{ds:vD_}{q:List Int}{xs:List V},qy ds=some q->Reps K N fa H ds xs->xs=q.map V.int
 |[],q,xs,h,r=>by cases h;simp only[Reps] at r;subst r;rfl
 |d::r',q,xs,h,r=>by
  cases d with
  |int i=>
   refine av h fun J h1 h2=>?_
   subst h2;simp only[Reps,Rep] at r;obtain⟨x,ys,rfl,rfl,r⟩:=r;rw[vJ h1 r];rfl
  |_=>cases h
def KZ {q:List Int}(h:Df d=some q) (r:Rep K N fa H d x):∃b,x = .ref b/\SqT K H b ((q.map Sum.inl).map kV):=by
 cases d with
 |tup ds=>
  simp only[Rep] at r;obtain⟨a,xs,rfl,s,r⟩:=r;refine⟨a,rfl,?_⟩;rw[vJ h r] at s;have e:(q.map (Sum.inl (β:=Str))).map kV=q.map V.int:=by rw[TN];rfl
  rw[e];exact s
 |_=>cases h
theorem oW:∀{ds:vD_}{qs:List (List Int)}{xs:List V},dH ds=some qs->Reps K N fa H ds xs->xs.length=qs.length/\∀(i:Nat) (x:V),xs[i]? = some x->∃(q:List Int) (b:Addr),qs[i]? = some q/\x=V.ref b/\SqT K H b ((q.map Sum.inl).map kV)
 |[],qs,xs,h,r=>by cases h;simp only[Reps] at r;subst r;exact⟨rfl,fun i x e=>by simp at e⟩
 |d::r',qs,xs,h,r=>by
  refine Y0 h fun k h1 h=>?_
  refine av h fun ks h2 h3=>?_
  subst h3;simp only[Reps] at r;obtain⟨x,ys,rfl,J,r⟩:=r;obtain⟨l,g⟩:=oW h2 r;refine⟨by simp[l],fun i y e=>?_⟩;cases i with
  |zero=>
   simp at e;subst e;obtain⟨b,U,M⟩:=KZ h1 J;exact⟨k,b,rfl,U,M⟩
  |succ i=>simpa using g i y (by simpa using e)
theorem SlR.no_set:∀{sl:List Sl}{σ:List (Option V)}{O:vL_}{i:Nat}(v:Option V),SlR K N fa H sl σ O->sl[i]? = some .no->SlR K N fa H sl (σ.set i v) O
 |[],σ,O,i,v,h,e=>by simp at e
 |.no::r,σ,O,i,v,h,e=>by
  simp only[SlR] at h ⊢;obtain⟨u,τ,rfl,h⟩:=h;cases i with
  |zero=>exact⟨v,τ,rfl,h⟩
  |succ i=>exact⟨u,τ.set i v,rfl,SlR.no_set v h (by simpa using e)⟩
 |.v d::r,σ,O,i,v,h,e=>by
  simp only[SlR] at h ⊢;obtain⟨u,τ,rfl,q,h⟩:=h;cases i with
  |zero=>simp at e
  |succ i=>exact⟨u,τ.set i v,rfl,q,SlR.no_set v h (by simpa using e)⟩
 |.own ds::r,σ,O,i,v,h,e=>by
  simp only[SlR] at h ⊢;obtain⟨a,xs,τ,P,rfl,rfl,ha,q,h⟩:=h;cases i with
  |zero=>simp at e
  |succ i=>exact⟨a,xs,τ.set i v,P,rfl,rfl,ha,q,SlR.no_set v h (by simpa using e)⟩
theorem DI.no_set {σ:L2.St}{O:vL_}{s:DS}{i:Nat}(I:GI K g σ H fa O s) (v:Option V) (e:s.sl[i]? = some .no):GI K g (σ.set i v) H fa O s:=⟨I.nd,SlR.no_set v I.sl e,I.fr,I.st,I.tr,I.ff,I.fd,I.nf⟩
end
def Sn {J:List (List Int)}{k:List Int}(h:J.Nodup):(W7 J k).Nodup:=by
 unfold W7;by_cases e:k∈J
 .rw[tx e];exact h
 .rw[So e];refine WG.mpr ⟨h,by simp,fun a ha b hb=>?_⟩;simp at hb;subst hb;exact fun z=>e (z▸ha)
theorem zY:∀(ks acc:List (List Int)),acc.Nodup->(ks.foldl W7 acc).Nodup
 |[],acc,h=>h
 |k::r,acc,h=>zY r _ (Sn h)
def Im (ks:List (List Int)):(S9 ks).Nodup:=zY ks [] VO
def Mo (J:List (List Int)) (k:List Int):(W7 J k).length<=J.length+1:=by
 unfold W7;split
 .omega
 .simp
theorem tL:∀(ks acc:List (List Int)),(ks.foldl W7 acc).length<=acc.length+ks.length
 |[],acc=>Su _
 |k::r,acc=>by
  have h:=tL r (W7 acc k);have h2:=Mo acc k;simp only[TY,SW];omega
def Du (ks:List (List Int)):(S9 ks).length<=ks.length:=by simpa [S9] using tL ks []
def Kh (ks:List (List Int)) (k:List Int):S9 (ks++[k])=W7 (S9 ks) k:=by simp[S9]
def U8 (k:List Int):List l5:=k.map Sum.inl
def yq {a b:List Int}(h:U8 a=U8 b):a=b:=(List.map_inj_right (fun _ _ z=>Sum.inl.inj z)).mp h
def Je {ks:List (List l5 × Addr)}{J:List (List Int)}(h:ks.map (·.1)=J.map U8) (q:List Int) (b:Addr):(bW ks (U8 q) b).map (·.1)=(W7 J q).map U8:=by
 have m:(ks.any fun x=>decide (x.1=U8 q))=true↔q∈J:=by
  rw[anyU,h,Tg];exact⟨fun ⟨a,ha,e⟩=>yq e▸ha,fun z=>⟨q,z,rfl⟩⟩
 unfold bW W7;by_cases e:q∈J
 .rw[tx (m.mpr e),tx e,h]
 .rw[So (fun z=>e (m.mp z)),So e,Tj,Tj,h];rfl
theorem tQ:∀{l:List (List Int)},l.Nodup->(l.map U8).Nodup
 |[],_=>VO
 |a::r,h=>by
  obtain⟨h1,h2⟩:=Tu.mp h;refine Tu.mpr ⟨fun z=>?_,tQ h2⟩;obtain⟨b,hb,e⟩:=Tg.mp z;exact h1 (yq e▸hb)
def cJ (X:Cx) (J:L2.St) (iO:Nat) (H:Hp) (p:Addr) (qs:List (List Int)) (i:Nat) (M:L2.St) (H':Hp):Prop:=
 (M=J\/∃u,M=J.set iO (some u))/\∃ks,H'=k0 H p (O9 X.prog X.w p ks)/\(∀x∈ks,SqT X.K H x.2 (x.1.map kV))/\ks.map (·.1)=(S9 (qs.take i)).map U8
section
variable {X:Cx}{g:Gh}{σ σ1:L2.St}{H:Hp}{fa:vA_}{O:vL_}{s:DS}{iU iO:Nat}{p:Addr}{qs:List (List Int)}
def yt (I:GI X.K g σ H fa O s) (hp:H p=none) (Y:σ1[iU]? = some (some (.ref p))) (W:iO≠iU) (lo:iO<σ1.length) (hl:qs.length<=sizeLine) {i:Nat}{q:List Int}{b:Addr}{bk:L2.St->Hp->Prop}
  (M:qs[i]? = some q) (hb:SqT X.K H b ((q.map Sum.inl).map kV)) (h:cJ X σ1 iO H p qs i σ' H'):R3 iO (.ref b) σ' H' fun σ2 H2=>rh X iU iO { nx:=cJ X σ1 iO H p qs (i+1),rt:=rt,bk:=bk,ct:=cJ X σ1 iO H p qs (i+1) } σ2 H2:=by
 obtain⟨Z,ks,rfl,h1,h2⟩:=h;have es:σ'.set iO (some (.ref b))=σ1.set iO (some (.ref b)):=by
  rcases Z with rfl | ⟨u,rfl⟩
  .rfl
  .rw[List.set_set]
 have tp:∀c xs,SqT X.K H c xs->∀o,SqT X.K (k0 H p o) c xs:=fun c xs z o=>(I.car (F9 (O:=O) (fa:=fa) hp).stp).tp c xs z
 have ll:ks.length<=sizeLine:=by
  have:=congrArg List.length h2;simp only[Ss] at this;have l1:=Du (qs.take i);have l2:=List.length_take_le i qs;have l3:(qs.take i).length<=qs.length:=by rw[Tp];exact XA ..
  omega
 show rh X iU iO _ (σ'.set iO (some (.ref b))) _;rw[es];refine⟨p,b,U8 q,ks,?_,?_,F6,fun x J=>tp _ _ (h1 x J) _,?_,tp _ _ hb _,ll,.inr ⟨_,rfl⟩,bW ks (U8 q) b,Rf,fun x J=>?_,?_⟩
 .rw[UC W];exact Y
 .rw[VI lo]
 .rw[h2];exact tQ (Im _)
 .unfold bW at J;split at J
  .exact h1 x J
  .rcases SM.mp J with z | z
   .exact h1 x z
   .simp at z;subst z;exact hb
 .rw[Je h2];have U:qs.take (i+1)=qs.take i++[q]:=by rw[List.take_succ,M];rfl
  rw[U,Kh]
end
theorem Ak {K:vF_}{N:vB_}{fa:vA_}:∀{ks:List (List l5 × Addr)}{us:List (List Int)},(∀x∈ks,SqT K H x.2 (x.1.map kV))->ks.map (·.1)=us.map U8->Reps K N fa H (us.map fw) (ks.map fun x=>V.ref x.2)
 |[],us,h,e=>by
  cases us with
  |nil=>exact Reps.nil
  |cons _ _=>cases e
 |k::r,us,h,e=>by
  cases us with
  |nil=>cases e
  |cons u us=>
   simp only[SN,List.cons.injEq] at e;simp only[SN,Reps];refine⟨_,_,rfl,?_,Ak (fun x J=>h x (SK _ J)) e.2⟩;simp only[fw,Rep];refine⟨k.2,u.map V.int,rfl,?_,Reps.ints⟩;have q:=h k (SR ..);rw[e.1] at q;have z:(U8 u).map kV=u.map V.int:=by unfold U8;rw[TN];rfl
   rw[z] at q;exact q
section
variable {X:Cx}{g:Gh}{iS iU iO iR k k':Nat}{xs xu xo xr f xl:Str}{ps:List Str}{m:a8}{v0:V}{value:Expr}{rest:List Stmt}{b:DM}{q1 q2 q3 q4 q5 q6 q7 q8 q9 q10 q11 q12 q13 q14 q15 q16 q17 q18:Pos}
def Ow (hp:PassesOwn (model X.prog X.w) X.A X.env X.xe) (hc:X.calm=true) (hr:Room k' X.A) (hN:X.N.Nodup) (nSU:iS≠iU) (nOU:iO≠iU)
  (C:Cal X.prog X.w X.K X.mg X.base k f ps m) (hk:k<=k') (hl:ps.length=2) (hgf:Gl X f) (VF:FnV X.K X.mg xl) (hgx:Gl X xl) (hgl:Gl X "list") (hml:X.mg "list" = none)
  (hU:∀p,PE X (.Name xu p) (Q4 iU)) (hO:∀p,PE X (.Name xo p) (Q4 iO)) (Z:PE X (.Name xs q5) (Q4 iS)) (hv:PE X value (tC v0))
  (hiU:X.N[iU]? = some xu) (hxU:L2.Loc X.env.scope xu) (hiO:X.N[iO]? = some xo) (hxO:L2.Loc X.env.scope xo) (hiR:X.N[iR]? = some xr) (hxR:L2.Loc X.env.scope xr)
  (hrest:SSO X g rest b)
  (hfU:X.fn xu=true\/X.env.scope.names.lookup xu=some .local:=by first | exact .inl rfl | exact .inr rfl | assumption)
  (hfO:X.fn xo=true\/X.env.scope.names.lookup xo=some .local:=by first | exact .inl rfl | exact .inr rfl | assumption)
  (hfR:X.fn xr=true\/X.env.scope.names.lookup xr=some .local:=by first | exact .inl rfl | exact .inr rfl | assumption)
  (hs1:swapsWith (.Dict [] [] q2) (some (.Name xu q1)) q3.line X.env=pure false:=by rfl)
  (hs2:∀x,foldedSetIterable (.Name xs q5) X.env x=pure x:=by intro _;rfl)
  (hs3:swapsWith value (some (.Subscript (.Name xu q6) (.Name xo q7) q8)) q9.line X.env=pure false:=by rfl)
  (hs4:swapsWith (.Call (.Name f q12) [.Call (.Name "list" q13) [.Name xu q14] [] q15,.Name xl q16] [] q17) (some (.Name xr q11)) q18.line X.env=pure false:=by rfl)
  (hdb:(f == ("__debug__" : Str))=false:=by decide) (hdx:(xl == ("__debug__" : Str))=false:=by decide)
  (he1:starEach [.Name xu q14] X.env=(false,eval (.Name xu q14) X.env)::starEach [] X.env:=by rfl)
  (he2:starEach [.Name xl q16] X.env=(false,eval (.Name xl q16) X.env)::starEach [] X.env:=by rfl)
  (he:starEach [.Call (.Name "list" q13) [.Name xu q14] [] q15,.Name xl q16] X.env=(false,eval (.Call (.Name "list" q13) [.Name xu q14] [] q15) X.env)::starEach [.Name xl q16] X.env:=by rfl)
  (hpl:(backTo q17 (starEach [.Name xl q16] X.env)).any (·.1)=false:=by rfl) :
  SSO X g (.Assign [.Name xu q1] (.Dict [] [] q2) q3 :: .For (.Name xo q4) (.Name xs q5) [.Assign [.Subscript (.Name xu q6) (.Name xo q7) q8] value q9] [] q10
   :: .Assign [.Name xr q11] (.Call (.Name f q12) [.Call (.Name "list" q13) [.Name xu q14] [] q15,.Name xl q16] [] q17) q18::rest) (c9 (ja iS iU iO iR m xl) b):=by
 obtain⟨fn,fd,F,hm,hkp,hb⟩:=C.ex;obtain⟨a,ha,hns⟩:=VF.ex;refine SSO.w (nB (mv hN hiU hxU IM hs1 hfU) (nB (rZ hp hc (rO Z) (O5 hN hiO hxO hfO) (yH (Ef (tf hr) (hU _) (hO _) hv hs3)) hs2)
  (nB (mv hN hiR hxR (wM F (hr.mono hk) hgf hm hkp hb .nil pF (fL (EZ hc hgl hml (hU _) he1) (fL (Ac (v:=.ref a) hgx ha rfl hdx) iQ he2) he) hdb he hpl) hs4 hfR) hrest.pe))) fun E σ H hQ=>?_
 refine hQ.elim fun fa O s fl s' I e kk=>?_
 refine B6 e fun f1 s1 h1 h2=>?_
 obtain⟨d,ds,qs,d1,fs1,hno,Y,hval,U,hks,hln,hmm,er⟩:=EK h1;cases er;intro p M hp1;have len:=I.sl.len;have iu:iU<σ.length:=by rw[len];exact(Tn.mp hno).1
 have io:iO<(σ.set iU (some (.ref p))).length:=by rw[List.length_set,len];exact(Tn.mp Y).1
 have e1:(σ.set iU (some (V.ref p)))[iU]? = some (some (.ref p)):=by rw[VI iu]
 have c:=I.car (F9 (O:=O) (fa:=fa) (o:=O9 X.prog X.w p []) M).stp;have fin:∀σ' H',cJ X (σ.set iU (some (.ref p))) iO H p qs qs.length σ' H' ->
   CH (fD (oy (cZ X.K ps.length m) [] E0 (pJ (Bs X iU) (pJ (tC (.ref a)) yA))) (R3 iR)) (liftS X.K g b) E σ' H':=by
  rintro σ' H' ⟨hs,ks,rfl,t1,t2⟩;rw[Vw] at t2;have I':GI X.K g σ' (k0 H p (O9 X.prog X.w p ks)) fa O s:=by
   have I1:=I.no_set (some (.ref p)) hno;rcases hs with rfl | ⟨u,rfl⟩
   .exact I1.new M
   .exact(I1.no_set (some u) Y).new M
  have eu:σ'[iU]? = some (some (.ref p)):=by
   rcases hs with rfl | ⟨u,rfl⟩
   .exact e1
   .rw[UC nOU];exact e1
  have a1:StE fa O H fa O (k0 H p (O9 X.prog X.w p ks)):=F9 M;have ll:ks.length<=sizeLine:=by
   have:=congrArg List.length t2;simp only[Ss] at this;have l1:=Du qs;omega
  have tp:∀x∈ks,SqT X.K (k0 H p (O9 X.prog X.w p ks)) x.2 (x.1.map kV):=fun x W=>(I.car a1.stp).tp _ _ (t1 x W)
  have L:liftE X.K g (c8 m fun s=>some ([.lst ((S9 qs).map fw),.fn xl],s)) σ' (k0 H p (O9 X.prog X.w p ks)) (fun v H1=>R3 iR v σ' H1 fun σ2 H2=>liftS X.K g b E σ2 H2):=by
   refine⟨fa,O,s,d1,{ s with fs:=fs1 },I',?_,fun v H1 f1 O1 a2 I2 r=>?_⟩
   .show (m _ s.fs).map _=_;rw[hmm];rfl
   .obtain⟨P,sub,I3⟩:=I2.put iR r;exact⟨f1,P,_,fl,s',I3,h2,kk.shift (a1.stp.trans (a2.stp.trans (gw sub).stp))⟩
  have T:=pT (X:=X) (n:=ps.length) (fun s ds s' h=>by cases h;rw[hl];rfl) σ' _ _ L;obtain⟨f1,O1,s1,dd,s2,J,ej,kj⟩:=T;cases ej;refine⟨p,ks,eu,hp1,F6,ll,fun S Z=>?_⟩;refine kj [.ref S,.ref a] _ f1 O1 (F9 Z) (J.new Z) ?_;have J2:=(J.new (o:=.lst (ks.map fun x=>V.ref x.2)) Z)
  simp only[Reps];refine⟨_,_,rfl,?_,_,_,rfl,?_,rfl⟩
  .simp only[Rep];refine⟨S,_,rfl,fun z=>?_,F6,Ak (fun x W=>?_) t2⟩
   .exact J.nn_tracked z Z
   .exact(J.car (F9 (O:=O1) (fa:=f1) Z).stp).tp _ _ (tp x W)
  .simp only[Rep];exact⟨a,rfl,hns⟩
 obtain⟨vS,es,rS⟩:=SlR.val I.sl hval;have es1:(σ.set iU (some (V.ref p)))[iS]? = some (some vS):=by rw[UC (SS nSU)];exact es
 have st0:cJ X (σ.set iU (some (.ref p))) iO H p qs 0 (σ.set iU (some (.ref p))) (k0 H p (O9 X.prog X.w p [])):=⟨.inl rfl,[],rfl,(fun x W=>nomatch W),rfl⟩
 cases d with
 |lst es2=>
  cases U;simp only[Rep] at rS;obtain⟨r,ys,rfl,nr,q,w⟩:=rS;obtain⟨kl,kg⟩:=oW hks w;refine⟨_,es1,r,rfl,.inl ⟨⟨ys,SqL.of (c.ls r ys nr q).1⟩,Dg (xs:=ys) (cJ X (σ.set iU (some (.ref p))) iO H p qs) st0 ?_ ?_ ?_⟩⟩
  .rintro i σ' H' _ ⟨_,ks,rfl,_⟩;exact SqL.of ((I.car (F9 (O:=O) (fa:=fa) M).stp).ls r ys nr q).1
  .intro i x σ' H' W h;obtain⟨qq,bb,e3,rfl,e4⟩:=kg i x W;exact yt I M e1 nOU io hln e3 e4 h
  .intro σ' H' h;rw[kl] at h;exact fin σ' H' h
 |tup es2=>
  cases U;simp only[Rep] at rS;obtain⟨r,ys,rfl,q,w⟩:=rS;obtain⟨kl,kg⟩:=oW hks w;refine⟨_,es1,r,rfl,.inr ⟨⟨ys,c.tp r ys q⟩,nv (xs:=ys) (cJ X (σ.set iU (some (.ref p))) iO H p qs) st0 ?_ ?_ ?_⟩⟩
  .rintro i σ' H' _ ⟨_,ks,rfl,_⟩;exact(I.car (F9 (O:=O) (fa:=fa) M).stp).tp r ys q
  .intro i x σ' H' W h;obtain⟨qq,bb,e3,rfl,e4⟩:=kg i x W;exact yt I M e1 nOU io hln e3 e4 h
  .intro σ' H' h;rw[kl] at h;exact fin σ' H' h
 |_=>cases U
end
end DL
namespace DL
open PySem PySem.Spec L2
def o6 {K:vF_}{mg:vG_}{st:Stmt}{fd:FuncData}{w:World}{ps:List Str}{k:Nat}{b:DM}(M:List Str) (F:GF K mg n st f fd) (q:∀(kV doc pm:Value) (an:vA_) (cdv ct:Value) (us:vV_),us.length=ps.length->bindArgs (PySem.W.fnOf n n (br st) (T4 st) (G2 st) .none kV doc pm an cdv ct) ⟨us,[]⟩=pure (ps.zip us)) (S:FnScope (ps++M) ps (G2 st))
  (J:(ps++M).Nodup->∀(cdv:Value) (A:Around) (outer:List Env) (s:Shared) (H:Hp) (E:XK) (g:Gh),Room k (A.deeper (PyProof.Rows.envOfC n (G2 st) s.heap.objs.size f cdv))->SSO (aK Z8 P w K mg base (ps++M) n (G2 st) f cdv A outer s H E).nox g (T4 st) b) :
  Cal P w K mg base (k+1) n ps (l6 (ps++M).length b):=AB F q S (J S.nd)
end DL
namespace T
open PySem PySem.Spec L2 DL
def pj:DM:=(f9 (nM 0))
def bD:a8:=l6 1 (pj)
def cf:DM:=(c9 (d7 (a7 m9 (J9 0 "turn") (Zf 1)) (d6 2)) (c9 (Z3 0 "turn" (dV 2)) (c9 (j9 (dB (a7 (j6 (fun i j=>decide (j<i))) (J9 0 "left") (Zf 0))) (c9 (d7 (a7 J3 (J9 0 "left") (dL 1)) (d6 3)) (c9 (Z3 0 "left" (a7 E7 (J9 0 "left") (dL 1))) (f9 (dV 3)))) k9) (c9 (d7 (J9 0 "cells") (d6 4)) (c9 (d7 (u4 (dB (a7 (j6 (fun i j=>decide (j<i))) (j7 (one r8) (a6 (dL 4) a9)) (Zf 0))) (a7 b0 (dL 4) (a7 J3 (J9 0 "at") (j7 (one r8) (a6 (dL 4) a9)))) (Zf 0)) (d6 5)) (c9 (Z3 0 "at" (a7 m9 (J9 0 "at") (Zf 1))) (c9 (j9 (w8 (dB (a7 (j6 (fun i j=>decide (j<=i))) (dL 5) (a7 ia (Zf 10) (Zf 18)))) (dB (a7 (j6 (fun i j=>decide (i<=j))) (J9 0 "at") (j7 (one r8) (a6 (dL 4) a9))))) (c9 (Z3 0 "left" (a7 E7 (dL 5) (dL 1))) (f9 (a7 J3 (dL 5) (dL 1)))) k9) (c9 (d7 (a7 J3 (a7 i6 (a7 m9 (a7 m9 (a7 m9 (a7 J3 (dL 5) (Zf 1000003)) (a7 i6 (a7 i6 (Zf 31) (dL 2)) (dL 2))) (a7 i6 (Zf 7) (dL 2))) (Zf 11)) (Zf 48271)) (Zf 2147483647)) (d6 6)) (c9 (d7 (a7 J3 (a7 m9 (a7 i6 (a7 E7 (dL 6) (Zf 64)) (Zf 69621)) (a7 i6 (Zf 7919) (dL 2))) (Zf 2147483587)) (d6 6)) (f9 (a7 J3 (a7 E7 (dL 6) (Zf 64)) (dL 1))))))))))))
def P5:a8:=l6 7 (cf)
abbrev EW:DM:=(c9 (d7 (a7 J3 (dL 2) (dL 3)) (d6 4)) (c9 (d7 (dV 3) (d6 2)) (d7 (dV 4) (d6 3))))
def nA:DM:=(c9 (d7 (j7 (one ba) (a6 (dL 0) a9)) (d6 2)) (c9 (d7 (j7 (one ba) (a6 (dL 1) a9)) (d6 3)) (c9 (F7 (dB (a7 B4 (dL 3) (Zf 0))) (EW)) (f9 (dV 2)))))
def V6:a8:=l6 5 (nA)
abbrev jk (m0L:a8):DM:=(d7 (c8 m0L (a6 (dV 1) (a6 (dV 2) a9))) (d6 1))
def kI (J:a8):DM:=(c9 (d7 (Zf 0) (d6 1)) (c9 (L8 (dV 0) (d6 2) (jk J)) (f9 (dV 1))))
def dF (J:a8):a8:=l6 3 (kI J)
def rE (J:a8):DM:=(c9 (d7 (c8 J (a6 (dV 0) a9)) (d6 1)) (c9 (j9 (dB (a7 (j6 (fun i j=>decide (i<j))) (a7 b0 (dL 0) (m8 o7 (Zf 1))) (Zf 0))) (d7 (m8 o7 (dL 1)) (d6 1)) k9) (f9 (j7 (one S8) (a6 (m6 (N0 [1] (G5 (dV 0)) E3 (a7 E7 (dL 0) (dL 1)))) a9)))))
def DC (J:a8):a8:=l6 2 (rE J)
def qp (J:a8):DM:=(f9 (c8 J (a6 (i9 (a6 (dV 0) (a6 (dV 1) a9))) a9)))
def tU (J:a8):a8:=l6 2 (qp J)
abbrev FN:DM:=(B5 2 3 (a6 (dV 3) (a6 (a7 J3 (dL 2) (dL 3)) a9)))
def ki:DM:=(c9 (d7 (j7 (one ba) (a6 (dL 0) a9)) (d6 2)) (c9 (d7 (j7 (one ba) (a6 (dL 1) a9)) (d6 3)) (c9 (F7 (dB (a7 (j6 (fun i j=>decide (j<i))) (dL 3) (Zf 0))) (FN)) (c9 (j9 (dB (a7 (j6 (fun i j=>decide (i<j))) (dL 1) (Zf 0))) (d7 (a7 u7 (Zf 0) (dL 2)) (d6 2)) k9) (f9 (i9 (a6 (a7 E7 (dL 0) (dL 2)) (a6 (a7 E7 (dL 1) (dL 2)) a9))))))))
def uj:a8:=l6 4 (ki)
def mD (J:a8):DM:=(c9 (d7 (a7 m9 (a7 i6 (Zg 0 0) (Zg 1 1)) (a7 i6 (Zg 1 0) (Zg 0 1))) (d6 2)) (f9 (c8 J (a6 (dV 2) (a6 (a7 i6 (Zg 0 1) (Zg 1 1)) a9)))))
def xE (J:a8):a8:=l6 3 (mD J)
def mX:DM:=(f9 (i9 (a6 (a7 u7 (Zf 0) (Zg 0 0)) (a6 (Zg 0 1) a9))))
def F4:a8:=l6 1 (mX)
def jX (J:a8):DM:=(f9 (c8 J (a6 (a7 i6 (Zg 0 0) (Zg 1 0)) (a6 (a7 i6 (Zg 0 1) (Zg 1 1)) a9))))
def AQ (J:a8):a8:=l6 2 (jX J)
def my (J:a8):DM:=(f9 (c8 J (a6 (a7 i6 (Zg 0 0) (Zg 1 0)) (a6 (a7 i6 (Zg 0 1) (Zg 1 1)) a9))))
def DU (J:a8):a8:=l6 2 (my J)
def kz:DM:=(f9 (a7 (j6 (fun i j=>decide (i<j))) (a7 i6 (Zg 0 0) (Zg 1 1)) (a7 i6 (Zg 1 0) (Zg 0 1))))
def ph:a8:=l6 2 (kz)
def kX (M:a8) (J:a8):DM:=(c9 (d7 (c8 J (a6 (dV 0) (a6 (a7 b0 (m6 (l7 (a6 (Zf 7) (a6 (Zf 13) (a6 (Zf 30) a9))))) (c8 J (a6 (dV 0) (a6 (Zf 3) a9)))) a9))) (d6 1)) (c9 (d7 (a7 b0 (m6 (l7 (a6 (Zf 1) (a6 (Zf 1) (a6 (Zf 1) (a6 (Zf 2) (a6 (Zf 3) (a6 (Zf 4) a9)))))))) (c8 J (a6 (dV 0) (a6 (Zf 6) a9)))) (d6 2)) (f9 (c8 M (a6 (a7 i6 (dL 1) (a7 u7 (Zf 1) (a7 i6 (Zf 2) (c8 J (a6 (dV 0) (a6 (Zf 2) a9)))))) (a6 (dV 2) a9))))))
def vO (M:a8) (J:a8):a8:=l6 3 (kX M J)
def dR:DM:=(c9 (d7 (a7 u7 (a7 i6 (Zg 0 0) (Zg 1 2)) (a7 i6 (Zg 1 0) (Zg 0 2))) (d6 2)) (f9 (D6 (a7 (j6 (fun i j=>decide (i<j))) (dL 2) (Zf 0)) (D4 (a7 w9 (dL 2) (Zf 0)) (a7 (j6 (fun i j=>decide (i<j))) (a7 i6 (Zg 0 1) (Zg 1 2)) (a7 i6 (Zg 1 1) (Zg 0 2)))))))
def X3:a8:=l6 3 (dR)
def jY (J:a8):DM:=(c9 (d7 (a7 i6 (Zg 0 1) (Zg 1 1)) (d6 2)) (c9 (d7 (c8 J (a6 (a7 i6 (Zg 0 0) (Zg 1 1)) (a6 (dV 2) a9))) (d6 3)) (c9 (d7 (c8 J (a6 (a7 i6 (Zg 1 0) (Zg 0 1)) (a6 (dV 2) a9))) (d6 4)) (c9 (d7 (c8 J (a6 (Zg 3 1) (a6 (Zg 4 1) a9))) (d6 5)) (c9 (d7 (a7 i6 (Zg 3 1) (Zg 5 1)) (d6 2)) (f9 (i9 (a6 (a7 i6 (Zg 3 0) (a7 E7 (dL 2) (Zg 3 1))) (a6 (a7 i6 (Zg 4 0) (a7 E7 (dL 2) (Zg 4 1))) (a6 (dV 2) a9))))))))))
def Dy (J:a8):a8:=l6 6 (jY J)
def nC (M:a8) (J:a8):DM:=(f9 (c8 M (a6 (c8 J (a6 (dV 0) a9)) (a6 (c8 J (a6 (dV 0) a9)) a9))))
def yr (M:a8) (J:a8):a8:=l6 1 (nC M J)
def iP:DM:=(c9 (d7 (a7 i6 (Zg 0 0) (Zg 1 2)) (d6 2)) (c9 (d7 (a7 i6 (Zg 1 0) (Zg 0 2)) (d6 3)) (c9 (j9 (dB (a7 B4 (dL 2) (dL 3))) (f9 (a7 (j6 (fun i j=>decide (i<j))) (dL 2) (dL 3))) k9) (f9 (a7 (j6 (fun i j=>decide (i<j))) (a7 i6 (Zg 0 1) (Zg 1 2)) (a7 i6 (Zg 1 1) (Zg 0 2)))))))
def V0:a8:=l6 4 (iP)
def kH (J:a8):DM:=(f9 (i9 (a6 (c8 J (a6 (Zg 0 0) (a6 (Zg 0 2) a9))) (a6 (c8 J (a6 (Zg 0 1) (a6 (Zg 0 2) a9))) a9))))
def vK (J:a8):a8:=l6 1 (kH J)
def lY (U:a8) (J:a8) (M:a8):DM:=(c9 (d7 (c8 M (a6 (dV 0) a9)) (y9 2 (t9 (d6 3) (t9 (d6 4) A3)))) (f9 (c8 U (a6 (c8 J (a6 (dV 3) (a6 (dV 1) a9))) (a6 (c8 J (a6 (dV 4) (a6 (dV 2) a9))) a9)))))
def yX (U:a8) (M:a8) (J:a8):a8:=l6 5 (lY U M J)
def kJ:DM:=(c9 (d7 (a7 i6 (a7 u7 (a7 i6 (Zg 1 0) (Zg 0 2)) (a7 i6 (Zg 0 0) (Zg 1 2))) (a7 u7 (a7 i6 (Zg 2 1) (Zg 0 2)) (a7 i6 (Zg 0 1) (Zg 2 2)))) (d6 3)) (c9 (d7 (a7 i6 (a7 u7 (a7 i6 (Zg 1 1) (Zg 0 2)) (a7 i6 (Zg 0 1) (Zg 1 2))) (a7 u7 (a7 i6 (Zg 2 0) (Zg 0 2)) (a7 i6 (Zg 0 0) (Zg 2 2)))) (d6 4)) (f9 (a7 u7 (j7 (one ai) (a6 (a7 (j6 (fun i j=>decide (j<i))) (dL 3) (dL 4)) a9)) (j7 (one ai) (a6 (a7 (j6 (fun i j=>decide (i<j))) (dL 3) (dL 4)) a9))))))
def S7:a8:=l6 5 (kJ)
def mE (M:a8) (W:a8) (U:a8) (J:a8):DM:=(c9 (d7 (c8 M (a6 (a7 b0 (c8 J (a6 (dV 1) a9)) (Zf 0)) (a6 (c8 U (a6 (a7 b0 (c8 J (a6 (dV 0) a9)) (Zf 0)) a9)) a9))) (d6 2)) (c9 (d7 (c8 M (a6 (a7 b0 (c8 J (a6 (dV 1) a9)) (Zf 1)) (a6 (c8 U (a6 (a7 b0 (c8 J (a6 (dV 0) a9)) (Zf 1)) a9)) a9))) (d6 3)) (f9 (c8 M (a6 (c8 W (a6 (dV 2) (a6 (dV 2) a9))) (a6 (c8 W (a6 (dV 3) (a6 (dV 3) a9))) a9))))))
def sP (M:a8) (W:a8) (U:a8) (J:a8):a8:=l6 4 (mE M W U J)
def fZ:DM:=(c9 (j9 (dB (a7 (j6 (fun i j=>decide (j<i))) (dL 0) (Zf 0))) (f9 (Zf 1)) k9) (c9 (j9 (dB (a7 (j6 (fun i j=>decide (i<j))) (dL 0) (Zf 0))) (f9 (m8 o7 (Zf 1))) k9) (f9 (Zf 0))))
def gF:a8:=l6 1 (fZ)
def lE (J:a8):DM:=(c9 (d7 (a7 i6 (Zg 0 0) (a7 u7 (a7 i6 (Zg 1 1) (Zg 2 2)) (a7 i6 (Zg 2 1) (Zg 1 2)))) (d6 3)) (c9 (d7 (a7 u7 (dL 3) (a7 i6 (Zg 0 1) (a7 u7 (a7 i6 (Zg 1 0) (Zg 2 2)) (a7 i6 (Zg 2 0) (Zg 1 2))))) (d6 3)) (c9 (d7 (a7 m9 (dL 3) (a7 i6 (Zg 0 2) (a7 u7 (a7 i6 (Zg 1 0) (Zg 2 1)) (a7 i6 (Zg 2 0) (Zg 1 1))))) (d6 3)) (f9 (c8 J (a6 (dV 3) a9))))))
def tW (J:a8):a8:=l6 4 (lE J)
def lA (J:a8):DM:=(c9 (d7 (a7 u7 (a7 i6 (Zg 0 0) (Zg 1 2)) (a7 i6 (Zg 1 0) (Zg 0 2))) (d6 2)) (c9 (d7 (a7 u7 (a7 i6 (Zg 0 1) (Zg 1 2)) (a7 i6 (Zg 1 1) (Zg 0 2))) (d6 3)) (c9 (d7 (a7 i6 (Zg 0 2) (Zg 1 2)) (d6 4)) (f9 (c8 J (a6 (a7 m9 (a7 i6 (dL 2) (dL 2)) (a7 i6 (dL 3) (dL 3))) (a6 (a7 i6 (dL 4) (dL 4)) a9)))))))
def ju (J:a8):a8:=l6 5 (lA J)
abbrev qH (m0D:a8):DM:=(c9 (F0 3 (a7 b0 (dL 1) (dL 4))) (d7 (a7 m9 (dL 4) (Zf 1)) (d6 4)))
abbrev rX (m0D:a8):DM:=(c9 (F7 (w8 (dB (a7 (j6 (fun i j=>decide (i<j))) (dL 4) (j7 (one r8) (a6 (dL 1) a9)))) (w6 (dI 2 [("is_lesser",m0D)] (a6 (a7 b0 (dL 1) (dL 4)) (a6 (dV 5) a9))))) (qH m0D)) (F0 3 (dV 5)))
def sS (J:a8):DM:=(c9 (F5 3 (l7 a9)) (c9 (d7 (Zf 0) (d6 4)) (c9 (L8 (dV 0) (d6 5) (rX J)) (f9 (a7 m9 (dL 3) (J6 (dL 1) (K9 (dL 4)) L6))))))
def fS (J:a8):a8:=l6 6 (sS J)
def iX (M:a8) (J:a8):DM:=(c9 (j9 (dB (a7 (j6 (fun i j=>decide (i<j))) (j7 (one r8) (a6 (dL 0) a9)) (Zf 2))) (f9 (m6 (V7 (one DH) (a6 (dL 0) a9)))) k9) (c9 (d7 (a7 E7 (j7 (one r8) (a6 (dL 0) a9)) (Zf 2)) (d6 2)) (f9 (c8 M (a6 (c8 J (a6 (J6 (dL 0) L6 (K9 (dL 2))) (a6 (dV 1) a9))) (a6 (c8 J (a6 (J6 (dL 0) (K9 (dL 2)) L6) (a6 (dV 1) a9))) (a6 (dV 1) a9)))))))
def jf (J:a8):Nat->a8
 |0=>fun _ _=>none
 |n+1=>l6 3 (iX J (jf J n))
abbrev QT (m0f:a8):DM:=(gZ 1)
abbrev nU (m0f:a8):DM:=(c9 (F7 (w8 (dB (a7 (j6 (fun i j=>decide (j<i))) (j7 (one r8) (a6 (dL 1) a9)) (Zf 1))) (dB (a7 B4 (c8 m0f (a6 (a7 b0 (dL 1) (m8 o7 (Zf 2))) (a6 (a7 b0 (dL 1) (m8 o7 (Zf 1))) (a6 (dV 2) a9)))) (Zf 1)))) (QT m0f)) (F0 1 (dV 2)))
def nJ (J:a8):DM:=(c9 (F5 1 (l7 a9)) (c9 (L8 (dV 0) (d6 2) (nU J)) (f9 (dV 1))))
def eP (J:a8):a8:=l6 3 (nJ J)
def qG (M:a8) (J:a8):DM:=(c9 (ja 0 1 2 3 M "is_lesser") (c9 (d7 (a7 m9 (J6 (c8 J (a6 (dV 3) a9)) L6 (K9 (m8 o7 (Zf 1)))) (J6 (c8 J (a6 (m6 (V7 jg (a6 (dL 3) a9))) a9)) L6 (K9 (m8 o7 (Zf 1))))) (d6 4)) (c9 (j9 (dB (a7 (j6 (fun i j=>decide (i<j))) (j7 (one r8) (a6 (dL 4) a9)) (Zf 3))) (f9 (dC .non)) k9) (f9 (j7 (one S8) (a6 (dL 4) a9))))))
def xQ (M:a8) (J:a8):a8:=l6 5 (qG M J)
def kP (J:a8):DM:=(c9 (d7 (a7 i6 (Zf 5) (Zg 1 1)) (d6 3)) (c9 (d7 (a7 m9 (a7 i6 (Zg 0 0) (dL 3)) (a7 i6 (a7 i6 (Zg 1 0) (Zg 2 0)) (Zg 0 2))) (d6 4)) (c9 (d7 (a7 m9 (a7 i6 (Zg 0 1) (dL 3)) (a7 i6 (a7 i6 (Zg 1 0) (Zg 2 1)) (Zg 0 2))) (d6 5)) (f9 (c8 J (a6 (i9 (a6 (dV 4) (a6 (dV 5) (a6 (a7 i6 (Zg 0 2) (dL 3)) a9)))) a9))))))
def CJ (J:a8):a8:=l6 6 (kP J)
def sE (M:a8) (J:a8):DM:=(f9 (c8 M (a6 (m6 (N0 [0,1] (G5 (dC (.tup [(.tup [(.int 5),(.int 0)]),(.tup [(.int 4),(.int 3)]),(.tup [(.int 3),(.int 4)]),(.tup [(.int 0),(.int 5)]),(.tup [(.int (-3)),(.int 4)]),(.tup [(.int (-4)),(.int 3)]),(.tup [(.int (-5)),(.int 0)]),(.tup [(.int (-4)),(.int (-3))]),(.tup [(.int (-3)),(.int (-4))]),(.tup [(.int 0),(.int (-5))]),(.tup [(.int 3),(.int (-4))]),(.tup [(.int 4),(.int (-3))])]))) E3 (c8 J (a6 (dV 1) (a6 (dV 2) (a6 (dV 0) a9)))))) a9)))
def vP (M:a8) (J:a8):a8:=l6 2 (sE M J)
abbrev sk (m03:a8) (mo:a8) (m00:a8):DM:=(F0 3 (c8 m03 (a6 (dV 0) (a6 (c8 mo (a6 (dV 1) (a6 (c8 m00 (a6 (dV 4) (a6 (Zf 5) a9))) a9))) (a6 (c8 mo (a6 (dV 1) (a6 (c8 m00 (a6 (dV 5) (a6 (Zf 5) a9))) a9))) a9)))))
def kZ (M:a8) (U:a8) (J:a8):DM:=(c9 (F5 2 (l7 (a6 (i9 (a6 (m8 o7 (Zf 5)) (a6 (Zf 0) a9))) (a6 (i9 (a6 (m8 o7 (Zf 4)) (a6 (m8 o7 (Zf 3)) a9))) (a6 (i9 (a6 (m8 o7 (Zf 3)) (a6 (m8 o7 (Zf 4)) a9))) (a6 (i9 (a6 (Zf 0) (a6 (m8 o7 (Zf 5)) a9))) (a6 (i9 (a6 (Zf 3) (a6 (m8 o7 (Zf 4)) a9))) (a6 (i9 (a6 (Zf 4) (a6 (m8 o7 (Zf 3)) a9))) (a6 (i9 (a6 (Zf 5) (a6 (Zf 0) a9))) (a6 (i9 (a6 (Zf 4) (a6 (Zf 3) a9))) (a6 (i9 (a6 (Zf 3) (a6 (Zf 4) a9))) (a6 (i9 (a6 (Zf 0) (a6 (Zf 5) a9))) (a6 (i9 (a6 (m8 o7 (Zf 3)) (a6 (Zf 4) a9))) (a6 (i9 (a6 (m8 o7 (Zf 4)) (a6 (Zf 3) a9))) a9)))))))))))))) (c9 (F5 3 (l7 a9)) (c9 (L8 (dV 2) (y9 2 (t9 (d6 4) (t9 (d6 5) A3))) (sk M U J)) (f9 (j7 (one S8) (a6 (dL 3) a9))))))
def AM (M:a8) (U:a8) (J:a8):a8:=l6 6 (kZ M U J)
def nG (J:a8) (M:a8):DM:=(c9 (d7 (c8 M (a6 (a7 b0 (m6 (l7 (a6 (Zf 1) (a6 (Zf 1) (a6 (Zf 1) (a6 (Zf 5) (a6 (Zf 2) (a6 (Zf 3) (a6 (Zf 13) a9))))))))) (c8 J (a6 (dV 0) (a6 (Zf 7) a9)))) (a6 (a7 b0 (m6 (l7 (a6 (Zf 1) (a6 (Zf 2) (a6 (Zf 5) (a6 (Zf 4) a9)))))) (c8 J (a6 (dV 0) (a6 (Zf 4) a9)))) a9))) (d6 1)) (c9 (d7 (a7 b0 (m6 (l7 (a6 (dC (.str "both")) (a6 (dC (.str "both")) (a6 (dC (.str "left")) (a6 (dC (.str "right")) a9)))))) (c8 J (a6 (dV 0) (a6 (Zf 4) a9)))) (d6 2)) (c9 (d7 (a7 b0 (m6 (l7 (a6 (dC (.str "cut")) (a6 (dC (.str "square")) (a6 (dC (.str "round")) a9))))) (c8 J (a6 (dV 0) (a6 (Zf 3) a9)))) (d6 3)) (c9 (d7 (a7 b0 (m6 (l7 (a6 (dC (.str "cut")) (a6 (dC (.str "pointed")) (a6 (dC (.str "pointed")) (a6 (dC (.str "round")) a9)))))) (c8 J (a6 (dV 0) (a6 (Zf 4) a9)))) (d6 4)) (f9 (i9 (a6 (dV 1) (a6 (dV 2) (a6 (dV 3) (a6 (dV 4) (a6 (a7 b0 (m6 (l7 (a6 (i9 (a6 (Zf 1) (a6 (Zf 1) a9))) (a6 (i9 (a6 (Zf 2) (a6 (Zf 1) a9))) (a6 (i9 (a6 (Zf 4) (a6 (Zf 1) a9))) (a6 (i9 (a6 (Zf 3) (a6 (Zf 2) a9))) (a6 (i9 (a6 (Zf 20) (a6 (Zf 1) a9))) a9))))))) (c8 J (a6 (dV 0) (a6 (Zf 5) a9)))) a9)))))))))))
def DN (J:a8) (M:a8):a8:=l6 5 (nG J M)
def cU:DM:=(c9 (j9 (w6 (dL 1)) (f9 (m6 (V7 cn (a6 (dL 0) (a6 (a7 m9 (J6 (dL 0) (K9 (Zf 1)) L6) (J6 (dL 0) L6 (K9 (Zf 1)))) a9))))) k9) (f9 (m6 (V7 cn (a6 (dL 0) (a6 (J6 (dL 0) (K9 (Zf 1)) L6) a9))))))
def az:a8:=l6 2 (cU)
def kT (J:a8):DM:=(f9 (j7 (one S8) (a6 (c8 J (a6 (Zg 0 1) (a6 (Zg 0 0) a9))) a9)))
def vR (J:a8):a8:=l6 1 (kT J)
def qT (U:a8) (M:a8) (J:a8):DM:=(c9 (d7 (a7 b0 (m6 (l7 (a6 (i9 (a6 (Zf 1) (a6 (Zf 0) (a6 (Zf 1) a9)))) (a6 (i9 (a6 (Zf 1) (a6 (Zf 0) (a6 (Zf 1) a9)))) (a6 (i9 (a6 (Zf 3) (a6 (Zf 4) (a6 (Zf 5) a9)))) (a6 (i9 (a6 (Zf 4) (a6 (Zf 3) (a6 (Zf 5) a9)))) (a6 (i9 (a6 (Zf 5) (a6 (Zf 12) (a6 (Zf 13) a9)))) (a6 (i9 (a6 (Zf 8) (a6 (Zf 15) (a6 (Zf 17) a9)))) a9)))))))) (c8 J (a6 (dV 0) (a6 (Zf 6) a9)))) (y9 3 (t9 (d6 1) (t9 (d6 2) (t9 (d6 3) A3))))) (c9 (j9 (dB (a7 w9 (c8 J (a6 (dV 0) (a6 (Zf 2) a9))) (Zf 0))) (B5 1 2 (a6 (dV 2) (a6 (dV 1) a9))) k9) (c9 (d7 (a7 i6 (dL 1) (a7 u7 (Zf 1) (a7 i6 (Zf 2) (c8 J (a6 (dV 0) (a6 (Zf 2) a9)))))) (d6 1)) (c9 (d7 (a7 i6 (dL 2) (a7 u7 (Zf 1) (a7 i6 (Zf 2) (c8 J (a6 (dV 0) (a6 (Zf 2) a9)))))) (d6 2)) (c9 (d7 (a7 i6 (a7 b0 (m6 (l7 (a6 (Zf 1) (a6 (Zf 2) (a6 (Zf 3) (a6 (Zf 4) (a6 (Zf 6) a9))))))) (c8 J (a6 (dV 0) (a6 (Zf 5) a9)))) (a7 b0 (m6 (l7 (a6 (Zf 1) (a6 (dV 3) a9)))) (c8 J (a6 (dV 0) (a6 (Zf 2) a9))))) (d6 4)) (c9 (d7 (c8 M (a6 (dV 4) (a6 (a7 b0 (m6 (l7 (a6 (Zf 1) (a6 (dV 3) (a6 (a7 i6 (Zf 2) (dL 3)) a9))))) (c8 J (a6 (dV 0) (a6 (Zf 3) a9)))) a9))) (d6 4)) (f9 (m6 (N0 [4] (G5 (i9 (a6 (dV 1) (a6 (dV 2) (a6 (dV 3) a9))))) E3 (c8 U (a6 (i9 (a6 (dV 0) (a6 (Zf 1) a9))) (a6 (dV 1) a9))))))))))))
def qJ (U:a8) (J:a8) (M:a8):a8:=l6 5 (qT U J M)
def wR (M:a8) (J:a8):DM:=(c9 (d7 (c8 J (a6 (Zg 0 0) (a6 (Zg 1 1) a9))) (d6 2)) (c9 (d7 (c8 J (a6 (Zg 0 1) (a6 (Zg 1 0) a9))) (d6 3)) (c9 (d7 (c8 M (a6 (c8 J (a6 (Zg 0 0) (a6 (Zg 1 0) a9))) (a6 (c8 J (a6 (Zg 0 1) (a6 (Zg 1 1) a9))) a9))) (d6 4)) (f9 (D4 (a7 w9 (dL 2) (dL 3)) (a7 (j6 (fun i j=>decide (j<i))) (Zg 4 0) (Zf 0)))))))
def xY (J:a8) (M:a8):a8:=l6 5 (wR J M)
abbrev nu (m0M:a8) (m03:a8) (m02:a8) (mt:a8) (m0N:a8) (m0O:a8):DM:=(c9 (d7 (c8 m0N (a6 (dV 0) a9)) (d6 5)) (c9 (j9 (w8 (dB (a7 B4 (dL 3) (m6 (l7 a9)))) (dB (a7 w9 (c8 m02 (a6 (dV 0) (a6 (Zf 8) a9))) (Zf 0)))) (F5 5 (l7 (a6 (c8 mt (a6 (a7 b0 (a7 b0 (dL 3) (m8 o7 (Zf 1))) (Zf 0)) a9)) (a6 (c8 mt (a6 (a7 b0 (a7 b0 (dL 3) (m8 o7 (Zf 1))) (Zf 1)) a9)) (a6 (a7 b0 (a7 b0 (dL 3) (m8 o7 (Zf 1))) (Zf 2)) a9))))) k9) (j9 (A5 (dB (a7 w9 (dL 3) (m6 (l7 a9)))) (B0 (w6 (c8 m0M (a6 (a7 b0 (dL 3) (m8 o7 (Zf 1))) (a6 (dV 5) a9)))))) (c9 (F0 3 (dV 5)) (F0 2 (c8 m03 (a6 (a7 b0 (dL 2) (m8 o7 (Zf 1))) (a6 (Zg 5 0) (a6 (Zg 5 1) a9)))))) k9)))
def jy (Y:a8) (W:a8) (M:a8) (Z:a8) (U:a8) (J:a8):DM:=(c9 (F5 2 (l7 (a6 (c8 J (a6 (dV 0) a9)) a9))) (c9 (F5 3 (l7 a9)) (c9 (ar (a6 (a7 m9 (Zf 1) (c8 M (a6 (dV 0) (a6 (a7 u7 (dL 1) (Zf 1)) a9)))) a9) (d6 4) (nu Y W M Z U J)) (f9 (i9 (a6 (dC (.bl false)) (a6 (j7 (one S8) (a6 (dL 2) a9)) a9)))))))
def zV (Y:a8) (M:a8) (W:a8) (Z:a8) (J:a8) (U:a8):a8:=l6 6 (jy Y M W Z J U)
def vA (J:a8):DM:=(f9 (c8 J (a6 (dV 0) (a6 (dC (.bl true)) a9))))
def Aq (J:a8):a8:=l6 1 (vA J)
def lH (M:a8) (W:a8) (J:a8) (U:a8):DM:=(c9 (d7 (c8 U (a6 (dV 0) (a6 (dV 1) (a6 (dV 2) a9)))) (d6 3)) (c9 (j9 (dB (a7 B4 (dL 3) (Zf 0))) (f9 (a7 (j6 (fun i j=>decide (i<j))) (dL 3) (Zf 0))) k9) (f9 (a7 (j6 (fun i j=>decide (i<j))) (a7 b0 (c8 M (a6 (c8 J (a6 (dV 0) (a6 (dV 1) a9))) (a6 (c8 W (a6 (c8 J (a6 (dV 0) (a6 (dV 2) a9))) a9)) a9))) (Zf 0)) (Zf 0)))))
def xv (U:a8) (W:a8) (M:a8) (J:a8):a8:=l6 4 (lH U W M J)
abbrev ze (m0y:a8) (m0z:a8):DM:=(j9 (w6 (c8 m0z (a6 (dV 2) (a6 (dV 1) a9)))) (d7 (dV 2) (d6 1)) k9)
abbrev zU (m0y:a8) (m0z:a8):DM:=(j9 (w8 (dB (a7 B4 (dL 2) (dL 4))) (A5 (dB (a7 fN (dL 5) (dC .non))) (w6 (c8 m0y (a6 (dV 4) (a6 (dV 5) (a6 (dV 2) a9))))))) (d7 (dV 2) (d6 5)) k9)
abbrev du (m0y:a8) (m0z:a8):DM:=(c9 (F0 3 (dV 4)) (c9 (d7 (dC .non) (d6 5)) (c9 (L8 (dV 0) (d6 2) (zU m0y m0z)) (d7 (u4 (A5 (dB (a7 fN (dL 5) (dC .non))) (dB (a7 (j6 (fun i j=>decide (j<i))) (j7 (one r8) (a6 (dL 3) a9)) (j7 (one r8) (a6 (dL 0) a9))))) (dV 1) (dV 5)) (d6 4)))))
def nF (M:a8) (J:a8):DM:=(c9 (d7 (Zg 0 0) (d6 1)) (c9 (L8 (dV 0) (d6 2) (ze M J)) (c9 (F5 3 (l7 a9)) (c9 (d7 (dV 1) (d6 4)) (c9 (F7 (A5 (dB (a7 B4 (dL 4) (dL 1))) (dB (a7 w9 (dL 3) (m6 (l7 a9))))) (du M J)) (f9 (u4 (dB (a7 (j6 (fun i j=>decide (j<i))) (j7 (one r8) (a6 (dL 3) a9)) (Zf 2))) (j7 (one S8) (a6 (dL 3) a9)) (dC .non))))))))
def Bf (M:a8) (J:a8):a8:=l6 6 (nF M J)
def vq:DM:=(f9 (i9 (a6 (a7 u7 (a7 i6 (Zg 0 1) (Zg 1 2)) (a7 i6 (Zg 0 2) (Zg 1 1))) (a6 (a7 u7 (a7 i6 (Zg 0 2) (Zg 1 0)) (a7 i6 (Zg 0 0) (Zg 1 2))) (a6 (a7 u7 (a7 i6 (Zg 0 0) (Zg 1 1)) (a7 i6 (Zg 0 1) (Zg 1 0))) a9)))))
def mU:a8:=l6 2 (vq)
def Bi (J:a8):DM:=(f9 (c8 J (a6 (dV 0) (a6 (dV 1) a9))))
def BJ (J:a8):a8:=l6 2 (Bi J)
def BC (M:a8) (J:a8):DM:=(f9 (c8 M (a6 (c8 J (a6 (dV 0) (a6 (dV 1) a9))) a9)))
def Aj (M:a8) (J:a8):a8:=l6 2 (BC M J)
abbrev nE (m0f:a8) (m0i:a8) (m0g:a8) (m0P:a8):DM:=(c9 (d7 (c8 m0f (a6 (dV 1) (a6 (dV 2) (a6 (dV 5) a9)))) (d6 7)) (c9 (j9 (dB (a7 B4 (dL 7) (m8 o7 (Zf 1)))) (F0 4 (dV 5)) k9) (j9 (dB (a7 w9 (a7 i6 (dL 7) (c8 m0f (a6 (dV 1) (a6 (dV 2) (a6 (dV 6) a9))))) (m8 o7 (Zf 1)))) (F0 4 (c8 m0i (a6 (dV 3) (a6 (c8 m0g (a6 (dV 5) (a6 (dV 6) a9))) a9)))) k9)))
def mI (W:a8) (U:a8) (M:a8) (J:a8):DM:=(c9 (d7 (c8 M (a6 (dV 1) (a6 (dV 2) a9))) (d6 3)) (c9 (F5 4 (l7 a9)) (c9 (L8 (c8 J (a6 (dV 0) a9)) (y9 2 (t9 (d6 5) (t9 (d6 6) A3))) (nE W U M J)) (f9 (dV 4)))))
def Aa (W:a8) (U:a8) (M:a8) (J:a8):a8:=l6 8 (mI W U M J)
def vv (M:a8) (J:a8):DM:=(f9 (c8 M (a6 (c8 J (a6 (dV 0) (a6 (dV 1) (a6 (dV 2) a9)))) a9)))
def BM (M:a8) (J:a8):a8:=l6 3 (vv M J)
def xg (M:a8) (U:a8) (J:a8):DM:=(c9 (d7 (c8 J (a6 (dV 0) a9)) (y9 2 (t9 (d6 2) (t9 (d6 3) A3)))) (c9 (d7 (c8 J (a6 (dV 1) a9)) (y9 2 (t9 (d6 4) (t9 (d6 5) A3)))) (f9 (i9 (a6 (c8 M (a6 (dV 4) (a6 (c8 U (a6 (dV 2) a9)) a9))) (a6 (c8 M (a6 (dV 5) (a6 (c8 U (a6 (dV 3) a9)) a9))) a9))))))
def wo (M:a8) (U:a8) (J:a8):a8:=l6 6 (xg M U J)
def uK (J:a8) (U:a8) (M:a8):DM:=(f9 (c8 J (a6 (c8 M (a6 (Zg 0 0) (a6 (Zg 1 1) a9))) (a6 (c8 U (a6 (c8 M (a6 (Zg 0 1) (a6 (Zg 1 0) a9))) a9)) a9))))
def vn (J:a8) (M:a8) (U:a8):a8:=l6 2 (uK J M U)
def lT (U:a8) (Y:a8) (W:a8) (M:a8) (J:a8):DM:=(c9 (d7 (c8 J (a6 (dV 0) (a6 (dV 1) a9))) (d6 4)) (c9 (d7 (c8 J (a6 (dV 0) (a6 (dV 2) a9))) (d6 5)) (c9 (d7 (c8 J (a6 (dV 2) (a6 (dV 3) a9))) (d6 6)) (c9 (d7 (c8 M (a6 (dV 5) (a6 (dV 6) a9))) (d6 7)) (c9 (d7 (c8 M (a6 (dV 4) (a6 (dV 6) a9))) (d6 8)) (c9 (d7 (c8 W (a6 (a7 i6 (Zg 7 0) (Zg 8 1)) (a6 (a7 i6 (Zg 7 1) (Zg 8 0)) a9))) (d6 9)) (f9 (c8 U (a6 (dV 0) (a6 (c8 Y (a6 (dV 9) (a6 (Zg 4 0) a9))) (a6 (c8 Y (a6 (dV 9) (a6 (Zg 4 1) a9))) a9)))))))))))
def qk (J:a8) (Y:a8) (W:a8) (U:a8) (M:a8):a8:=l6 10 (lT J Y W U M)
abbrev jB (m09:a8) (m0a:a8) (m0j:a8):DM:=(c9 (B5 5 6 (a6 (a7 b0 (dL 0) (a7 u7 (dL 4) (Zf 1))) (a6 (a7 b0 (dL 0) (dL 4)) a9))) (j9 (dB (a7 (j6 (fun i j=>decide (i<j))) (a7 i6 (c8 m0a (a6 (dV 1) (a6 (dV 2) (a6 (dV 5) a9)))) (c8 m0a (a6 (dV 1) (a6 (dV 2) (a6 (dV 6) a9))))) (Zf 0))) (F0 3 (c8 m0j (a6 (dV 5) (a6 (dV 6) (a6 (dV 1) (a6 (dV 2) a9)))))) k9))
def rQ (J:a8) (M:a8) (U:a8):DM:=(c9 (F5 3 (N0 [1,2] (G5 (dV 0)) (dB (a7 (j6 (fun i j=>decide (j<=i))) (c8 M (a6 (dV 1) (a6 (dV 2) (a6 (dV 0) a9)))) (Zf 0))) (dV 0))) (c9 (ar (a6 (j7 (one r8) (a6 (dL 0) a9)) a9) (d6 4) (jB J M U)) (f9 (u4 (dB (a7 B4 (dL 3) (m6 (l7 a9)))) (c8 J (a6 (dV 3) a9)) (dC .non)))))
def vt (M:a8) (U:a8) (J:a8):a8:=l6 7 (rQ M U J)
abbrev PB:DM:=(d7 (a7 i6 (dL 2) (Zf 2)) (d6 2))
abbrev Qx:DM:=(c9 (d7 (a7 E7 (a7 m9 (dL 1) (dL 2)) (Zf 2)) (d6 3)) (d7 (u4 (dB (a7 (j6 (fun i j=>decide (i<=j))) (a7 i6 (dL 3) (dL 3)) (dL 0))) (i9 (a6 (dV 3) (a6 (dV 2) a9))) (i9 (a6 (dV 1) (a6 (dV 3) a9)))) (y9 2 (t9 (d6 1) (t9 (d6 2) A3)))))
def nI:DM:=(c9 (d7 (i9 (a6 (Zf 0) (a6 (Zf 1) a9))) (y9 2 (t9 (d6 1) (t9 (d6 2) A3)))) (c9 (F7 (dB (a7 (j6 (fun i j=>decide (i<=j))) (a7 i6 (dL 2) (dL 2)) (dL 0))) (PB)) (c9 (F7 (dB (a7 (j6 (fun i j=>decide (j<i))) (a7 u7 (dL 2) (dL 1)) (Zf 1))) (Qx)) (f9 (dV 1)))))
def cG:a8:=l6 4 (nI)
abbrev Fc:DM:=(c9 (d7 (a7 i6 (dL 1) (Zf 2)) (d6 1)) (d7 (a7 E7 (dL 2) (Zf 4)) (d6 2)))
def kL:DM:=(c9 (d7 (Zf 1) (d6 1)) (c9 (d7 (dV 0) (d6 2)) (c9 (F7 (dB (a7 (j6 (fun i j=>decide (j<i))) (dL 2) (Zf 0))) (Fc)) (f9 (dV 1)))))
def cq:a8:=l6 3 (kL)
abbrev ML (m0R:a8):DM:=(c9 (d7 (dV 2) (d6 1)) (d7 (a7 E7 (a7 m9 (dL 1) (a7 E7 (dL 0) (dL 1))) (Zf 2)) (d6 2)))
def fV (J:a8):DM:=(c9 (j9 (dB (a7 w9 (dL 0) (Zf 0))) (f9 (Zf 0)) k9) (c9 (d7 (c8 J (a6 (dV 0) a9)) (d6 1)) (c9 (d7 (a7 E7 (a7 m9 (dL 1) (a7 E7 (dL 0) (dL 1))) (Zf 2)) (d6 2)) (c9 (F7 (dB (a7 (j6 (fun i j=>decide (i<j))) (dL 2) (dL 1))) (ML J)) (f9 (dV 1))))))
def gL (J:a8):a8:=l6 3 (fV J)
def jx (J:a8):DM:=(c9 (j9 (dB (a7 (j6 (fun i j=>decide (i<j))) (Zg 0 0) (Zf 0))) (f9 (dC .non)) k9) (c9 (d7 (c8 J (a6 (Zg 0 0) a9)) (d6 1)) (c9 (d7 (c8 J (a6 (Zg 0 1) a9)) (d6 2)) (c9 (j9 (A5 (dB (a7 B4 (a7 i6 (dL 1) (dL 1)) (Zg 0 0))) (dB (a7 B4 (a7 i6 (dL 2) (dL 2)) (Zg 0 1)))) (f9 (dC .non)) k9) (f9 (i9 (a6 (dV 1) (a6 (dV 2) a9))))))))
def rM (J:a8):a8:=l6 3 (jx J)
def rA (J:a8):DM:=(c9 (F5 1 (l7 (a6 (m6 (l7 (a6 (i9 (a6 (Zf 0) (a6 (Zf 0) a9))) (a6 (i9 (a6 (Zf 4) (a6 (Zf 0) a9))) (a6 (i9 (a6 (Zf 8) (a6 (Zf 3) a9))) (a6 (i9 (a6 (Zf 4) (a6 (Zf 6) a9))) (a6 (i9 (a6 (Zf 0) (a6 (Zf 6) a9))) a9))))))) (a6 (m6 (l7 (a6 (i9 (a6 (Zf 0) (a6 (Zf 0) a9))) (a6 (i9 (a6 (Zf 2) (a6 (Zf 0) a9))) (a6 (i9 (a6 (Zf 2) (a6 (Zf 1) a9))) (a6 (i9 (a6 (Zf 1) (a6 (Zf 1) a9))) (a6 (i9 (a6 (Zf 1) (a6 (Zf 2) a9))) (a6 (i9 (a6 (Zf 0) (a6 (Zf 2) a9))) a9)))))))) a9)))) (c9 (F0 1 (m6 (l7 (a6 (i9 (a6 (Zf 0) (a6 (Zf 0) a9))) (a6 (i9 (a6 (Zf 3) (a6 (Zf 0) a9))) (a6 (i9 (a6 (Zf 3) (a6 (Zf 1) a9))) (a6 (i9 (a6 (Zf 2) (a6 (Zf 1) a9))) (a6 (i9 (a6 (Zf 2) (a6 (Zf 2) a9))) (a6 (i9 (a6 (Zf 1) (a6 (Zf 2) a9))) (a6 (i9 (a6 (Zf 1) (a6 (Zf 3) a9))) (a6 (i9 (a6 (Zf 0) (a6 (Zf 3) a9))) a9))))))))))) (c9 (d7 (a7 b0 (dL 1) (c8 J (a6 (dV 0) (a6 (Zf 3) a9)))) (d6 2)) (c9 (d7 (c8 J (a6 (dV 0) (a6 (j7 (one r8) (a6 (dL 2) a9)) a9))) (d6 3)) (c9 (d7 (a7 m9 (J6 (dL 2) (K9 (dL 3)) L6) (J6 (dL 2) L6 (K9 (dL 3)))) (d6 2)) (f9 (i9 (a6 (dC (.bl true)) (a6 (j7 (one S8) (a6 (m6 (bw [] (G5 (a7 b0 (m6 (l7 (a6 (dV 2) (a6 (lS (dL 2) (m8 o7 (Zf 1))) a9)))) (c8 J (a6 (dV 0) (a6 (Zf 2) a9))))) E3 (i9 (a6 (dV 0) (a6 (dV 1) (a6 (Zf 1) a9)))))) a9)) a9)))))))))
def zk (J:a8):a8:=l6 4 (rA J)
def Cc:DM:=(f9 (i9 (a6 (m8 o7 (Zg 0 1)) (a6 (Zg 0 0) (a6 (Zg 0 2) a9)))))
def nK:a8:=l6 1 (Cc)
def lP (J:a8) (M:a8) (W:a8) (U:a8):DM:=(c9 (d7 (c8 W (a6 (c8 U (a6 (dV 0) (a6 (dV 1) a9))) a9)) (d6 3)) (c9 (d7 (a7 i6 (Zg 2 0) (Zg 3 1)) (d6 4)) (c9 (d7 (a7 i6 (a7 u7 (a7 i6 (Zg 1 0) (Zg 0 2)) (a7 i6 (Zg 0 0) (Zg 1 2))) (dL 4)) (d6 5)) (c9 (d7 (a7 i6 (a7 u7 (a7 i6 (Zg 1 1) (Zg 0 2)) (a7 i6 (Zg 0 1) (Zg 1 2))) (dL 4)) (d6 6)) (c9 (d7 (c8 M (a6 (i9 (a6 (dV 5) (a6 (dV 6) (a6 (a7 i6 (a7 i6 (a7 i6 (Zg 0 2) (Zg 1 2)) (Zg 2 1)) (Zg 3 0)) a9)))) a9)) (d6 7)) (f9 (i9 (a6 (dV 0) (a6 (dV 1) (a6 (dV 7) (a6 (c8 J (a6 (dV 7) a9)) a9)))))))))))
def xX (J:a8) (M:a8) (W:a8) (U:a8):a8:=l6 8 (lP J M W U)
def jz (J:a8):DM:=(c9 (d7 (a7 m9 (a7 i6 (Zg 0 0) (Zg 1 2)) (a7 i6 (Zg 1 0) (Zg 0 2))) (d6 2)) (c9 (d7 (a7 m9 (a7 i6 (Zg 0 1) (Zg 1 2)) (a7 i6 (Zg 1 1) (Zg 0 2))) (d6 3)) (f9 (c8 J (a6 (i9 (a6 (dV 2) (a6 (dV 3) (a6 (a7 i6 (Zg 0 2) (Zg 1 2)) a9)))) a9)))))
def vz (J:a8):a8:=l6 4 (jz J)
def tV:DM:=(f9 (i9 (a6 (m8 o7 (Zg 0 0)) (a6 (m8 o7 (Zg 0 1)) (a6 (Zg 0 2) a9)))))
def af:a8:=l6 1 (tV)
def nq (J:a8) (M:a8):DM:=(c9 (d7 (u4 (dB (a7 w9 (dL 2) (dC (.str "right")))) (dV 0) (c8 J (a6 (dV 0) (a6 (Zg 1 3) a9)))) (d6 3)) (c9 (d7 (u4 (dB (a7 w9 (dL 2) (dC (.str "left")))) (dV 0) (c8 J (a6 (dV 0) (a6 (c8 M (a6 (Zg 1 3) a9)) a9)))) (d6 4)) (f9 (m6 (l7 (a6 (dV 3) (a6 (dV 4) a9)))))))
def Cu (J:a8) (M:a8):a8:=l6 5 (nq J M)
def uZ (M:a8) (J:a8):DM:=(f9 (c8 M (a6 (a7 m9 (c8 J (a6 (Zg 0 0) (a6 (dV 0) (a6 (dV 1) a9)))) (c8 J (a6 (Zg 0 1) (a6 (dV 0) (a6 (dV 1) a9))))) a9)))
def Bv (M:a8) (J:a8):a8:=l6 2 (uZ M J)
def uV (J:a8):DM:=(f9 (c8 J (a6 (a7 u7 (a7 i6 (a7 b0 (Zg 0 2) (Zf 0)) (a7 b0 (Zg 1 2) (Zf 1))) (a7 i6 (a7 b0 (Zg 0 2) (Zf 1)) (a7 b0 (Zg 1 2) (Zf 0)))) a9)))
def zK (J:a8):a8:=l6 2 (uV J)
def lh (J:a8) (M:a8):DM:=(f9 (c8 J (a6 (dV 0) (a6 (u4 (dB (a7 w9 (dL 2) (Zf 1))) (c8 M (a6 (Zg 1 3) a9)) (Zg 1 3)) a9))))
def vg (J:a8) (M:a8):a8:=l6 3 (lh J M)
def xF (W:a8) (J:a8) (M:a8) (U:a8):DM:=(c9 (d7 (c8 U (a6 (Zg 0 1) (a6 (dV 0) (a6 (dV 2) a9)))) (d6 3)) (c9 (d7 (c8 U (a6 (Zg 0 1) (a6 (dV 1) (a6 (dV 2) a9)))) (d6 4)) (f9 (c8 W (a6 (c8 J (a6 (dV 3) (a6 (c8 M (a6 (dV 3) (a6 (Zg 0 2) a9))) a9))) (a6 (c8 J (a6 (dV 4) (a6 (c8 M (a6 (dV 4) (a6 (Zg 1 2) a9))) a9))) a9))))))
def zM (M:a8) (J:a8) (U:a8) (W:a8):a8:=l6 5 (xF M J U W)
def yJ (M:a8) (U:a8) (J:a8):DM:=(f9 (D2 (c8 M (a6 (c8 J (a6 (dV 2) (a6 (dV 2) a9))) (a6 (c8 U (a6 (dV 0) (a6 (dV 1) a9))) a9)))))
def wj (M:a8) (U:a8) (J:a8):a8:=l6 3 (yJ M U J)
def jF (U:a8) (M:a8) (Y:a8) (W:a8) (J:a8):DM:=(c9 (d7 (Zg 0 1) (d6 4)) (c9 (F5 5 (l7 (a6 (dV 4) (a6 (c8 J (a6 (dV 4) (a6 (dV 0) (a6 (dV 2) a9)))) (a6 (c8 J (a6 (dV 4) (a6 (dV 1) (a6 (dV 2) a9)))) a9))))) (c9 (j9 (dB (a7 w9 (Zg 3 3) (dC (.str "pointed")))) (c9 (d7 (c8 W (a6 (dV 0) (a6 (dV 1) (a6 (dV 2) a9)))) (d6 6)) (j9 (w6 (c8 M (a6 (dV 4) (a6 (dV 6) (a6 (c8 Y (a6 (Zg 3 4) (a6 (Zg 3 0) a9))) a9))))) (F0 5 (dV 6)) k9)) k9) (f9 (c8 U (a6 (dV 5) a9))))))
def zo (U:a8) (M:a8) (Y:a8) (W:a8) (J:a8):a8:=l6 7 (jF U M Y W J)
def xI:DM:=(f9 (i9 (a6 (Zg 0 1) (a6 (m8 o7 (Zg 0 0)) (a6 (Zg 0 2) a9)))))
def qf:a8:=l6 1 (xI)
def vX (W:a8) (U:a8) (M:a8) (J:a8):DM:=(f9 (c8 W (a6 (c8 J (a6 (dV 0) (a6 (dV 2) a9))) (a6 (dV 0) (a6 (c8 U (a6 (dV 0) (a6 (c8 M (a6 (dV 1) a9)) a9))) a9)))))
def xc (W:a8) (U:a8) (M:a8) (J:a8):a8:=l6 3 (vX W U M J)
def kB (J:a8):DM:=(c9 (j9 (dB (a7 B4 (Zg 1 3) (dC (.str "round")))) (f9 (dC .non)) k9) (f9 (c8 J (a6 (Zg 0 1) (a6 (Zg 0 2) (a6 (Zg 1 0) a9))))))
def xC (J:a8):a8:=l6 2 (kB J)
def mY (J:a8) (U:a8) (M:a8):DM:=(c9 (d7 (Zg 0 1) (d6 4)) (c9 (d7 (c8 M (a6 (dV 4) (a6 (dV 0) (a6 (dV 2) a9)))) (d6 5)) (c9 (d7 (c8 M (a6 (dV 4) (a6 (dV 1) (a6 (dV 2) a9)))) (d6 6)) (c9 (d7 (c8 U (a6 (dV 4) (a6 (Zg 3 0) a9))) (d6 7)) (c9 (j9 (dB (a7 w9 (dL 2) (Zf 1))) (f9 (c8 J (a6 (c8 J (a6 (dV 7) (a6 (dV 4) (a6 (dV 5) a9)))) (a6 (dV 6) (a6 (dV 4) a9))))) k9) (f9 (c8 J (a6 (c8 J (a6 (dV 7) (a6 (dV 4) (a6 (dV 6) a9)))) (a6 (dV 5) (a6 (dV 4) a9))))))))))
def uD (U:a8) (J:a8) (M:a8):a8:=l6 8 (mY U J M)
def nO (U:a8) (J:a8) (W:a8) (M:a8):DM:=(c9 (d7 (c8 M (a6 (dV 0) (a6 (dV 1) a9))) (d6 3)) (c9 (j9 (dB (a7 w9 (dL 3) (Zf 0))) (f9 (c8 W (a6 (dV 0) (a6 (dV 2) a9)))) k9) (c9 (j9 (dB (a7 w9 (Zg 2 1) (u4 (dB (a7 w9 (dL 3) (Zf 1))) (dC (.str "left")) (dC (.str "right"))))) (f9 (dC .non)) k9) (c9 (j9 (dB (a7 w9 (Zg 2 3) (dC (.str "round")))) (f9 (c8 J (a6 (dV 0) (a6 (dV 1) (a6 (dV 3) (a6 (dV 2) a9)))))) k9) (f9 (c8 U (a6 (dV 0) (a6 (dV 1) (a6 (dV 3) (a6 (dV 2) a9))))))))))
def CU (U:a8) (J:a8) (W:a8) (M:a8):a8:=l6 4 (nO U J W M)
def fY (M:a8) (J:a8) (W:a8) (U:a8) (Y:a8):DM:=(c9 (j9 (dB (a7 w9 (Zg 3 2) (dC (.str "cut")))) (f9 (dC .non)) k9) (c9 (j9 (dB (a7 w9 (Zg 3 2) (dC (.str "square")))) (c9 (d7 (c8 Y (a6 (dV 0) (a6 (dV 1) (a6 (Zg 3 1) a9)))) (d6 4)) (f9 (c8 U (a6 (m6 (aR aX (dL 4) (m6 (N0 [2] (G5 (dV 4)) E3 (c8 J (a6 (dV 0) (a6 (dV 1) a9))))))) a9)))) k9) (c9 (d7 (c8 W (a6 (dV 0) (a6 (dV 2) (a6 (Zg 3 0) a9)))) (d6 5)) (c9 (d7 (c8 J (a6 (dV 0) (a6 (Zg 1 2) a9))) (d6 6)) (c9 (j9 (dB (a7 w9 (Zg 3 1) (dC (.str "left")))) (f9 (c8 M (a6 (dV 5) (a6 (dV 0) (a6 (dV 6) a9))))) k9) (c9 (j9 (dB (a7 w9 (Zg 3 1) (dC (.str "right")))) (f9 (c8 M (a6 (dV 5) (a6 (dV 6) (a6 (dV 0) a9))))) k9) (f9 (dV 5))))))))
def BF (W:a8) (U:a8) (M:a8) (J:a8) (Y:a8):a8:=l6 7 (fY W U M J Y)
abbrev sL (m0I:a8) (m0e:a8) (m0S:a8) (m0d:a8) (m0T:a8) (m0U:a8) (m0V:a8):DM:=(F0 4 (c8 m0S (a6 (dV 5) (a6 (dV 6) (a6 (dV 1) a9)))))
def pQ (J:a8) (Y:a8) (m0S:a8) (U:a8) (W:a8) (Z:a8) (M:a8):DM:=(c9 (d7 (Zg 1 0) (d6 2)) (c9 (F5 3 (bw [2] (G5 (c8 Z (a6 (dV 0) a9))) E3 (c8 M (a6 (dV 0) (a6 (dV 1) (a6 (dV 2) a9)))))) (c9 (F5 4 (N0 [1] (G5 (dV 3)) E3 (c8 W (a6 (dV 0) (a6 (Zg 1 1) a9))))) (c9 (L8 (c8 U (a6 (dV 3) (a6 (Zg 0 0) a9))) (y9 2 (t9 (d6 5) (t9 (d6 6) A3))) (sL J Y m0S U W Z M)) (c9 (j9 (B0 (w6 (Zg 0 0))) (c9 (d7 (Zg 3 0) (d6 7)) (c9 (d7 (a7 b0 (dL 3) (m8 o7 (Zf 1))) (d6 8)) (c9 (F0 4 (c8 J (a6 (Zg 7 0) (a6 (dV 7) (a6 (c8 Y (a6 (Zg 7 2) a9)) (a6 (dV 1) a9)))))) (F0 4 (c8 J (a6 (Zg 8 1) (a6 (dV 8) (a6 (Zg 8 2) (a6 (dV 1) a9))))))))) k9) (f9 (j7 (one S8) (a6 (m6 (N0 [] (G5 (dV 4)) (dB (a7 bE (dL 0) (dC .non))) (dV 0))) a9))))))))
def yP (W:a8) (Z:a8) (U:a8) (M:a8) (Y:a8) (m0U:a8) (J:a8):a8:=l6 9 (pQ W Z U M Y m0U J)
abbrev lM (m0J:a8) (m01:a8) (mo:a8) (mt:a8) (m06:a8):DM:=(c9 (d7 (c8 m06 (a6 (a7 b0 (dL 1) (dL 3)) a9)) (y9 2 (t9 (d6 4) (t9 (d6 5) A3)))) (c9 (d7 (c8 m06 (a6 (a7 b0 (dL 1) (a7 m9 (dL 3) (Zf 1))) a9)) (y9 2 (t9 (d6 6) (t9 (d6 7) A3)))) (c9 (B5 4 5 (a6 (c8 m01 (a6 (dV 6) (a6 (c8 mt (a6 (dV 4) a9)) a9))) (a6 (c8 m01 (a6 (dV 7) (a6 (c8 mt (a6 (dV 5) a9)) a9))) a9))) (c9 (d7 (c8 m01 (a6 (c8 mo (a6 (dV 4) (a6 (dV 4) a9))) (a6 (c8 mo (a6 (dV 5) (a6 (dV 5) a9))) a9))) (d6 8)) (F0 2 (i9 (a6 (a7 b0 (dL 1) (dL 3)) (a6 (a7 b0 (dL 1) (a7 m9 (dL 3) (Zf 1))) (a6 (dV 4) (a6 (dV 5) (a6 (i9 (a6 (c8 m0J (a6 (Zg 8 0) a9)) (a6 (c8 m0J (a6 (Zg 8 1) a9)) a9))) a9)))))))))))
def mP (J:a8) (M:a8) (Y:a8) (W:a8) (U:a8):DM:=(c9 (d7 (a7 m9 (Zg 0 1) (J6 (Zg 0 1) L6 (K9 (j7 (one ai) (a6 (Zg 0 0) a9))))) (d6 1)) (c9 (F5 2 (l7 a9)) (c9 (ar (a6 (a7 u7 (j7 (one r8) (a6 (dL 1) a9)) (Zf 1)) a9) (d6 3) (lM J M Y W U)) (f9 (dV 2)))))
def wW (J:a8) (M:a8) (Y:a8) (W:a8) (U:a8):a8:=l6 9 (mP J M Y W U)
def mH (J:a8):DM:=(c9 (d7 (u4 (dB (a7 w9 (Zg 0 1) (dC (.str "left")))) (i9 (a6 (Zf 0) (a6 (Zf 1) a9))) (c8 J (a6 (Zg 0 0) a9))) (d6 1)) (f9 (i9 (a6 (dV 1) (a6 (u4 (dB (a7 w9 (Zg 0 1) (dC (.str "right")))) (i9 (a6 (Zf 0) (a6 (Zf 1) a9))) (Zg 0 0)) a9)))))
def Dt (J:a8):a8:=l6 2 (mH J)
def wG (J:a8):DM:=(f9 (c8 J (a6 (a7 i6 (Zg 0 0) (Zg 1 1)) (a6 (a7 i6 (Zg 0 1) (Zg 1 0)) a9))))
def Ao (J:a8):a8:=l6 2 (wG J)
def zX (J:a8) (U:a8) (W:a8) (M:a8):DM:=(c9 (d7 (c8 M (a6 (dV 2) (a6 (Zg 1 4) a9))) (d6 3)) (f9 (c8 J (a6 (dV 0) (a6 (c8 W (a6 (c8 U (a6 (dV 3) (a6 (Zg 1 3) a9))) a9)) (a6 (c8 U (a6 (dV 3) (a6 (Zg 1 2) a9))) a9))))))
def BN (J:a8) (W:a8) (U:a8) (M:a8):a8:=l6 4 (zX J W U M)
abbrev qo (m09:a8) (m08:a8) (m0k:a8):DM:=(F5 2 (aR aX (dL 2) (m6 (l7 (a6 (c8 m08 (a6 (Zg 0 0) (a6 (dV 0) (a6 (dV 3) a9)))) (a6 (c8 m08 (a6 (Zg 0 1) (a6 (dV 0) (a6 (dV 3) a9)))) a9))))))
def jJ (J:a8) (U:a8) (M:a8):DM:=(c9 (F5 2 (l7 a9)) (c9 (L8 (c8 M (a6 (dV 1) a9)) (d6 3) (qo J U M)) (f9 (c8 J (a6 (dV 2) a9)))))
def BW (M:a8) (J:a8) (U:a8):a8:=l6 4 (jJ M J U)
def kW (J:a8) (U:a8) (M:a8):DM:=(c9 (d7 (c8 M (a6 (Zg 0 0) (a6 (Zg 0 1) (a6 (Zg 1 1) a9)))) (d6 3)) (c9 (d7 (u4 (dB (a7 (j6 (fun i j=>decide (j<i))) (dL 3) (Zf 0))) (c8 U (a6 (dV 2) a9)) (dV 2)) (d6 4)) (f9 (i9 (a6 (c8 J (a6 (Zg 0 1) (a6 (dV 0) (a6 (dV 4) a9)))) (a6 (c8 J (a6 (Zg 0 1) (a6 (dV 1) (a6 (dV 4) a9)))) (a6 (dV 3) a9)))))))
def tI (J:a8) (U:a8) (M:a8):a8:=l6 5 (kW J U M)
def zD (J:a8) (U:a8) (M:a8):DM:=(c9 (d7 (c8 M (a6 (dV 2) (a6 (Zg 1 4) a9))) (d6 3)) (f9 (c8 J (a6 (dV 0) (a6 (c8 U (a6 (dV 3) (a6 (Zg 1 2) a9))) (a6 (c8 U (a6 (dV 3) (a6 (Zg 1 3) a9))) a9))))))
def DY (J:a8) (U:a8) (M:a8):a8:=l6 4 (zD J U M)
def yO (m09:a8) (Z:a8) (mt:a8) (Y:a8) (mo:a8) (W:a8) (U:a8) (J:a8) (M:a8) (m08:a8) (m1h:a8):DM:=(c9 (d7 (Zg 0 1) (d6 3)) (c9 (d7 (c8 m1h (a6 (dV 0) (a6 (dV 1) (a6 (Zg 2 0) a9)))) (y9 3 (t9 (d6 4) (t9 (d6 5) (t9 (d6 6) A3))))) (c9 (j9 (dB (a7 w9 (dL 6) (Zf 0))) (c9 (j9 (dB (a7 B4 (Zg 2 3) (dC (.str "round")))) (f9 (dC .non)) k9) (f9 (c8 J (a6 (c8 M (a6 (dV 3) (a6 (Zg 2 0) a9))) (a6 (c8 m08 (a6 (dV 3) (a6 (dV 0) (a6 (Zg 2 0) a9)))) (a6 (dV 3) a9)))))) k9) (c9 (j9 (dB (a7 w9 (Zg 2 1) (a7 b0 (m6 (l7 (a6 (dC (.str "right")) (a6 (dC (.str "")) (a6 (dC (.str "left")) a9))))) (a7 m9 (Zf 1) (dL 6))))) (f9 (dC .non)) k9) (c9 (j9 (dB (a7 w9 (Zg 2 3) (dC (.str "round")))) (c9 (d7 (u4 (dB (a7 (j6 (fun i j=>decide (j<i))) (dL 6) (Zf 0))) (i9 (a6 (dV 4) (a6 (dV 5) a9))) (i9 (a6 (dV 5) (a6 (dV 4) a9)))) (y9 2 (t9 (d6 7) (t9 (d6 8) A3)))) (f9 (c8 J (a6 (c8 J (a6 (c8 M (a6 (dV 3) (a6 (Zg 2 0) a9))) (a6 (dV 3) (a6 (dV 7) a9)))) (a6 (dV 8) (a6 (dV 3) a9)))))) k9) (c9 (F5 9 (l7 (a6 (dV 3) (a6 (dV 4) (a6 (dV 5) a9))))) (c9 (j9 (dB (a7 w9 (Zg 2 3) (dC (.str "pointed")))) (c9 (d7 (c8 U (a6 (dV 4) (a6 (dV 0) (a6 (i9 (a6 (Zf 1) (a6 (Zf 1) a9))) a9)))) (d6 10)) (c9 (d7 (c8 W (a6 (dV 4) (a6 (dV 10) (a6 (dV 5) (a6 (c8 U (a6 (dV 5) (a6 (dV 1) (a6 (i9 (a6 (Zf 1) (a6 (Zf 1) a9))) a9)))) a9))))) (d6 11)) (c9 (d7 (c8 mo (a6 (Zg 2 0) (a6 (Zg 2 4) a9))) (d6 12)) (j9 (dB (a7 (j6 (fun i j=>decide (j<=i))) (a7 b0 (c8 Z (a6 (c8 mo (a6 (dV 12) (a6 (dV 12) a9))) (a6 (c8 mt (a6 (c8 Y (a6 (dV 3) (a6 (dV 11) a9))) a9)) a9))) (Zf 0)) (Zf 0))) (F0 9 (dV 11)) k9)))) k9) (f9 (c8 m09 (a6 (dV 9) a9))))))))))
def wO (Z:a8) (W:a8) (mt:a8) (U:a8) (mo:a8) (M:a8) (m0l:a8) (J:a8) (m0o:a8) (m08:a8) (Y:a8):a8:=l6 13 (yO Z W mt U mo M m0l J m0o m08 Y)
def pD (J:a8) (M:a8) (U:a8) (Y:a8) (W:a8) (Z:a8) (mt:a8):DM:=(c9 (d7 (a7 b0 (dL 0) (j7 (one ai) (a6 (dL 1) a9))) (d6 3)) (c9 (d7 (u4 (w6 (dL 1)) (Zg 2 0) (c8 mt (a6 (Zg 2 0) a9))) (d6 4)) (c9 (j9 (dB (a7 w9 (Zg 2 2) (dC (.str "square")))) (c9 (F5 5 (N0 [3,0] (G5 (c8 Z (a6 (dV 2) a9))) E3 (c8 U (a6 (dV 1) (a6 (dV 2) (a6 (dV 0) a9)))))) (f9 (c8 W (a6 (m6 (aR aX (dL 5) (m6 (N0 [0,4] (G5 (dV 5)) E3 (c8 M (a6 (dV 0) (a6 (dV 1) (a6 (dV 2) a9)))))))) a9)))) k9) (c9 (d7 (c8 J (a6 (c8 Y (a6 (dV 3) (a6 (Zg 2 0) a9))) (a6 (c8 U (a6 (dV 3) (a6 (dV 0) (a6 (dV 4) a9)))) (a6 (dV 3) a9)))) (d6 6)) (c9 (j9 (w8 (dB (a7 B4 (Zg 2 1) (dC (.str "both")))) (dB (a7 bE (dL 6) (dC .non)))) (c9 (d7 (c8 M (a6 (dV 3) (a6 (dV 0) (a6 (i9 (a6 (Zf 1) (a6 (Zf 1) a9))) a9)))) (d6 7)) (d7 (u4 (dB (a7 w9 (Zg 2 1) (dC (.str "left")))) (c8 J (a6 (dV 6) (a6 (dV 3) (a6 (dV 7) a9)))) (c8 J (a6 (dV 6) (a6 (dV 7) (a6 (dV 3) a9))))) (d6 6))) k9) (f9 (dV 6)))))))
def rT (J:a8) (W:a8) (Y:a8) (U:a8) (M:a8) (Z:a8) (mt:a8):a8:=l6 8 (pD J W Y U M Z mt)
abbrev og (m0K:a8) (m0W:a8) (m0X:a8) (m0Y:a8):DM:=(F0 3 (c8 m0W (a6 (a7 b0 (dL 2) (dL 4)) (a6 (a7 b0 (dL 2) (a7 J3 (a7 m9 (dL 4) (Zf 1)) (j7 (one r8) (a6 (dL 2) a9)))) (a6 (dV 1) a9)))))
def rL (J:a8) (W:a8) (M:a8) (U:a8):DM:=(c9 (d7 (c8 U (a6 (dV 0) a9)) (d6 2)) (c9 (F5 3 (N0 [1] (G5 (dV 2)) E3 (c8 M (a6 (dV 0) (a6 (dV 1) a9))))) (c9 (ar (a6 (a7 m9 (a7 u7 (j7 (one r8) (a6 (dL 2) a9)) (Zf 1)) (j7 (one ai) (a6 (Zg 0 0) a9))) a9) (d6 4) (og J W M U)) (c9 (j9 (w8 (B0 (w6 (Zg 0 0))) (dB (a7 B4 (Zg 1 2) (dC (.str "cut"))))) (F5 3 (aR aX (dL 3) (m6 (l7 (a6 (c8 J (a6 (Zg 2 0) (a6 (dC (.bl false)) (a6 (dV 1) a9)))) (a6 (c8 J (a6 (a7 b0 (dL 2) (m8 o7 (Zf 1))) (a6 (dC (.bl true)) (a6 (dV 1) a9)))) a9)))))) k9) (f9 (j7 (one S8) (a6 (m6 (N0 [] (G5 (dV 3)) (dB (a7 bE (dL 0) (dC .non))) (dV 0))) a9)))))))
def Ai (M:a8) (W:a8) (J:a8) (U:a8):a8:=l6 5 (rL M W J U)
abbrev jG (m0A:a8) (m0B:a8) (m0C:a8) (m0E:a8) (m0F:a8) (m0G:a8):DM:=(c9 (d7 (a7 m9 (a7 m9 (J6 (dL 3) L6 (K9 (Zf 2))) (i9 (a6 (dV 5) a9))) (J6 (dL 3) (K9 (Zf 3)) L6)) (d6 6)) (c9 (d7 (j7 (one T6) (a6 (i9 (a6 (dV 2) (a6 (dV 6) a9))) a9)) (d6 7)) (j9 (A5 (dB (a7 B4 (j7 (one T6) (a6 (c8 m0A (a6 (dV 2) (a6 (dV 6) a9))) a9)) (j7 (one T6) (a6 (c8 m0B (a6 (dV 2) (a6 (dV 6) a9))) a9)))) (dB (a7 B4 (j7 (one T6) (a6 (i9 (a6 (dV 2) (a6 (dV 6) a9))) a9)) (dL 7)))) (f9 (dC (.bl false))) k9)))
abbrev gn (m0A:a8) (m0B:a8) (m0C:a8) (m0E:a8) (m0F:a8) (m0G:a8):DM:=(c9 (d7 (c8 m0E (a6 (dV 1) (a6 (Zf 2) a9))) (d6 2)) (c9 (d7 (c8 m0C (a6 (dV 1) a9)) (d6 3)) (L8 (m6 (l7 (a6 (dC (.str "cut")) (a6 (dC (.str "square")) (a6 (dC (.str "round")) a9))))) (d6 5) (jG m0A m0B m0C m0E m0F m0G))))
def kb (W:a8) (Y:a8) (U:a8) (Z:a8) (J:a8) (M:a8):DM:=(c9 (d7 (c8 M (a6 (dV 0) a9)) (d6 1)) (c9 (B5 2 3 (a6 (c8 J (a6 (dV 1) a9)) (a6 (c8 U (a6 (dV 1) a9)) a9))) (c9 (j9 (dB (a7 B4 (j7 (one T6) (a6 (c8 W (a6 (dV 2) (a6 (dV 3) a9))) a9)) (j7 (one T6) (a6 (c8 Y (a6 (dV 2) (a6 (dV 3) a9))) a9)))) (f9 (dC (.bl false))) k9) (c9 (ar (a6 (Zf 4) a9) (d6 4) (gn W Y U Z J M)) (f9 (dC (.bl true)))))))
def me (W:a8) (Z:a8) (U:a8) (Y:a8) (J:a8) (M:a8):a8:=l6 8 (kb W Z U Y J M)
end T
namespace DL
open PySem L2
def gK {n k:Nat}(hk:0<k) (h:n<2 ^ k):n.log2<k:=by
 by_cases h0:n=0
 .subst h0;simpa using hk
 .exact(Nat.log2_lt h0).mpr h
def iA {i:Int}(h:i.natAbs<2 ^ 200):A9 i=true:=by
 have:=gK (by decide) h;exact SA (by omega)
def Lj {j:Int}(h0:j≠0) (h:j.natAbs<2 ^ 200):J7 j=true:=by
 have:=gK (by decide) h;unfold J7;rw[SA h0,WR];exact SA (by omega)
def uz (i:Int):L5 (.int i)=true:=by simp[L5,D.plain,D.py,SeqAt.shaped,PyData.canLay0,PyData.depth]
def aZ (i j:Int):B4 (.int i) (.int j)=some (.bl (!decide (i=j))):=by
 simp only[B4,uz,UR,TB,D.py,PyData.eqv,Yb]
def W3 (i j:Int):w9 (.int i) (.int j)=some (.bl (decide (i=j))):=by
 simp only[w9,uz,UR,TB,D.py,PyData.eqv,Yb]
def GX (x y:Str):B4 (.str x) (.str y)=some (.bl (!decide (x=y))):=rfl
def Jq {i:Int}(h:i.natAbs.log2<1920):(PySem.Str.ofString (toString i)).length<=1921:=PyProof.Rows.int_text_len_1921 h
def Iz {d:D}(h:bV d=true):T6 d=some (.str d.py.shown):=by unfold T6;rw[tx h]
def uP (f:FS) (h:f.kind=0):f.get "at" = some (.int f.pos):=by unfold FS.get;rw[tx h,So (by decide +kernel),tx rfl]
def Bw {α:Type}{xs:List α}{i:Int}(h0:0<=i) (h1:i<xs.length):v8 xs i=xs[i.toNat]?:=by
 unfold v8 S6;rw[tx h0,tx h1];rfl
def aW {a b:Int}(h:0<b):0<=a.fmod b/\a.fmod b<b:=by
 rw[WS a (by omega)];exact⟨Yc a (by omega),Int.emod_lt_of_pos a h⟩
def d8 {a b:DM}{s s1:DS}(h:a s=some (.next,s1)):c9 a b s=b s1:=by simp[c9,h,B8]
def N4 {a b:DM}{s s1:DS}(h:a s=some (.ret d,s1)):c9 a b s=some (.ret d,s1):=by simp[c9,h,B8]
def Qi {f:DE}{i:Nat}{s s1:DS}(h:f s=some (d,s1)):d7 f (d6 i) s=some (.next,{ s1 with sl:=s1.sl.set i (.v d) }):=by simp[d7,h,d6]
def Y4 {m:a8}{a:DA}{s s1:DS}{xs:vD_}{fs:vO_}(ha:a s=some (xs,s1)) (J:m xs s1.fs=some (d,fs)):c8 m a s=some (d,{ s1 with fs:=fs }):=by
 unfold c8;rw[ha,SH,J];rfl
def c6 {p:D->D->Option D}{a b:DE}{s s1 s2:DS}(h1:a s=some (x,s1)) (h2:b s1=some (y,s2)) (h3:p x y=some z):a7 p a b s=some (z,s2):=by
 unfold a7;rw[h1,SH,h2,SH,h3];rfl
def A0 {a:DE}{b:DA}{s s1 s2:DS}{xs:vD_}(h1:a s=some (x,s1)) (h2:b s1=some (xs,s2)):a6 a b s=some (x::xs,s2):=by
 unfold a6;rw[h1,SH,h2];rfl
def k6 {f:DE}{t:D->DS->Option DS}{s s1 s2:DS}(h1:f s=some (d,s1)) (h2:t d s1=some s2):d7 f t s=some (.next,s2):=by
 unfold d7;rw[h1,SH,h2];rfl
def E6 {c:DT}{a b:DM}{s s1:DS}(h:c s=some (true,s1)):j9 c a b s=a s1:=by simp[j9,h]
def aL {c:DT}{a b:DM}{s s1:DS}(h:c s=some (false,s1)):j9 c a b s=b s1:=by simp[j9,h]
def p9 {f:DE}{s s1:DS}(h:f s=some (d,s1)):f9 f s=some (.ret d,s1):=by simp[f9,h]
def Q5 {p:D->D->Option D}{a b:DE}{s s1 s2:DS}(h1:a s=some (x,s1)) (h2:b s1=some (y,s2)) (h3:p x y=some d):a7 p a b s=some (d,s2):=by simp[a7,h1,h2,h3]
def u6 {f:DE}{s s1:DS}{b:Bool}(h:f s=some (.bl b,s1)):dB f s=some (b,s1):=by simp[dB,h]
def n9 {n:Nat}{b:DM}{ds:vD_}{fs:vO_}{s:DS}(h:b ⟨ds.map .v++List.replicate (n - ds.length) .no,fs⟩=some (.ret d,s)):l6 n b ds fs=some (d,s.fs):=by simp[l6,h]
def i7 {m:a8}{a:DA}{fs:vO_}{xs:vD_}(ha:a ⟨sl,fs⟩=some (xs,⟨sl,fs⟩)) (J:m xs fs=some (d,fs)):c8 m a ⟨sl,fs⟩=some (d,⟨sl,fs⟩):=Y4 (s1:=⟨sl,fs⟩) ha J
def U3 {m:a8}{a:DA}{fs fs':vO_}{xs:vD_}(ha:a ⟨sl,fs⟩=some (xs,⟨sl,fs⟩)) (J:m xs fs=some (d,fs')):c8 m a ⟨sl,fs⟩=some (d,⟨sl,fs'⟩):=Y4 (s1:=⟨sl,fs⟩) ha J
def fR {m:a8}{a:DA}{fs fs' J:vO_}{xs:vD_}(ha:a ⟨sl,fs⟩=some (xs,⟨sl',fs'⟩)) (M:m xs fs'=some (d,J)):c8 m a ⟨sl,fs⟩=some (d,⟨sl',J⟩):=Y4 (s1:=⟨sl',fs'⟩) ha M
def Z2 {a b c:DE}{s s1 s2 J:DS}(h1:a s=some (x,s1)) (h2:b s1=some (y,s2)) (h3:c s2=some (z,J)):i9 (a6 a (a6 b (a6 c a9))) s=some (.tup [x,y,z],J):=by
 unfold i9;rw[A0 h1 (A0 h2 (A0 h3 rfl)),SH];exact tx (e:=(none:Option (D × DS))) (show 3<=sizeLine by decide)
def W9 {t:D->DS->Option DS}{b:DM}{r:vD_}{s s1 s2:DS}(h1:t d s=some s1) (h2:b s1=some (.next,s2)):C4 t b (d::r) s=C4 t b r s2:=by
 rw[C4,h1,SH,h2];rfl
def X4 {a b:DE}{s s1 s2:DS}(h1:a s=some (x,s1)) (h2:b s1=some (y,s2)):i9 (a6 a (a6 b a9)) s=some (.tup [x,y],s2):=by
 unfold i9;rw[A0 h1 (A0 h2 rfl),SH];exact tx (e:=(none:Option (D × DS))) (show 2<=sizeLine by decide)
def qg {i j:Nat}{f:DA}{s s1 s2:DS}{a b:D}(h:f s=some ([a,b],s1)) (e:{ s1 with sl:=(s1.sl.set i (.v a)).set j (.v b) }=s2):B5 i j f s=some (.next,s2):=by
 unfold B5;rw[h];exact congrArg (fun z=>some (Fl.next,z)) e
def V3 {f:DE}{s s1:DS}{b:Bool}(h:f s=some (.bl b,s1)):w6 f s=some (b,s1):=by
 unfold w6;rw[h];rfl
def jo {a:DT}{s s1:DS}{b:Bool}(h:a s=some (b,s1)):B0 a s=some (!b,s1):=by
 unfold B0;rw[h];rfl
def cW {a b:DT}{s s1:DS}(h1:a s=some (true,s1)) (h2:b s1=r):w8 a b s=r:=by
 unfold w8;rw[h1,SH,tx rfl];exact h2
def dW {a b:DT}{s s1:DS}(h1:a s=some (false,s1)):w8 a b s=some (false,s1):=by
 unfold w8;rw[h1,SH,So Sy]
def iE {a b:DT}{s s1:DS}(h1:a s=some (true,s1)):A5 a b s=some (true,s1):=by
 unfold A5;rw[h1,SH,tx rfl]
def cz {a b:DT}{s s1:DS}(h1:a s=some (false,s1)) (h2:b s1=r):A5 a b s=r:=by
 unfold A5;rw[h1,SH,So Sy];exact h2
def K0 {c:DT}{s s1:DS}(h:c s=some (false,s1)):j9 c a k9 s=some (.next,s1):=by
 rw[aL h];rfl
def Q7 {i:Nat}{f:DA}{s s1:DS}{ds:vD_}(h:f s=some (ds,s1)) (hi:i<s1.sl.length):F5 i f s=some (.next,{ s1 with sl:=s1.sl.set i (.own ds) }):=by
 unfold F5;rw[h,SH,tx hi]
def CM {idx:List Nat}{fi:DA}{s s1:DS}{ds R:vD_}{fs':vO_}(h:fi s=some (ds,s1)) (hz:ds.length<=sizeLine) (c:C2 (dM idx s1.sl) fc fe ds s1.fs=some (R,fs')):bw idx fi fc fe s=some (R,{ s1 with fs:=fs' }):=by
 unfold bw;rw[h,SH,tx hz,c];rfl
def U0 {f:DA}{s s1:DS}{ds:vD_}(h:f s=some (ds,s1)):m6 f s=some (.lst ds,s1):=by
 unfold m6;rw[h];rfl
def lZ {p:D->D->Option (List D)}{a b:DE}{s s1 s2:DS}{z:vD_}(h1:a s=some (x,s1)) (h2:b s1=some (y,s2)) (h3:p x y=some z):aR p a b s=some (z,s2):=by
 unfold aR;rw[h1,SH,h2,SH,h3];rfl
def aC {idx:List Nat}{fi:DA}{s s1:DS}{ds R:vD_}(h:fi s=some (ds,s1)) (hz:ds.length<=sizeLine) (c:C2 (fun d=>some (.v d::Y6 idx s1.sl)) fc fe ds s1.fs=some (R,s1.fs)):N0 idx fi fc fe s=some (R,s1):=by
 unfold N0;rw[h,SH,tx hz,c];rfl
def Q2 {i:Nat}{f:DE}{s s1:DS}{ds ds0:vD_}(h0:s.sl[i]? = some (.own ds0)) (h:f s=some (d,s1)) (h1:s1.sl[i]? = some (.own ds)) (hl:ds.length<sizeLine):F0 i f s=some (.next,{ s1 with sl:=s1.sl.set i (.own (ds++[d])) }):=by
 unfold F0;rw[h0];show (f s).bind _=_;rw[h,SH];show (match s1.sl[i]? with | some (.own ds)=>_ | _=>_)=_;rw[h1];exact tx hl
def Ec {a:DE}{s s1:DS}(h:a s=some (x,s1)):l7 (a6 a a9) s=some ([x],s1):=by
 unfold l7;rw[A0 h rfl,SH];exact tx (e:=(none:Option (List D × DS))) (show 1<=sizeLine by decide)
def mM {a b:DE}{s s1 s2:DS}(h:a s=some (x,s1)) (h2:b s1=some (y,s2)):l7 (a6 a (a6 b a9)) s=some ([x,y],s2):=by
 unfold l7;rw[A0 h (A0 h2 rfl),SH];exact tx (e:=(none:Option (List D × DS))) (show 2<=sizeLine by decide)
def F8 {p:D->Option D}{a:DE}{s s1:DS}(h:a s=some (x,s1)) (hp:p x=some d):j7 (one p) (a6 a a9) s=some (d,s1):=by
 unfold j7;rw[A0 h rfl,SH];show (p x).map _=_;rw[hp];rfl
def aw {c:DT}{a b:DE}{s s1:DS}(h:c s=some (true,s1)):u4 c a b s=a s1:=by
 unfold u4;rw[h];rfl
def S5 {c:DT}{a b:DE}{s s1:DS}(h:c s=some (false,s1)):u4 c a b s=b s1:=by
 unfold u4;rw[h];rfl
def fr (p:Rat):D:=.tup [.int p.num,.int p.den]
def Sz (k:Nat) (p:Rat):Prop:=p.num.natAbs<2 ^ k/\p.den<2 ^ k
def Sz.mono {k l:Nat}{p:Rat}(h:Sz k p) (hl:k<=l):Sz l p:=
 ⟨Ta h.1 (WT (by decide) hl),Ta h.2 (WT (by decide) hl)⟩
def qB {a b:Int}(hb:b≠0):(Rat.divInt a b).num.natAbs<=a.natAbs/\(Rat.divInt a b).den<=b.natAbs:=by
 constructor
 .rw[Yd,Int.natAbs_ediv_of_dvd (Int.dvd_mul_of_dvd_right (WU ..))];rw[VU,Int.natAbs_sign_of_ne_zero hb,Nat.one_mul];exact WV _ _
 .rw[Ye,So hb];exact WV _ _
def Sz.of_divInt {k:Nat}{a b:Int}(hb:b≠0) (h1:a.natAbs<2 ^ k) (h2:b.natAbs<2 ^ k):Sz k (Rat.divInt a b):=
 ⟨TC (qB hb).1 h1,TC (qB hb).2 h2⟩
def CS {a b k l:Nat}(h1:a<2 ^ k) (h2:b<2 ^ l):a*b<2 ^ (k+l):=by
 rw[Nat.pow_add];exact Nat.mul_lt_mul_of_lt_of_lt h1 h2
def Jg {a b k:Nat}(h1:a<2 ^ k) (h2:b<2 ^ k):a+b<2 ^ (k+1):=by
 rw[Yf];omega
def Bd (k:Nat) (i:Int):Prop:=i.natAbs<2 ^ k
def Bd.mono {k l:Nat}{i:Int}(h:Bd k i) (hl:k<=l):Bd l i:=Ta h (WT (by decide) hl)
def Bd.mul {k l:Nat}{i j:Int}(h1:Bd k i) (h2:Bd l j):Bd (k+l) (i*j):=by
 unfold Bd;rw[VU];exact CS h1 h2
def Bd.add {k l:Nat}{i j:Int}(h1:Bd k i) (h2:Bd l j):Bd (max k l+1) (i+j):=
 TC (Int.natAbs_add_le i j) (Jg (h1.mono (Nat.le_max_left ..)) (h2.mono (Nat.le_max_right ..)))
def Bd.neg {k:Nat}{i:Int}(h1:Bd k i):Bd k (-i):=by unfold Bd;rw[Int.natAbs_neg];exact h1
def Bd.sub {k l:Nat}{i j:Int}(h1:Bd k i) (h2:Bd l j):Bd (max k l+1) (i - j):=by rw[Int.sub_eq_add_neg];exact h1.add h2.neg
theorem Bd.gcd {k:Nat}{i:Int}{j:Int}(h:Bd k j) (J:j≠0):Bd k (Int.gcd i j:Int):=by
 have:Int.gcd i j<=j.natAbs:=Nat.le_of_dvd (by omega) (Nat.gcd_dvd_right i.natAbs j.natAbs);exact TC this h
def Bd.bits {k:Nat}{i:Int}(h:Bd k i) (hk:k<=8000):A9 i=true:=by
 have:=gK (k:=8000) (by decide) (h.mono hk);exact SA (by omega)
def Bd.div {k:Nat}{i:Int}(h:Bd k i) (h0:i≠0) (hk:k<=8000):J7 i=true:=by
 have:=gK (k:=8000) (by decide) (h.mono hk);unfold J7;rw[SA h0,WR];exact SA (by omega)
theorem Sz.num {k:Nat}{p:Rat}(h:Sz k p):Bd k p.num:=h.1
theorem Sz.den {k:Nat}{p:Rat}(h:Sz k p):Bd k (p.den:Int):=h.2
def G7 (p:Rat):(p.den:Int)≠0:=by have:=p.den_nz;omega
def cV (p:Rat):(0:Int)<p.den:=by have:=p.den_nz;omega
def mV (p:Rat):p=Rat.divInt p.num p.den:=(WW p).symm
theorem Sz.mul {k l:Nat}{p q:Rat}(h1:Sz k p) (h2:Sz l q):Sz (k+l) (p*q):=by
 rw[mV p,mV q,Rat.divInt_mul_divInt];exact Sz.of_divInt (TV (G7 p) (G7 q)) (Bd.mul h1.num h2.num) (Bd.mul h1.den h2.den)
theorem Sz.add {k l:Nat}{p q:Rat}(h1:Sz k p) (h2:Sz l q):Sz (k+l+1) (p+q):=by
 rw[mV p,mV q,Rat.divInt_add_divInt _ _ (G7 p) (G7 q)];refine Sz.of_divInt (TV (G7 p) (G7 q)) ?_ (Bd.mono (Bd.mul h1.den h2.den) (by omega));have M:=Bd.mul h1.num h2.den;have J:=Bd.mul h2.num h1.den;exact Bd.mono (Bd.add M J) (by omega)
def Sz.neg {k:Nat}{p:Rat}(h:Sz k p):Sz k (-p):=⟨by rw[VW,Int.natAbs_neg];exact h.1,h.2⟩
def Sz.sub {k l:Nat}{p q:Rat}(h1:Sz k p) (h2:Sz l q):Sz (k+l+1) (p - q):=by rw[WX];exact h1.add h2.neg
def Sz.int {k:Nat}{i:Int}(h:Bd k i) (hk:1<=k):Sz k (i:Rat):=⟨h,Ta (by decide:1<2 ^ 1) (WT (by decide) hk)⟩
def Sz.lit {k:Nat}{p:Rat}(h:decide (p.num.natAbs<2 ^ k/\p.den<2 ^ k)=true):Sz k p:=by unfold Sz;exact TQ h
def Sg {a b:Int}(hb:0<b):(Rat.divInt a b).num=a / (Int.gcd a b:Int):=by
 rw[Yd,WZ,YO hb,Int.one_mul]
def yU {a b:Int}(hb:0<b):((Rat.divInt a b).den:Int)=b / (Int.gcd a b:Int):=by
 rw[Ye,So (by omega),WZ];rw[VX,Int.natAbs_of_nonneg (by omega)]
end DL
namespace T
open PySem L2 DL
abbrev gT:DT:=dB (a7 B4 (dL 3) (Zf 0))
abbrev gB:DM:=c9 (d7 (a7 J3 (dL 2) (dL 3)) (d6 4)) (c9 (d7 (dV 3) (d6 2)) (d7 (dV 4) (d6 3)))
def va (a b:Sl) (g r:Int) (x:Sl) (fs:vO_):gT ⟨[a,b,.v (.int g),.v (.int r),x],fs⟩=some (!decide (r=0),⟨[a,b,.v (.int g),.v (.int r),x],fs⟩):=by
 simp[dB,a7,dL,dC,Zf,Zg,aZ]
def EV (a b:Sl) (g r:Int) (x:Sl) (fs:vO_) (h:r≠0):gB ⟨[a,b,.v (.int g),.v (.int r),x],fs⟩ =
  some (.next,⟨[a,b,.v (.int r),.v (.int (g.fmod r)),.v (.int (g.fmod r))],fs⟩):=by
 simp[c9,B8,d7,a7,dL,dV,d6,J3,h]
def KW (a b:Sl) (fs:vO_) (r:Nat):∀(g:Nat) (x:Sl),∃y,F7 gT gB ⟨[a,b,.v (.int g),.v (.int r),x],fs⟩=some (.next,⟨[a,b,.v (.int (Nat.gcd g r)),.v (.int 0),y],fs⟩):=by
 induction r using Nat.strongRecOn with
 |ind r U=>
  intro g x;by_cases h:r=0
  .subst h;refine⟨x,?_⟩;rw[Nat.gcd_zero_right];exact W0 (by rw[va];rfl)
  .have e:((g:Int).fmod (r:Int))=((g % r:Nat):Int):=by rw[WS _ (by omega)];rfl
   obtain⟨y,J⟩:=U (g % r) (Uz _ (by omega)) r (.v (.int ((g:Int).fmod (r:Int))));refine⟨y,?_⟩;have M:Nat.gcd g r=Nat.gcd r (g % r):=by rw[Xa g r,Nat.gcd_rec,Xa]
   rw[M];refine X8 (s1:=⟨[a,b,.v (.int g),.v (.int r),x],fs⟩) (by rw[va,SF (by omega)];rfl) (EV _ _ _ _ _ _ (by omega)) ?_;rw[e] at J ⊢;exact J
def nL (a:Int):(if a<0 then -a else a)=((a.natAbs:Nat):Int):=by split <;> omega
def Lw (a b:Int) (fs:vO_):V6 [.int a,.int b] fs=some (.int (Int.gcd a b),fs):=by
 obtain⟨y,J⟩:=KW (.v (.int a)) (.v (.int b)) fs b.natAbs a.natAbs .no;refine n9 (s:=⟨[.v (.int a),.v (.int b),.v (.int (Int.gcd a b)),.v (.int 0),y],fs⟩) ?_;show nA ⟨[.v (.int a),.v (.int b),.no,.no,.no],fs⟩=_;unfold nA;rw[d8 (s1:=⟨[.v (.int a),.v (.int b),.v (.int a.natAbs),.no,.no],fs⟩) (by simp[d7,j7,a6,a9,dL,one,ba,d6,nL])];rw[d8 (s1:=⟨[.v (.int a),.v (.int b),.v (.int a.natAbs),.v (.int b.natAbs),.no],fs⟩) (by simp[d7,j7,a6,a9,dL,one,ba,d6,nL])];rw[d8 J];exact p9 (by simp[dV,Int.gcd])
def zA (a:Int):Int.gcd 0 a=a.natAbs:=by simp[Int.gcd]
def tF (a b:Int):Int.gcd ((a.natAbs:Nat):Int) b=Int.gcd a b:=by simp[Int.gcd]
def jb (P:D) (J x:Int) (x2:Sl) (r:vD_) (fs:vO_):C4 (d6 2) (jk V6) (.int x::r) ⟨[.v P,.v (.int J),x2],fs⟩=C4 (d6 2) (jk V6) r ⟨[.v P,.v (.int (Int.gcd J x)),.v (.int x)],fs⟩:=W9 (s1:=⟨[.v P,.v (.int J),.v (.int x)],fs⟩) rfl (k6 (i7 rfl (Lw J x fs)) rfl)
def wH {ds:vD_}{g:Int}{fs:vO_}(h:C4 (d6 2) (jk V6) ds ⟨[.v (.tup ds),.v (.int 0),.no],fs⟩=some (.next,⟨[.v (.tup ds),.v (.int g),x2],fs⟩)):dF V6 [.tup ds] fs=some (.int g,fs):=by
 refine n9 (s:=⟨[.v (.tup ds),.v (.int g),x2],fs⟩) ?_;show kI V6 ⟨[.v (.tup ds),.no,.no],fs⟩=_;unfold kI;have J:L8 (dV 0) (d6 2) (jk V6) ⟨[.v (.tup ds),.v (.int 0),.no],fs⟩=some (.next,⟨[.v (.tup ds),.v (.int g),x2],fs⟩):=h;rw[d8 (s1:=⟨[.v (.tup ds),.v (.int 0),.no],fs⟩) (k6 rfl rfl),d8 J];exact p9 rfl
def Ft (a b:Int) (fs:vO_):dF V6 [.tup [.int a,.int b]] fs=some (.int (Int.gcd a b),fs):=wH (x2:=.v (.int b)) (by
 rw[jb,jb,zA,tF];rfl)
def Gj (a b c:Int) (fs:vO_):dF V6 [.tup [.int a,.int b,.int c]] fs=some (.int (Int.gcd (Int.gcd a b:Int) c),fs):=wH (x2:=.v (.int c)) (by
 rw[jb,jb,jb,zA,tF];rfl)
def aj {a g c:Int}(J:g≠0) (e:a=g*c):a.fdiv g=c:=by subst e;exact Int.mul_fdiv_cancel_left c J
def tO (a b:Int) (hb:b≠0):let g:Int:=if b<0 then -(Int.gcd a b:Int) else (Int.gcd a b:Int)
  g≠0/\a.fdiv g=(Rat.divInt a b).num/\b.fdiv g=((Rat.divInt a b).den:Int):=by
 intro g;have Y:0<Int.gcd a b:=Yg a hb;obtain⟨c,M⟩:=Yh a b;obtain⟨d,hd⟩:=WU a b;have W:(Rat.divInt a b).num=if b<0 then -c else c:=by
  rw[Yd,WZ];split
  .rename_i h;rw[Int.sign_eq_neg_one_of_neg h];refine Xb (by omega) ?_;grind
  .rename_i h;rw[YO (by omega),Int.one_mul];exact Xb (by omega) M
 have U:((Rat.divInt a b).den:Int)=if b<0 then -d else d:=by
  rw[Ye,So hb,WZ,VX];split
  .refine Xb (by omega) ?_;grind
  .refine Xb (by omega) ?_;grind
 rw[W,U];by_cases h:b<0
 .have J:g = -(Int.gcd a b:Int):=tx h;rw[J,tx h,tx h];exact⟨by omega,aj (by omega) (by grind),aj (by omega) (by grind)⟩
 .have J:g=(Int.gcd a b:Int):=So h;rw[J,So h,So h];exact⟨by omega,aj (by omega) M,aj (by omega) hd⟩
def pS {k:Nat}{a b:Int}(hb:b≠0) (h:Bd k b) (hk:k<=8000):J7 (if b<0 then -(Int.gcd a b:Int) else (Int.gcd a b:Int))=true:=by
 have J:0<Int.gcd a b:=Yg a hb;split
 .exact(Bd.gcd h hb).neg.div (by omega) hk
 .exact(Bd.gcd h hb).div (by omega) hk
def oZ:(2:Nat)<=sizeLine:=by decide
def IG (a b:D):v8 [a,b] (-1)=some b:=Dr [a] b
def Ld (a b c:D):v8 [a,b,c] (-1)=some c:=Dr [a,b] c
def bO (a b:D):v8 [a,b] 0=some a:=rfl
def cE (a b:D):v8 [a,b] 1=some b:=rfl
def eN (a b c:D):v8 [a,b,c] 0=some a:=rfl
def fW (a b c:D):v8 [a,b,c] 1=some b:=rfl
def fg (a b c:D):v8 [a,b,c] 2=some c:=rfl
abbrev FL:a8:=DC (dF V6)
abbrev FF:a8:=tU FL
theorem Bg {J:Int}(M:J7 J=true) (fs:vO_):∀xs:List Int,C2 (fun d=>some [.v d,.v (.int J)]) E3 (a7 E7 (dL 0) (dL 1)) (xs.map .int) fs=some (xs.map (fun x=>.int (x.fdiv J)),fs)
 |[]=>rfl
 |x::r=>by
  have e:a7 E7 (dL 0) (dL 1) ⟨[.v (.int x),.v (.int J)],fs⟩=some (.int (x.fdiv J),⟨[.v (.int x),.v (.int J)],fs⟩):=c6 rfl rfl (tx M);have U:=Bg M fs r;rw[SN,C2,SH];show ((a7 E7 (dL 0) (dL 1) ⟨[.v (.int x),.v (.int J)],fs⟩).bind _)=_;rw[e,SH];show (C2 _ E3 _ (r.map .int) fs).map _=_;rw[U];rfl
def Hl {ds:vD_}{d g:Int}(h:v8 ds (-1)=some (.int d)) (fs:vO_):j9 (dB (a7 (j6 (fun i j=>decide (i<j))) (a7 b0 (dL 0) (m8 o7 (Zf 1))) (Zf 0))) (d7 (m8 o7 (dL 1)) (d6 1)) k9 ⟨[.v (.tup ds),.v (.int g)],fs⟩=some (.next,⟨[.v (.tup ds),.v (.int (if d<0 then -g else g))],fs⟩):=by
 have t:dB (a7 (j6 (fun i j=>decide (i<j))) (a7 b0 (dL 0) (m8 o7 (Zf 1))) (Zf 0)) ⟨[.v (.tup ds),.v (.int g)],fs⟩=some (decide (d<0),⟨[.v (.tup ds),.v (.int g)],fs⟩):=u6 (c6 (c6 rfl rfl (show b0 (.tup ds) (.int (-1))=some (.int d) from h)) rfl rfl);by_cases J:d<0
 .rw[SA J] at t;rw[tx J,E6 t];rfl
 .rw[SF J] at t;rw[So J,aL t];rfl
def AD {xs:List Int}{d g:Int}(fs:vO_) (hl:xs.length<=10) (hd:dF V6 [.tup (xs.map .int)] fs=some (.int g,fs)) (h:v8 (xs.map D.int) (-1)=some (.int d)) (U:J7 (if d<0 then -g else g)=true):FL [.tup (xs.map .int)] fs=some (.tup (xs.map fun x=>.int (x.fdiv (if d<0 then -g else g))),fs):=by
 have M:=Hl (g:=g) h fs;have J:=Bg U fs xs;have W:(xs.map D.int).length<=sizeLine:=SI (by rw[Ss];exact hl) (show 10<=sizeLine by decide);generalize xs.map D.int=ds at *;generalize (if d<0 then -g else g)=gg at *;refine n9 (s:=⟨[.v (.tup ds),.v (.int gg)],fs⟩) ?_;show rE (dF V6) ⟨[.v (.tup ds),.no],fs⟩=_;unfold rE;rw[d8 (s1:=⟨[.v (.tup ds),.v (.int g)],fs⟩) (k6 (i7 rfl hd) rfl),d8 M];exact p9 (F8 (p:=S8) (U0 (aC (idx:=[1]) (ds:=ds) (s1:=⟨[.v (.tup ds),.v (.int gg)],fs⟩) rfl W J)) rfl)
def JW {k:Nat}(a b:Int) (fs:vO_) (hb:b≠0) (h:Bd k b) (hk:k<=8000):FL [.tup [.int a,.int b]] fs=some (fr (Rat.divInt a b),fs):=by
 obtain⟨J,p1,p2⟩:=tO a b hb;have e:=AD (xs:=[a,b]) (d:=b) fs (show 2<=10 by decide) (Ft a b fs) (IG _ _) (pS (a:=a) hb h hk);unfold fr;rw[<-p1,<-p2];exact e
def DD {k:Nat}(a b:Int) (fs:vO_) (hb:b≠0) (h:Bd k b) (hk:k<=8000):FF [.int a,.int b] fs=some (fr (Rat.divInt a b),fs):=by
 refine n9 (s:=⟨[.v (.int a),.v (.int b)],fs⟩) ?_;show qp FL ⟨[.v (.int a),.v (.int b)],fs⟩=_;exact p9 (i7 (A0 (X4 rfl rfl) rfl) (JW a b fs hb h hk))
abbrev II:DT:=dB (a7 (j6 (fun i j=>decide (j<i))) (dL 3) (Zf 0))
abbrev FG:DM:=B5 2 3 (a6 (dV 3) (a6 (a7 J3 (dL 2) (dL 3)) a9))
def Iv (a b:Sl) (fs:vO_) (r:Nat):∀(g:Nat),F7 II FG ⟨[a,b,.v (.int g),.v (.int r)],fs⟩=some (.next,⟨[a,b,.v (.int (Nat.gcd g r)),.v (.int 0)],fs⟩):=by
 induction r using Nat.strongRecOn with
 |ind r M=>
  intro g;by_cases h:r=0
  .subst h;rw[Nat.gcd_zero_right];exact W0 (by simp[c9,B8,d7,a7,m8,dC,Zf,Zg,dL,dV,d6,j9,dB,f9,c8,a6,a9,i9,k9,j7,one,m6,l7,u4,w8,A5,B0,D4,D6,D2,b0,m9,u7,o7,j6,r8,y9,t9,A3,B5,w6,D0])
  .have e:((g:Int).fmod (r:Int))=((g % r:Nat):Int):=by rw[WS _ (by omega)];rfl
   have U:=M (g % r) (Uz _ (by omega)) r;have J:Nat.gcd g r=Nat.gcd r (g % r):=by rw[Xa g r,Nat.gcd_rec,Xa]
   rw[J];have Y:¬ (r:Int)=0:=by omega
   have W:(0:Int)<r:=by omega
   refine X8 (s1:=⟨[a,b,.v (.int g),.v (.int r)],fs⟩) (s2:=⟨[a,b,.v (.int r),.v (.int ((g % r:Nat):Int))],fs⟩) (by simp[c9,B8,d7,a7,m8,dC,Zf,Zg,dL,dV,d6,j9,dB,f9,c8,a6,a9,i9,k9,j7,one,m6,l7,u4,w8,A5,B0,D4,D6,D2,b0,m9,u7,o7,j6,r8,y9,t9,A3,B5,w6,D0];omega) ?_ U;rw[<-e];simp[B5,a6,a9,dV,a7,dL,J3,h]
abbrev LF:a8:=uj
abbrev LS:a8:=xE LF
abbrev LP:a8:=DU LF
def T8 {k:Nat}(a b:Int) (fs:vO_) (hb:b≠0) (h:Bd k b) (hk:k<=8000):LF [.int a,.int b] fs=some (fr (Rat.divInt a b),fs):=by
 obtain⟨W,p1,p2⟩:=tO a b hb;have M:=pS (a:=a) hb h hk;have U:=Iv (.v (.int a)) (.v (.int b)) fs b.natAbs a.natAbs;refine n9 (s:=⟨[.v (.int a),.v (.int b),.v (.int (if b<0 then -(Int.gcd a b:Int) else (Int.gcd a b:Int))),.v (.int 0)],fs⟩) ?_;show ki ⟨[.v (.int a),.v (.int b),.no,.no],fs⟩=_;unfold ki;rw[d8 (s1:=⟨[.v (.int a),.v (.int b),.v (.int a.natAbs),.no],fs⟩) (by simp[c9,B8,d7,a7,m8,dC,Zf,Zg,dL,dV,d6,j9,dB,f9,c8,a6,a9,i9,k9,j7,one,m6,l7,u4,w8,A5,B0,D4,D6,D2,b0,m9,u7,o7,j6,r8,y9,t9,A3,B5,w6,D0,ba,nL])];rw[d8 (s1:=⟨[.v (.int a),.v (.int b),.v (.int a.natAbs),.v (.int b.natAbs)],fs⟩) (by simp[c9,B8,d7,a7,m8,dC,Zf,Zg,dL,dV,d6,j9,dB,f9,c8,a6,a9,i9,k9,j7,one,m6,l7,u4,w8,A5,B0,D4,D6,D2,b0,m9,u7,o7,j6,r8,y9,t9,A3,B5,w6,D0,ba,nL])];rw[d8 U];rw[d8 (s1:=⟨[.v (.int a),.v (.int b),.v (.int (if b<0 then -(Int.gcd a b:Int) else (Int.gcd a b:Int))),.v (.int 0)],fs⟩) (by
  by_cases J:b<0
  .simp[c9,B8,d7,a7,m8,dC,Zf,Zg,dL,dV,d6,j9,dB,f9,c8,a6,a9,i9,k9,j7,one,m6,l7,u4,w8,A5,B0,D4,D6,D2,b0,m9,u7,o7,j6,r8,y9,t9,A3,B5,w6,D0,J,Int.gcd]
  .simp[c9,B8,d7,a7,m8,dC,Zf,Zg,dL,dV,d6,j9,dB,f9,c8,a6,a9,i9,k9,j7,one,m6,l7,u4,w8,A5,B0,D4,D6,D2,b0,m9,u7,o7,j6,r8,y9,t9,A3,B5,w6,D0,J,Int.gcd])]
 generalize Y:(if b<0 then -(Int.gcd a b:Int) else (Int.gcd a b:Int))=gg at *;refine p9 ?_;unfold fr;rw[<-p1,<-p2];simp[c9,B8,d7,a7,m8,dC,Zf,Zg,dL,dV,d6,j9,dB,f9,c8,a6,a9,i9,k9,j7,one,m6,l7,u4,w8,A5,B0,D4,D6,D2,b0,m9,u7,o7,j6,r8,y9,t9,A3,B5,w6,D0,E7,M,oZ]
def NV (p q:Rat):p+q=Rat.divInt (p.num*q.den+q.num*p.den) (p.den*q.den):=by
 rw[Rat.add_def',<-Rat.divInt_ofNat];rfl
def qA (p q:Rat):p*q=Rat.divInt (p.num*q.num) (p.den*q.den):=by
 rw[Rat.mul_def',<-Rat.divInt_ofNat];rfl
def gD (p q:Rat):(p.den:Int)*q.den≠0:=TV (G7 p) (G7 q)
def V5 {k l:Nat}(p q:Rat) (fs:vO_) (h1:Sz k p) (h2:Sz l q) (hk:k+l<=8000):LS [fr p,fr q] fs=some (fr (p+q),fs):=by
 have U:=h1.num.bits (by omega);have J:=h1.den.bits (by omega);have M:=h2.num.bits (by omega);have W:=h2.den.bits (by omega);have e:=T8 (p.num*q.den+q.num*p.den) (p.den*q.den) fs (gD p q) (Bd.mul h1.den h2.den) hk;rw[<-NV] at e;refine n9 (s:=⟨[.v (fr p),.v (fr q),.v (.int (p.num*q.den+q.num*p.den))],fs⟩) ?_;show mD LF ⟨[.v (fr p),.v (fr q),.no],fs⟩=_;simp[mD,c9,B8,d7,a7,m8,dC,Zf,Zg,dL,dV,d6,j9,dB,f9,c8,a6,a9,i9,k9,j7,one,m6,l7,u4,w8,A5,B0,D4,D6,D2,b0,m9,u7,o7,j6,r8,y9,t9,A3,B5,w6,D0,fr,bO,cE,i6,U,J,M,W,e]
def P9 {k l:Nat}(p q:Rat) (fs:vO_) (h1:Sz k p) (h2:Sz l q) (hk:k+l<=8000):LP [fr p,fr q] fs=some (fr (p*q),fs):=by
 have U:=h1.num.bits (by omega);have J:=h1.den.bits (by omega);have M:=h2.num.bits (by omega);have W:=h2.den.bits (by omega);have e:=T8 (p.num*q.num) (p.den*q.den) fs (gD p q) (Bd.mul h1.den h2.den) hk;rw[<-qA] at e;refine n9 (s:=⟨[.v (fr p),.v (fr q)],fs⟩) ?_;show my LF ⟨[.v (fr p),.v (fr q)],fs⟩=_;simp[my,c9,B8,d7,a7,m8,dC,Zf,Zg,dL,dV,d6,j9,dB,f9,c8,a6,a9,i9,k9,j7,one,m6,l7,u4,w8,A5,B0,D4,D6,D2,b0,m9,u7,o7,j6,r8,y9,t9,A3,B5,w6,D0,fr,bO,cE,i6,U,J,M,W,e]
def X7 (p:Rat) (fs:vO_):F4 [fr p] fs=some (fr (-p),fs):=by
 refine n9 (s:=⟨[.v (fr p)],fs⟩) ?_;show mX ⟨[.v (fr p)],fs⟩=_;simp[mX,c9,B8,d7,a7,m8,dC,Zf,Zg,dL,dV,d6,j9,dB,f9,c8,a6,a9,i9,k9,j7,one,m6,l7,u4,w8,A5,B0,D4,D6,D2,b0,m9,u7,o7,j6,r8,y9,t9,A3,B5,w6,D0,fr,bO,cE,oZ]
abbrev FT:a8:=AQ FF
def Cb {k l:Nat}(p q:Rat) (fs:vO_) (h1:Sz k p) (h2:Sz l q) (hk:k+l<=8000):FT [fr p,fr q] fs=some (fr (p*q),fs):=by
 have U:=h1.num.bits (by omega);have J:=h1.den.bits (by omega);have M:=h2.num.bits (by omega);have W:=h2.den.bits (by omega);have e:=DD (p.num*q.num) (p.den*q.den) fs (gD p q) (Bd.mul h1.den h2.den) hk;rw[<-qA] at e;refine n9 (s:=⟨[.v (fr p),.v (fr q)],fs⟩) ?_;show jX FF ⟨[.v (fr p),.v (fr q)],fs⟩=_;simp[jX,c9,B8,d7,a7,m8,dC,Zf,Zg,dL,dV,d6,j9,dB,f9,c8,a6,a9,i9,k9,j7,one,m6,l7,u4,w8,A5,B0,D4,D6,D2,b0,m9,u7,o7,j6,r8,y9,t9,A3,B5,w6,D0,fr,bO,cE,i6,U,J,M,W,e]
def Ka (p q:Rat):decide (p.num*q.den<q.num*p.den)=decide (p<q):=by
 congr 1;exact propext (Rat.lt_iff p q).symm
def Pj {k l:Nat}(p q:Rat) (fs:vO_) (h1:Sz k p) (h2:Sz l q) (hk:k+l<=8000):ph [fr p,fr q] fs=some (.bl (decide (p<q)),fs):=by
 have U:=h1.num.bits (by omega);have J:=h1.den.bits (by omega);have M:=h2.num.bits (by omega);have W:=h2.den.bits (by omega);refine n9 (s:=⟨[.v (fr p),.v (fr q)],fs⟩) ?_;show kz ⟨[.v (fr p),.v (fr q)],fs⟩=_;rw[<-Ka];simp[kz,c9,B8,d7,a7,m8,dC,Zf,Zg,dL,dV,d6,j9,dB,f9,c8,a6,a9,i9,k9,j7,one,m6,l7,u4,w8,A5,B0,D4,D6,D2,b0,m9,u7,o7,j6,r8,y9,t9,A3,B5,w6,D0,fr,bO,cE,i6,U,J,M,W]
def CK (a:Int) (n:Nat):a.fdiv (n:Int)=a / (n:Int):=US a (by omega)
def dA (a:Int) {b:Int}(h:b≠0):J3 (.int a) (.int b)=some (.int (a.fmod b)):=by simp[J3,h]
def bp (a:Int) {b:Int}(h:J7 b=true):E7 (.int a) (.int b)=some (.int (a.fdiv b)):=by simp[E7,h]
def n8 {a b:Int}(h1:A9 a=true) (h2:A9 b=true):i6 (.int a) (.int b)=some (.int (a*b)):=by simp[i6,h1,h2]
def pK {i:Nat}{key:Str}{fe:DE}{s s1:DS}(h:fe s=some (d,s1)) (e:Z3 i key (fun _=>some (d,s1)) s=r):Z3 i key fe s=r:=by
 rw[<-e];unfold Z3;rw[h]
def FC (f:FS) (J:Int) (hm:0<J) (hm2:J<2 ^ 100) (ht:0<=f.turn) (ht2:f.turn<2 ^ 40) (hk:f.kind=0) :
  ∃r f',P5 [.feed,.int J] (some f)=some (.int r,some f')/\0<=r/\r<J/\f'.turn=f.turn+1/\f'.kind=0:=by
 have dm:J7 J=true:=Lj (by omega) (by omega);have hne:J≠0:=by omega
 obtain⟨W,ps,Y,U,kd⟩:=f;simp only at ht ht2 hk ⊢;subst hk;by_cases hl:0<Y
 .refine⟨Y.fmod J,⟨W,ps,Y.fdiv J,U+1,0⟩,?_,(aW hm).1,(aW hm).2,rfl,rfl⟩;refine n9 (s:=⟨[.v .feed,.v (.int J),.v (.int (U+1)),.v (.int (Y.fmod J)),.no,.no,.no],some ⟨W,ps,Y.fdiv J,U+1,0⟩⟩) ?_;show cf ⟨[.v .feed,.v (.int J),.no,.no,.no,.no,.no],some ⟨W,ps,Y,U,0⟩⟩=_;unfold cf;rw[d8 (s1:=⟨[.v .feed,.v (.int J),.v (.int (U+1)),.no,.no,.no,.no],some ⟨W,ps,Y,U,0⟩⟩) (k6 (c6 rfl rfl rfl) rfl),d8 (s1:=⟨[.v .feed,.v (.int J),.v (.int (U+1)),.no,.no,.no,.no],some ⟨W,ps,Y,U+1,0⟩⟩) rfl];have c0:dB (a7 (j6 (fun i j=>decide (j<i))) (J9 0 "left") (Zf 0)) ⟨[.v .feed,.v (.int J),.v (.int (U+1)),.no,.no,.no,.no],some ⟨W,ps,Y,U+1,0⟩⟩=some (true,⟨[.v .feed,.v (.int J),.v (.int (U+1)),.no,.no,.no,.no],some ⟨W,ps,Y,U+1,0⟩⟩):=by
   rw[<-SA hl];rfl
  refine N4 ?_;rw[E6 c0,d8 (s1:=⟨[.v .feed,.v (.int J),.v (.int (U+1)),.v (.int (Y.fmod J)),.no,.no,.no],some ⟨W,ps,Y,U+1,0⟩⟩) (k6 (c6 rfl rfl (dA Y hne)) rfl),
   d8 (s1:=⟨[.v .feed,.v (.int J),.v (.int (U+1)),.v (.int (Y.fmod J)),.no,.no,.no],some ⟨W,ps,Y.fdiv J,U+1,0⟩⟩) (pK (c6 rfl rfl (bp Y dm)) rfl)]
  rfl
 ·-- the cell
  have cell:∃c:Int,∀a b e x y z:Sl,u4 (dB (a7 (j6 (fun i j=>decide (j<i))) (j7 (one r8) (a6 (dL 4) a9)) (Zf 0))) (a7 b0 (dL 4) (a7 J3 (J9 0 "at") (j7 (one r8) (a6 (dL 4) a9)))) (Zf 0) ⟨[.v .feed,a,b,e,.v (.lst (W.map .int)),x,y],some ⟨W,ps,Y,U+1,0⟩⟩ =
    some (.int c,⟨[.v .feed,a,b,e,.v (.lst (W.map .int)),x,y],some ⟨W,ps,Y,U+1,0⟩⟩):=by
   by_cases hc:0<W.length
   .have hi:=aW (a:=ps) (b:=(W.length:Int)) (by omega);obtain⟨c,hg⟩:∃c:Int,v8 (W.map D.int) (ps.fmod (W.length:Int))=some (.int c):=by
     have:(ps.fmod (W.length:Int)).toNat<W.length:=by omega
     refine⟨W[(ps.fmod (W.length:Int)).toNat],?_⟩;rw[Bw hi.1 (by rw[Ss];exact hi.2),TM,Tf this];rfl
    refine⟨c,fun a b e x y z=>?_⟩;have hn:W≠[]:=by intro z;rw[z] at hc;simp at hc
    simp[u4,dB,a7,j7,one,r8,a6,a9,dL,dC,Zf,Zg,j6,J9,uP,J3,b0,hn,hc,hg]
   .refine⟨0,fun a b e x y z=>?_⟩;have hz:W=[]:=XX (by omega);subst hz;simp[u4,dB,a7,j7,one,r8,a6,a9,dL,dC,Zf,Zg,j6]
  obtain⟨c,hcell⟩:=cell;have hc1:=aW (a:=c) (b:=1000003) (by decide);have pre:∀rest:DM,c9 (d7 (a7 m9 (J9 0 "turn") (Zf 1)) (d6 2)) (c9 (Z3 0 "turn" (dV 2)) (c9 (j9 (dB (a7 (j6 (fun i j=>decide (j<i))) (J9 0 "left") (Zf 0))) (c9 (d7 (a7 J3 (J9 0 "left") (dL 1)) (d6 3)) (c9 (Z3 0 "left" (a7 E7 (J9 0 "left") (dL 1))) (f9 (dV 3)))) k9)
    (c9 (d7 (J9 0 "cells") (d6 4)) (c9 (d7 (u4 (dB (a7 (j6 (fun i j=>decide (j<i))) (j7 (one r8) (a6 (dL 4) a9)) (Zf 0))) (a7 b0 (dL 4) (a7 J3 (J9 0 "at") (j7 (one r8) (a6 (dL 4) a9)))) (Zf 0)) (d6 5)) (c9 (Z3 0 "at" (a7 m9 (J9 0 "at") (Zf 1))) rest)))))
    ⟨[.v .feed,.v (.int J),.no,.no,.no,.no,.no],some ⟨W,ps,Y,U,0⟩⟩=rest ⟨[.v .feed,.v (.int J),.v (.int (U+1)),.no,.v (.lst (W.map .int)),.v (.int c),.no],some ⟨W,ps+1,Y,U+1,0⟩⟩:=fun rest=>by
   rw[d8 (s1:=⟨[.v .feed,.v (.int J),.v (.int (U+1)),.no,.no,.no,.no],some ⟨W,ps,Y,U,0⟩⟩) (k6 (c6 rfl rfl rfl) rfl)];rw[d8 (s1:=⟨[.v .feed,.v (.int J),.v (.int (U+1)),.no,.no,.no,.no],some ⟨W,ps,Y,U+1,0⟩⟩) rfl];rw[d8 (s1:=⟨[.v .feed,.v (.int J),.v (.int (U+1)),.no,.no,.no,.no],some ⟨W,ps,Y,U+1,0⟩⟩) (by
    have c0:dB (a7 (j6 (fun i j=>decide (j<i))) (J9 0 "left") (Zf 0)) ⟨[.v .feed,.v (.int J),.v (.int (U+1)),.no,.no,.no,.no],some ⟨W,ps,Y,U+1,0⟩⟩=some (false,⟨[.v .feed,.v (.int J),.v (.int (U+1)),.no,.no,.no,.no],some ⟨W,ps,Y,U+1,0⟩⟩):=by
     rw[<-SF hl];rfl
    rw[aL c0];rfl)]
   rw[d8 (s1:=⟨[.v .feed,.v (.int J),.v (.int (U+1)),.no,.v (.lst (W.map .int)),.no,.no],some ⟨W,ps,Y,U+1,0⟩⟩) rfl];rw[d8 (Qi (hcell _ _ _ _ _ .no))];rw[d8 (s1:=⟨[.v .feed,.v (.int J),.v (.int (U+1)),.no,.v (.lst (W.map .int)),.v (.int c),.no],some ⟨W,ps+1,Y,U+1,0⟩⟩) (pK (c6 rfl rfl rfl) rfl)]
  have Z:w8 (dB (a7 (j6 (fun i j=>decide (j<=i))) (dL 5) (a7 ia (Zf 10) (Zf 18)))) (dB (a7 (j6 (fun i j=>decide (i<=j))) (J9 0 "at") (j7 (one r8) (a6 (dL 4) a9)))) ⟨[.v .feed,.v (.int J),.v (.int (U+1)),.no,.v (.lst (W.map .int)),.v (.int c),.no],some ⟨W,ps+1,Y,U+1,0⟩⟩ =
    some (decide (1000000000000000000<=c)&&decide (ps+1<=(W.length:Int)),⟨[.v .feed,.v (.int J),.v (.int (U+1)),.no,.v (.lst (W.map .int)),.v (.int c),.no],some ⟨W,ps+1,Y,U+1,0⟩⟩):=by
   by_cases h1:1000000000000000000<=c
   .simp[w8,dB,a7,dL,dC,Zf,Zg,ia,j6,J9,uP,j7,one,r8,a6,a9,h1]
   .simp[w8,dB,a7,dL,dC,Zf,Zg,ia,j6,h1]
  by_cases hb:(decide (1000000000000000000<=c)&&decide (ps+1<=(W.length:Int)))=true
  .refine⟨c.fmod J,⟨W,ps+1,c.fdiv J,U+1,0⟩,n9 (s:=⟨[.v .feed,.v (.int J),.v (.int (U+1)),.no,.v (.lst (W.map .int)),.v (.int c),.no],some ⟨W,ps+1,c.fdiv J,U+1,0⟩⟩) ?_,(aW hm).1,(aW hm).2,rfl,rfl⟩;show cf ⟨[.v .feed,.v (.int J),.no,.no,.no,.no,.no],some ⟨W,ps,Y,U,0⟩⟩=_;unfold cf;rw[pre];rw[hb] at Z;refine N4 ?_;rw[E6 Z];rw[d8 (s1:=⟨[.v .feed,.v (.int J),.v (.int (U+1)),.no,.v (.lst (W.map .int)),.v (.int c),.no],some ⟨W,ps+1,c.fdiv J,U+1,0⟩⟩) (pK (c6 rfl rfl (bp c dm)) rfl)];exact p9 (c6 rfl rfl (dA c hne))
  .have q:∃M:Int,d7 (a7 J3 (a7 i6 (a7 m9 (a7 m9 (a7 m9 (a7 J3 (dL 5) (Zf 1000003)) (a7 i6 (a7 i6 (Zf 31) (dL 2)) (dL 2))) (a7 i6 (Zf 7) (dL 2))) (Zf 11)) (Zf 48271)) (Zf 2147483647)) (d6 6)
     ⟨[.v .feed,.v (.int J),.v (.int (U+1)),.no,.v (.lst (W.map .int)),.v (.int c),.no],some ⟨W,ps+1,Y,U+1,0⟩⟩=some (.next,⟨[.v .feed,.v (.int J),.v (.int (U+1)),.no,.v (.lst (W.map .int)),.v (.int c),.v (.int M)],some ⟨W,ps+1,Y,U+1,0⟩⟩)/\0<=M/\M<2147483647:=by
    have b1:A9 31=true:=by decide
    have b2:A9 (U+1)=true:=iA (by omega);have p1:(U+1)*31<=2 ^ 40*31:=Int.mul_le_mul_of_nonneg_right (by omega) (by decide);have b3:A9 (31*(U+1))=true:=iA (by omega);have p2:0<=31*(U+1)*(U+1):=Ud (by omega) (by omega);have p3:31*(U+1)*(U+1)<=31*2 ^ 40*2 ^ 40:=Yi (by omega) (by omega) (by omega) (by decide);have b4:A9 (c.fmod 1000003+31*(U+1)*(U+1)+7*(U+1)+11)=true:=iA (by omega);have b5:A9 48271=true:=by decide
    have b6:A9 7=true:=by decide
    refine⟨((c.fmod 1000003+31*(U+1)*(U+1)+7*(U+1)+11)*48271).fmod 2147483647,?_,aW (by decide)⟩;exact k6 (c6 (c6 (c6 (c6 (c6 (c6 rfl rfl (dA c (by decide))) (c6 (c6 rfl rfl (n8 b1 b2)) rfl (n8 b3 b2)) rfl) (c6 rfl rfl (n8 b6 b2)) rfl) rfl rfl) rfl (n8 b4 b5)) rfl (dA _ (by decide))) rfl
   obtain⟨M,e1,m1,m2⟩:=q;have hM:=US M (show (0:Int)<=64 by decide);have b7:A9 (M.fdiv 64)=true:=iA (by rw[hM];omega);have b8:A9 69621=true:=by decide
   have b9:A9 7919=true:=by decide
   have b10:A9 (U+1)=true:=iA (by omega);have d64:J7 64=true:=by decide
   refine⟨(((M.fdiv 64*69621+7919*(U+1)).fmod 2147483587).fdiv 64).fmod J,⟨W,ps+1,Y,U+1,0⟩,n9 (s:=⟨[.v .feed,.v (.int J),.v (.int (U+1)),.no,.v (.lst (W.map .int)),.v (.int c),.v (.int ((M.fdiv 64*69621+7919*(U+1)).fmod 2147483587))],some ⟨W,ps+1,Y,U+1,0⟩⟩) ?_,(aW hm).1,(aW hm).2,rfl,rfl⟩;show cf ⟨[.v .feed,.v (.int J),.no,.no,.no,.no,.no],some ⟨W,ps,Y,U,0⟩⟩=_;unfold cf;rw[pre];have hb':(decide (1000000000000000000<=c)&&decide (ps+1<=(W.length:Int)))=false:=by simpa using hb
   rw[hb'] at Z;rw[d8 (by rw[aL Z];rfl)];rw[d8 e1];rw[d8 (s1:=⟨[.v .feed,.v (.int J),.v (.int (U+1)),.no,.v (.lst (W.map .int)),.v (.int c),.v (.int ((M.fdiv 64*69621+7919*(U+1)).fmod 2147483587))],some ⟨W,ps+1,Y,U+1,0⟩⟩) (k6 (c6 (c6 (c6 (c6 rfl rfl (bp M d64)) rfl (n8 b7 b8)) (c6 rfl rfl (n8 b9 b10)) rfl) rfl (dA _ (by decide))) rfl)];exact p9 (c6 (c6 rfl rfl (bp _ d64)) rfl (dA _ hne))
def Fd (n:Nat) (f:FS):Prop:=0<=f.turn/\f.turn<=n/\f.kind=0
def Fd.mono {n m:Nat}(h:Fd n f) (J:n<=m):Fd m f:=⟨h.1,by have:=h.2.1;omega,h.2.2⟩
def K8 {n:Nat}(J:Int) (h:Fd n f) (U:0<J:=by first | decide | omega) (W:n<2 ^ 30:=by omega) (M:J<2 ^ 100:=by first | decide | omega) :
  ∃r f',P5 [.feed,.int J] (some f)=some (.int r,some f')/\0<=r/\r<J/\Fd (n+1) f':=by
 obtain⟨r,f',e,h0,h1,h2,h3⟩:=FC f J U M h.1 (by have:=h.2.1;omega) h.2.2;exact⟨r,f',e,h0,h1,by have:=h.1;omega,by have:=h.2.1;omega,h3⟩
def Fm (J:List Int) (h:J.length<=63):bD [.scr J] none=some (.feed,some ⟨J,0,0,0,0⟩):=by
 refine n9 (s:=⟨[.v (.scr J)],some ⟨J,0,0,0,0⟩⟩) ?_;show pj ⟨[.v (.scr J)],none⟩=_;simp[pj,f9,nM]
def Fd.zero (J:List Int):Fd 0 ⟨J,0,0,0,0⟩:=⟨by simp,by simp,rfl⟩
end T
namespace DL
open PySem L2
abbrev Pt:=Rat × Rat
abbrev vT_:=List Pt
def pL (a:Pt):Int:=((Nat.lcm a.1.den a.2.den:Nat):Int)
def pX (a:Pt):Int:=a.1.num*((Nat.lcm a.1.den a.2.den / a.1.den:Nat):Int)
def pY (a:Pt):Int:=a.2.num*((Nat.lcm a.1.den a.2.den / a.2.den:Nat):Int)
def pt (a:Pt):D:=.tup [.int (pX a),.int (pY a),.int (pL a)]
theorem lcm_pos (p q:Rat):0<Nat.lcm p.den q.den:=Nat.lcm_pos (by have:=p.den_nz;omega) (by have:=q.den_nz;omega)
def yj (a:Pt):0<pL a:=by have:=lcm_pos a.1 a.2;unfold pL;omega
def Y1 (a:Pt):pL a≠0:=by have:=yj a;omega
def U7 (a:Pt):(0:Rat)<(pL a:Rat):=TF.mpr (yj a)
def M7 (a:Pt):(pL a:Rat)≠0:=fun h=>Y1 a (Uq.mp h)
def aI (p:Rat):(p.num:Rat)=p*((p.den:Int):Rat):=by
 have e:=WW p;rw[Tx] at e;have hd:((p.den:Int):Rat)≠0:=fun h=>G7 p (Uq.mp h)
 have:(p.num:Rat) / ((p.den:Int):Rat)*((p.den:Int):Rat)=(p.num:Rat):=Yj hd;rw[e] at this;exact this.symm
def N5 (a:Pt):(pX a:Rat)=a.1*(pL a:Rat):=by
 unfold pX pL;obtain⟨c,J⟩:=Nat.dvd_lcm_left a.1.den a.2.den;have hd:=a.1.den_nz;have e:Nat.lcm a.1.den a.2.den / a.1.den=c:=YQ (by omega) J;rw[e,J,VB,SQ,SQ,aI];grind
def N8 (a:Pt):(pY a:Rat)=a.2*(pL a:Rat):=by
 unfold pY pL;obtain⟨c,J⟩:=Nat.dvd_lcm_right a.1.den a.2.den;have hd:=a.2.den_nz;have e:Nat.lcm a.1.den a.2.den / a.2.den=c:=YQ (by omega) J;rw[e,J,VB,SQ,SQ,aI];grind
def ur {x d:Int}{p:Rat}(hd:0<d) (h:(x:Rat)=p*(d:Rat)):∃c:Int,d=p.den*c/\x=p.num*c:=by
 have h1:x*p.den=p.num*d:=by
  have e:=aI p;have:((x*p.den:Int):Rat)=((p.num*d:Int):Rat):=by
   rw[SQ,SQ,h,e];grind
  exact VC.mp this
 have W:(p.den:Int)∣p.num*d:=⟨x,by rw[<-h1,Vi]⟩
 have M:p.den∣p.num.natAbs*d.natAbs:=by
  have:=Int.natAbs_dvd_natAbs.mpr W
  rwa [VU,Int.natAbs_natCast] at this
 have J:p.den∣d.natAbs:=Nat.Coprime.dvd_of_dvd_mul_left (Nat.Coprime.symm p.reduced) M;obtain⟨c,U⟩:(p.den:Int)∣d:=Int.dvd_natAbs.mp (Xc.mpr J);refine⟨c,U,?_⟩;have hp:=cV p;have:(p.den:Int)*x=p.den*(p.num*c):=by rw[Vi,h1,U];grind
 exact Int.eq_of_mul_eq_mul_left (by omega) this
def Dn {x y d:Int}(hd:0<d) (hg:Int.gcd (Int.gcd x y:Int) d=1) (J:(x:Rat)=a.1*(d:Rat)) (Z:(y:Rat)=a.2*(d:Rat)):x=pX a/\y=pY a/\d=pL a:=by
 obtain⟨c1,e1,f1⟩:=ur hd J;obtain⟨c2,e2,f2⟩:=ur hd Z;obtain⟨D,rfl⟩:=YR (show 0<=d by omega);have dl:Nat.lcm a.1.den a.2.den∣D:=Nat.lcm_dvd (Xc.mp ⟨c1,e1⟩) (Xc.mp ⟨c2,e2⟩);obtain⟨m,U⟩:=dl;have key:∀z:Int,∀r:Rat,(z:Rat)=r*((D:Int):Rat)->∀w:Int,(w:Rat)=r*(pL a:Rat)->z=w*m:=by
  intro z r h1 w h2;have:(z:Rat)=((w*m:Int):Rat):=by
   rw[h1,SQ,h2,U];have:(((Nat.lcm a.1.den a.2.den*m:Nat):Int):Rat)=(pL a:Rat)*((m:Int):Rat):=by
    rw[VB,SQ];rfl
   rw[this];grind
  exact VC.mp this
 have M:=key x a.1 J (pX a) (N5 a);have W:=key y a.2 Z (pY a) (N8 a);have Y:(D:Int)=pL a*m:=by rw[U,VB];rfl
 have m1:(m:Int)∣1:=by
  have h:(m:Int)∣(Int.gcd (Int.gcd x y:Int) (D:Int):Int):=by
   refine Int.dvd_coe_gcd (Int.dvd_coe_gcd ?_ ?_) ?_
   .exact⟨pX a,by rw[M,Vi]⟩
   .exact⟨pY a,by rw[W,Vi]⟩
   .exact⟨pL a,by rw[Y,Vi]⟩
  rwa [hg] at h
 have m2:m=1:=Nat.eq_one_of_dvd_one (Xc.mp m1);subst m2;exact⟨by rw[M];simp,by rw[W];simp,by rw[Y];simp⟩
structure Ps (k:Nat) (a:Pt):Prop where
 x:Bd k (pX a)
 y:Bd k (pY a)
 l:Bd k (pL a)
def Ps.of {k l:Nat}(h1:Sz k a.1) (h2:Sz l a.2):Ps (k+l) a:=by
 have hl:Nat.lcm a.1.den a.2.den<=a.1.den*a.2.den:=Nat.le_of_dvd (Nat.mul_pos (by have:=a.1.den_nz;omega) (by have:=a.2.den_nz;omega)) (Nat.lcm_dvd_mul ..);have b:=CS h1.2 h2.2;have M:Nat.lcm a.1.den a.2.den / a.1.den<=a.2.den:=by
  rw[YS (by have:=a.1.den_nz;omega)];omega
 have J:Nat.lcm a.1.den a.2.den / a.2.den<=a.1.den:=by
  rw[YS (by have:=a.2.den_nz;omega),Nat.mul_comm a.2.den];omega
 refine⟨?_,?_,?_⟩
 .exact Bd.mul h1.num (show Bd l ((_:Nat):Int) from TC M h2.2)
 .have:=Bd.mul h2.num (show Bd k ((_:Nat):Int) from TC J h1.2);rw[UM];exact this
 .exact TC hl b
def c7 (a b c:Pt):Rat:=(b.1 - a.1)*(c.2 - a.2) - (b.2 - a.2)*(c.1 - a.1)
def i8 (r:Rat):Int:=if 0<r then 1 else if r<0 then -1 else 0
def aY (n:Int):Int:=if 0<n then 1 else if n<0 then -1 else 0
def qK {n:Int}{c r:Rat}(J:0<c) (h:(n:Rat)=c*r):aY n=i8 r:=by
 unfold aY i8;have h1:0<n↔0<r:=by
  rw[<-TF,h];exact Yk J
 have h2:n<0↔r<0:=by
  rw[<-Rat.intCast_neg_iff,h];exact Rat.mul_neg_iff_of_pos_left J
 simp only[h1,h2]
def j5 (a b:Pt):Bool:=decide (a.1<b.1)||(decide (a.1=b.1)&&decide (a.2<b.2))
end DL
namespace T
open PySem L2 DL
def Jb (x y d:Int) (hd:d≠0):let G:Nat:=Int.gcd (Int.gcd x y:Int) d
  let g:Int:=if d<0 then -(G:Int) else (G:Int)
  g≠0/\x.fdiv g=pX (Rat.divInt x d,Rat.divInt y d)/\y.fdiv g=pY (Rat.divInt x d,Rat.divInt y d)/\d.fdiv g=pL (Rat.divInt x d,Rat.divInt y d):=by
 intro G g;have g0:0<G:=Yg _ hd;obtain⟨J,Y⟩:=WU (Int.gcd x y:Int) d;have h1:=Yh (Int.gcd x y:Int) d;obtain⟨M,ex⟩:=Int.dvd_trans h1 (Yh ..);obtain⟨U,W⟩:=Int.dvd_trans h1 (WU ..)
 replace Y:d=(G:Int)*J:=Y
 replace ex:x=(G:Int)*M:=ex
 replace W:y=(G:Int)*U:=W
 have Z:Int.gcd (Int.gcd M U:Int) J=1:=by
  have e1:Int.gcd x y=G*Int.gcd M U:=by
   have:=Int.gcd_mul_left (m:=(G:Int)) (n:=M) (k:=U);rw[<-ex,<-W] at this;exact this
  have e2:Int.gcd (Int.gcd x y:Int) d=G*Int.gcd (Int.gcd M U:Int) J:=by
   have:=Int.gcd_mul_left (m:=(G:Int)) (n:=(Int.gcd M U:Int)) (k:=J);rw[<-Y,<-VB,<-e1] at this;exact this
  have e3:G*Int.gcd (Int.gcd M U:Int) J=G*1:=by rw[<-e2,Nat.mul_one]
  exact Nat.eq_of_mul_eq_mul_left g0 e3
 have hdr:(d:Rat)≠0:=fun h=>hd (Uq.mp h)
 have hGr:((G:Int):Rat)≠0:=fun h=>by have:=Uq.mp h;omega
 have vx:∀z z':Int,z=(G:Int)*z'->(z':Rat)=Rat.divInt z d*(J:Rat):=fun z z' e=>by
  rw[Tx];have ed':(d:Rat)=((G:Int):Rat)*(J:Rat):=by rw[<-SQ];exact congrArg _ Y
  have ez':(z:Rat)=((G:Int):Rat)*(z':Rat):=by rw[<-SQ];exact congrArg _ e
  have hd'r:(J:Rat)≠0:=fun h=>hdr (by rw[ed',h];grind)
  rw[ez',ed'];grind
 by_cases h:d<0
 .have eg:g = -(G:Int):=tx h;have dn:0 < -J:=by
   rcases Vj J 0 with z | z
   .omega
   .have:0<=(G:Int)*J:=Ud (by omega) z;omega
  obtain⟨q1,q2,q3⟩:=Dn (x:=-M) (y:=-U) (d:=-J) (a:=(Rat.divInt x d,Rat.divInt y d)) dn (by
   have:Int.gcd (-M) (-U)=Int.gcd M U:=by simp[Int.gcd]
   rw[this];have:Int.gcd (Int.gcd M U:Int) (-J)=Int.gcd (Int.gcd M U:Int) J:=by simp[Int.gcd]
   rw[this];exact Z) (by rw[UT,UT,vx x M ex];grind) (by rw[UT,UT,vx y U W];grind)
  rw[eg,<-q1,<-q2,<-q3];exact⟨by omega,aj (by omega) (by grind),aj (by omega) (by grind),aj (by omega) (by grind)⟩
 .have eg:g=(G:Int):=So h;have dp:0<J:=by
   rcases Vj 0 J with z | z
   .exact z
   .have:(G:Int)*J<=G*0:=Vk z (by omega);omega
  obtain⟨q1,q2,q3⟩:=Dn (x:=M) (y:=U) (d:=J) (a:=(Rat.divInt x d,Rat.divInt y d)) dp Z (vx x M ex) (vx y U W);rw[eg,<-q1,<-q2,<-q3];exact⟨by omega,aj (by omega) ex,aj (by omega) W,aj (by omega) Y⟩
def HX {k:Nat}{x y d:Int}(hd:d≠0) (h:Bd k d) (hk:k<=8000):J7 (if d<0 then -(Int.gcd (Int.gcd x y:Int) d:Int) else (Int.gcd (Int.gcd x y:Int) d:Int))=true:=pS (a:=(Int.gcd x y:Int)) hd h hk
def jC {k:Nat}(x y d:Int) (fs:vO_) (hd:d≠0) (h:Bd k d) (hk:k<=8000):FL [.tup [.int x,.int y,.int d]] fs=some (pt (Rat.divInt x d,Rat.divInt y d),fs):=by
 obtain⟨J,p1,p2,p3⟩:=Jb x y d hd;have e:=AD (xs:=[x,y,d]) (d:=d) fs (show 3<=10 by decide) (Gj x y d fs) (Ld _ _ _) (HX (x:=x) (y:=y) hd h hk);unfold pt;rw[<-p1,<-p2,<-p3];exact e
def Kl (p q:Rat):Rat.divInt (p.num*q.den) (p.den*q.den)=p:=by
 rw[Rat.divInt_mul_right (G7 q),WW]
def MY (p q:Rat):Rat.divInt (q.num*p.den) (p.den*q.den)=q:=by
 rw[Vi (p.den:Int),Rat.divInt_mul_right (G7 p),WW]
abbrev LA:a8:=Dy LF
def T7 (p:Rat):b0 (fr p) (.int 0)=some (.int p.num):=rfl
def O6 (p:Rat):b0 (fr p) (.int 1)=some (.int p.den):=rfl
def vI {k l:Nat}(p q:Rat) (fs:vO_) (h1:Sz k p) (h2:Sz l q) (hk:k+l<=8000):LA [fr p,fr q] fs=some (pt (p,q),fs):=by
 have b1:=h1.num.bits (by omega);have M:=h1.den.bits (by omega);have Z:=h2.num.bits (by omega);have b4:=h2.den.bits (by omega);have e1:=T8 (p.num*q.den) (p.den*q.den) fs (gD p q) (Bd.mul h1.den h2.den) hk;have Y:=T8 (q.num*p.den) (p.den*q.den) fs (gD p q) (Bd.mul h1.den h2.den) hk;have e3:=T8 (p.den:Int) (q.den:Int) fs (G7 q) h2.den (by omega);rw[Kl] at e1;rw[MY] at Y;have hq:=q.den_nz;have hp:=p.den_nz;have U:((Rat.divInt (p.den:Int) (q.den:Int)).den:Int)=(q.den / Nat.gcd p.den q.den:Nat):=by
  rw[yU (cV q),VX];rfl
 have el:(p.den:Int)*(q.den / Nat.gcd p.den q.den:Nat)=pL (p,q):=by
  show _=((Nat.lcm p.den q.den:Nat):Int);rw[<-VB,Nat.lcm,Nat.mul_div_assoc _ (Nat.gcd_dvd_right ..)]
 have d1:=h1.den.div (G7 p) (by omega);have d2:=h2.den.div (G7 q) (by omega);have P:=Ps.of (a:=(p,q)) h1 h2;have s1:(pL (p,q)).fdiv (p.den:Int)=((Nat.lcm p.den q.den / p.den:Nat):Int):=by rw[CK,VX];rfl
 have s2:(pL (p,q)).fdiv (q.den:Int)=((Nat.lcm p.den q.den / q.den:Nat):Int):=by rw[CK,VX];rfl
 have J:Nat.lcm p.den q.den<2 ^ (k+l):=P.l;have c0:A9 ((Rat.divInt (p.den:Int) (q.den:Int)).den:Int)=true:=by
  have:=(qB (a:=(p.den:Int)) (G7 q)).2;exact(show Bd l _ from TC this h2.2).bits (by omega)
 have W:A9 ((Nat.lcm p.den q.den / p.den:Nat):Int)=true:=(show Bd (k+l) ((_:Nat):Int) from TC (WV ..) J).bits (by omega);have c2:A9 ((Nat.lcm p.den q.den / q.den:Nat):Int)=true:=(show Bd (k+l) ((_:Nat):Int) from TC (WV ..) J).bits (by omega);generalize Rat.divInt (p.den:Int) (q.den:Int)=w at *;refine n9 (s:=⟨[.v (fr p),.v (fr q),.v (.int (pL (p,q))),.v (fr p),.v (fr q),.v (fr w)],fs⟩) ?_;show jY LF ⟨[.v (fr p),.v (fr q),.no,.no,.no,.no],fs⟩=_;unfold jY;rw[U] at c0;rw[<-s1] at W;rw[<-s2] at c2;rw[d8 (s1:=⟨[.v (fr p),.v (fr q),.v (.int (p.den*q.den)),.no,.no,.no],fs⟩) (k6 (c6 (c6 rfl rfl (O6 p)) (c6 rfl rfl (O6 q)) (n8 M b4)) rfl),
  d8 (s1:=⟨[.v (fr p),.v (fr q),.v (.int (p.den*q.den)),.v (fr p),.no,.no],fs⟩) (k6 (i7 (A0 (c6 (c6 rfl rfl (T7 p)) (c6 rfl rfl (O6 q)) (n8 b1 b4)) (A0 rfl rfl)) e1) rfl),
  d8 (s1:=⟨[.v (fr p),.v (fr q),.v (.int (p.den*q.den)),.v (fr p),.v (fr q),.no],fs⟩) (k6 (i7 (A0 (c6 (c6 rfl rfl (T7 q)) (c6 rfl rfl (O6 p)) (n8 Z M)) (A0 rfl rfl)) Y) rfl),
  d8 (s1:=⟨[.v (fr p),.v (fr q),.v (.int (p.den*q.den)),.v (fr p),.v (fr q),.v (fr w)],fs⟩) (k6 (i7 (A0 (c6 rfl rfl (O6 p)) (A0 (c6 rfl rfl (O6 q)) rfl)) e3) rfl),
  d8 (s1:=⟨[.v (fr p),.v (fr q),.v (.int (pL (p,q))),.v (fr p),.v (fr q),.v (fr w)],fs⟩) (k6 (c6 (c6 rfl rfl (O6 p)) (c6 rfl rfl ((O6 w).trans (congrArg (fun z=>some (D.int z)) U))) ((n8 M c0).trans (congrArg (fun z=>some (D.int z)) el))) rfl)]
 refine p9 ?_;unfold pt pX pY;rw[<-s1,<-s2];exact Z2 (c6 (c6 rfl rfl (T7 p)) (c6 rfl (c6 rfl rfl (O6 p)) (bp _ d1)) (n8 b1 W)) (c6 (c6 rfl rfl (T7 q)) (c6 rfl (c6 rfl rfl (O6 q)) (bp _ d2)) (n8 Z c2)) rfl
def px_div (a:Pt):Rat.divInt (pX a) (pL a)=a.1:=by
 rw[Tx,N5,Rat.mul_div_cancel (M7 a)]
def py_div (a:Pt):Rat.divInt (pY a) (pL a)=a.2:=by
 rw[Tx,N8,Rat.mul_div_cancel (M7 a)]
abbrev LX:a8:=vK LF
def dJ {k:Nat}(a:Pt) (fs:vO_) (h:Ps k a) (hk:k<=8000):LX [pt a] fs=some (.tup [fr a.1,fr a.2],fs):=by
 have e:=T8 (pX a) (pL a) fs (Y1 a) h.l hk;have e':=T8 (pY a) (pL a) fs (Y1 a) h.l hk;rw[px_div] at e;rw[py_div] at e';refine n9 (s:=⟨[.v (pt a)],fs⟩) ?_;show kH LF ⟨[.v (pt a)],fs⟩=_;simp[kH,c9,B8,d7,a7,m8,dC,Zf,Zg,dL,dV,d6,j9,dB,f9,c8,a6,a9,i9,k9,j7,one,m6,l7,u4,w8,A5,B0,D4,D6,D2,b0,m9,u7,o7,j6,r8,y9,t9,A3,B5,w6,D0,pt,eN,fW,fg,e,e',oZ]
abbrev LG:a8:=yX LA LS LX
def gm {k l m n:Nat}(a:Pt) (x y:Rat) (fs:vO_) (h1:Sz k a.1) (h2:Sz l a.2) (J:Sz m x) (M:Sz n y) (hk:k+l+m+n+2<=8000):LG [pt a,fr x,fr y] fs=some (pt (a.1+x,a.2+y),fs):=by
 refine n9 (s:=⟨[.v (pt a),.v (fr x),.v (fr y),.v (fr a.1),.v (fr a.2)],fs⟩) ?_;show lY LA LS LX ⟨[.v (pt a),.v (fr x),.v (fr y),.no,.no],fs⟩=_;simp[lY,c9,B8,d7,a7,m8,dC,Zf,Zg,dL,dV,d6,j9,dB,f9,c8,a6,a9,i9,k9,j7,one,m6,l7,u4,w8,A5,B0,D4,D6,D2,b0,m9,u7,o7,j6,r8,y9,t9,A3,B5,w6,D0,dJ a fs (Ps.of h1 h2) (by omega),V5 a.1 x _ h1 J (by omega),V5 a.2 y _ h2 M (by omega),vI (a.1+x) (a.2+y) _ (h1.add J) (h2.add M) (by omega)]
end T
namespace DL
def C7 (x y:Rat):Prop:=0<x\/(x=0/\0<y)
def Y3 (a b:Pt):j5 a b=true↔C7 (b.1 - a.1) (b.2 - a.2):=by
 unfold j5 C7;rw[Bool.or_eq_true,TK,TH,TH,TH];constructor
 .rintro(h | ⟨h1,h2⟩)
  .left;grind
  .right;constructor <;> grind
 .rintro(h | ⟨h1,h2⟩)
  .left;grind
  .right;constructor <;> grind
def IQ (x y:Rat) (h:¬ (x=0/\y=0)):C7 x y\/C7 (-x) (-y):=by
 unfold C7;grind
def OB (x y:Rat) (h:C7 x y):¬ C7 (-x) (-y):=by
 unfold C7 at *;grind
def dN {x y s:Rat}(J:0<s):C7 (s*x) (s*y)↔C7 x y:=by
 unfold C7;have h1:0<s*x↔0<x:=Yk J;have h2:0<s*y↔0<y:=Yk J;have h3:s*x=0↔x=0:=by
  rw[Td];constructor
  .rintro(h | h)
   .rw[h] at J;exact absurd J Vl
   .exact h
  .exact fun h=>.inr h
 rw[h1,h2,h3]
def lL:¬ C7 0 0:=by unfold C7;grind
def EF {x y:Rat}(h:C7 x y) (s:Rat):C7 (s*x) (s*y)↔0<s:=by
 constructor
 .intro q;rcases Rat.le_total (a:=s) (b:=0) with z | z
  .rcases(Rat.le_iff_lt_or_eq).mp z with z | z
   .have:C7 (-s*x) (-s*y):=(dN (by grind)).mpr h;rw[Xd,Xd] at this;exact absurd this (OB _ _ q)
   .rw[z,UU,UU] at q;exact absurd q lL
  .rcases(Rat.le_iff_lt_or_eq).mp z with z | z
   .exact z
   .rw[<-z,UU,UU] at q;exact absurd q lL
 .intro J;exact(dN J).mpr h
def u9 (a b:Pt) (s:Rat):Pt:=(a.1+s*(b.1 - a.1),a.2+s*(b.2 - a.2))
def gh (a b:Pt):u9 a b 0=a:=by unfold u9;simp[Rat.add_zero]
def gs (a b:Pt):u9 a b 1=b:=by unfold u9;exact SU (by grind) (by grind)
def ik {a b c:Pt}(J:a≠b) (h:c7 a b c=0):∃s,c=u9 a b s:=by
 unfold c7 at h;by_cases h1:b.1 - a.1=0
 .have h2:b.2 - a.2≠0:=fun z=>J (SU (by grind) (by grind))
  refine⟨(c.2 - a.2) / (b.2 - a.2),?_⟩;unfold u9;refine SU ?_ ?_
  .show c.1=_;have:(b.2 - a.2)*(c.1 - a.1)=0:=by grind
   rcases Td.mp this with z | z
   .exact absurd z h2
   .grind
  .show c.2=_;grind
 .refine⟨(c.1 - a.1) / (b.1 - a.1),?_⟩;unfold u9;refine SU ?_ ?_
  .show c.1=_;grind
  .show c.2=_;have e:(b.1 - a.1)*(c.2 - a.2)=(b.2 - a.2)*(c.1 - a.1):=by grind
   have:c.2 - a.2=(c.1 - a.1) / (b.1 - a.1)*(b.2 - a.2):=by grind
   grind
def dsq (a b:Pt):Rat:=(a.1 - b.1)*(a.1 - b.1)+(a.2 - b.2)*(a.2 - b.2)
def cM (x:Rat):0<=x*x:=by
 rcases Rat.le_total (a:=0) (b:=x) with h | h
 .exact Tr h h
 .have:=Tr (a:=-x) (b:=-x) (by grind) (by grind);grind
def yQ {x:Rat}(h:x≠0):0<x*x:=Rat.lt_of_le_of_ne (cM x) (fun z=>h (by
 rcases Td.mp z.symm with q | q <;> exact q))
def pU {a b:Pt}(J:a≠b):0<dsq a b:=by
 unfold dsq;by_cases h1:a.1 - b.1=0
 .have h2:a.2 - b.2≠0:=fun z=>J (SU (by grind) (by grind))
  have:=yQ h2;have:=cM (a.1 - b.1);grind
 .have:=yQ h1;have:=cM (a.2 - b.2);grind
def Mx (a b:Pt) (s:Rat):dsq a (u9 a b s)=s*s*dsq a b/\dsq b (u9 a b s)=(1 - s)*(1 - s)*dsq a b:=by
 unfold dsq u9;constructor <;> grind
end DL
namespace T
open PySem L2 DL
def tH (n:Int) (fs:vO_):gF [.int n] fs=some (.int (aY n),fs):=by
 refine n9 (s:=⟨[.v (.int n)],fs⟩) ?_;show fZ ⟨[.v (.int n)],fs⟩=_;unfold aY;by_cases h1:0<n
 .simp[fZ,c9,B8,d7,a7,m8,dC,Zf,Zg,dL,dV,d6,j9,dB,f9,c8,a6,a9,i9,k9,j7,one,m6,l7,u4,w8,A5,B0,D4,D6,D2,b0,m9,u7,o7,j6,r8,y9,t9,A3,B5,w6,D0,h1]
 .by_cases h2:n<0
  .simp[fZ,c9,B8,d7,a7,m8,dC,Zf,Zg,dL,dV,d6,j9,dB,f9,c8,a6,a9,i9,k9,j7,one,m6,l7,u4,w8,A5,B0,D4,D6,D2,b0,m9,u7,o7,j6,r8,y9,t9,A3,B5,w6,D0,h1,h2]
  .simp[fZ,c9,B8,d7,a7,m8,dC,Zf,Zg,dL,dV,d6,j9,dB,f9,c8,a6,a9,i9,k9,j7,one,m6,l7,u4,w8,A5,B0,D4,D6,D2,b0,m9,u7,o7,j6,r8,y9,t9,A3,B5,w6,D0,h1,h2]
abbrev Q6:a8:=tW gF
def wz {a b c:Rat}(ha:0<a) (hb:0<b) (J:0<c):0<a*b*c:=SE (SE ha hb) J
def Jl (a b c:Pt):aY (pX a*(pY b*pL c - pY c*pL b) - pY a*(pX b*pL c - pX c*pL b)+pL a*(pX b*pY c - pX c*pY b))=i8 (c7 a b c):=by
 refine qK (wz (U7 a) (U7 b) (U7 c)) ?_;simp only[Vm,Ue,SQ,N5,N8,c7];grind
def Jm (a b c:Pt):aY ((pX b*pL a - pX a*pL b)*(pY c*pL a - pY a*pL c) - (pY b*pL a - pY a*pL b)*(pX c*pL a - pX a*pL c))=i8 (c7 a b c):=by
 refine qK (SE (wz (U7 a) (U7 b) (U7 c)) (U7 a)) ?_;simp only[Ue,SQ,N5,N8,c7];grind
def qr {k:Nat}(a b c:Pt) (fs:vO_) (ha:Ps k a) (hb:Ps k b) (J:Ps k c) (hk:k<=2000):Q6 [pt a,pt b,pt c] fs=some (.int (i8 (c7 a b c)),fs):=by
 have a1:=ha.x.bits (by omega);have a2:=ha.y.bits (by omega);have a3:=ha.l.bits (by omega);have b1:=hb.x.bits (by omega);have M:=hb.y.bits (by omega);have W:=hb.l.bits (by omega);have U:=J.x.bits (by omega);have Y:=J.y.bits (by omega);have Z:=J.l.bits (by omega);have d1:=((hb.y.mul J.l).sub (J.y.mul hb.l)).bits (by omega);have d2:=((hb.x.mul J.l).sub (J.x.mul hb.l)).bits (by omega);have d3:=((hb.x.mul J.y).sub (J.x.mul hb.y)).bits (by omega);rw[<-Jl];refine n9 (s:=⟨[.v (pt a),.v (pt b),.v (pt c),.v (.int (pX a*(pY b*pL c - pY c*pL b) - pY a*(pX b*pL c - pX c*pL b)+pL a*(pX b*pY c - pX c*pY b)))],fs⟩) ?_;show lE gF ⟨[.v (pt a),.v (pt b),.v (pt c),.no],fs⟩=_;unfold lE;have x:∀p:Pt,b0 (pt p) (.int 0)=some (.int (pX p)):=fun _=>rfl
 have y:∀p:Pt,b0 (pt p) (.int 1)=some (.int (pY p)):=fun _=>rfl
 have l:∀p:Pt,b0 (pt p) (.int 2)=some (.int (pL p)):=fun _=>rfl
 rw[d8 (s1:=⟨[.v (pt a),.v (pt b),.v (pt c),.v (.int (pX a*(pY b*pL c - pY c*pL b)))],fs⟩) (k6 (c6 (c6 rfl rfl (x a)) (c6 (c6 (c6 rfl rfl (y b)) (c6 rfl rfl (l c)) (n8 M Z)) (c6 (c6 rfl rfl (y c)) (c6 rfl rfl (l b)) (n8 Y W)) rfl) (n8 a1 d1)) rfl),
  d8 (s1:=⟨[.v (pt a),.v (pt b),.v (pt c),.v (.int (pX a*(pY b*pL c - pY c*pL b) - pY a*(pX b*pL c - pX c*pL b)))],fs⟩) (k6 (c6 rfl (c6 (c6 rfl rfl (y a)) (c6 (c6 (c6 rfl rfl (x b)) (c6 rfl rfl (l c)) (n8 b1 Z)) (c6 (c6 rfl rfl (x c)) (c6 rfl rfl (l b)) (n8 U W)) rfl) (n8 a2 d2)) rfl) rfl),
  d8 (s1:=⟨[.v (pt a),.v (pt b),.v (pt c),.v (.int (pX a*(pY b*pL c - pY c*pL b) - pY a*(pX b*pL c - pX c*pL b)+pL a*(pX b*pY c - pX c*pY b)))],fs⟩) (k6 (c6 rfl (c6 (c6 rfl rfl (l a)) (c6 (c6 (c6 rfl rfl (x b)) (c6 rfl rfl (y c)) (n8 b1 Y)) (c6 (c6 rfl rfl (x c)) (c6 rfl rfl (y b)) (n8 U M)) rfl) (n8 a3 d3)) rfl) rfl)]
 exact p9 (i7 (A0 rfl rfl) (tH _ fs))
def gp {k:Nat}(a b c:Pt) (fs:vO_) (ha:Ps k a) (hb:Ps k b) (J:Ps k c) (hk:k<=2000):S7 [pt a,pt b,pt c] fs=some (.int (i8 (c7 a b c)),fs):=by
 have Z:=ha.x.bits (by omega);have U:=ha.y.bits (by omega);have M:=ha.l.bits (by omega);have b1:=hb.x.bits (by omega);have b2:=hb.y.bits (by omega);have W:=hb.l.bits (by omega);have c1:=J.x.bits (by omega);have c2:=J.y.bits (by omega);have Y:=J.l.bits (by omega);have d1:=((hb.x.mul ha.l).sub (ha.x.mul hb.l)).bits (by omega);have d2:=((J.y.mul ha.l).sub (ha.y.mul J.l)).bits (by omega);have d3:=((hb.y.mul ha.l).sub (ha.y.mul hb.l)).bits (by omega);have d4:=((J.x.mul ha.l).sub (ha.x.mul J.l)).bits (by omega);have v:=Jm a b c;generalize h1:(pX b*pL a - pX a*pL b)*(pY c*pL a - pY a*pL c)=u at *;generalize h2:(pY b*pL a - pY a*pL b)*(pX c*pL a - pX a*pL c)=w at *;have e:aY (u - w)=(if u>w then (1:Int) else 0) - (if u<w then 1 else 0):=by
  unfold aY;by_cases q1:0<u - w
  .rw[tx q1,tx (show u>w by omega),So (show ¬ u<w by omega)];rfl
  .by_cases q2:u - w<0
   .rw[So q1,tx q2,So (show ¬ u>w by omega),tx (show u<w by omega)];rfl
   .rw[So q1,So q2,So (show ¬ u>w by omega),So (show ¬ u<w by omega)];rfl
 rw[<-v,e];refine n9 (s:=⟨[.v (pt a),.v (pt b),.v (pt c),.v (.int u),.v (.int w)],fs⟩) ?_;show kJ ⟨[.v (pt a),.v (pt b),.v (pt c),.no,.no],fs⟩=_;unfold kJ;rw[d8 (s1:=⟨[.v (pt a),.v (pt b),.v (pt c),.v (.int u),.no],fs⟩) (k6 (c6 (c6 (c6 (c6 rfl rfl rfl) (c6 rfl rfl rfl) (n8 b1 M)) (c6 (c6 rfl rfl rfl) (c6 rfl rfl rfl) (n8 Z W)) rfl) (c6 (c6 (c6 rfl rfl rfl) (c6 rfl rfl rfl) (n8 c2 M)) (c6 (c6 rfl rfl rfl) (c6 rfl rfl rfl) (n8 U Y)) rfl) ((n8 d1 d2).trans (by rw[h1]))) rfl)];rw[d8 (s1:=⟨[.v (pt a),.v (pt b),.v (pt c),.v (.int u),.v (.int w)],fs⟩) (k6 (c6 (c6 (c6 (c6 rfl rfl rfl) (c6 rfl rfl rfl) (n8 b2 M)) (c6 (c6 rfl rfl rfl) (c6 rfl rfl rfl) (n8 U W)) rfl) (c6 (c6 (c6 rfl rfl rfl) (c6 rfl rfl rfl) (n8 c1 M)) (c6 (c6 rfl rfl rfl) (c6 rfl rfl rfl) (n8 Z Y)) rfl) ((n8 d3 d4).trans (by rw[h2]))) rfl)];refine p9 ?_;simp[c9,B8,d7,a7,m8,dC,Zf,Zg,dL,dV,d6,j9,dB,f9,c8,a6,a9,i9,k9,j7,one,m6,l7,u4,w8,A5,B0,D4,D6,D2,b0,m9,u7,o7,j6,r8,y9,t9,A3,B5,w6,D0,ai]
def yo {x y:Int}{p q c:Rat}(J:0<c) (M:(x:Rat)=c*p) (U:(y:Rat)=c*q):(x<y↔p<q)/\(x=y↔p=q):=by
 constructor
 .rw[<-VY,M,U];exact VZ J
 .rw[<-VC,M,U];constructor
  .intro h;have:c≠0:=fun z=>by rw[z] at J;exact absurd J Vl
   grind
  .intro h;rw[h]
def AL (a b:Pt):(pX a*pL b<pX b*pL a↔a.1<b.1)/\(pX a*pL b=pX b*pL a↔a.1=b.1):=
 yo (SE (U7 a) (U7 b)) (by rw[SQ,N5];grind) (by rw[SQ,N5];grind)
def Ct (a b:Pt):(pY a*pL b<pY b*pL a↔a.2<b.2)/\(pY a*pL b=pY b*pL a↔a.2=b.2):=
 yo (SE (U7 a) (U7 b)) (by rw[SQ,N8];grind) (by rw[SQ,N8];grind)
def Jo {k:Nat}(a b:Pt) (fs:vO_) (ha:Ps k a) (hb:Ps k b) (hk:k<=2000):V0 [pt a,pt b] fs=some (.bl (j5 a b),fs):=by
 have a1:=ha.x.bits (by omega);have M:=ha.y.bits (by omega);have Y:=ha.l.bits (by omega);have Z:=hb.x.bits (by omega);have U:=hb.y.bits (by omega);have W:=hb.l.bits (by omega);obtain⟨x1,J⟩:=AL a b;obtain⟨y1,y2⟩:=Ct a b;refine n9 (s:=⟨[.v (pt a),.v (pt b),.v (.int (pX a*pL b)),.v (.int (pX b*pL a))],fs⟩) ?_;show iP ⟨[.v (pt a),.v (pt b),.no,.no],fs⟩=_;by_cases h:a.1=b.1
 .have h':=J.mpr h;have n1:¬ a.1<b.1:=by rw[h];exact Vl
  simp[iP,c9,B8,d7,a7,m8,dC,Zf,Zg,dL,dV,d6,j9,dB,f9,c8,a6,a9,i9,k9,j7,one,m6,l7,u4,w8,A5,B0,D4,D6,D2,b0,m9,u7,o7,j6,r8,y9,t9,A3,B5,w6,D0,pt,eN,fW,fg,i6,a1,M,Y,Z,U,W,aZ,h',j5,n1,h,y1]
 .have h':¬ pX a*pL b=pX b*pL a:=fun z=>h (J.mp z)
  simp[iP,c9,B8,d7,a7,m8,dC,Zf,Zg,dL,dV,d6,j9,dB,f9,c8,a6,a9,i9,k9,j7,one,m6,l7,u4,w8,A5,B0,D4,D6,D2,b0,m9,u7,o7,j6,r8,y9,t9,A3,B5,w6,D0,pt,eN,fW,fg,i6,a1,M,Y,Z,U,W,aZ,h',j5,h,x1]
def GP {k:Nat}(a b:Pt) (fs:vO_) (ha:Ps k a) (hb:Ps k b) (hk:k<=2000):X3 [pt a,pt b] fs=some (.bl (j5 a b),fs):=by
 have a1:=ha.x.bits (by omega);have U:=ha.y.bits (by omega);have W:=ha.l.bits (by omega);have Y:=hb.x.bits (by omega);have J:=hb.y.bits (by omega);have M:=hb.l.bits (by omega);obtain⟨x1,x2⟩:=AL a b;obtain⟨y1,y2⟩:=Ct a b;refine n9 (s:=⟨[.v (pt a),.v (pt b),.v (.int (pX a*pL b - pX b*pL a))],fs⟩) ?_;show dR ⟨[.v (pt a),.v (pt b),.no],fs⟩=_;have Z:(pX a*pL b - pX b*pL a<0)↔a.1<b.1:=by rw[<-x1];omega
 have z2:(pX a*pL b - pX b*pL a=0)↔a.1=b.1:=by rw[<-x2];omega
 by_cases h:a.1<b.1
 .simp[dR,c9,B8,d7,a7,m8,dC,Zf,Zg,dL,dV,d6,j9,dB,f9,c8,a6,a9,i9,k9,j7,one,m6,l7,u4,w8,A5,B0,D4,D6,D2,b0,m9,u7,o7,j6,r8,y9,t9,A3,B5,w6,D0,pt,eN,fW,fg,i6,a1,U,W,Y,J,M,W3,j5,h,Z]
 .by_cases h2:a.1=b.1
  .simp[dR,c9,B8,d7,a7,m8,dC,Zf,Zg,dL,dV,d6,j9,dB,f9,c8,a6,a9,i9,k9,j7,one,m6,l7,u4,w8,A5,B0,D4,D6,D2,b0,m9,u7,o7,j6,r8,y9,t9,A3,B5,w6,D0,pt,eN,fW,fg,i6,a1,U,W,Y,J,M,W3,j5,h,Z,z2,h2,y1]
  .simp[dR,c9,B8,d7,a7,m8,dC,Zf,Zg,dL,dV,d6,j9,dB,f9,c8,a6,a9,i9,k9,j7,one,m6,l7,u4,w8,A5,B0,D4,D6,D2,b0,m9,u7,o7,j6,r8,y9,t9,A3,B5,w6,D0,pt,eN,fW,fg,i6,a1,U,W,Y,J,M,W3,j5,h,Z,z2,h2]
def kM (r:Rat):i8 r=0↔r=0:=by
 unfold i8;by_cases h:0<r
 .rw[tx h];constructor
  .intro z;exact absurd z (by decide)
  .intro z;rw[z] at h;exact absurd h Vl
 .by_cases h2:r<0
  .rw[So h,tx h2];constructor
   .intro z;exact absurd z (by decide)
   .intro z;rw[z] at h2;exact absurd h2 Vl
  .rw[So h,So h2];constructor
   .intro _;grind
   .intro _;rfl
def zJ {k:Nat}(a b:Pt) (fs:vO_) (ha:Ps k a) (hb:Ps k b) (hk:k<=1500):ju FF [pt a,pt b] fs=some (fr (dsq a b),fs):=by
 have a1:=ha.x.bits (by omega);have Z:=ha.y.bits (by omega);have M:=ha.l.bits (by omega);have b1:=hb.x.bits (by omega);have b2:=hb.y.bits (by omega);have J:=hb.l.bits (by omega);have U:=((ha.x.mul hb.l).sub (hb.x.mul ha.l)).bits (by omega);have Y:=((ha.y.mul hb.l).sub (hb.y.mul ha.l)).bits (by omega);have W:=(ha.l.mul hb.l).bits (by omega);have ne:pL a*pL b*(pL a*pL b)≠0:=TV (TV (Y1 a) (Y1 b)) (TV (Y1 a) (Y1 b));have e:=DD ((pX a*pL b - pX b*pL a)*(pX a*pL b - pX b*pL a)+(pY a*pL b - pY b*pL a)*(pY a*pL b - pY b*pL a)) (pL a*pL b*(pL a*pL b)) fs ne ((ha.l.mul hb.l).mul (ha.l.mul hb.l)) (by omega);have v:Rat.divInt ((pX a*pL b - pX b*pL a)*(pX a*pL b - pX b*pL a)+(pY a*pL b - pY b*pL a)*(pY a*pL b - pY b*pL a)) (pL a*pL b*(pL a*pL b))=dsq a b:=by
  rw[Tx];simp only[Vm,Ue,SQ,N5,N8,dsq];have:=M7 a;have:=M7 b;grind
 rw[v] at e;refine n9 (s:=⟨[.v (pt a),.v (pt b),.v (.int (pX a*pL b - pX b*pL a)),.v (.int (pY a*pL b - pY b*pL a)),.v (.int (pL a*pL b))],fs⟩) ?_;show lA FF ⟨[.v (pt a),.v (pt b),.no,.no,.no],fs⟩=_;unfold lA;have x:∀p:Pt,b0 (pt p) (.int 0)=some (.int (pX p)):=fun _=>rfl
 have y:∀p:Pt,b0 (pt p) (.int 1)=some (.int (pY p)):=fun _=>rfl
 have l:∀p:Pt,b0 (pt p) (.int 2)=some (.int (pL p)):=fun _=>rfl
 rw[d8 (s1:=⟨[.v (pt a),.v (pt b),.v (.int (pX a*pL b - pX b*pL a)),.no,.no],fs⟩) (k6 (c6 (c6 (c6 rfl rfl (x a)) (c6 rfl rfl (l b)) (n8 a1 J)) (c6 (c6 rfl rfl (x b)) (c6 rfl rfl (l a)) (n8 b1 M)) rfl) rfl),
  d8 (s1:=⟨[.v (pt a),.v (pt b),.v (.int (pX a*pL b - pX b*pL a)),.v (.int (pY a*pL b - pY b*pL a)),.no],fs⟩) (k6 (c6 (c6 (c6 rfl rfl (y a)) (c6 rfl rfl (l b)) (n8 Z J)) (c6 (c6 rfl rfl (y b)) (c6 rfl rfl (l a)) (n8 b2 M)) rfl) rfl),
  d8 (s1:=⟨[.v (pt a),.v (pt b),.v (.int (pX a*pL b - pX b*pL a)),.v (.int (pY a*pL b - pY b*pL a)),.v (.int (pL a*pL b))],fs⟩) (k6 (c6 (c6 rfl rfl (l a)) (c6 rfl rfl (l b)) (n8 M J)) rfl)]
 exact p9 (i7 (A0 (c6 (c6 rfl rfl (n8 U U)) (c6 rfl rfl (n8 Y Y)) rfl) (A0 (c6 rfl rfl (n8 W W)) rfl)) e)
def pR {k l m n:Nat}(a b:Pt) (fs:vO_) (h1:Sz k a.1) (h2:Sz l a.2) (h3:Sz m b.1) (U:Sz n b.2) (hk:2*(k+l+m+n)+8<=8000):sP LS LP F4 LX [pt a,pt b] fs=some (fr (dsq a b),fs):=by
 have s1:=V5 b.1 (-a.1) fs h3 h1.neg (by omega);have s2:=V5 b.2 (-a.2) fs U h2.neg (by omega);have J:=h3.add h1.neg;have M:=U.add h2.neg;have q1:=P9 _ _ fs J J (by omega);have q2:=P9 _ _ fs M M (by omega);have r:=V5 _ _ fs (J.mul J) (M.mul M) (by omega);have v:(b.1 + -a.1)*(b.1 + -a.1)+(b.2 + -a.2)*(b.2 + -a.2)=dsq a b:=by unfold dsq;grind
 rw[v] at r;have W:=dJ a fs (Ps.of h1 h2) (by omega);have Y:=dJ b fs (Ps.of h3 U) (by omega);refine n9 (s:=⟨[.v (pt a),.v (pt b),.v (fr (b.1 + -a.1)),.v (fr (b.2 + -a.2))],fs⟩) ?_;show mE LS LP F4 LX ⟨[.v (pt a),.v (pt b),.no,.no],fs⟩=_;simp[mE,c9,B8,d7,a7,m8,dC,Zf,Zg,dL,dV,d6,j9,dB,f9,c8,a6,a9,i9,k9,j7,one,m6,l7,u4,w8,A5,B0,D4,D6,D2,b0,m9,u7,o7,j6,r8,y9,t9,A3,B5,w6,D0,W,Y,bO,cE,X7,s1,s2,q1,q2,r]
end T
namespace DL
open PySem L2
theorem jh {t:D->DS->Option DS}{b:DM}(P:Nat->DS->Prop):∀(ds:vD_) (n:Nat) (s:DS),P n s->(∀i d s,ds[i]? = some d->P (n+i) s->∃s1 s2,t d s=some s1/\(b s1=some (.next,s2)\/b s1=some (.cont,s2))/\P (n+i+1) s2) ->
  ∃s',C4 t b ds s=some (.next,s')/\P (n+ds.length) s'
 |[],n,s,h,_=>⟨s,rfl,h⟩
 |d::r,n,s,h,k=>by
  obtain⟨s1,s2,U,J,h2⟩:=k 0 d s rfl h;obtain⟨s',W,h3⟩:=jh P r (n+1) s2 h2 (fun i M s hd hp=>by
   have:=k (i+1) M s (by simpa using hd) (by rwa [show n+1+i=n+(i+1) by omega] at hp)
   rwa [show n+(i+1)+1=n+1+i+1 by omega] at this)
  refine⟨s',?_,by rw[SW,show n+(r.length+1)=n+1+r.length by omega];exact h3⟩;rw[C4,U];rcases J with J | J <;> simp[J,W]
def jv {f:DA}{t:D->DS->Option DS}{b:DM}{s s1:DS}{xs ds:vD_}(h1:f s=some (xs,s1)) (h2:fP xs=some ds):ar f t b s=C4 t b ds s1:=by
 simp only[ar,h1,SH,h2]
def cy {f:DE}{t:D->DS->Option DS}{b:DM}{s s1:DS}{ds:vD_}(h1:f s=some (.lst ds,s1)):L8 f t b s=C4 t b ds s1:=by
 simp only[L8,h1,SH]
def nv {f:DE}{t:D->DS->Option DS}{b:DM}{s s1:DS}{ds:vD_}(h1:f s=some (.tup ds,s1)):L8 f t b s=C4 t b ds s1:=by
 simp only[L8,h1,SH]
def jZ {lo:Int}{n i:Nat}(h:(P7 lo n)[i]? = some d):d = .int (lo+i)/\i<n:=by
 have hi:i<n:=by have:=(Tn.mp h).1;rwa [gG] at this
 rw[xN hi] at h;cases h;exact⟨rfl,hi⟩
def gH {n:Nat}(h:n<2 ^ 30):fP [.int (n:Int)]=some (P7 0 n):=by
 have:-(2 ^ 62)<=(n:Int)/\(n:Int)<2 ^ 62:=by omega
 simp only[fP,tx this,UG]
end DL
namespace T
open PySem L2 DL
abbrev LN:a8:=vO LF P5
def ji {k:Nat}{i:Int}(h:i.natAbs<2 ^ k):Bd k i:=h
def Qp {r:Int}(h0:0<=r) (h1:r<3):∃m:Int,v8 [D.int 7,D.int 13,D.int 30] r=some (.int m)/\0<m/\m<=30:=by
 have:r=0\/r=1\/r=2:=by omega
 rcases this with rfl | rfl | rfl
 .exact⟨7,rfl,by decide,by decide⟩
 .exact⟨13,rfl,by decide,by decide⟩
 .exact⟨30,rfl,by decide,by decide⟩
def Rc {r:Int}(h0:0<=r) (h1:r<6):∃d:Int,v8 [D.int 1,D.int 1,D.int 1,D.int 2,D.int 3,D.int 4] r=some (.int d)/\0<d/\d<=4:=by
 have:r=0\/r=1\/r=2\/r=3\/r=4\/r=5:=by omega
 rcases this with rfl | rfl | rfl | rfl | rfl | rfl
 .exact⟨1,rfl,by decide,by decide⟩
 .exact⟨1,rfl,by decide,by decide⟩
 .exact⟨1,rfl,by decide,by decide⟩
 .exact⟨2,rfl,by decide,by decide⟩
 .exact⟨3,rfl,by decide,by decide⟩
 .exact⟨4,rfl,by decide,by decide⟩
def JS {r m q:Int}(h0:0<=r) (h1:r<m) (M:m<=30) (J:0<=q) (q1:q<2):Bd 5 (r*(1 - 2*q))/\Bd 5 r/\Bd 5 q/\Bd 5 (1 - 2*q):=by
 unfold Bd;have:q=0\/q=1:=by omega
 rcases this with rfl | rfl <;> omega
def Ik {d:Int}(h0:0<d) (h1:d<=4):Bd 5 d/\d≠0:=⟨show d.natAbs<2 ^ 5 by omega,by omega⟩
def Gd {m:Int}(h:m<=30):m<2 ^ 100:=by omega
def nk {n i:Nat}(h:n<2 ^ 29) (hi:i<=100:=by decide):n+i<2 ^ 30:=by omega
def yi {n:Nat}(h:Fd n f) (M:n<2 ^ 29):∃p f',LN [.feed] (some f)=some (fr p,some f')/\Sz 5 p/\Fd (n+4) f':=by
 obtain⟨r1,f1,e1,a1,a2,h1⟩:=K8 3 h (by decide) (nk (i:=0) M) (by decide);obtain⟨m,q1,q2,q3⟩:=Qp a1 a2;obtain⟨J,Y,e2,b1,b2,h2⟩:=K8 m h1 q2 (nk M) (Gd q3);obtain⟨r3,f3,e3,c1,c2,h3⟩:=K8 6 h2 (by decide) (nk (i:=2) M) (by decide);obtain⟨d,u1,u2,u3⟩:=Rc c1 c2;obtain⟨r4,U,e4,d1,d2,h4⟩:=K8 2 h3 (by decide) (nk (i:=3) M) (by decide);obtain⟨bn,z3,z2,z4⟩:=JS b1 b2 q3 d1 d2;obtain⟨W,Z⟩:=Ik u2 u3;have g:=T8 (J*(1 - 2*r4)) d (some U) Z W (by decide);refine⟨_,U,n9 (s:=⟨[.v .feed,.v (.int J),.v (.int d)],some U⟩) ?_,Sz.of_divInt Z bn W,h4⟩;show kX LF P5 ⟨[.v .feed,.no,.no],some f⟩=_;unfold kX;rw[d8 (s1:=⟨[.v .feed,.v (.int J),.no],some Y⟩) (k6 (fR (A0 rfl (A0 (c6 (s1:=⟨[.v .feed,.no,.no],some f⟩) rfl (U3 rfl e1) q1) rfl)) e2) rfl),
  d8 (s1:=⟨[.v .feed,.v (.int J),.v (.int d)],some f3⟩) (k6 (c6 (s1:=⟨[.v .feed,.v (.int J),.no],some Y⟩) rfl (U3 rfl e3) u1) rfl)]
 exact p9 (fR (A0 (c6 rfl (c6 rfl (c6 rfl (U3 rfl e4) (n8 (by decide) (z2.bits (by decide)))) rfl) (n8 (z3.bits (by decide)) (z4.bits (by decide)))) rfl) g)
abbrev iW:a8:=yr LA LN
structure PtS (k:Nat) (a:Pt):Prop where
 x:Sz k a.1
 y:Sz k a.2
def PtS.ps {k:Nat}(h:PtS k a):Ps (k+k) a:=Ps.of h.x h.y
theorem PtS.mono {k l:Nat}(h:PtS k a) (hl:k<=l):PtS l a:=⟨h.x.mono hl,h.y.mono hl⟩
def Jw {n:Nat}(h:Fd n f) (W:n<2 ^ 28):∃a f',iW [.feed] (some f)=some (pt a,some f')/\PtS 5 a/\Fd (n+8) f':=by
 obtain⟨p,f1,U,s1,h1⟩:=yi h (by omega);obtain⟨q,J,M,s2,h2⟩:=yi h1 (by omega);refine⟨(p,q),J,n9 (s:=⟨[.v .feed],some J⟩) ?_,⟨s1,s2⟩,h2⟩;show nC LA LN ⟨[.v .feed],some f⟩=_;simp[nC,c9,B8,d7,a7,m8,dC,Zf,Zg,dL,dV,d6,j9,dB,f9,c8,a6,a9,i9,k9,j7,one,m6,l7,u4,w8,A5,B0,D4,D6,D2,b0,m9,u7,o7,j6,r8,y9,t9,A3,B5,w6,D0,U,M,vI p q _ s1 s2 (by omega)]
section
variable {α β:Type}
def N6 (lt:α->α->Bool):List α->List α->List α
 |[],ys=>ys
 |x::xs,ys=>ys.takeWhile (fun y=>lt y x)++x::N6 lt xs (ys.dropWhile (fun y=>lt y x))
def A7 (lt:α->α->Bool):Nat->List α->List α
 |0,l=>l
 |n+1,l=>if l.length<2 then l else N6 lt (A7 lt n (l.take (l.length / 2))) (A7 lt n (l.drop (l.length / 2)))
def D3 (t:α->α->α->Bool) (x:α):List α->List α
 |b::a::r=>if t a b x=true then b::a::r else D3 t x (a::r)
 |l=>l
def M0 (t:α->α->α->Bool):List α->List α->List α
 |acc,[]=>acc
 |acc,x::xs=>M0 t (x::D3 t x acc) xs
def v7 (t:α->α->α->Bool) (l:List α):List α:=(M0 t [] l).reverse
def P0 (lt:α->α->Bool) (t:α->α->α->Bool) (l:List α):List α:=(v7 t (A7 lt 64 l)).dropLast++(v7 t (A7 lt 64 l).reverse).dropLast
def L7 [DecidableEq α] (J:List α) (x:α):List α:=if x∈J then J else J++[x]
def A8 [DecidableEq α] (l:List α):List α:=l.foldl L7 []
variable {lt:α->α->Bool}{lt':β->β->Bool}{t:α->α->α->Bool}{t':β->β->β->Bool}{f:α->β}
theorem yG {p:β->Bool}{q:α->Bool}(h:∀a,p (f a)=q a):∀l:List α,(l.map f).takeWhile p=(l.takeWhile q).map f/\(l.map f).dropWhile p=(l.dropWhile q).map f
 |[]=>⟨rfl,rfl⟩
 |a::r=>by
  obtain⟨h1,h2⟩:=yG h r;rw[SN,Wa,Wa,Yl,Yl,h a];cases q a with
  |true=>exact⟨congrArg _ h1,h2⟩
  |false=>exact⟨rfl,rfl⟩
theorem zO (h:∀a b,lt' (f a) (f b)=lt a b):∀(xs ys:List α),N6 lt' (xs.map f) (ys.map f)=(N6 lt xs ys).map f
 |[],ys=>rfl
 |x::xs,ys=>by
  obtain⟨h1,h2⟩:=yG (f:=f) (p:=fun y=>lt' y (f x)) (q:=fun y=>lt y x) (fun a=>h a x) ys;simp only[SN,N6,Tj];rw[h1,h2,zO h xs]
theorem ql (h:∀a b,lt' (f a) (f b)=lt a b):∀(n:Nat) (l:List α),A7 lt' n (l.map f)=(A7 lt n l).map f
 |0,l=>rfl
 |n+1,l=>by
  simp only[A7,Ss];split
  .rfl
  .rw[<-Wb,<-VD,ql h n,ql h n,zO h]
theorem Di (h:∀a b c,t' (f a) (f b) (f c)=t a b c) (x:α):∀l:List α,D3 t' (f x) (l.map f)=(D3 t x l).map f
 |[]=>rfl
 |[b]=>rfl
 |b::a::r=>by
  have J:=Di h x (a::r);simp only[SN,D3] at J ⊢;rw[h];split
  .rfl
  .exact J
theorem Dh (h:∀a b c,t' (f a) (f b) (f c)=t a b c):∀(l acc:List α),M0 t' (acc.map f) (l.map f)=(M0 t acc l).map f
 |[],acc=>rfl
 |x::xs,acc=>by
  simp only[SN,M0];rw[Di h,<-SN,Dh h xs]
def iI (h:∀a b c,t' (f a) (f b) (f c)=t a b c) (l:List α):v7 t' (l.map f)=(v7 t l).map f:=by
 unfold v7;have:=Dh h l [];rw[TU] at this;rw[this,Xe]
def MZ (h:∀a b,lt' (f a) (f b)=lt a b) (h2:∀a b c,t' (f a) (f b) (f c)=t a b c) (l:List α):P0 lt' t' (l.map f)=(P0 lt t l).map f:=by
 unfold P0;rw[ql h,<-Xe,iI h2,iI h2,<-Xf,<-Xf,Tj]
def uS [DecidableEq α] [DecidableEq β] (M:∀a b,f a=f b->a=b) (l:List α):A8 (l.map f)=(A8 l).map f:=by
 have key:∀(l J:List α),(l.map f).foldl L7 (J.map f)=(l.foldl L7 J).map f:=by
  intro l;induction l with
  |nil=>intro J;rfl
  |cons x xs W=>
   intro J;have e:L7 (J.map f) (f x)=(L7 J x).map f:=by
    unfold L7;by_cases h:x∈J
    .rw[tx h,tx (VT h)]
    .rw[So h,So (fun z=>by obtain⟨y,U,e⟩:=Tg.mp z;exact h (M y x e▸U)),Tj];rfl
   rw[SN,TY,TY,e];exact W _
 exact key l []
theorem oO:∀xs ys:List α,(N6 lt xs ys).length=xs.length+ys.length
 |[],ys=>by simp[N6]
 |x::xs,ys=>by
  have h:=congrArg List.length (Wc (p:=fun y=>lt y x) (l:=ys));simp only[N6,SG,SW,oO xs] at h ⊢;omega
theorem qD:∀{xs ys:List α}{z:α},z∈N6 lt xs ys->z∈xs\/z∈ys
 |[],ys,z,h=>.inr h
 |x::xs,ys,z,h=>by
  simp only[N6] at h;rcases SM.mp h with h | h
  .exact .inr (List.takeWhile_subset _ h)
  .rcases Sv.mp h with h | h
   .exact .inl (h▸SR ..)
   .rcases qD h with h | h
    .exact .inl (SK _ h)
    .exact .inr (Ym _ h)
theorem cC:∀(n:Nat) (l:List α),(A7 lt n l).length=l.length
 |0,l=>rfl
 |n+1,l=>by
  simp only[A7];split
  .rfl
  .rw[oO,cC n,cC n,Tp,Tq];omega
theorem aA:∀(n:Nat) {l:List α}{z:α},z∈A7 lt n l->z∈l
 |0,l,z,h=>h
 |n+1,l,z,h=>by
  simp only[A7] at h;split at h
  .exact h
  .rcases qD h with h | h
   .exact Wd (aA n h)
   .exact We (aA n h)
theorem jK {x:α}:∀{l:List α}{z:α},z∈D3 t x l->z∈l
 |[],z,h=>h
 |[b],z,h=>h
 |b::a::r,z,h=>by
  simp only[D3] at h;split at h
  .exact h
  .exact SK _ (jK h)
theorem qE (x:α):∀l:List α,(D3 t x l).length<=l.length
 |[]=>Su _
 |[b]=>Su _
 |b::a::r=>by
  have:=qE x (a::r);simp only[D3];split
  .exact Su _
  .simp only[SW] at this ⊢;omega
theorem xH:∀(l acc:List α),(M0 t acc l).length<=acc.length+l.length
 |[],acc=>Su _
 |x::xs,acc=>by
  have h:=xH xs (x::D3 t x acc);have h2:=qE (t:=t) x acc;simp only[M0,SW] at h ⊢;omega
def AU (l:List α):(v7 t l).length<=l.length:=by
 unfold v7;rw[UQ];simpa using xH (t:=t) l []
theorem zh:∀{l acc:List α}{z:α},z∈M0 t acc l->z∈acc\/z∈l
 |[],acc,z,h=>.inl h
 |x::xs,acc,z,h=>by
  simp only[M0] at h;rcases zh h with h | h
  .rcases Sv.mp h with h | h
   .exact .inr (h▸SR ..)
   .exact .inl (jK h)
  .exact .inr (SK _ h)
def nD {l:List α}{z:α}(h:z∈v7 t l):z∈l:=by
 unfold v7 at h;rcases zh (Wf.mp h) with h | h
 .cases h
 .exact h
theorem AW [DecidableEq α]:∀{l acc:List α}{z:α},z∈l.foldl L7 acc->z∈acc\/z∈l
 |[],acc,z,h=>.inl h
 |x::xs,acc,z,h=>by
  rcases AW (l:=xs) h with h | h
  .unfold L7 at h;split at h
   .exact .inl h
   .rcases SM.mp h with h | h
    .exact .inl h
    .exact .inr (by rw[SJ.mp h];exact SR ..)
  .exact .inr (SK _ h)
def jU [DecidableEq α] {l:List α}{z:α}(h:z∈A8 l):z∈l:=by
 rcases AW h with h | h
 .cases h
 .exact h
theorem DG [DecidableEq α]:∀(l acc:List α),(l.foldl L7 acc).length<=acc.length+l.length
 |[],acc=>Su _
 |x::xs,acc=>by
  have h:=DG xs (L7 acc x);have h2:(L7 acc x).length<=acc.length+1:=by
   unfold L7;split
   .omega
   .simp
  simp only[TY,SW];omega
def Bt [DecidableEq α] (l:List α):(A8 l).length<=l.length:=by
 unfold A8;simpa using DG l []
end
section
variable {α:Type}{lt:α->α->Bool}
abbrev P8 (lt:α->α->Bool) (l:List α):Prop:=l.Pairwise fun a b=>lt a b=true
structure Ord (lt:α->α->Bool):Prop where
 irr:∀a,lt a a=false
 tr:∀a b c,lt a b=true->lt b c=true->lt a c=true
 tot:∀a b,lt a b=false->a≠b->lt b a=true
theorem ny:∀{xs ys:List α}{z:α},z∈xs\/z∈ys->z∈N6 lt xs ys
 |[],ys,z,h=>by rcases h with h | h;cases h;exact h
 |x::xs,ys,z,h=>by
  simp only[N6];have M:∀{z},z∈ys->z∈ys.takeWhile (fun y=>lt y x)\/z∈ys.dropWhile (fun y=>lt y x):=fun {z} J=>by
   rw[<-Wc (p:=fun y=>lt y x) (l:=ys)] at J;exact SM.mp J
  rcases h with h | h
  .rcases Sv.mp h with h | h
   .exact SM.mpr (.inr (h▸SR ..))
   .exact SM.mpr (.inr (SK _ (ny (.inl h))))
  .rcases M h with h | h
   .exact SM.mpr (.inl h)
   .exact SM.mpr (.inr (SK _ (ny (.inr h))))
theorem DR {p:α->Bool}:∀{l:List α}{z:α},z∈l.takeWhile p->p z=true
 |[],z,h=>by cases h
 |a::r,z,h=>by
  rw[Wa] at h;by_cases q:p a=true
  .rw[tx q] at h;rcases Sv.mp h with e | e
   .exact e▸q
   .exact DR e
  .rw[So q] at h;cases h
theorem Bz {p:α->Bool}:∀{l:List α}{a:α}{r:List α},l.dropWhile p=a::r->p a=false
 |[],a,r,h=>by cases h
 |b::l,a,r,h=>by
  rw[Yl] at h;by_cases q:p b=true
  .rw[tx q] at h;exact Bz h
  .rw[So q] at h;cases h;simpa using q
theorem vQ (O:Ord lt):∀{xs ys:List α},P8 lt xs->P8 lt ys->(∀x∈xs,x ∉ ys)->P8 lt (N6 lt xs ys)
 |[],ys,h1,h2,_=>h2
 |x::xs,ys,h1,h2,d=>by
  obtain⟨Y,Z⟩:=Ug.mp h1;have M:=Wc (p:=fun y=>lt y x) (l:=ys);have hs:P8 lt (ys.takeWhile (fun y=>lt y x)++ys.dropWhile (fun y=>lt y x)):=by rw[M];exact h2
  obtain⟨s1,s2,s3⟩:=Yn.mp hs;have dw:∀z∈ys.dropWhile (fun y=>lt y x),lt x z=true:=by
   cases e:ys.dropWhile (fun y=>lt y x) with
   |nil=>intro z J;cases J
   |cons a r=>
    rw[e] at s2;have ha:lt a x=false:=Bz (p:=fun y=>lt y x) e;have am:a∈ys:=Ym _ (e▸SR ..);have U:lt x a=true:=O.tot a x ha fun z=>d x (SR ..) (z▸am)
    intro z J;rcases Sv.mp J with q | q
    .exact q▸U
    .exact O.tr _ _ _ U ((Ug.mp s2).1 z q)
  have rest:∀z∈N6 lt xs (ys.dropWhile (fun y=>lt y x)),lt x z=true:=fun z J=>by
   rcases qD J with q | q
   .exact Y z q
   .exact dw z q
  simp only[N6];refine Yn.mpr ⟨s1,Ug.mpr ⟨rest,vQ O Z s2 fun a ha hb=>d a (SK _ ha) (Ym _ hb)⟩,fun a ha b hb=>?_⟩;have W:lt a x=true:=DR (p:=fun y=>lt y x) ha;rcases Sv.mp hb with q | q
  .exact q▸W
  .exact O.tr _ _ _ W (rest b q)
theorem sX:∀(n:Nat) {l:List α}{z:α},z∈l->z∈A7 lt n l
 |0,l,z,h=>h
 |n+1,l,z,h=>by
  simp only[A7];split
  .exact h
  .rw[<-YT (l.length / 2) l] at h;rcases SM.mp h with h | h
   .exact ny (.inl (sX n h))
   .exact ny (.inr (sX n h))
theorem oA (O:Ord lt):∀(n:Nat) (l:List α),l.length<=2 ^ n->l.Nodup->P8 lt (A7 lt (n+1) l)
 |n,l,hl,nd=>by
  simp only[A7];split
  .rename_i h
   match l,h with
   |[],_=>exact List.Pairwise.nil
   |[a],_=>exact YU _ _
   |a::b::r,h=>exact absurd h (by simp only[SW];omega)
  .rename_i h;cases n with
   |zero=>exact absurd hl (by omega)
   |succ n=>
    have p2:2 ^ (n+1)=2 ^ n+2 ^ n:=by rw[Yf];omega
    rw[<-YT (l.length / 2) l] at nd;obtain⟨J,M,W⟩:=WG.mp nd;refine vQ O (oA O n _ (by rw[Tp];omega) J) (oA O n _ (by rw[Tq];omega) M) fun x U Y=>?_
    exact W x (aA _ U) x (aA _ Y) rfl
theorem vm (O:Ord lt):∀{xs ys:List α},P8 lt xs->P8 lt ys->(∀z,z∈xs↔z∈ys)->xs=ys
 |[],[],_,_,_=>rfl
 |[],b::bs,_,_,h=>by have:=(h b).mpr (SR ..);cases this
 |a::as,[],_,_,h=>by have:=(h a).mp (SR ..);cases this
 |a::as,b::bs,h1,h2,h=>by
  obtain⟨M,Y⟩:=Ug.mp h1;obtain⟨U,W⟩:=Ug.mp h2;have e:a=b:=by
   rcases Sv.mp ((h a).mp (SR ..)) with q | q
   .exact q
   .rcases Sv.mp ((h b).mpr (SR ..)) with q2 | q2
    .exact q2.symm
    .have c:=O.tr _ _ _ (U a q) (M b q2);rw[O.irr] at c;cases c
  subst e;refine congrArg _ (vm O Y W fun z=>⟨fun J=>?_,fun J=>?_⟩)
  .rcases Sv.mp ((h z).mp (SK _ J)) with q | q
   .have c:=M z J;rw[q,O.irr] at c;cases c
   .exact q
  .rcases Sv.mp ((h z).mpr (SK _ J)) with q | q
   .have c:=U z J;rw[q,O.irr] at c;cases c
   .exact q
def IC [DecidableEq α] {J:List α}{x z:α}:z∈L7 J x↔z∈J\/z=x:=by
 unfold L7;by_cases h:x∈J
 .rw[tx h];exact⟨.inl,fun q=>q.elim id fun e=>e▸h⟩
 .rw[So h,SM,SJ]
theorem Ax [DecidableEq α]:∀{l acc:List α}{z:α},z∈l.foldl L7 acc↔z∈acc\/z∈l
 |[],acc,z=>by simp
 |x::xs,acc,z=>by
  rw[TY,Ax,IC,Sv];exact or_assoc
def uniqG_in [DecidableEq α] {l:List α}{z:α}:z∈A8 l↔z∈l:=by
 unfold A8;rw[Ax];simp
def FR [DecidableEq α] {J:List α}{x:α}(h:J.Nodup):(L7 J x).Nodup:=by
 unfold L7;by_cases e:x∈J
 .rw[tx e];exact h
 .rw[So e];refine WG.mpr ⟨h,by simp,fun a ha b hb=>?_⟩;rw[SJ.mp hb];exact fun z=>e (z▸ha)
def RY [DecidableEq α] (l:List α):(A8 l).Nodup:=by
 have:∀(l J:List α),J.Nodup->(l.foldl L7 J).Nodup:=fun l=>by
  induction l with
  |nil=>intro J h;exact h
  |cons x xs M=>intro J h;exact M _ (FR h)
 exact this l [] VO
end
def lsB_ord:Ord j5 where
 irr:=fun a=>by
  cases q:j5 a a with
  |false=>rfl
  |true=>
   rw[Y3] at q;unfold C7 at q;grind
 tr:=fun a b c h1 h2=>by
  rw[Y3] at h1 h2 ⊢;unfold C7 at *;grind
 tot:=fun a b h n=>by
  have h:¬ (j5 a b=true):=by rw[h];decide
  rw[Y3] at h ⊢;have:¬ (b.1 - a.1=0/\b.2 - a.2=0):=fun z=>n (SU (by grind) (by grind))
  unfold C7 at *;grind
def J0 (l:vT_):List Pt:=A7 j5 64 (A8 l)
def mz {l:vT_}(h:l.length<2 ^ 20):P8 j5 (J0 l):=oA lsB_ord 63 _ (SI (Bt l) (SI (UZ h) (by decide))) (RY l)
def rowP_in {l:vT_}:z∈J0 l↔z∈l:=⟨fun h=>jU (aA _ h),fun h=>sX _ (uniqG_in.mpr h)⟩
def RD {l m:vT_}(h1:l.length<2 ^ 20) (h2:m.length<2 ^ 20) (h:∀z,z∈l↔z∈m):J0 l=J0 m:=vm lsB_ord (mz h1) (mz h2) fun z=>by rw[rowP_in,rowP_in];exact h z
def KI {i:Nat}{t:DA}{s:DS}(h:s.sl[i]? = some (.v (.fn x))):dI i ((x,m)::r) t s=c8 m t s:=by
 unfold dI;rw[h];simp
def hV {f:DE}{lo hi:DO}{s s1 s2 J:DS}{ds:List DL.D}(e:f s=some (.lst ds,s1)) (U:lo s1=some (l,s2)) (M:hi s2=some (h,J)):J6 f lo hi s=some (.lst (E5 ds l h),J):=by
 unfold J6;rw[e];show (lo s1).bind _=_;rw[U];show (hi s2).bind _=_;rw[M];rfl
def wZ (l:List DL.D) (n:Nat):E5 l (some (n:Int)) none=l.drop n:=by
 unfold E5;rw[HT.sIx_nat,HT.sIx_none];by_cases h:n<=l.length
 .rw[Vg h,Xg (by rw[Tq];exact Su _)]
 .rw[VQ (by omega),YV (Su _),YV (by omega),List.take_nil]
def JP (l:List DL.D) (n:Nat):E5 l none (some (n:Int))=l.take n:=by
 unfold E5;rw[HT.sIx_nat,HT.sIx_none,VP,UO];by_cases h:n<=l.length
 .rw[Vg h]
 .rw[VQ (by omega),Xg (Su _),Xg (by omega)]
def Ah (l:List DL.D):E5 l none (some (-1))=l.dropLast:=by
 unfold E5;have J:HT.sIx l.length l.length (some (-1))=l.length - 1:=by
  show (if (-1:Int)<0 then ((-1:Int)+(l.length:Int)).toNat else min (-1:Int).toNat l.length)=_;rw[tx (by decide)];omega
 rw[J,HT.sIx_none,VP,UO,XY]
def j3 {a:DE}{b:DA}{xs:List DL.D}(h1:a s=some (x,s)) (h2:b s=some (xs,s)):a6 a b s=some (x::xs,s):=A0 h1 h2
def fU (i j:Int):j6 (fun i j=>decide (i<j)) (.int i) (.int j)=some (.bl (decide (i<j))):=rfl
def cx {n:Nat}(h:l[n]? = some x):v8 l (n:Int)=some x:=by
 have J:n<l.length:=(Tn.mp h).1;unfold v8 S6;rw[tx (by omega),tx (by omega)];exact h
def kA {ds:List DL.D}{i:Int}(h:v8 ds i=some d):b0 (.lst ds) (.int i)=some d:=by
 show (v8 ds i)=_;exact h
section
variable {k:Nat}(hk:k<=2000) (as zs:vT_) (fs:vO_)
abbrev mS (as zs:vT_) (fs:vO_) (acc:List DL.D) (t:Nat) (x:Sl):DS:=⟨[.v (.lst (as.map pt)),.v (.lst (zs.map pt)),.v (.fn "is_lesser"),.own acc,.v (.int (t:Int)),x],fs⟩
abbrev mT:DT:=w8 (dB (a7 (j6 (fun i j=>decide (i<j))) (dL 4) (j7 (one r8) (a6 (dL 1) a9)))) (w6 (dI 2 [("is_lesser",V0)] (a6 (a7 b0 (dL 1) (dL 4)) (a6 (dV 5) a9))))
include hk
theorem NQ (J:List DL.D) (t:Nat) (x:Sl) (h:zs.length<=t):mT (mS as zs fs J t x)=some (false,mS as zs fs J t x):=by
 refine dW (u6 ?_);refine Q5 (s1:=mS as zs fs J t x) (x:=.int (t:Int)) rfl (F8 (s1:=mS as zs fs J t x) (x:=.lst (zs.map pt)) rfl rfl) ?_;rw[fU,SF (by rw[Ss];omega)]
theorem JG (J:List DL.D) (t:Nat) (M:Ps k x) (U:Ps k y) (h:zs[t]? = some y):mT (mS as zs fs J t (.v (pt x)))=some (j5 y x,mS as zs fs J t (.v (pt x))):=by
 have W:t<zs.length:=(Tn.mp h).1;refine cW (s1:=mS as zs fs J t (.v (pt x))) (u6 ?_) (V3 ?_)
 .refine Q5 (s1:=mS as zs fs J t (.v (pt x))) (x:=.int (t:Int)) rfl (F8 (s1:=mS as zs fs J t (.v (pt x))) (x:=.lst (zs.map pt)) rfl rfl) ?_;rw[fU,SA (by rw[Ss];omega)]
 .rw[KI rfl];refine i7 (xs:=[pt y,pt x]) (A0 (Q5 (s1:=mS as zs fs J t (.v (pt x))) (x:=.lst (zs.map pt)) (y:=.int (t:Int)) rfl rfl (kA (cx (by rw[TM,h];rfl)))) (A0 rfl rfl)) ?_;exact Jo y x fs U M hk
theorem tR (x:Pt) (M:Ps k x) (hz:∀z∈zs,Ps k z):∀(ys pre:vT_) (acc:List DL.D),zs=pre++ys->acc.length+ys.length<sizeLine ->
  F7 mT (qH V0) (mS as zs fs acc pre.length (.v (pt x)))=some (.next,mS as zs fs (acc++(ys.takeWhile (fun y=>j5 y x)).map pt) (pre.length+(ys.takeWhile (fun y=>j5 y x)).length) (.v (pt x)))
 |[],pre,acc,e,l=>by
  refine(W0 (NQ hk as zs fs acc pre.length _ (by rw[e];simp))).trans ?_;simp
 |y::ys,pre,acc,e,l=>by
  have U:zs[pre.length]? = some y:=by rw[e,Uk (Su _),Wg];rfl
  have J:Ps k y:=hz y (by rw[e];simp);have T:=JG hk as zs fs acc pre.length M J U;cases q:j5 y x with
  |false=>
   rw[q] at T;refine(W0 T).trans ?_;rw[Wa,q];simp
  |true=>
   rw[q] at T;have W:acc.length<sizeLine:=by simp only[SW] at l;omega
   have B:qH V0 (mS as zs fs acc pre.length (.v (pt x)))=some (.next,mS as zs fs (acc++[pt y]) (pre++[y]).length (.v (pt x))):=by
    refine(d8 (s1:=mS as zs fs (acc++[pt y]) pre.length (.v (pt x))) (Q2 (i:=3) (s:=mS as zs fs acc pre.length (.v (pt x))) (s1:=mS as zs fs acc pre.length (.v (pt x))) (ds:=acc) (ds0:=acc) (d:=pt y) rfl (Q5 (s1:=mS as zs fs acc pre.length (.v (pt x))) (x:=.lst (zs.map pt)) (y:=.int (pre.length:Int)) rfl rfl (kA (cx (by rw[TM,U];rfl)))) rfl W)).trans ?_;refine k6 (Q5 (x:=.int (pre.length:Int)) (y:=.int 1) rfl rfl rfl) ?_;rw[SG];rfl
   have Y:=tR x M hz ys (pre++[y]) (acc++[pt y]) (by rw[e];simp) (by simp only[SG,SW,UJ] at l ⊢;omega);refine(X8 T B Y).trans ?_;rw[Wa,q,tx rfl,SN,Ul,List.singleton_append,SW,SG,Vu];rw[show pre.length+1+(ys.takeWhile (fun y=>j5 y x)).length=pre.length+((ys.takeWhile (fun y=>j5 y x)).length+1) by omega]
theorem zF (hz:∀z∈zs,Ps k z):∀(xs ys pre:vT_) (acc:List DL.D) (x5:Sl),(∀z∈xs,Ps k z)->zs=pre++ys->acc.length+xs.length+ys.length<sizeLine ->
  ∃(A:vT_) (t:Nat) (x5':Sl),C4 (d6 5) (rX V0) (xs.map pt) (mS as zs fs acc pre.length x5)=some (.next,mS as zs fs (acc++A.map pt) t x5')/\A++zs.drop t=N6 j5 xs ys
 |[],ys,pre,acc,x5,hxs,e,l=>⟨[],pre.length,x5,by simp[C4],by rw[e];simp[N6]⟩
 |x::xs,ys,pre,acc,x5,hxs,e,l=>by
  have J:=hxs x (SR ..);have W:=tR hk as zs fs x J hz ys pre acc e (by simp only[SW] at l;omega);have tl:=congrArg List.length (Wc (p:=fun y=>j5 y x) (l:=ys));rw[SG] at tl;have B:rX V0 (mS as zs fs acc pre.length (.v (pt x)))=some (.next,mS as zs fs (acc++(ys.takeWhile (fun y=>j5 y x)).map pt++[pt x]) (pre++ys.takeWhile (fun y=>j5 y x)).length (.v (pt x))):=by
   refine(d8 W).trans ?_;rw[SG];exact Q2 (i:=3) (s:=mS as zs fs (acc++(ys.takeWhile (fun y=>j5 y x)).map pt) (pre.length+(ys.takeWhile (fun y=>j5 y x)).length) (.v (pt x))) (s1:=mS as zs fs (acc++(ys.takeWhile (fun y=>j5 y x)).map pt) (pre.length+(ys.takeWhile (fun y=>j5 y x)).length) (.v (pt x))) (ds:=acc++(ys.takeWhile (fun y=>j5 y x)).map pt) (d:=pt x) rfl rfl rfl (by simp only[SG,Ss,SW] at l ⊢;omega)
  obtain⟨A,t,x5',h1,h2⟩:=zF hz xs (ys.dropWhile (fun y=>j5 y x)) (pre++ys.takeWhile (fun y=>j5 y x)) (acc++(ys.takeWhile (fun y=>j5 y x)).map pt++[pt x]) (.v (pt x)) (fun z h=>hxs z (SK _ h))
   (by rw[e,Ul,Wc]) (by simp only[SG,Ss,SW,UJ] at l ⊢;omega)
  refine⟨ys.takeWhile (fun y=>j5 y x)++x::A,t,x5',?_,?_⟩
  .rw[SN,W9 (s1:=mS as zs fs acc pre.length (.v (pt x))) rfl B,h1];simp
  .simp only[N6];rw[<-h2];simp
theorem Oy (ha:∀z∈as,Ps k z) (hz:∀z∈zs,Ps k z) (l:as.length+zs.length<sizeLine):fS V0 [.lst (as.map pt),.lst (zs.map pt),.fn "is_lesser"] fs=some (.lst ((N6 j5 as zs).map pt),fs):=by
 obtain⟨A,t,J,h1,h2⟩:=zF hk as zs fs hz as zs [] [] .no ha rfl (by simpa using l);refine n9 (s:=mS as zs fs ([]++A.map pt) t J) ?_;show sS V0 ⟨[.v (.lst (as.map pt)),.v (.lst (zs.map pt)),.v (.fn "is_lesser"),.no,.no,.no],fs⟩=_;unfold sS;rw[d8 (s1:=⟨[.v (.lst (as.map pt)),.v (.lst (zs.map pt)),.v (.fn "is_lesser"),.own [],.no,.no],fs⟩) (Q7 (i:=3) (s1:=⟨[.v (.lst (as.map pt)),.v (.lst (zs.map pt)),.v (.fn "is_lesser"),.no,.no,.no],fs⟩) (ds:=[]) rfl (by show 3<6;decide))];rw[d8 (s1:=mS as zs fs [] 0 .no) (k6 rfl rfl)];rw[d8 (s1:=mS as zs fs ([]++A.map pt) t J) ((cy (ds:=as.map pt) rfl).trans h1)];have hl:A.length+(zs.drop t).length<sizeLine:=by
  have e:=congrArg List.length h2;rw[SG,oO] at e;omega
 refine p9 ?_;refine Q5 (s1:=mS as zs fs ([]++A.map pt) t J) (x:=.lst ([]++A.map pt)) rfl (hV (s1:=mS as zs fs ([]++A.map pt) t J) (ds:=zs.map pt) rfl (l:=some (t:Int)) (s2:=mS as zs fs ([]++A.map pt) t J) rfl rfl) ?_;rw[wZ,<-h2,Tj,<-VD,Uv];refine tx ?_;rw[Ss,Ss];omega
end
section
variable {k:Nat}(hk:k<=2000)
include hk
theorem nW:∀(n:Nat) (l:vT_) (fs:vO_),(∀z∈l,Ps k z)->l.length<=2 ^ n->l.length<2 ^ 20->jf (fS V0) (n+1) [.lst (l.map pt),.fn "is_lesser"] fs=some (.lst ((A7 j5 (n+1) l).map pt),fs)
 |n,l,fs,hl,h2,h3=>by
  have J:∀M:Sl,j7 (one r8) (a6 (dL 0) a9) ⟨[.v (.lst (l.map pt)),.v (.fn "is_lesser"),M],fs⟩=some (.int (l.length:Int),⟨[.v (.lst (l.map pt)),.v (.fn "is_lesser"),M],fs⟩):=fun M=>by
   refine F8 (x:=.lst (l.map pt)) rfl ?_;show some (D.int ((l.map pt).length:Nat))=_;rw[Ss]
  by_cases W:l.length<2
  .refine n9 (s:=⟨[.v (.lst (l.map pt)),.v (.fn "is_lesser"),.no],fs⟩) ?_;show iX _ _ ⟨[.v (.lst (l.map pt)),.v (.fn "is_lesser"),.no],fs⟩=_;unfold iX;refine N4 ?_;rw[E6 (s1:=⟨[.v (.lst (l.map pt)),.v (.fn "is_lesser"),.no],fs⟩) (u6 (Q5 (J _) rfl (by rw[fU,SA (by omega)])))];rw[A7,tx W];rfl
  .cases n with
   |zero=>exact absurd h2 (by omega)
   |succ n=>
    have p2:2 ^ (n+1)=2 ^ n+2 ^ n:=by rw[Yf];omega
    have Z:=nW n (l.take (l.length / 2)) fs (fun z h=>hl z (Wd h)) (by rw[Tp];omega) (by rw[Tp];omega);have Y:=nW n (l.drop (l.length / 2)) fs (fun z h=>hl z (We h)) (by rw[Tq];omega) (by rw[Tq];omega);refine n9 (s:=⟨[.v (.lst (l.map pt)),.v (.fn "is_lesser"),.v (.int ((l.length / 2:Nat):Int))],fs⟩) ?_;show iX (fS V0) (jf (fS V0) (n+1)) ⟨[.v (.lst (l.map pt)),.v (.fn "is_lesser"),.no],fs⟩=_;unfold iX;rw[d8 (s1:=⟨[.v (.lst (l.map pt)),.v (.fn "is_lesser"),.no],fs⟩) (K0 (u6 (Q5 (J _) rfl (by rw[fU,SF (by omega)]))))];rw[d8 (s1:=⟨[.v (.lst (l.map pt)),.v (.fn "is_lesser"),.v (.int ((l.length / 2:Nat):Int))],fs⟩) (k6 (Q5 (J _) rfl (bp _ (by decide))) (by
     rw[show ((l.length:Int).fdiv 2)=((l.length / 2:Nat):Int) by rw[US _ (by decide)];rfl];rfl))]
    rw[A7,So W];refine p9 ?_;have U:a6 (dV 1) a9 ⟨[.v (.lst (l.map pt)),.v (.fn "is_lesser"),.v (.int ((l.length / 2:Nat):Int))],fs⟩=some ([.fn "is_lesser"],⟨[.v (.lst (l.map pt)),.v (.fn "is_lesser"),.v (.int ((l.length / 2:Nat):Int))],fs⟩):=rfl;refine i7 (xs:=[.lst ((A7 j5 (n+1) (l.take (l.length / 2))).map pt),.lst ((A7 j5 (n+1) (l.drop (l.length / 2))).map pt),.fn "is_lesser"]) (j3 ?_ (j3 ?_ U)) ?_
    .refine i7 (xs:=[.lst ((l.take (l.length / 2)).map pt),.fn "is_lesser"]) (j3 ?_ U) Z;rw[Wb,<-JP];exact hV (ds:=l.map pt) rfl (l:=none) rfl (h:=some ((l.length / 2:Nat):Int)) rfl
    .refine i7 (xs:=[.lst ((l.drop (l.length / 2)).map pt),.fn "is_lesser"]) (j3 ?_ U) Y;rw[VD,<-wZ];exact hV (ds:=l.map pt) rfl (l:=some ((l.length / 2:Nat):Int)) rfl (h:=none) rfl
    .refine Oy hk _ _ fs (fun z h=>hl z (Wd (aA _ h))) (fun z h=>hl z (We (aA _ h))) ?_;rw[cC,cC,Tp,Tq];have:sizeLine=2 ^ 24:=rfl;omega
end
def l8 (a b c:Pt):Bool:=decide (i8 (c7 a b c)=1)
def MO (i j:Int):B4 (.int i) (.int j)=some (.bl (!decide (i=j))):=aZ i j
section
variable {k:Nat}(hk:k<=2000) (row:D) (fs:vO_)
abbrev bS (row:D) (fs:vO_) (acc:vT_) (x:Sl):DS:=⟨[.v row,.own (acc.reverse.map pt),x],fs⟩
abbrev bT:DT:=w8 (dB (a7 (j6 (fun i j=>decide (j<i))) (j7 (one r8) (a6 (dL 1) a9)) (Zf 1))) (dB (a7 B4 (c8 Q6 (a6 (a7 b0 (dL 1) (m8 o7 (Zf 2))) (a6 (a7 b0 (dL 1) (m8 o7 (Zf 1))) (a6 (dV 2) a9)))) (Zf 1)))
theorem PR (l:List DL.D) (x y:DL.D):v8 (l++[x,y]) (-2)=some x:=by
 have hl:(l++[x,y]).length=l.length+2:=by rw[SG];rfl
 unfold v8 S6;rw[So (by decide),tx (by omega)];show (l++[x,y])[((-2:Int)+(l++[x,y]).length).toNat]? = _;rw[show ((-2:Int)+(l++[x,y]).length).toNat=l.length by omega,Uk (Su _),Wg];rfl
theorem LK (l:List DL.D) (x y:DL.D):v8 (l++[x,y]) (-1)=some y:=by
 have hl:(l++[x,y]).length=l.length+2:=by rw[SG];rfl
 unfold v8 S6;rw[So (by decide),tx (by omega)];show (l++[x,y])[((-1:Int)+(l++[x,y]).length).toNat]? = _;rw[show ((-1:Int)+(l++[x,y]).length).toNat=l.length+1 by omega,Uk (by omega),show l.length+1 - l.length=1 by omega];rfl
def rF (J:vT_) (x:Sl):a7 (j6 (fun i j=>decide (j<i))) (j7 (one r8) (a6 (dL 1) a9)) (Zf 1) (bS row fs J x)=some (.bl (decide ((1:Int)<(J.length:Int))),bS row fs J x):=by
 refine Q5 (s1:=bS row fs J x) (x:=.int (J.length:Int)) (F8 (x:=.lst (J.reverse.map pt)) rfl ?_) rfl rfl;show some (D.int ((J.reverse.map pt).length:Nat))=_;rw[Ss,UQ]
include hk
theorem Sj {a b x:Pt}(r:vT_) (ha:Ps k a) (hb:Ps k b) (J:Ps k x):bT (bS row fs (b::a::r) (.v (pt x)))=some (!l8 a b x,bS row fs (b::a::r) (.v (pt x))):=by
 have es:(b::a::r).reverse.map pt=r.reverse.map pt++[pt a,pt b]:=by simp
 have i2:a7 b0 (dL 1) (m8 o7 (Zf 2)) (bS row fs (b::a::r) (.v (pt x)))=some (pt a,bS row fs (b::a::r) (.v (pt x))):=Q5 (x:=.lst ((b::a::r).reverse.map pt)) (y:=.int (-2)) rfl rfl (kA (by rw[es];exact PR _ _ _));have i1:a7 b0 (dL 1) (m8 o7 (Zf 1)) (bS row fs (b::a::r) (.v (pt x)))=some (pt b,bS row fs (b::a::r) (.v (pt x))):=Q5 (x:=.lst ((b::a::r).reverse.map pt)) (y:=.int (-1)) rfl rfl (kA (by rw[es];exact LK _ _ _));refine cW (s1:=bS row fs (b::a::r) (.v (pt x))) (u6 ?_) (u6 ?_)
 .rw[rF,SA (by simp only[SW];omega)]
 .refine Q5 (i7 (A0 i2 (A0 i1 (A0 rfl rfl))) (qr a b x fs ha hb J hk)) rfl ?_;exact MO _ _
theorem AY (x:Pt) (J:Ps k x):∀(acc:vT_),(∀z∈acc,Ps k z)->F7 bT (gZ 1) (bS row fs acc (.v (pt x)))=some (.next,bS row fs (D3 l8 x acc) (.v (pt x)))
 |[],h=>W0 (dW (u6 ((rF row fs [] _).trans rfl)))
 |[b],h=>W0 (dW (u6 ((rF row fs [b] _).trans rfl)))
 |b::a::r,h=>by
  have T:=Sj hk row fs r (h a (by simp)) (h b (by simp)) J;cases q:l8 a b x with
  |true=>
   rw[q] at T;refine(W0 T).trans ?_;simp only[D3];rw[tx q]
  |false=>
   rw[q] at T;have P:gZ 1 (bS row fs (b::a::r) (.v (pt x)))=some (.next,bS row fs (a::r) (.v (pt x))):=by
    show (if 0<((b::a::r).reverse.map pt).length then some (Fl.next,(⟨[.v row,.own ((b::a::r).reverse.map pt).dropLast,.v (pt x)],fs⟩:DS)) else none)=_;rw[tx (by simp)];have e:((b::a::r).reverse.map pt).dropLast=(a::r).reverse.map pt:=by
     rw[UH,Tj];simp
    rw[e]
   refine(X8 T P (AY x J (a::r) fun z M=>h z (SK _ M))).trans ?_;simp only[D3];rw[So (by rw[q];decide)]
theorem yb:∀(l acc:vT_) (x2:Sl),(∀z∈l,Ps k z)->(∀z∈acc,Ps k z)->acc.length+l.length<sizeLine->∃x2',C4 (d6 2) (nU Q6) (l.map pt) (bS row fs acc x2)=some (.next,bS row fs (M0 l8 acc l) x2')
 |[],acc,x2,h1,h2,hl=>⟨x2,rfl⟩
 |x::xs,acc,x2,h1,h2,hl=>by
  have M:=h1 x (SR ..);have pl:=qE (t:=l8) x acc;have B:nU Q6 (bS row fs acc (.v (pt x)))=some (.next,bS row fs (x::D3 l8 x acc) (.v (pt x))):=by
   refine(d8 (AY hk row fs x M acc h2)).trans ?_;refine(Q2 (i:=1) (s:=bS row fs (D3 l8 x acc) (.v (pt x))) (s1:=bS row fs (D3 l8 x acc) (.v (pt x))) (ds:=(D3 l8 x acc).reverse.map pt) (ds0:=(D3 l8 x acc).reverse.map pt) (d:=pt x) rfl rfl rfl (by simp only[Ss,UQ,SW] at hl ⊢;omega)).trans ?_;have e:(x::D3 l8 x acc).reverse.map pt=(D3 l8 x acc).reverse.map pt++[pt x]:=by rw[UH,Tj];rfl
   show _=some (Fl.next,(⟨[.v row,.own ((x::D3 l8 x acc).reverse.map pt),.v (pt x)],fs⟩:DS));rw[e];rfl
  obtain⟨x2',h⟩:=yb xs (x::D3 l8 x acc) (.v (pt x)) (fun z J=>h1 z (SK _ J)) (fun z J=>by
   rcases Sv.mp J with e | e
   .exact e▸M
   .exact h2 z (jK e)) (by simp only[SW] at hl ⊢;omega)
  refine⟨x2',?_⟩;rw[SN,W9 (s1:=bS row fs acc (.v (pt x))) rfl B,h];rfl
theorem wL (l:vT_) (h1:∀z∈l,Ps k z) (hl:l.length<sizeLine):eP Q6 [.lst (l.map pt)] fs=some (.lst ((v7 l8 l).map pt),fs):=by
 obtain⟨J,h⟩:=yb hk (.lst (l.map pt)) fs l [] .no h1 (fun z M=>by cases M) (by simpa using hl);refine n9 (s:=⟨[.v (.lst (l.map pt)),.v (.lst ((v7 l8 l).map pt)),J],fs⟩) ?_;show nJ Q6 ⟨[.v (.lst (l.map pt)),.no,.no],fs⟩=_;unfold nJ;rw[d8 (s1:=bS (.lst (l.map pt)) fs [] .no) (Q7 (i:=1) (s1:=⟨[.v (.lst (l.map pt)),.no,.no],fs⟩) (ds:=[]) rfl (by show 1<3;decide))];rw[d8 (s1:=bS (.lst (l.map pt)) fs (M0 l8 [] l) J) ((cy (ds:=l.map pt) rfl).trans h)];exact p9 rfl
end
end T
namespace DL
open PySem L2
def tG {x y u v:Rat}(h1:C7 x y) (h2:C7 u v):C7 (x+u) (y+v):=by
 unfold C7 at *;grind
def lg {x y u v a:Rat}(ha:0<=a) (h1:C7 x y) (h2:C7 u v):C7 (a*x+u) (a*y+v):=by
 by_cases h:a=0
 .subst h;rw[UU,UU,Rat.zero_add,Rat.zero_add];exact h2
 .exact tG ((dN (by grind)).mpr h1) h2
def zw {U M Z Y W J:Rat}(hu:C7 U M) (hv:C7 Z Y) (hw:C7 W J) (h1:0<U*Y - M*Z) (h2:0<=Z*J - Y*W):0<U*J - M*W:=by
 by_cases c:0<U*J - M*W
 .exact c
 .have k:0 <= -(U*J - M*W):=by grind
  have a:=(dN h1).mpr hw;have b:=lg k hv (lg h2 hu a);have e1:-(U*J - M*W)*Z+((Z*J - Y*W)*U+(U*Y - M*Z)*W)=0:=by grind
  have e2:-(U*J - M*W)*Y+((Z*J - Y*W)*M+(U*Y - M*Z)*J)=0:=by grind
  rw[e1,e2] at b;exact absurd b lL
def R6 (h b o:Pt):Bool:=if c7 h b o=0 then decide (dsq h b<dsq h o) else decide (c7 h b o<0)
def K7 (h:Pt) (b:Option Pt) (o:Pt):Option Pt:=if o=h then b else match b with
 |none=>some o
 |some r=>if R6 h r o then some o else some r
def eK (h:Pt) (b:Option Pt):K7 h b h=b:=tx rfl
def gc {h o:Pt}(n:o≠h):K7 h none o=some o:=So n
def gf {h r o:Pt}(n:o≠h) (f:R6 h r o=true):K7 h (some r) o=some o:=(So n).trans (tx f)
def fQ {h r o:Pt}(n:o≠h) (f:R6 h r o=false):K7 h (some r) o=some r:=(So n).trans (So (by rw[f];exact Sy))
def fH (f:Pt) (S:vT_) (b:Option Pt):Prop:=(b=none/\∀q∈S,q=f)\/∃p,b=some p/\p∈S/\p≠f/\∀q∈S,0<=c7 f p q/\(c7 f p q=0->dsq f q<=dsq f p)
def Lst (f:Pt) (q:Pt):Prop:=q=f\/C7 (q.1 - f.1) (q.2 - f.2)
def Lst.pos (h:Lst f q) (n:q≠f):C7 (q.1 - f.1) (q.2 - f.2):=h.resolve_left n
def lB (f:Pt):dsq f f=0:=by unfold dsq;grind
def cS (f p:Pt):c7 f p f=0:=by unfold c7;grind
def fM (f p:Pt):c7 f p p=0:=by unfold c7;grind
def pk (a b:Pt):0<=dsq a b:=by unfold dsq;exact Rat.add_nonneg (cM _) (cM _)
def NJ (hp:p≠f) (M:Lst f p) (Y:Lst f z) (c:c7 f p z=0):∃s:Rat,0<=s/\z=u9 f p s:=by
 by_cases e:z=f
 .exact⟨0,by decide,by rw[gh];exact e⟩
 .obtain⟨s,J⟩:=ik (a:=f) (b:=p) (fun z=>hp z.symm) c;refine⟨s,?_,J⟩;have l:=Y.pos e;rw[J] at l;unfold u9 at l;simp only at l;have W:f.1+s*(p.1 - f.1) - f.1=s*(p.1 - f.1):=by grind
  have U:f.2+s*(p.2 - f.2) - f.2=s*(p.2 - f.2):=by grind
  rw[W,U] at l;exact Te ((EF (M.pos hp) s).mp l)
def Ox {S:vT_}{b:Option Pt}{o:Pt}(U:∀q∈S,Lst f q) (Z:Lst f o) (h:fH f S b):fH f (S++[o]) (K7 f b o):=by
 by_cases e:o=f
 .subst e;rw[eK];rcases h with ⟨rfl,h⟩ | ⟨p,rfl,h1,h2,h3⟩
  .refine .inl ⟨rfl,fun q J=>?_⟩;rcases SM.mp J with J | J
   .exact h q J
   .exact SJ.mp J
  .refine .inr ⟨p,rfl,Ui _ h1,h2,fun q J=>?_⟩;rcases SM.mp J with J | J
   .exact h3 q J
   .rw[SJ.mp J,cS,lB];exact⟨TJ,fun _=>pk _ _⟩
 .have lo:=Z.pos e;rcases h with ⟨rfl,h⟩ | ⟨p,rfl,h1,h2,h3⟩
  .rw[gc e];refine .inr ⟨o,rfl,Ts _ (SJ.mpr rfl),e,fun q J=>?_⟩;rcases SM.mp J with J | J
   .rw[h q J,cS,lB];exact⟨TJ,fun _=>pk _ _⟩
   .rw[SJ.mp J,fM];exact⟨TJ,fun _=>TJ⟩
  .have lp:=(U p h1).pos h2;cases hf:R6 f p o with
   |true=>
    rw[gf e hf];refine .inr ⟨o,rfl,Ts _ (SJ.mpr rfl),e,fun q J=>?_⟩;rcases SM.mp J with J | J
    .obtain⟨W,c2⟩:=h3 q J;by_cases eq:q=f
     .rw[eq,cS,lB];exact⟨TJ,fun _=>pk _ _⟩
     .have lq:=(U q J).pos eq;unfold R6 at hf;by_cases M:c7 f p o=0
      .rw[tx M] at hf;have hd:=TQ hf;obtain⟨s,s0,hs⟩:=NJ h2 (U p h1) Z M;have Y:c7 f o q=s*c7 f p q:=by rw[hs];unfold u9 c7;grind
       have s1:s≠0:=fun z=>e (by rw[hs,z,gh])
       refine⟨by rw[Y];exact Tr s0 W,fun z=>?_⟩;rw[Y] at z;rcases Td.mp z with z | z
       .exact absurd z s1
       .exact Rat.le_trans (c2 z) (Te hd)
      .rw[So M] at hf;have hd:=TQ hf;have ht:=zw lo lp lq (by unfold c7 at hd;grind) (by unfold c7 at W;grind);have:0<c7 f o q:=by unfold c7;grind
       exact⟨Te this,fun z=>by rw[z] at this;exact absurd this Vl⟩
    .rw[SJ.mp J,fM];exact⟨TJ,fun _=>TJ⟩
   |false=>
    rw[fQ e hf];refine .inr ⟨p,rfl,Ui _ h1,h2,fun q J=>?_⟩;rcases SM.mp J with J | J
    .exact h3 q J
    .rw[SJ.mp J];unfold R6 at hf;by_cases M:c7 f p o=0
     .rw[tx M] at hf;have:=of_decide_eq_false hf;exact⟨by rw[M];exact TJ,fun _=>by grind⟩
     .rw[So M] at hf;have:=of_decide_eq_false hf;exact⟨by grind,fun z=>absurd z M⟩
theorem lJ :∀(l S:vT_) (b:Option Pt),(∀q∈S++l,Lst f q)->fH f S b->fH f (S++l) (l.foldl (K7 f) b)
 |[],S,b,_,h=>by rw[Tt];exact h
 |o::r,S,b,hl,h=>by
  have e:S++o::r=(S++[o])++r:=by simp
  rw[TY,e];rw[e] at hl;exact lJ r (S++[o]) _ hl (Ox (fun q J=>hl q (Ui _ (Ui _ J))) (hl o (Ui _ (Ts _ (SJ.mpr rfl)))) h)
def MV {f p a b c:Pt}(hp:p≠f) (h1:c7 f p a=0) (h2:c7 f p b=0) (h3:c7 f p c=0):c7 a b c=0:=by
 obtain⟨s,rfl⟩:=ik (a:=f) (b:=p) (fun z=>hp z.symm) h1;obtain⟨t,rfl⟩:=ik (a:=f) (b:=p) (fun z=>hp z.symm) h2;obtain⟨u,rfl⟩:=ik (a:=f) (b:=p) (fun z=>hp z.symm) h3;unfold u9 c7;grind
def W5 (h:Pt) (l:vT_):Option Pt:=l.foldl (K7 h) none
end DL
namespace T
open PySem L2 DL
def tM {U M Z Y W J:Rat}(hu:C7 U M) (hv:C7 Z Y) (hw:C7 W J) (h1:0<=U*Y - M*Z) (h2:0<=Z*J - Y*W):0<=U*J - M*W:=by
 refine Uh.mp fun h=>?_
 have hs:0 < -(U*J - M*W):=by grind
 have a1:=(dN hs).mpr hv;have a2:=lg h1 hw a1;have a3:=lg h2 hu a2;have e1:(Z*J - Y*W)*U+((U*Y - M*Z)*W + -(U*J - M*W)*Z)=0:=by grind
 have e2:(Z*J - Y*W)*M+((U*Y - M*Z)*J + -(U*J - M*W)*Y)=0:=by grind
 rw[e1,e2] at a3;exact lL a3
def CG (r:Rat):i8 r=1↔0<r:=by
 unfold i8;by_cases h:0<r
 .rw[tx h];exact⟨fun _=>h,fun _=>rfl⟩
 .rw[So h];by_cases h2:r<0
  .rw[tx h2];exact⟨fun z=>absurd z (by decide),fun z=>absurd z h⟩
  .rw[So h2];exact⟨fun z=>absurd z (by decide),fun z=>absurd z h⟩
def Y7 {a b:Pt}(h:j5 a b=true):C7 (b.1 - a.1) (b.2 - a.2):=(Y3 a b).mp h
def Ch (S:Pt->Prop):List Pt->Prop
 |b::a::r=>j5 a b=true/\(∀q,S q->0<=c7 a b q)/\(∀z r',r=z::r'->0<c7 z a b)/\Ch S (a::r)
 |_=>True
def Up (S:Pt->Prop) (x b:Pt):Prop:=(∀q,S q->q=b\/j5 q b=true)\/∃c,j5 b c=true/\(∀q,S q->0<=c7 b c q)/\¬ (0<c7 b c x)
def nP {S:Pt->Prop}{x b q:Pt}(U:Up S x b) (J:S q) (Y:j5 b x=true) (h:q=b\/j5 b q=true):0<=c7 b x q:=by
 rcases h with rfl | h
 .have:c7 q x q=0:=cS q x;rw[this];exact TJ
 .rcases U with U | ⟨c,bc,Uc,n⟩
  .rcases U q J with e | e
   .subst e;rw[cS];exact TJ
   .have:=lsB_ord.tr _ _ _ h e;rw[lsB_ord.irr] at this;cases this
  .have M:=Uc q J;have W:0 <= -c7 b c x:=by have:=Uh.mp n;grind
   have:=tM (Y7 Y) (Y7 bc) (Y7 h) (by rw[show (x.1 - b.1)*(c.2 - b.2) - (x.2 - b.2)*(c.1 - b.1) = -c7 b c x by unfold c7;grind];exact W) (by unfold c7 at M;exact M);unfold c7;exact this
def KD {a b x q:Pt}(U:j5 a b=true) (M:j5 b x=true) (J:j5 q b=true) (h1:0<=c7 a b q) (h2:0<c7 a b x):0<=c7 b x q:=by
 have:=tM (Y7 J) (Y7 U) (Y7 M) (by rw[show (b.1 - q.1)*(b.2 - a.2) - (b.2 - q.2)*(b.1 - a.1)=c7 a b q by unfold c7;grind];exact h1)
  (by rw[show (b.1 - a.1)*(x.2 - b.2) - (b.2 - a.2)*(x.1 - b.1)=c7 a b x by unfold c7;grind];exact Te h2)
 have e:c7 b x q=(b.1 - q.1)*(x.2 - b.2) - (b.2 - q.2)*(x.1 - b.1):=by unfold c7;grind
 rw[e];exact this
def LH {z a b x:Pt}(M:j5 z a=true) (U:j5 a b=true) (J:j5 b x=true) (h1:0<c7 z a b) (h2:0<c7 a b x):0<c7 z a x:=by
 have:=zw (Y7 M) (Y7 U) (Y7 J) (by rw[show (a.1 - z.1)*(b.2 - a.2) - (a.2 - z.2)*(b.1 - a.1)=c7 z a b by unfold c7;grind];exact h1)
  (by rw[show (b.1 - a.1)*(x.2 - b.2) - (b.2 - a.2)*(x.1 - b.1)=c7 a b x by unfold c7;grind];exact Te h2)
 have e:c7 z a x=c7 z a b+((a.1 - z.1)*(x.2 - b.2) - (a.2 - z.2)*(x.1 - b.1)):=by unfold c7;grind
 rw[e];grind
theorem BX {S:Pt->Prop}:∀{r:vT_}{b a:Pt},Ch S (b::a::r)->0<c7 a b x->j5 b x=true->Ch (fun q=>S q\/q=x) (b::a::r)
 |r,b,a,⟨ab,L,T,R⟩,h,bx=>by
  refine⟨ab,fun q M=>M.elim (L q) fun e=>by rw[e];exact Te h,T,?_⟩;cases r with
  |nil=>trivial
  |cons z J=>
   have t:=T z J rfl;exact BX R (LH R.1 ab bx t h) (lsB_ord.tr _ _ _ ab bx)
theorem Cd {S:Pt->Prop}(W:∀q,S q->j5 q x=true):∀(r:vT_) (b:Pt),Ch S (b::r)->Up S x b->(∀p,(b::r).getLast? = some p->∀q,S q->q=p\/j5 p q=true)->(∀z∈b::r,S z)->Ch (fun q=>S q\/q=x) (x::D3 l8 x (b::r))
 |[],b,C,U,B,I=>by
  have M:=W b (I b (by simp));refine⟨M,fun q J=>?_,fun z r' e=>(by cases e),trivial⟩;rcases J with J | rfl
  .exact nP U J M (B b rfl q J)
  .rw[fM];exact TJ
 |a::r,b,C,U,B,I=>by
  obtain⟨Y,L,T,R⟩:=id C;have M:=W b (I b (by simp));simp only[D3];by_cases t:l8 a b x=true
  .rw[tx t];have t:0<c7 a b x:=by
    unfold l8 at t;have:=TQ t;exact(CG _).mp this
   refine⟨M,fun q J=>?_,fun z r' e=>(by cases e;exact t),BX C t M⟩;rcases J with J | rfl
   .by_cases n:q=b
    .exact nP U J M (.inl n)
    .cases w:j5 q b with
     |true=>exact KD Y M w (L q J) t
     |false=>exact nP U J M (.inr (lsB_ord.tot q b w n))
   .rw[fM];exact TJ
  .rw[So t];have t:¬ (0<c7 a b x):=fun z=>t (by unfold l8;exact SA ((CG _).mpr z))
   exact Cd W r a R (.inr ⟨b,Y,L,t⟩) (fun p e=>B p (by rw[Wh];exact e)) fun z Z=>I z (SK _ Z)
theorem nQ {α:Type}{t:α->α->α->Bool}{x:α}:∀l:List α,(D3 t x l).getLast? = l.getLast?
 |[]=>rfl
 |[b]=>rfl
 |b::a::r=>by
  simp only[D3];split
  .rfl
  .rw[nQ (a::r),Wh]
theorem oY {α:Type}{t:α->α->α->Bool}{x:α}:∀{l:List α},l≠[]->D3 t x l≠[]
 |[],h=>absurd rfl h
 |[b],_=>by simp[D3]
 |b::a::r,_=>by
  simp only[D3];split
  .simp
  .exact oY (by simp)
structure Stk (S:Pt->Prop) (acc:vT_):Prop where
 ch:Ch S acc
 top:∀b r,acc=b::r->∀q,S q->q=b\/j5 q b=true
 bot:∀p,acc.getLast? = some p->∀q,S q->q=p\/j5 p q=true
 mem:∀z∈acc,S z
def Ht {S:Pt->Prop}{J:vT_}(h:Stk S J) (Y:J≠[]) (U:∀q,S q->j5 q x=true):Stk (fun q=>S q\/q=x) (x::D3 l8 x J):=by
 cases J with
 |nil=>exact absurd rfl Y
 |cons b r=>
  have Z:D3 l8 x (b::r)≠[]:=oY Y;refine⟨Cd U r b h.ch (.inl (h.top b r rfl)) h.bot h.mem,fun b' r' e q M=>?_,fun p e q M=>?_,fun z hz=>?_⟩
  .cases e;exact M.elim (fun z=>.inr (U q z)) .inl
  .have W:(b::r).getLast? = some p:=by
    rw[<-nQ (t:=l8) (x:=x) (b::r)];cases w:D3 l8 x (b::r) with
    |nil=>exact absurd w Z
    |cons c cs=>rw[w,Wh] at e;exact e
   rcases M with M | rfl
   .exact h.bot p W q M
   .exact .inr (U p (h.mem p (List.mem_of_getLast? W)))
  .rcases Sv.mp hz with e | e
   .exact .inr e
   .exact .inl (h.mem z (jK e))
theorem Ch.sub {S J:Pt->Prop}(h:∀q,J q->S q):∀{l:vT_},Ch S l->Ch J l
 |[],_=>trivial
 |[b],_=>trivial
 |b::a::r,⟨h1,h2,h3,h4⟩=>⟨h1,fun q M=>h2 q (h q M),h3,Ch.sub h h4⟩
theorem Stk.sub {S M:Pt->Prop}{l:vT_}(h:Stk S l) (e:∀q,M q↔S q):Stk M l:=
 ⟨h.ch.sub fun q J=>(e q).mp J,fun b r g q J=>h.top b r g q ((e q).mp J),fun p g q J=>h.bot p g q ((e q).mp J),fun z U=>(e z).mpr (h.mem z U)⟩
theorem DB:∀(l acc:vT_) (S:Pt->Prop),Stk S acc->acc≠[]->(∀q,S q->∀x∈l,j5 q x=true)->P8 j5 l->Stk (fun q=>S q\/q∈l) (M0 l8 acc l)/\M0 l8 acc l≠[]/\(M0 l8 acc l).getLast? = acc.getLast?
 |[],acc,S,h,ne,_,_=>⟨h.sub fun q=>by simp,ne,rfl⟩
 |x::xs,acc,S,h,ne,hl,hs=>by
  obtain⟨s1,s2⟩:=Ug.mp hs;have h1:=Ht h ne fun q J=>hl q J x (SR ..)
  obtain⟨U,W,Y⟩:=DB xs (x::D3 l8 x acc) _ h1 (by simp) (fun q J y M=>J.elim (fun z=>hl q z y (SK _ M)) fun z=>z▸s1 y M) s2;refine⟨U.sub fun q=>by rw[Sv,or_assoc],W,?_⟩;simp only[M0];rw[Y];cases w:D3 l8 x acc with
  |nil=>exact absurd w (oY ne)
  |cons c Z=>rw[Wh,<-w,nQ]
def qL {l:vT_}(h:P8 j5 (p::l)):Stk (fun q=>q∈p::l) (M0 l8 [] (p::l))/\(M0 l8 [] (p::l)).getLast? = some p/\M0 l8 [] (p::l)≠[]:=by
 obtain⟨h1,h2⟩:=Ug.mp h;have W:Stk (fun q=>q=p) [p]:=⟨trivial,fun b r e q J=>by cases e;exact .inl J,fun p' e q J=>by cases e;exact .inl J,fun z Z=>by simpa using Z⟩
 obtain⟨M,U,Y⟩:=DB l [p] _ W (by simp) (fun q J x hx=>by rw[J];exact h1 x hx) h2;exact⟨M.sub fun q=>by rw[Sv],Y,U⟩
def aQ (p:Pt):List Int:=[pX p,pY p,pL p]
def GU (h:aQ p=aQ q):p=q:=by
 simp only[aQ,List.cons.injEq,and_true] at h;obtain⟨h1,h2,h3⟩:=h;refine SU ?_ ?_
 .rw[<-px_div p,<-px_div q,h1,h3]
 .rw[<-py_div p,<-py_div q,h2,h3]
theorem Ap:∀l:List Pt,dH (l.map pt)=some (l.map aQ)
 |[]=>rfl
 |p::r=>by
  have J:=Ap r;show (some [pX p,pY p,pL p]).bind (fun k=>(dH (r.map pt)).map (k :: ·))=_;rw[J];rfl
def MC:W7=L7:=by
 funext acc k;unfold W7 L7;by_cases h:k∈acc
 .rw[tx h,tx h]
 .rw[So h,So h]
def Ou (l:List (List Int)):S9 l=A8 l:=by unfold S9 A8;rw[MC]
def JY (l:vT_):(S9 (l.map aQ)).map fw=(A8 l).map pt:=by
 have e:S9 (l.map aQ)=(A8 l).map aQ:=(Ou _).trans (uS (f:=aQ) (fun a b h=>GU h) l);rw[e,TN];rfl
def v5 (l:vT_):List Pt:=P0 j5 l8 (A8 l)
def Qs {α:Type}{lt:α->α->Bool}{t:α->α->α->Bool}(l:List α):(P0 lt t l).length<=l.length+l.length:=by
 unfold P0;have h1:=AU (t:=t) (A7 lt 64 l);have h2:=AU (t:=t) (A7 lt 64 l).reverse;rw[UQ,cC] at h2;rw[cC] at h1;rw[SG,XD,XD];omega
def pE {l:vT_}(h:z∈v5 l):z∈l:=by
 unfold v5 P0 at h;rcases SM.mp h with h | h
 .exact jU (aA _ (nD (List.dropLast_subset _ h)))
 .exact jU (aA _ (Wf.mp (nD (List.dropLast_subset _ h))))
abbrev iT:a8:=jf (fS V0) 64
abbrev W6:a8:=xQ iT (eP Q6)
def C3 (l:vT_):D:=if (v5 l).length<3 then .non else .tup ((v5 l).map pt)
def qX {k:Nat}(hk:k<=2000) (row:D) (l:vT_) (fs:vO_) (hr:jM row=some (l.map pt)) (hl:∀z∈l,Ps k z) (hn:l.length<2 ^ 20):W6 [row] fs=some (C3 l,fs):=by
 have hu:∀z∈A8 l,Ps k z:=fun z h=>hl z (jU h)
 have un:=Bt l;have s24:sizeLine=2 ^ 24:=rfl;have O:iT [.lst ((A8 l).map pt),.fn "is_lesser"] fs=some (.lst ((A7 j5 64 (A8 l)).map pt),fs):=nW hk 63 (A8 l) fs hu (SI (UZ (by omega:(A8 l).length<2 ^ 20)) (by decide)) (by omega);have Y:∀z∈A7 j5 64 (A8 l),Ps k z:=fun z h=>hu z (aA _ h)
 have B1:=wL hk fs (A7 j5 64 (A8 l)) Y (by rw[cC];omega);have B2:=wL hk fs (A7 j5 64 (A8 l)).reverse (fun z h=>Y z (Wf.mp h)) (by rw[UQ,cC];omega);have W:=Qs (lt:=j5) (t:=l8) (A8 l);have U:ja 0 1 2 3 iT "is_lesser" ⟨[.v row,.no,.no,.no,.no],fs⟩=some (.next,⟨[.v row,.no,.no,.v (.lst ((A7 j5 64 (A8 l)).map pt)),.no],fs⟩):=by
  show (jM row).bind _=_;rw[hr];show (dH (l.map pt)).bind _=_;rw[Ap];show (if (l.map aQ).length<=sizeLine then _ else none)=_;rw[tx (by rw[Ss];omega),JY];show (iT _ fs).map _=_;rw[O];rfl
 have Z:∀x:Sl,a6 (dV 3) a9 ⟨[.v row,.no,.no,.v (.lst ((A7 j5 64 (A8 l)).map pt)),x],fs⟩=some ([.lst ((A7 j5 64 (A8 l)).map pt)],⟨[.v row,.no,.no,.v (.lst ((A7 j5 64 (A8 l)).map pt)),x],fs⟩):=fun _=>rfl
 have C:d7 (a7 m9 (J6 (c8 (eP Q6) (a6 (dV 3) a9)) L6 (K9 (m8 o7 (Zf 1)))) (J6 (c8 (eP Q6) (a6 (m6 (V7 jg (a6 (dL 3) a9))) a9)) L6 (K9 (m8 o7 (Zf 1))))) (d6 4) ⟨[.v row,.no,.no,.v (.lst ((A7 j5 64 (A8 l)).map pt)),.no],fs⟩
   = some (.next,⟨[.v row,.no,.no,.v (.lst ((A7 j5 64 (A8 l)).map pt)),.v (.lst ((v5 l).map pt))],fs⟩):=by
  refine k6 (d:=.lst ((v5 l).map pt)) (s1:=⟨[.v row,.no,.no,.v (.lst ((A7 j5 64 (A8 l)).map pt)),.no],fs⟩) ?_ rfl;refine Q5 (s1:=⟨[.v row,.no,.no,.v (.lst ((A7 j5 64 (A8 l)).map pt)),.no],fs⟩) (x:=.lst ((v7 l8 (A7 j5 64 (A8 l))).map pt).dropLast) (y:=.lst ((v7 l8 (A7 j5 64 (A8 l)).reverse).map pt).dropLast) ?_ ?_ ?_
  .rw[<-Ah];exact hV (s1:=⟨[.v row,.no,.no,.v (.lst ((A7 j5 64 (A8 l)).map pt)),.no],fs⟩) (i7 (Z _) B1) (l:=none) (s2:=⟨[.v row,.no,.no,.v (.lst ((A7 j5 64 (A8 l)).map pt)),.no],fs⟩) rfl (h:=some (-1)) rfl
  .rw[<-Ah];refine hV (s1:=⟨[.v row,.no,.no,.v (.lst ((A7 j5 64 (A8 l)).map pt)),.no],fs⟩) (i7 (xs:=[.lst ((A7 j5 64 (A8 l)).reverse.map pt)]) ?_ B2) (l:=none) (s2:=⟨[.v row,.no,.no,.v (.lst ((A7 j5 64 (A8 l)).map pt)),.no],fs⟩) rfl (h:=some (-1)) rfl;rw[Xe];rfl
  .have e:(v5 l).map pt=((v7 l8 (A7 j5 64 (A8 l))).map pt).dropLast++((v7 l8 (A7 j5 64 (A8 l)).reverse).map pt).dropLast:=by
    unfold v5 P0;rw[Tj,Xf,Xf]
   rw[e];refine tx ?_;have M:=congrArg List.length e;rw[SG,Ss] at M;unfold v5 at M;omega
 have J:j7 (one r8) (a6 (dL 4) a9) ⟨[.v row,.no,.no,.v (.lst ((A7 j5 64 (A8 l)).map pt)),.v (.lst ((v5 l).map pt))],fs⟩=some (.int ((v5 l).length:Int),⟨[.v row,.no,.no,.v (.lst ((A7 j5 64 (A8 l)).map pt)),.v (.lst ((v5 l).map pt))],fs⟩):=by
  refine F8 (x:=.lst ((v5 l).map pt)) rfl ?_;show some (D.int (((v5 l).map pt).length:Nat))=_;rw[Ss]
 refine n9 (s:=⟨[.v row,.no,.no,.v (.lst ((A7 j5 64 (A8 l)).map pt)),.v (.lst ((v5 l).map pt))],fs⟩) ?_;show qG iT (eP Q6) ⟨[.v row,.no,.no,.no,.no],fs⟩=_;unfold qG C3;rw[d8 U,d8 C];by_cases h:(v5 l).length<3
 .rw[tx h];refine N4 ?_;rw[E6 (u6 (Q5 J rfl (by rw[fU,SA (by omega)])))];rfl
 .rw[So h];rw[d8 (K0 (u6 (Q5 J rfl (by rw[fU,SF (by omega)]))))];rfl
structure Nx (S:Pt->Prop) (a b:Pt):Prop where
 ne:b≠a
 lf:∀q,S q->0<=c7 a b q
 far:∀q,S q->c7 a b q=0->∃s:Rat,0<=s/\s<=1/\q=u9 a b s
def gC {a b:Pt}(h:j5 a b=true):b≠a:=fun e=>by rw[e,lsB_ord.irr] at h;cases h
def Fj {a b:Pt}{s:Rat}(h:j5 a b=true) (U:1<s):j5 b (u9 a b s)=true:=by
 rw[Y3];have M:(u9 a b s).1 - b.1=(s - 1)*(b.1 - a.1):=by unfold u9;grind
 have J:(u9 a b s).2 - b.2=(s - 1)*(b.2 - a.2):=by unfold u9;grind
 rw[M,J];exact(dN (by grind)).mpr (Y7 h)
def PZ {a b:Pt}{s:Rat}(h:j5 a b=true) (U:s<0):j5 (u9 a b s) a=true:=by
 rw[Y3];have M:a.1 - (u9 a b s).1=(-s)*(b.1 - a.1):=by unfold u9;grind
 have J:a.2 - (u9 a b s).2=(-s)*(b.2 - a.2):=by unfold u9;grind
 rw[M,J];exact(dN (by grind)).mpr (Y7 h)
def qu {a b:Pt}(h:j5 a b=true) (h2:j5 b a=true):False:=by
 have:=lsB_ord.tr _ _ _ h h2;rw[lsB_ord.irr] at this;cases this
def Cw (S:Pt->Prop) (a b:Pt):Prop:=(∀q,S q->q=b\/j5 q b=true)\/∃c,0<c7 a b c/\∀q,S q->0<=c7 b c q
def Pz {S:Pt->Prop}{a b:Pt}{r:vT_}(C:Ch S (b::a::r)) (U:Cw S a b) (B:r=[]->∀q,S q->q=a\/j5 a q=true):Nx S a b:=by
 obtain⟨M,L,T,R⟩:=C;refine⟨gC M,L,fun q J Z=>?_⟩;obtain⟨s,rfl⟩:=ik (fun e=>gC M e.symm) Z;refine⟨s,Uh.mp fun W=>?_,Uh.mp fun W=>?_,rfl⟩
 .have lo:=PZ M W;cases r with
  |nil=>
   rcases B rfl _ J with e | e
   .rw[e,lsB_ord.irr] at lo;cases lo
   .exact qu lo e
  |cons z Y=>
   have t:=T z Y rfl;have k:=R.2.1 _ J;have e:c7 z a (u9 a b s)=s*c7 z a b:=by unfold c7 u9;grind
   rw[e] at k;have:=SE (show 0 < -s by grind) t;grind
 .have hi:=Fj M W;rcases U with U | ⟨w,t,k⟩
  .rcases U _ J with e | e
   .rw[e,lsB_ord.irr] at hi;cases hi
   .exact qu hi e
  .have k:=k _ J;have e:c7 b w (u9 a b s) = -((s - 1)*c7 a b w):=by unfold c7 u9;grind
   rw[e] at k;have:=SE (show 0<s - 1 by grind) t;grind
def R0 (R:Pt->Pt->Prop):List Pt->Prop
 |a::b::r=>R a b/\R0 R (b::r)
 |_=>True
theorem BK {R:Pt->Pt->Prop}:∀{l:vT_}{b:Pt},R0 R (l++[b])->R b c->R0 R (l++[b]++[c])
 |[],b,_,h=>⟨h,trivial⟩
 |[a],b,⟨h1,_⟩,h=>⟨h1,h,trivial⟩
 |a::a'::l,b,⟨h1,h2⟩,h=>⟨h1,BK (l:=a'::l) h2 h⟩
theorem Cr {S:Pt->Prop}:∀(r:vT_) (b:Pt),Ch S (b::r)->(∀a r',r=a::r'->Cw S a b)->(∀p,(b::r).getLast? = some p->∀q,S q->q=p\/j5 p q=true)->R0 (Nx S) (b::r).reverse
 |[],b,_,_,_=>trivial
 |a::r,b,C,U,B=>by
  have n:=Pz C (U a r rfl) (fun e=>by subst e;exact B a rfl);have J:=Cr r a C.2.2.2 (fun z r' e=>.inr ⟨b,C.2.2.1 z r' e,C.2.1⟩) (fun p e=>B p (by rw[Wh];exact e));rw[UH] at J;rw[UH,UH];exact BK J n
def yy {l:vT_}(h:P8 j5 (p::l)):R0 (Nx fun q=>q∈p::l) (v7 l8 (p::l)):=by
 obtain⟨s,_,J⟩:=qL h;unfold v7;cases e:M0 l8 [] (p::l) with
 |nil=>exact absurd e J
 |cons b r=>
  rw[e] at s;exact Cr r b s.ch (fun a M _=>.inl (s.top b r rfl)) s.bot
def uJ {l:vT_}(h:P8 j5 (p::l)):(v7 l8 (p::l)).head? = some p:=by
 obtain⟨_,e,_⟩:=qL h;unfold v7;rw[List.head?_reverse];exact e
theorem Bl {α:Type}{t:α->α->α->Bool}:∀(l acc:List α) (x:α),(M0 t acc (l++[x])).head? = some x
 |[],acc,x=>rfl
 |y::l,acc,x=>Bl l _ x
def uO {l:vT_}:(v7 l8 (l++[x])).getLast? = some x:=by
 unfold v7;rw[List.getLast?_reverse];exact Bl l [] x
def ng (p:Pt):Pt:=(-p.1,-p.2)
def dh (p:Pt):ng (ng p)=p:=SU (by unfold ng;grind) (by unfold ng;grind)
def nV (a b c:Pt):c7 (ng a) (ng b) (ng c)=c7 a b c:=by unfold c7 ng;grind
def qw (a b c:Pt):l8 (ng a) (ng b) (ng c)=l8 a b c:=by unfold l8;rw[nV]
def zj (a b:Pt):j5 (ng a) (ng b)=j5 b a:=by
 rw[Ua,Y3,Y3];have M:(ng b).1 - (ng a).1=a.1 - b.1:=by unfold ng;grind
 have J:(ng b).2 - (ng a).2=a.2 - b.2:=by unfold ng;grind
 rw[M,J]
def Eu (a b:Pt) (s:Rat):ng (u9 a b s)=u9 (ng a) (ng b) s:=SU (by unfold ng u9;grind) (by unfold ng u9;grind)
def NR {S:Pt->Prop}{a b:Pt}(h:Nx (fun q=>S (ng q)) (ng a) (ng b)):Nx S a b:=by
 refine⟨fun e=>h.ne (by rw[e]),fun q J=>?_,fun q J c=>?_⟩
 .rw[<-nV];exact h.lf (ng q) (by rw[dh];exact J)
 .rw[<-nV] at c;obtain⟨s,h1,h2,e⟩:=h.far (ng q) (by rw[dh];exact J) c;refine⟨s,h1,h2,?_⟩;rw[<-Eu] at e;rw[<-dh q,e,dh]
theorem xZ {R J:Pt->Pt->Prop}{f:Pt->Pt}(h:∀a b,R (f a) (f b)->J a b):∀{l:vT_},R0 R (l.map f)->R0 J l
 |[],_=>trivial
 |[a],_=>trivial
 |a::b::r,⟨h1,h2⟩=>⟨h a b h1,xZ (l:=b::r) h h2⟩
theorem Dk {R J:Pt->Pt->Prop}(h:∀a b,R a b->J a b):∀{l:vT_},R0 R l->R0 J l
 |[],_=>trivial
 |[a],_=>trivial
 |a::b::r,⟨h1,h2⟩=>⟨h a b h1,Dk (l:=b::r) h h2⟩
def Nx.sub {S M:Pt->Prop}{a b:Pt}(h:Nx S a b) (e:∀q,M q->S q):Nx M a b:=⟨h.ne,fun q J=>h.lf q (e q J),fun q J=>h.far q (e q J)⟩
def qx {l:vT_}(h:P8 j5 l):P8 j5 (l.reverse.map ng):=by
 refine XW.mpr ?_;have:l.reverse.Pairwise fun a b=>j5 b a=true:=YW.mpr h
 exact this.imp fun {a b} e=>by rw[zj];exact e
def Eh {l:vT_}(h:P8 j5 l):R0 (Nx fun q=>q∈l) (v7 l8 l.reverse):=by
 have U:=qx h;have e:v7 l8 (l.reverse.map ng)=(v7 l8 l.reverse).map ng:=iI (f:=ng) qw l.reverse;have m:∀q,q∈l->ng q∈l.reverse.map ng:=fun q M=>VT (Wf.mpr M)
 cases w:l.reverse.map ng with
 |nil=>
  have:l=[]:=by simpa using w
  subst this;trivial
 |cons p r=>
  rw[w] at U;have R:=yy U;rw[<-w,e] at R;exact xZ (fun a b J=>NR (J.sub fun q M=>by have z:=m _ M;rw[dh] at z;exact z)) R
def Kx {a b:Pt}(h:b≠a) {s:Rat}(e:b=u9 a b s):s=1:=by
 unfold u9 at e;have U:b.1=a.1+s*(b.1 - a.1):=congrArg Prod.fst e;have M:b.2=a.2+s*(b.2 - a.2):=congrArg Prod.snd e;by_cases z:b.1 - a.1=0
 .have J:b.2 - a.2≠0:=fun w=>h (SU (by grind) (by grind))
  have:(s - 1)*(b.2 - a.2)=0:=by grind
  rcases Td.mp this with q | q
  .grind
  .exact absurd q J
 .have:(s - 1)*(b.1 - a.1)=0:=by grind
  rcases Td.mp this with q | q
  .grind
  .exact absurd q z
def Hy (a b:Pt) (s t:Rat):u9 a (u9 a b s) t=u9 a b (t*s):=by
 unfold u9;exact SU (by grind) (by grind)
def CN (a b c:Pt):c7 a c b = -c7 a b c:=by unfold c7;grind
def Fh {S:Pt->Prop}{a b c:Pt}(hb:S b) (M:S c) (h1:Nx S a b) (h2:Nx S a c):b=c:=by
 have k1:=h1.lf c M;have k2:=h2.lf b hb;have e:=CN a b c;have U:c7 a b c=0:=by grind
 have z2:c7 a c b=0:=by grind
 obtain⟨s,Y,s1,es⟩:=h1.far c M U;obtain⟨t,t0,Z,W⟩:=h2.far b hb z2;have q:b=u9 a b (t*s):=by rw[<-Hy,<-es];exact W
 have q:=Kx h1.ne q;have J:s=1:=by
  have a1:t*s<=1*s:=YX Z Y;grind
 rw[es,J,gs]
theorem yD :∀{l m:vT_},R0 R (l++[x])->R0 R (x::m)->R0 R (l++x::m)
 |[],m,_,h=>h
 |[a],m,⟨h1,_⟩,h=>⟨h1,h⟩
 |a::b::l,m,⟨h1,h2⟩,h=>⟨h1,yD (l:=b::l) h2 h⟩
theorem cF {R:Pt->Pt->Prop}:∀{l:vT_}{i:Nat}{a b:Pt},R0 R l->l[i]? = some a->l[i+1]? = some b->R a b
 |[],i,a,b,_,h,_=>by simp at h
 |[c],i,a,b,_,_,h=>by simp at h
 |c::d::r,0,a,b,⟨h1,_⟩,e1,e2=>by simp at e1 e2;subst e1;subst e2;exact h1
 |c::d::r,i+1,a,b,⟨_,h2⟩,e1,e2=>cF (l:=d::r) h2 (by simpa using e1) (by simpa using e2)
structure Rnd (S:Pt->Prop) (p:Pt) (C:vT_):Prop where
 hd:C.head? = some p
 run:R0 (Nx S) (C++[p])
 mem:∀z∈C,S z
 nb:∀i,0<i->C[i]? ≠ some p
def Rnd.nodup {C:vT_}(h:Rnd S p C):C.Nodup:=by
 have sp:S p:=h.mem p (YY h.hd);have U:∀i a,(C++[p])[i]? = some a->S a:=fun i a e=>by
  rcases SM.mp (TX e) with z | z
  .exact h.mem a z
  .rw[SJ.mp z];exact sp
 have M:∀(t i j:Nat),i<j->j+t<=C.length->(C++[p])[i]? = (C++[p])[j]? -> (C++[p])[i+t]? = (C++[p])[j+t]?:=by
  intro t;induction t with
  |zero=>intro i j _ _ e;exact e
  |succ t Z=>
   intro i j J hl e;have e':=Z i j J (by omega) e;have l:(C++[p]).length=C.length+1:=by simp
   obtain⟨a,ha⟩:∃a,(C++[p])[j+t]? = some a:=⟨_,Tf (by omega)⟩
   obtain⟨b,hb⟩:∃b,(C++[p])[j+t+1]? = some b:=⟨_,Tf (by omega)⟩
   obtain⟨c,hc⟩:∃c,(C++[p])[i+t+1]? = some c:=⟨_,Tf (by omega)⟩
   have Y:=cF h.run ha hb;have r2:=cF h.run (e'.trans ha) hc;have:=Fh (U _ _ hb) (U _ _ hc) Y r2;show (C++[p])[i+t+1]? = (C++[p])[j+t+1]?;rw[hb,hc,this]
 refine Yo.mpr fun i j hi W J e=>?_
 have e:C[i]? = C[j]?:=by rw[Tf hi,Tf W,e]
 have g:∀k,k<C.length->(C++[p])[k]? = C[k]?:=fun k hk=>Us hk
 have s:=M (C.length - j) i j J (by omega) (by rw[g i (by omega),g j W];exact e);rw[show j+(C.length - j)=C.length by omega,Uk (Su _),Wg,g _ (by omega)] at s;exact h.nb (i+(C.length - j)) (by omega) s
theorem Dj {α:Type}[DecidableEq α]:∀{L M:List α},L.Nodup->(∀z∈L,z∈M)->L.length<=M.length
 |[],M,_,_=>TR _
 |a::L,M,nd,h=>by
  obtain⟨W,Y⟩:=Tu.mp nd;have U:=h a (SR ..);have Z:=Dj (M:=M.erase a) Y fun z J=>(List.mem_erase_of_ne (fun e=>W (by rw[<-e];exact J))).mpr (h z (SK _ J))
  rw[List.length_erase_of_mem U] at Z;have:0<M.length:=Yp U;rw[SW];omega
def Rnd.len {l C:vT_}(h:Rnd (fun q=>q∈l) p C):C.length<=l.length:=Dj h.nodup h.mem
def qh {α:Type}{l:List α}{x:α}(h:l.getLast? = some x):l.dropLast++[x]=l:=by
 obtain⟨m,rfl⟩:=YZ.mp h;simp
def La {α:Type}{l:List α}{x:α}(h:l.head? = some x) (h2:2<=l.length):l.dropLast.head? = some x:=by
 match l,h2 with
 |a::b::r,_=>simpa using h
theorem Bj :∀{acc:vT_},Ch S acc->acc.Pairwise fun b a=>j5 a b=true
 |[],_=>List.Pairwise.nil
 |[b],_=>YU _ _
 |b::a::r,⟨ab,_,_,R⟩=>by
  have J:=Bj R;refine Ug.mpr ⟨fun z M=>?_,J⟩;rcases Sv.mp M with q | q
  .exact q▸ab
  .exact lsB_ord.tr _ _ _ ((Ug.mp J).1 z q) ab
def xA {l:vT_}(h:P8 j5 (p::l)):P8 j5 (v7 l8 (p::l)):=YW.mpr (Bj (qL h).1.ch)
def jl {l:vT_}(hl:l.length<2 ^ 20) {r:vT_}(e:J0 l=p::r) (hr:r≠[]):Rnd (fun q=>q∈l) p (v5 l):=by
 have M:=mz hl;rw[e] at M;obtain⟨m,x,rx⟩:∃m x,r=m++[x]:=by
  obtain⟨x,hx⟩:∃x,r.getLast? = some x:=by
   cases q:r.getLast? with
   |none=>exact absurd (List.getLast?_eq_none_iff.mp q) hr
   |some x=>exact⟨x,rfl⟩
  obtain⟨m,q⟩:=YZ.mp hx;exact⟨m,x,q⟩
 have el:p::r=(p::m)++[x]:=by rw[rx];rfl
 have W:(p::r).reverse=x::(p::m).reverse:=by rw[el];simp
 have px:∀z∈r,j5 p z=true:=(Ug.mp M).1;have xr:x∈r:=by rw[rx];simp
 have Y:∀z,z∈l↔z∈p::r:=fun z=>by rw[<-rowP_in,e]
 have Z:v5 l=(v7 l8 (p::r)).dropLast++(v7 l8 (p::r).reverse).dropLast:=by
  unfold v5 P0;show (v7 l8 (J0 l)).dropLast++(v7 l8 (J0 l).reverse).dropLast=_;rw[e]
 have R1:=yy M;have R2:=Eh M;have H1:=uJ M;have L1:(v7 l8 (p::r)).getLast? = some x:=by rw[el];exact uO
 have L2:(v7 l8 (p::r).reverse).getLast? = some p:=by rw[UH];exact uO
 have H2:(v7 l8 (p::r).reverse).head? = some x:=by
  have J:=qx M;have q:v7 l8 ((p::r).reverse.map ng)=(v7 l8 (p::r).reverse).map ng:=iI (f:=ng) qw _;rw[W,SN] at J;have b:=uJ J;rw[<-SN,<-W,q,List.head?_map] at b;cases w:(v7 l8 (p::r).reverse).head? with
  |none=>rw[w] at b;cases b
  |some y=>
   rw[w] at b;have:ng y=ng x:=Tb b;rw[<-dh y,this,dh]
 have n1:2<=(v7 l8 (p::r)).length:=by
  match w:v7 l8 (p::r),H1,L1 with
  |[],h,_=>cases h
  |[a],h1,h2=>
   simp at h1 h2;exact absurd (h2▸h1▸rfl:x=p) (gC (px x xr))
  |a::b::c,_,_=>simp
 have mem1:∀z∈v7 l8 (p::r),z∈p::r:=fun z U=>nD U
 have mem2:∀z∈v7 l8 (p::r).reverse,z∈p::r:=fun z U=>Wf.mp (nD U)
 have cp:v5 l++[p]=(v7 l8 (p::r)).dropLast++v7 l8 (p::r).reverse:=by rw[Z,Ul,qh L2]
 refine⟨?_,?_,fun z U=>pE U,fun i hi q=>?_⟩
 .rw[Z,List.head?_append,La H1 n1];rfl
 .rw[cp];cases w:v7 l8 (p::r).reverse with
  |nil=>rw[w] at H2;cases H2
  |cons y m2=>
   rw[w] at H2;have:y=x:=by simpa using H2
   subst this;refine Dk (R:=Nx fun q=>q∈p::r) (fun a b h=>Nx.sub h fun q hq=>(Y q).mp hq) (yD (by rw[qh L1];exact R1) (by rw[<-w];exact R2))
 .have S1:=xA M;have S2:(v7 l8 (p::r).reverse).Pairwise fun a b=>j5 b a=true:=by
   have J:=qx M;have q:v7 l8 ((p::r).reverse.map ng)=(v7 l8 (p::r).reverse).map ng:=iI (f:=ng) qw _;rw[W,SN] at J;have b:=xA J;rw[<-SN,<-W,q] at b;exact(XW.mp b).imp fun {a c} z=>by rw[zj] at z;exact z
  rw[<-qh L2] at S2;have B:∀z∈(v7 l8 (p::r).reverse).dropLast,z≠p:=fun z U w=>gC ((Yn.mp S2).2.2 z U p (by simp)) w
  have A:∀j,0<j->(v7 l8 (p::r)).dropLast[j]? ≠ some p:=fun j hj w=>by
   cases c:v7 l8 (p::r) with
   |nil=>rw[c] at H1;cases H1
   |cons a t=>
    rw[c] at H1 w S1;have ap:a=p:=by simpa using H1
    have m:p∈t:=by
     have w2:(a::t)[j]? = some p:=by
      rw[List.getElem?_dropLast] at w;split at w
      .exact w
      .cases w
     cases j with
     |zero=>omega
     |succ j=>exact TX (by simpa using w2)
    exact gC ((Ug.mp S1).1 p m) ap.symm
  rw[Z] at q;by_cases hi2:i<(v7 l8 (p::r)).dropLast.length
  .rw[Us hi2] at q;exact A i hi q
  .rw[Uk (by omega)] at q;exact B p (TX q) rfl
end T
namespace DL
open PySem L2
structure Ok (k n:Nat) (d:D):Prop where
 pl:d.plain=true
 sh:d.py.showable=true
 la:d.py.canLay0=true
 dp:d.py.depth<=k
 le:d.py.leavesShort 1921=true
 bu:d.py.bulk<=n
structure OkL (k n:Nat) (ds:vD_):Prop where
 pl:D.plains ds=true
 sh:PyData.showableAll (D.pys ds)=true
 la:PyData.canLayAll0 (D.pys ds)=true
 dp:PyData.depthAll (D.pys ds)<=k
 le:PyData.leavesShortAll 1921 (D.pys ds)=true
 bu:PyData.bulkAll (D.pys ds)<=n
def Ok.mono {k n k' J:Nat}(h:Ok k n d) (hk:k<=k') (M:n<=J):Ok k' J d:=⟨h.pl,h.sh,h.la,SI h.dp hk,h.le,SI h.bu M⟩
def OkL.mono {k n k' J:Nat}{ds:vD_}(h:OkL k n ds) (hk:k<=k') (M:n<=J):OkL k' J ds:=⟨h.pl,h.sh,h.la,SI h.dp hk,h.le,SI h.bu M⟩
theorem Ok.non:Ok 0 0 .non:=⟨rfl,rfl,rfl,Su _,rfl,Su _⟩
theorem Ok.bl (b:Bool):Ok 0 0 (.bl b):=⟨rfl,rfl,rfl,Su _,rfl,Su _⟩
theorem Ok.int {i:Int}(h:Bd 1920 i):Ok 0 0 (.int i):=by
 have hl:i.natAbs.log2<1920:=gK (by decide) h;refine⟨rfl,?_,rfl,Su _,?_,Su _⟩
 .simp only[D.py,PyData.showable];exact SA hl
 .simp only[D.py,PyData.leavesShort,PyData.shown];exact SA (Jq hl)
theorem Ok.str {x:Str}(h:PyData.strOk x=true):Ok 0 x.length (.str x):=by
 refine⟨rfl,rfl,?_,Su _,?_,Su _⟩
 .simp only[D.py,PyData.canLay0];exact h
 .exact PyData.leavesShort_of_canLay0 1921 (.str x) (by simp only[PyData.canLay0];exact h) rfl
def OkL.nil:OkL 0 0 []:=⟨rfl,rfl,rfl,Su _,rfl,Su _⟩
def OkL.cons {k l n m:Nat}{ds:vD_}(h:Ok k n d) (J:OkL l m ds):OkL (max k l) (n+1+m) (d::ds):=by
 refine⟨?_,?_,?_,?_,?_,?_⟩
 .simp only[D.plains,h.pl,J.pl,UR]
 .simp only[D.pys,PyData.showableAll,h.sh,J.sh,UR]
 .simp only[D.pys,PyData.canLayAll0,h.la,J.la,UR]
 .have:=h.dp;have:=J.dp;simp only[D.pys,PyData.depthAll];omega
 .simp only[D.pys,PyData.leavesShortAll,h.le,J.le,UR]
 .have:=h.bu;have:=J.bu;simp only[D.pys,PyData.bulkAll];omega
theorem Ok.tup {k n:Nat}{ds:vD_}(h:OkL k n ds):Ok (k+1) n (.tup ds):=by
 refine⟨?_,?_,?_,?_,?_,?_⟩
 .simp only[D.plain,h.pl]
 .simp only[D.py,PyData.showable,h.sh]
 .simp only[D.py,PyData.canLay0,h.la]
 .have:=h.dp;simp only[D.py,PyData.depth];omega
 .simp only[D.py,PyData.leavesShort,h.le]
 .have:=h.bu;simp only[D.py,PyData.bulk];omega
theorem Ok.lst {k n:Nat}{ds:vD_}(h:OkL k n ds):Ok (k+1) n (.lst ds):=by
 refine⟨?_,?_,?_,?_,?_,?_⟩
 .simp only[D.plain,h.pl]
 .simp only[D.py,PyData.showable,h.sh]
 .simp only[D.py,PyData.canLay0,h.la]
 .have:=h.dp;simp only[D.py,PyData.depth];omega
 .simp only[D.py,PyData.leavesShort,h.le]
 .have:=h.bu;simp only[D.py,PyData.bulk];omega
theorem OkL.all {k n:Nat}:∀{ds:vD_},(∀d∈ds,Ok k n d)->OkL k (ds.length*(n+1)) ds
 |[],_=>OkL.nil.mono (by omega) (by omega)
 |d::r,h=>by
  have:=(OkL.cons (h d (SR ..)) (OkL.all (ds:=r) fun x J=>h x (SK _ J)))
  refine this.mono (by omega) ?_;rw[SW,Nat.add_mul,Nat.one_mul];omega
def Ok.show {k n:Nat}(h:Ok k n d) (hk:k<=64:=by decide) (J:n<=8000:=by decide):bV d=true:=by
 have e:=PyData.shown_le_bulk 1921 (by decide) d.py h.le;have M:(1921+2)*d.py.bulk<=1923*8000:=Nat.mul_le_mul (by decide) (SI h.bu J);have:d.py.shown.length<=sizeLine:=by rw[Wq];omega
 simp only[bV,h.pl,h.sh,h.la,WR,Bool.and_true,SA this,SA (SI h.dp hk)]
def Ok.eq {k n:Nat}(h:Ok k n d) (hk:k<=64:=by decide):L5 d=true:=by
 simp only[L5,h.pl,SeqAt.shaped,h.la,WR,SA (SI h.dp hk)]
def Ok.repr {k n:Nat}(h:Ok k n d) (hk:k<=64:=by decide) (J:n<=8000:=by decide):T6 d=some (.str d.py.shown):=Iz (h.show hk J)
theorem Ok.fr {k:Nat}{p:Rat}(h:Sz k p) (hk:k<=1920:=by decide):Ok 1 2 (fr p):=Ok.tup ((OkL.cons (Ok.int (h.num.mono hk)) (OkL.cons (Ok.int (h.den.mono hk)) OkL.nil)))
theorem Ok.pt {k:Nat}(h:Ps k a) (hk:k<=1920:=by decide):Ok 1 3 (pt a):=Ok.tup ((OkL.cons (Ok.int (h.x.mono hk)) (OkL.cons (Ok.int (h.y.mono hk)) (OkL.cons (Ok.int (h.l.mono hk)) OkL.nil))))
def oP (x:Str):B4 (.str x) (.str x)=some (.bl false):=by rw[GX];simp
def bF (ds:vD_) (i:Int):b0 (.tup ds) (.int i)=v8 ds i:=rfl
def U6 (ds:vD_) (i:Int):b0 (.lst ds) (.int i)=v8 ds i:=rfl
def iL (p:Rat):b0 (DL.fr p) (.int 0)=some (.int p.num):=rfl
def lW (p:Rat):b0 (DL.fr p) (.int 1)=some (.int p.den):=rfl
def T3 (a:Pt):b0 (DL.pt a) (.int 0)=some (.int (pX a)):=rfl
def U4 (a:Pt):b0 (DL.pt a) (.int 1)=some (.int (pY a)):=rfl
def K4 (a:Pt):b0 (DL.pt a) (.int 2)=some (.int (pL a)):=rfl
def Rr {a b:Pt}(h1:pX a=pX b) (h2:pY a=pY b) (h3:pL a=pL b):a=b:=by
 have J:=N5 a;have U:=N5 b;have M:=N8 a;have W:=N8 b
 have n:=M7 b;rw[h1,h3] at J;rw[h2,h3] at M;exact SU (by grind) (by grind)
def Ar {k l:Nat}{a b:Pt}(ha:Ps k a) (hb:Ps l b) (hk:k<=1920:=by decide) (hl:l<=1920:=by decide):B4 (pt a) (pt b)=some (.bl (!decide (a=b))):=by
 have M:=(Ok.pt ha hk).eq;have J:=(Ok.pt hb hl).eq;unfold pt at *;simp only[B4,M,J,UR,TB,D.py,D.pys,PyData.eqv,PyData.eqvAll,Yb,Bool.and_true];congr 3;rw[Ua];simp only[TK,TH];constructor
 .rintro⟨h1,h2,h3⟩;exact Rr h1 h2 h3
 .rintro rfl;exact⟨rfl,rfl,rfl⟩
end DL
namespace T
open PySem L2 DL
def ke {k:Nat}{a b:Pt}(ha:PtS k a) (hb:PtS k b):Sz (8*k+5) (dsq a b):=
 (((ha.1.sub hb.1).mul (ha.1.sub hb.1)).add ((ha.2.sub hb.2).mul (ha.2.sub hb.2))).mono (by omega)
def JV (r:Rat):decide (i8 r<0)=decide (r<0):=by
 unfold i8;by_cases h:0<r
 .rw[tx h,SF (by decide),SF (by grind)]
 .rw[So h];by_cases h2:r<0
  .rw[tx h2,SA h2];rfl
  .rw[So h2,SF h2];rfl
def wD (x y:Rat):decide ((x + -y).num<0)=decide (x<y):=by
 rw[Ua,TH,TH];have hd:(0:Rat)<(((x + -y).den:Int):Rat):=TF.mpr (cV _);have e:=aI (x + -y);have c:((x + -y).num<0)↔(((x + -y).num:Rat)<0):=by
  rw[show (0:Rat)=((0:Int):Rat) from rfl,VY]
 rw[c,e];constructor
 .intro h;by_cases z:x<y
  .exact z
  .have:0<=(x + -y)*(((x + -y).den:Int):Rat):=Tr (by grind) (Te hd);grind
 .intro h;have:0 < -(x + -y)*(((x + -y).den:Int):Rat):=SE (by grind) hd;grind
abbrev pA:a8:=sP LS LP F4 LX
abbrev Z5:a8:=xv LS F4 pA S7
def OK (h b o:Pt) (fs:vO_) (J:PtS 300 h) (M:PtS 300 b) (U:PtS 300 o):Z5 [pt h,pt b,pt o] fs=some (.bl (R6 h b o),fs):=by
 have t:=gp h b o fs J.ps M.ps U.ps (by decide);have q1:=pR h b fs J.x J.y M.x M.y (by decide);have q2:=pR h o fs J.x J.y U.x U.y (by decide);have m:=X7 (dsq h o) fs;have s:=V5 (dsq h b) (-dsq h o) fs (ke J M) (ke J U).neg (by decide);refine n9 (s:=⟨[.v (pt h),.v (pt b),.v (pt o),.v (.int (i8 (c7 h b o)))],fs⟩) ?_;show lH LS F4 pA S7 ⟨[.v (pt h),.v (pt b),.v (pt o),.no],fs⟩=_;unfold lH;rw[d8 (s1:=⟨[.v (pt h),.v (pt b),.v (pt o),.v (.int (i8 (c7 h b o)))],fs⟩) (k6 (i7 rfl t) rfl)];unfold R6;by_cases c:c7 h b o=0
 .have z:i8 (c7 h b o)=0:=(kM _).mpr c;rw[tx c,d8 (K0 (s1:=⟨[.v (pt h),.v (pt b),.v (pt o),.v (.int (i8 (c7 h b o)))],fs⟩) (u6 (c6 rfl rfl ((aZ _ 0).trans (by rw[SA z];rfl)))))];exact p9 (c6 (c6 (i7 (A0 (i7 rfl q1) (A0 (i7 (A0 (i7 rfl q2) rfl) m) rfl)) s) rfl (iL _)) rfl (congrArg (fun b=>some (D.bl b)) (wD _ _)))
 .have z:¬ i8 (c7 h b o)=0:=fun e=>c ((kM _).mp e)
  rw[So c];refine N4 ?_;rw[E6 (s1:=⟨[.v (pt h),.v (pt b),.v (pt o),.v (.int (i8 (c7 h b o)))],fs⟩) (u6 (c6 rfl rfl ((aZ _ 0).trans (by rw[SF z];rfl))))];exact p9 (c6 rfl rfl (congrArg (fun b=>some (D.bl b)) (JV _)))
def aJ (a q:Pt):Pt:=if j5 q a then q else a
theorem nY:∀(l:vT_) (S:vT_) (a:Pt),a∈S->(∀q∈S,Lst a q)->(l.foldl aJ a)∈S++l/\∀q∈S++l,Lst (l.foldl aJ a) q
 |[],S,a,h1,h2=>by rw[Tt];exact⟨h1,h2⟩
 |o::r,S,a,h1,h2=>by
  have e:S++o::r=(S++[o])++r:=by simp
  rw[e,TY];unfold aJ;by_cases c:j5 o a=true
  .rw[tx c];have W:=(Y3 o a).mp c;refine nY r (S++[o]) o (Ts _ (SJ.mpr rfl)) fun q J=>?_
   rcases SM.mp J with J | J
   .rcases h2 q J with rfl | J
    .exact .inr W
    .refine .inr ?_;have:=tG J W;have U:q.1 - a.1+(a.1 - o.1)=q.1 - o.1:=by grind
     have M:q.2 - a.2+(a.2 - o.2)=q.2 - o.2:=by grind
     rwa [U,M] at this
   .exact .inl (SJ.mp J)
  .rw[So c];refine nY r (S++[o]) a (Ui _ h1) fun q J=>?_
   rcases SM.mp J with J | J
   .exact h2 q J
   .rw[SJ.mp J];by_cases z:o=a
    .exact .inl z
    .have n:¬ (a.1 - o.1=0/\a.2 - o.2=0):=fun ⟨u,v⟩=>z (SU (by grind) (by grind))
     rcases IQ _ _ n with t | t
     .exact absurd ((Y3 o a).mpr t) c
     .refine .inr ?_;have U:-(a.1 - o.1)=o.1 - a.1:=by grind
      have M:-(a.2 - o.2)=o.2 - a.2:=by grind
      rwa [U,M] at t
def PL (l:vT_):Prop:=∀p∈l,PtS 300 p
def PL.tl {l:vT_}(h:PL (a::l)):PL l:=fun p hp=>h p (SK _ hp)
def PL.hd {l:vT_}(h:PL (a::l)):PtS 300 a:=h a (SR ..)
abbrev S0:a8:=Bf Z5 X3
theorem wt (U W J M:Sl) (fs:vO_):∀(l:vT_) (a:Pt) (x2:Sl),PL l->PtS 300 a->∃y2,C4 (d6 2) (ze Z5 X3) (l.map pt) ⟨[U,.v (pt a),x2,W,J,M],fs⟩=some (.next,⟨[U,.v (pt (l.foldl aJ a)),y2,W,J,M],fs⟩)
 |[],a,x2,_,_=>⟨x2,rfl⟩
 |o::r,a,x2,hl,ha=>by
  have t:=GP o a fs hl.hd.ps ha.ps (by decide);have Y:PtS 300 (aJ a o):=by unfold aJ;split;exact hl.hd;exact ha
  obtain⟨y2,e⟩:=wt U W J M fs r (aJ a o) (.v (pt o)) hl.tl Y;refine⟨y2,?_⟩;rw[SN,W9 (s1:=⟨[U,.v (pt a),.v (pt o),W,J,M],fs⟩) (s2:=⟨[U,.v (pt (aJ a o)),.v (pt o),W,J,M],fs⟩) rfl ?_,e,TY];unfold aJ;show j9 (w6 (c8 X3 (a6 (dV 2) (a6 (dV 1) a9)))) (d7 (dV 2) (d6 1)) k9 _=_;cases c:j5 o a with
  |true=>
   rw[c] at t;rw[E6 (V3 (i7 rfl t)),tx rfl];rfl
  |false=>
   rw[c] at t;rw[aL (V3 (i7 rfl t)),So Sy];rfl
def R5:Option Pt->D
 |none=>.non
 |some p=>pt p
theorem yh (M J U:Sl) (h:Pt) (sh:PtS 300 h) (fs:vO_):∀(l:vT_) (b:Option Pt) (x2:Sl),PL l->(∀r,b=some r->PtS 300 r)->∃y2,C4 (d6 2) (zU Z5 X3) (l.map pt) ⟨[M,J,x2,U,.v (pt h),.v (R5 b)],fs⟩=some (.next,⟨[M,J,y2,U,.v (pt h),.v (R5 (l.foldl (K7 h) b))],fs⟩)
 |[],b,x2,_,_=>⟨x2,rfl⟩
 |o::r,b,x2,hl,hb=>by
  have hn:∀q,K7 h b o=some q->PtS 300 q:=fun q W=>by
   by_cases e:o=h
   .rw[e,eK] at W;exact hb q W
   .cases b with
    |none=>rw[gc e] at W;cases W;exact hl.hd
    |some p=>
     cases f:R6 h p o with
     |true=>rw[gf e f] at W;cases W;exact hl.hd
     |false=>rw[fQ e f] at W;cases W;exact hb _ rfl
  obtain⟨y2,e⟩:=yh M J U h sh fs r (K7 h b o) (.v (pt o)) hl.tl hn;refine⟨y2,?_⟩;rw[SN,W9 (s1:=⟨[M,J,.v (pt o),U,.v (pt h),.v (R5 b)],fs⟩) (s2:=⟨[M,J,.v (pt o),U,.v (pt h),.v (R5 (K7 h b o))],fs⟩) rfl ?_,e,TY];have Y:dB (a7 B4 (dL 2) (dL 4)) ⟨[M,J,.v (pt o),U,.v (pt h),.v (R5 b)],fs⟩=some (!decide (o=h),⟨[M,J,.v (pt o),U,.v (pt h),.v (R5 b)],fs⟩):=u6 (c6 rfl rfl (Ar hl.hd.ps sh.ps));show j9 (w8 (dB (a7 B4 (dL 2) (dL 4))) (A5 (dB (a7 fN (dL 5) (dC .non))) (w6 (c8 Z5 (a6 (dV 4) (a6 (dV 5) (a6 (dV 2) a9))))))) (d7 (dV 2) (d6 5)) k9 _=_;by_cases Z:o=h
  .rw[SA Z] at Y;rw[aL (dW Y)];subst Z;rw[eK];rfl
  .rw[SF Z] at Y;cases b with
   |none=>
    rw[E6 (cW Y (iE (u6 (c6 rfl rfl rfl)))),gc Z];rfl
   |some p=>
    have t:=OK h p o fs sh (hb p rfl) hl.hd;have nn:dB (a7 fN (dL 5) (dC .non)) ⟨[M,J,.v (pt o),U,.v (pt h),.v (R5 (some p))],fs⟩=some (false,⟨[M,J,.v (pt o),U,.v (pt h),.v (R5 (some p))],fs⟩):=u6 (c6 rfl rfl rfl);cases f:R6 h p o with
    |true=>
     rw[f] at t;rw[E6 (cW Y (cz nn (V3 (i7 rfl t)))),gf Z f];rfl
    |false=>
     rw[f] at t;rw[aL (cW Y (cz nn (V3 (i7 rfl t)))),fQ Z f];rfl
abbrev D8 (l:vT_) (f:Pt) (x2:Sl) (fd:vT_) (h:Pt) (x5:Sl) (fs:vO_):DS:=⟨[.v (.lst (l.map pt)),.v (pt f),x2,.own (fd.map pt),.v (pt h),x5],fs⟩
def aF (l:vT_) (f:Pt) (n:Nat) (h:Pt):Pt:=match W5 h l with
 |none=>f
 |some p=>if l.length<n then f else p
def HZ {l:vT_}(e:W5 h l=some p):p∈l:=by
 have:∀(l:vT_) (b:Option Pt) (S:vT_),(∀q,b=some q->q∈S)->∀q,l.foldl (K7 h) b=some q->q∈S++l:=by
  intro l;induction l with
  |nil=>intro b S hb q M;rw[Tt];exact hb q M
  |cons o r U=>
   intro b S hb q M;rw[TY] at M;have:=U (K7 h b o) (S++[o]) (fun z J=>by
    by_cases e:o=h
    .rw[e,eK] at J;exact Ui _ (hb z J)
    .cases b with
     |none=>rw[gc e] at J;cases J;exact Ts _ (SJ.mpr rfl)
     |some p=>
      cases f:R6 h p o with
      |true=>rw[gf e f] at J;cases J;exact Ts _ (SJ.mpr rfl)
      |false=>rw[fQ e f] at J;cases J;exact Ui _ (hb _ rfl)) q M
   rw[Ul] at this;exact this
 have:=this l none [] (fun q M=>by cases M) p e
 rwa [Uv] at this
def xf {l:vT_}{fd:vT_}(x2 J:Sl) (fs:vO_) (hl:PL l) (hf:f∈l) (hh:h∈l) (W:fd.length<=100):∃y2 y5,du Z5 X3 (D8 l f x2 fd h J fs)=some (.next,D8 l f y2 (fd++[h]) (aF l f (fd.length+1) h) y5 fs):=by
 obtain⟨y2,e⟩:=yh (.v (.lst (l.map pt))) (.v (pt f)) (.own ((fd++[h]).map pt)) h (hl h hh) fs l none x2 hl (fun r U=>by cases U);have ap:(fd++[h]).map pt=fd.map pt++[pt h]:=by simp
 have Z:(fd.map pt).length<sizeLine:=TC (by rw[Ss];exact W) (show 100<sizeLine by decide);refine⟨y2,.v (R5 (W5 h l)),?_⟩;unfold du;rw[d8 (s1:=D8 l f x2 (fd++[h]) h J fs) (by unfold D8;rw[ap];exact Q2 (s1:=D8 l f x2 fd h J fs) rfl rfl rfl Z),
  d8 (s1:=D8 l f x2 (fd++[h]) h (.v (R5 none)) fs) (k6 rfl rfl),
  d8 ((cy (ds:=l.map pt) (s1:=D8 l f x2 (fd++[h]) h (.v (R5 none)) fs) rfl).trans e)]
 have Y:l.foldl (K7 h) none=W5 h l:=rfl;rw[Y];unfold aF;have lt:dB (a7 (j6 (fun i j=>decide (j<i))) (j7 (one r8) (a6 (dL 3) a9)) (j7 (one r8) (a6 (dL 0) a9))) (D8 l f y2 (fd++[h]) h (.v (R5 (W5 h l))) fs)=some (decide (l.length<fd.length+1),D8 l f y2 (fd++[h]) h (.v (R5 (W5 h l))) fs):=by
  have q:decide (((l.map pt).length:Int)<(((fd++[h]).map pt).length:Int))=decide (l.length<fd.length+1):=by
   rw[Ua,TH,TH,Ss,Ss,SG,Vu];omega
  rw[<-q];exact u6 (c6 (F8 (p:=r8) rfl rfl) (F8 (p:=r8) rfl rfl) rfl)
 cases hb:W5 h l with
 |none=>exact k6 ((aw (iE (u6 (c6 rfl rfl rfl)))).trans rfl) rfl
 |some p=>
  rw[hb] at lt;have M:dB (a7 fN (dL 5) (dC .non)) (D8 l f y2 (fd++[h]) h (.v (R5 (some p))) fs)=some (false,D8 l f y2 (fd++[h]) h (.v (R5 (some p))) fs):=u6 (c6 rfl rfl rfl);by_cases c:l.length<fd.length+1
  .rw[SA c] at lt;simp only[tx c];exact k6 ((aw (cz M lt)).trans rfl) rfl
  .rw[SF c] at lt;simp only[So c];exact k6 ((S5 (cz M lt)).trans rfl) rfl
def yC {fd:vT_}(h:PL fd):L5 (.lst (fd.map pt))=true:=(Ok.lst (OkL.all (k:=1) (n:=3) (ds:=fd.map pt) fun d hd=>by
 obtain⟨p,hp,rfl⟩:=Tg.mp hd;exact Ok.pt (h p hp).ps (by decide))).eq
def HJ {fd:vT_}(h:PL fd):w9 (.lst (fd.map pt)) (.lst [])=some (.bl (decide (fd=[]))):=by
 have e:PyData.eqv (D.py (.lst (fd.map pt))) (D.py (.lst []))=decide (fd=[]):=by
  cases fd with
  |nil=>rfl
  |cons d r=>simp[D.py,D.pys,PyData.eqv,PyData.eqvAll]
 have h2:L5 (.lst [])=true:=rfl;unfold w9;simp only[yC h,h2,UR,TB,e]
abbrev qj:DT:=A5 (dB (a7 B4 (dL 4) (dL 1))) (dB (a7 w9 (dL 3) (m6 (l7 a9))))
def jN {l:vT_}{fd:vT_}(x2 J:Sl) (fs:vO_) (hl:PL l) (hf:f∈l) (hh:h∈l) (hd:PL fd):qj (D8 l f x2 fd h J fs)=some (!decide (h=f)||decide (fd=[]),D8 l f x2 fd h J fs):=by
 have M:dB (a7 B4 (dL 4) (dL 1)) (D8 l f x2 fd h J fs)=some (!decide (h=f),D8 l f x2 fd h J fs):=u6 (c6 rfl rfl (Ar (hl h hh).ps (hl f hf).ps));cases c:(!decide (h=f)) with
 |true=>rw[c] at M;exact iE M
 |false=>
  rw[c] at M;rw[XF];exact cz M (u6 (c6 rfl (U0 rfl) (HJ hd)))
def IU {S:Pt->Prop}{a b p:Pt}(h:Nx S a b) (Y:S b) (sp:S p) (k1:0<=c7 a p b) (J:c7 a p b=0->dsq a b<=dsq a p):p=b:=by
 have k3:=h.lf p sp;have e:=CN a b p;have M:c7 a b p=0:=by grind
 have W:c7 a p b=0:=by grind
 obtain⟨s,U,s1,rfl⟩:=h.far p sp M;have d:=J W;rw[(Mx a b s).1] at d;have pos:=pU (a:=a) (b:=b) fun e=>h.ne e.symm
 have:s=1:=by
  by_cases q:s=1
  .exact q
  .have l1:s<1:=by grind
   have l2:s*s<=s*1:=Za s1 U;have l3:0<(1 - s)*dsq a b:=SE (by grind) pos;have Z:s*s*dsq a b<=s*dsq a b:=YX (by grind) (Te pos);grind
 rw[this,gs]
def Cj {l:vT_}{a b:Pt}(n:Nx (fun q=>q∈l) a b) (hb:b∈l) (F:fH a l (W5 a l)):W5 a l=some b:=by
 rcases F with ⟨_,h⟩ | ⟨p,e,h1,h2,h3⟩
 .exact absurd (h b hb) n.ne
 .rw[e,IU n hb h1 (h3 b hb).1 (h3 b hb).2]
def NK {l:vT_}{a b:Pt}(hl:∀q∈l,Lst a q) (n:Nx (fun q=>q∈l) a b) (hb:b∈l):W5 a l=some b:=by
 refine Cj n hb ?_;have:=lJ l [] none (by simpa using hl) (.inl ⟨rfl,fun q J=>by cases J⟩);simpa [W5] using this
def E8 (g h q:Pt):Pt:=(c7 g h q,-((h.1 - g.1)*(q.1 - h.1)+(h.2 - g.2)*(q.2 - h.2)))
def BG (g h a b c:Pt):c7 (E8 g h a) (E8 g h b) (E8 g h c)=dsq g h*c7 a b c:=by unfold c7 E8 dsq c7;grind
def gJ (g h a b:Pt):dsq (E8 g h a) (E8 g h b)=dsq g h*dsq a b:=by unfold dsq E8 c7;grind
section
variable {g h:Pt}(n:h≠g)
include n
theorem qz:0<dsq g h:=pU fun e=>n e.symm
theorem Cg {a b:Pt}(e:E8 g h a=E8 g h b):a=b:=by
 have k:=qz n;have d:dsq g h*dsq a b=0:=by rw[<-gJ,e];exact lB _
 by_cases q:a=b
 .exact q
 .have:=SE k (pU q);grind
theorem xR (a b c:Pt):R6 (E8 g h a) (E8 g h b) (E8 g h c)=R6 a b c:=by
 have k:=qz n;unfold R6;rw[BG,gJ,gJ];have i1:dsq g h*c7 a b c=0↔c7 a b c=0:=by
  constructor
  .intro z;rcases Td.mp z with q | q
   .grind
   .exact q
  .intro z;rw[z,UA]
 have i2:(dsq g h*dsq a b<dsq g h*dsq a c)↔dsq a b<dsq a c:=VZ k;have J:(dsq g h*c7 a b c<0)↔c7 a b c<0:=by
  have:=VZ (a:=c7 a b c) (b:=0) k
  rwa [UA] at this
 by_cases z:c7 a b c=0
 .rw[tx (i1.mpr z),tx z,Ua,TH,TH];exact i2
 .rw[So (fun w=>z (i1.mp w)),So z,Ua,TH,TH];exact J
theorem RF (a:Pt) (b:Option Pt) (o:Pt):K7 (E8 g h a) (b.map (E8 g h)) (E8 g h o)=(K7 a b o).map (E8 g h):=by
 by_cases e:o=a
 .subst e;rw[eK,eK]
 .have e':E8 g h o≠E8 g h a:=fun z=>e (Cg n z)
  cases b with
  |none=>rw[Option.map_none,gc e',gc e];rfl
  |some r=>
   rw[XH];cases f:R6 a r o with
   |true=>rw[gf e' (by rw[xR n];exact f),gf e f];rfl
   |false=>rw[fQ e' (by rw[xR n];exact f),fQ e f];rfl
theorem AV (a:Pt):∀(l:vT_) (b:Option Pt),(l.map (E8 g h)).foldl (K7 (E8 g h a)) (b.map (E8 g h))=(l.foldl (K7 a) b).map (E8 g h)
 |[],b=>rfl
 |o::r,b=>by rw[SN,TY,TY,RF n,AV a r]
end
def Om {l:vT_}{g h b:Pt}(U:Nx (fun q=>q∈l) g h) (N2:Nx (fun q=>q∈l) h b) (hb:b∈l):W5 h l=some b:=by
 have n:=U.ne;have k:=qz n;have F:=lJ (f:=E8 g h h) (l.map (E8 g h)) [] none (fun q J=>by
  rw[Uv] at J;obtain⟨z,hz,rfl⟩:=Tg.mp J;by_cases e:z=h
  .exact .inl (by rw[e])
  .right;have e0:E8 g h h=(0,0):=SU (fM g h) (by show -((h.1 - g.1)*(h.1 - h.1)+(h.2 - g.2)*(h.2 - h.2))=0;grind);rw[e0];have c:=U.lf z hz;have s1:(E8 g h z).1 - (0:Rat)=c7 g h z:=by unfold E8;grind
   unfold C7;rw[s1];by_cases Y:c7 g h z=0
   .right;refine⟨Y,?_⟩;obtain⟨s,s0,s1,W⟩:=U.far z hz Y;have sn:s≠1:=fun w=>e (by rw[W,w,gs])
    have q:(E8 g h z).2 - (0:Rat)=(1 - s)*dsq g h:=by
     rw[W];unfold E8 dsq u9;grind
    rw[q];exact SE (by grind) k
   .left;grind) (.inl ⟨rfl,fun q J=>by cases J⟩)
 rw[Uv] at F;have tb:=AV n h l none;rw[Option.map_none] at tb;rw[tb] at F;refine Cj N2 hb ?_;show fH h l (l.foldl (K7 h) none);rcases F with ⟨e,F⟩ | ⟨p,e,h1,h2,h3⟩
 .refine .inl ⟨?_,fun q J=>Cg n (F _ (VT J))⟩;cases w:l.foldl (K7 h) none with
  |none=>rfl
  |some z=>rw[w] at e;cases e
 .cases w:l.foldl (K7 h) none with
  |none=>rw[w] at e;cases e
  |some z=>
   rw[w] at e;have ep:E8 g h z=p:=Tb e;subst ep;refine .inr ⟨z,rfl,HZ (h:=h) w,fun q=>h2 (by rw[q]),fun q J=>?_⟩;obtain⟨a1,M⟩:=h3 _ (VT J);rw[BG] at a1 M;rw[gJ,gJ] at M;refine⟨Uh.mp fun Z=>?_,fun Z=>Uh.mp fun y=>?_⟩
   .have:=SE k (show 0 < -c7 h z q by grind);grind
   .have a3:=M (by rw[Z,UA]);have:=(VZ k).mpr y;grind
def Mw {l C:vT_}(fs:vO_) (hl:PL l) (W:l.length<=90) (R:Rnd (fun q=>q∈l) f C):∀(m i:Nat) (h:Pt) (x2 x5:Sl),C.length - i=m->1<=i->i<=C.length->(C++[f])[i]? = some h ->
  ∃y2 y5,F7 qj (du Z5 X3) (D8 l f x2 (C.take i) h x5 fs)=some (.next,D8 l f y2 C f y5 fs):=by
 have sf:f∈l:=R.mem f (YY R.hd);have hC:=R.len;have J:∀i a,(C++[f])[i]? = some a->a∈l:=fun i a e=>by
  rcases SM.mp (TX e) with z | z
  .exact R.mem a z
  .rw[SJ.mp z];exact sf
 have M:∀i,PL (C.take i):=fun i p hp=>hl p (R.mem p (Wd hp))
 have ne:∀i,1<=i->i<=C.length->C.take i≠[]:=fun i h1 h2 e=>by
  have:=congrArg List.length e;rw[Tp,UJ] at this;omega
 intro m;induction m with
 |zero=>
  intro i h x2 x5 hm h1 h2 e;have ei:i=C.length:=by omega
  subst ei;rw[Uk (Su _),Wg] at e;have:h=f:=by simpa using e.symm
  subst this;rw[Vw];have t:=jN x2 x5 fs hl sf sf (fun p hp=>hl p (R.mem p hp)) (fd:=C);rw[SA rfl,SF (fun z=>by rw[z] at h1;simp at h1)] at t;exact⟨x2,x5,W0 t⟩
 |succ m ih=>
  intro i h x2 x5 hm h1 h2 e;have hh:=J i h e;have hi:i<C.length:=by omega
  have U:C[i]? = some h:=by rw[<-Us (l₂:=[f]) hi];exact e
  have Z:h≠f:=fun z=>R.nb i (by omega) (by rw[U,z])
  have t:=jN x2 x5 fs hl sf hh (M i);rw[SF Z] at t;obtain⟨y2,y5,it⟩:=xf x2 x5 fs hl sf hh (fd:=C.take i) (by rw[Tp];omega);have ll:(C++[f]).length=C.length+1:=by simp
  obtain⟨g,hg⟩:∃g,(C++[f])[i - 1]? = some g:=⟨_,Tf (by omega)⟩
  obtain⟨b,hb⟩:∃b,(C++[f])[i+1]? = some b:=⟨_,Tf (by omega)⟩
  have N1:=cF R.run hg (show (C++[f])[i - 1+1]? = some h by rw[show i - 1+1=i by omega];exact e);have N2:=cF R.run e hb;have nx:aF l f ((C.take i).length+1) h=b:=by
   unfold aF;rw[Om N1 N2 (J _ _ hb)];exact So (by rw[Tp];omega)
  have tk:C.take i++[h]=C.take (i+1):=by rw[List.take_succ,U];rfl
  rw[nx,tk] at it;obtain⟨z2,Y,w⟩:=ih (i+1) b y2 y5 (by omega) (by omega) (by omega) hb;exact⟨z2,Y,X8 t it w⟩
def EY {l fd:vT_}(fs:vO_):f9 (u4 (dB (a7 (j6 (fun i j=>decide (j<i))) (j7 (one r8) (a6 (dL 3) a9)) (Zf 2))) (j7 (one S8) (a6 (dL 3) a9)) (dC .non)) (D8 l f y2 fd f y5 fs)=some (.ret (if fd.length<3 then .non else .tup (fd.map pt)),D8 l f y2 fd f y5 fs):=by
 have J:dB (a7 (j6 (fun i j=>decide (j<i))) (j7 (one r8) (a6 (dL 3) a9)) (Zf 2)) (D8 l f y2 fd f y5 fs)=some (decide ((2:Int)<(fd.length:Int)),D8 l f y2 fd f y5 fs):=by
  have:=u6 (c6 (p:=j6 (fun i j=>decide (j<i))) (s:=D8 l f y2 fd f y5 fs) (F8 (p:=r8) (a:=dL 3) (x:=.lst (fd.map pt)) rfl rfl) (b:=Zf 2) rfl rfl);rw[this,Ss]
 by_cases h:fd.length<3
 .rw[tx h];rw[SF (by omega)] at J;exact p9 ((S5 J).trans rfl)
 .rw[So h];rw[SA (by omega)] at J;exact p9 ((aw J).trans (F8 rfl rfl))
def Bx {l:vT_}(fs:vO_) (hl:PL l) (l1:1<=l.length) (l40:l.length<=90):S0 [.lst (l.map pt)] fs=some (C3 l,fs):=by
 obtain⟨a0,h0⟩:∃a0,l[0]? = some a0:=⟨_,Tf (by omega)⟩
 have m0:=TX h0;obtain⟨Y,e1⟩:=wt (.v (.lst (l.map pt))) .no .no .no fs l a0 .no hl (hl a0 m0);obtain⟨o1,o2⟩:=nY l [a0] a0 (SJ.mpr rfl) (fun q M=>.inl (SJ.mp M));generalize l.foldl aJ a0=f at *;have hf:f∈l:=by
  rcases SM.mp o1 with z | z
  .rw[SJ.mp z];exact m0
  .exact z
 have lst:∀q∈l,Lst f q:=fun q M=>o2 q (Ts _ M)
 have t1:=jN (fd:=[]) Y .no fs hl hf hf (fun q M=>by cases M);rw[SA (rfl:([]:vT_)=[]),Bool.or_true] at t1;obtain⟨z2,z5,i1⟩:=xf (fd:=[]) Y .no fs hl hf hf (by decide);have ix:b0 (.lst (l.map pt)) (.int 0)=some (pt a0):=(U6 _ _).trans (by
  rw[Bw (by decide) (by rw[Ss];omega)];show (l.map pt)[0]? = _;rw[TM,h0];rfl)
 have l20:l.length<2 ^ 20:=by omega
 have hs:=mz l20;obtain⟨fd,u2,u5,W,ed⟩:∃fd u2 u5,F7 qj (du Z5 X3) (D8 l f Y [] f .no fs)=some (.next,D8 l f u2 fd f u5 fs)/\(if fd.length<3 then D.non else .tup (fd.map pt))=C3 l:=by
  cases Z:J0 l with
  |nil=>
   have:=rowP_in.mpr hf;rw[Z] at this;cases this
  |cons p r=>
   rw[Z] at hs;have pf:p=f:=by
    have fm:=rowP_in.mpr hf;rw[Z] at fm;have pm:p∈l:=rowP_in.mp (by rw[Z];simp);rcases Sv.mp fm with q | q
    .exact q.symm
    .have c:=(Ug.mp hs).1 f q;rcases lst p pm with w | w
     .exact w
     .exact(qu c ((Y3 f p).mpr w)).elim
   subst pf;by_cases hr:r=[]
   .subst hr;have one:∀q∈l,q=p:=fun q M=>by
     have:=rowP_in.mpr M;rw[Z] at this;simpa using this
    have bn:W5 p l=none:=by
     have F:=lJ l [] none (by simpa using lst) (.inl ⟨rfl,fun q M=>by cases M⟩);rw[Uv] at F;rcases F with ⟨e,_⟩ | ⟨q,_,h2,h3,_⟩
     .exact e
     .exact absurd (one q h2) h3
    have nx:aF l p 1 p=p:=by unfold aF;rw[bn]
    have i1':du Z5 X3 (D8 l p Y [] p .no fs)=some (.next,D8 l p z2 [p] p z5 fs):=by rw[i1];show some (Fl.next,D8 l p z2 [p] (aF l p 1 p) z5 fs)=_;rw[nx]
    have t2:=jN (fd:=[p]) z2 z5 fs hl hf hf (fun q M=>by rw[SJ.mp M];exact hl p hf);rw[SA rfl,SF (by simp)] at t2;refine⟨[p],z2,z5,X8 t1 i1' (W0 t2),?_⟩;have hh:v5 l=[]:=by
     unfold v5 P0;show (v7 l8 (J0 l)).dropLast++(v7 l8 (J0 l).reverse).dropLast=[];rw[Z];rfl
    unfold C3;rw[hh];rfl
   .have R:=jl l20 Z hr;have ll:(v5 l++[p]).length=(v5 l).length+1:=by simp
    have U:(v5 l)[0]? = some p:=by rw[<-Zb];exact R.hd
    have J:0<(v5 l).length:=(Tn.mp U).1;obtain⟨b,hb⟩:∃b,(v5 l++[p])[1]? = some b:=⟨_,Tf (by omega)⟩
    have N:=cF R.run (show (v5 l++[p])[0]? = some p by rw[Us J];exact U) hb;have bl:b∈l:=by
     rcases SM.mp (TX hb) with z | z
     .exact R.mem b z
     .rw[SJ.mp z];exact hf
    have nx:aF l p 1 p=b:=by unfold aF;rw[NK lst N bl];exact So (by omega)
    have tk:(v5 l).take 1=[p]:=by
     cases w:v5 l with
     |nil=>rw[w] at J;cases J
     |cons c cs=>rw[w] at U;simp at U;subst U;rfl
    have i1':du Z5 X3 (D8 l p Y [] p .no fs)=some (.next,D8 l p z2 ((v5 l).take 1) b z5 fs):=by rw[i1,tk];show some (Fl.next,D8 l p z2 [p] (aF l p 1 p) z5 fs)=_;rw[nx]
    obtain⟨u2,u5,w⟩:=Mw fs hl l40 R _ 1 b z2 z5 rfl (Su _) J hb;exact⟨v5 l,u2,u5,X8 t1 i1' w,rfl⟩
 refine n9 (s:=D8 l f u2 fd f u5 fs) ?_;show nF Z5 X3 ⟨[.v (.lst (l.map pt)),.no,.no,.no,.no,.no],fs⟩=_;unfold nF;rw[d8 (s1:=⟨[.v (.lst (l.map pt)),.v (pt a0),.no,.no,.no,.no],fs⟩) (k6 (c6 rfl rfl ix) rfl),
  d8 ((cy (ds:=l.map pt) (s1:=⟨[.v (.lst (l.map pt)),.v (pt a0),.no,.no,.no,.no],fs⟩) rfl).trans e1),
  d8 (s1:=⟨[.v (.lst (l.map pt)),.v (pt f),Y,.own [],.no,.no],fs⟩) (Q7 (s1:=⟨[.v (.lst (l.map pt)),.v (pt f),Y,.no,.no,.no],fs⟩) rfl (show 3<6 by decide)),
  d8 (s1:=D8 l f Y [] f .no fs) (k6 rfl rfl),d8 W,EY,ed]
def QG {S:Pt->Prop}{a b c d:Pt}(W:S a) (U:S b) (N:Nx S c d) {s:Rat}(h0:0<s) (h1:s<1) (ab:b≠a) (e:c=u9 a b s):False:=by
 have k1:=N.lf a W;have k2:=N.lf b U;have q:(1 - s)*c7 c d a+s*c7 c d b=0:=by
  rw[e];unfold c7 u9;grind
 have p1:0<=(1 - s)*c7 c d a:=Tr (by grind) k1;have p2:0<=s*c7 c d b:=Tr (by grind) k2;have z1:(1 - s)*c7 c d a=0:=by grind
 have z2:s*c7 c d b=0:=by grind
 have c1:c7 c d a=0:=by
  rcases Td.mp z1 with w | w
  .grind
  .exact w
 have c2:c7 c d b=0:=by
  rcases Td.mp z2 with w | w
  .grind
  .exact w
 obtain⟨u,u0,u1,J⟩:=N.far a W c1;obtain⟨v,v0,v1,M⟩:=N.far b U c2;have dn:=N.ne;have x1:(1 - s)*(a.1 - c.1)+s*(b.1 - c.1)=0:=by rw[e];unfold u9;grind
 have x2:(1 - s)*(a.2 - c.2)+s*(b.2 - c.2)=0:=by rw[e];unfold u9;grind
 have y1:((1 - s)*u+s*v)*(d.1 - c.1)=0:=by
  have:=congrArg Prod.fst J;have t:=congrArg Prod.fst M
  unfold u9 at this t;simp only at this t;grind
 have Z:((1 - s)*u+s*v)*(d.2 - c.2)=0:=by
  have:=congrArg Prod.snd J;have t:=congrArg Prod.snd M
  unfold u9 at this t;simp only at this t;grind
 have w0:(1 - s)*u+s*v=0:=by
  rcases Td.mp y1 with w | w
  .exact w
  .rcases Td.mp Z with w' | w'
   .exact w'
   .exact absurd (SU (by grind) (by grind)) dn
 have g1:0<=(1 - s)*u:=Tr (by grind) u0;have g2:0<=s*v:=Tr (by grind) v0;have Y:u=0:=by
  have:(1 - s)*u=0:=by grind
  rcases Td.mp this with w | w
  .grind
  .exact w
 have v':v=0:=by
  have:s*v=0:=by grind
  rcases Td.mp this with w | w
  .grind
  .exact w
 rw[Y,gh] at J;rw[v',gh] at M;exact ab (M.trans J.symm)
def RW {S:Pt->Prop}{a b c d:Pt}(U:S a) (M:S b) (J:S c) (N:Nx S a b) (Y:Nx S c d) (Z:c≠a) (W:c≠b):0<c7 a b c:=by
 have k:=N.lf c J;by_cases z:c7 a b c=0
 .obtain⟨s,s0,s1,e⟩:=N.far c J z;have n0:s≠0:=fun w=>Z (by rw[e,w,gh])
  have n1:s≠1:=fun w=>W (by rw[e,w,gs])
  exact(QG U M Y (by grind) (by grind) N.ne e).elim
 .grind
end T
namespace DL
open PySem L2
def sW (ds:vD_) (n:Nat) (h:n<=ds.length):E5 ds none (some (n:Int))=ds.take n:=by
 unfold E5 HT.sIx;have h1:¬ (n:Int)<0:=by omega
 simp only[h1,Tz,VP,UO,UG];rw[Vg h]
def rB (ds:vD_) (n:Nat) (h:n<=ds.length):E5 ds (some (n:Int)) none=ds.drop n:=by
 unfold E5 HT.sIx;have h1:¬ (n:Int)<0:=by omega
 simp only[h1,Tz,UG];rw[Vg h];exact Xg (by rw[Tq];omega)
theorem vG {idx:List Nat}{fe:DE}{g:D->D}(caps:List Sl) (fs:vO_):∀(ds:vD_),(∀d∈ds,∃s,fe ⟨.v d::caps,fs⟩=some (g d,s)/\s.fs=fs)->C2 (fun d=>some (.v d::caps)) E3 fe ds fs=some (ds.map g,fs)
 |[],_=>rfl
 |d::r,h=>by
  obtain⟨s,e,q⟩:=h d (SR ..);have M:=vG (idx:=idx) caps fs r fun x J=>h x (SK _ J)
  simp[C2,E3,e,q,M]
def p8 {α:Type}(c:Bool) (l:List α):List (α × α):=l.zip (if c then l.drop 1++l.take 1 else l.drop 1)
def eV (p:D × D):D:=.tup [p.1,p.2]
def mZ:D->Pt
 |.tup [.int x,.int y,.int d]=>(Rat.divInt x d,Rat.divInt y d)
 |_=>(0,0)
def iH {α β:Type}(f:α->β) (c:Bool) (l:List α):p8 c (l.map f)=(p8 c l).map fun p=>(f p.1,f p.2):=by
 unfold p8;cases c
 .simp only[Ux,Tz];rw[<-VD,List.zip_map];rfl
 .simp only[TB];rw[<-VD,<-Wb,<-Tj,List.zip_map];rfl
def aU {α:Type}(c:Bool) (l:List α):(p8 c l).length<=l.length:=by
 unfold p8;rw[Xh];exact WK ..
def eB {α:Type}{l:List α}{p:α × α}(h:p∈p8 c l):p.1∈l/\p.2∈l:=by
 unfold p8 at h;obtain⟨h1,h2⟩:=Vr (a:=p.1) (b:=p.2) h;refine⟨h1,?_⟩;cases c
 .simp only[Ux,Tz] at h2;exact We h2
 .simp only[TB] at h2;rcases SM.mp h2 with h | h
  .exact We h
  .exact Wd h
theorem gM:∀(xs ys:vD_),List.zipWith jc xs ys=(xs.zip ys).map eV
 |[],_=>by simp
 |_::_,[]=>by simp
 |x::xs,y::ys=>by
  rw[YK,List.zip_cons_cons,SN,gM xs ys];rfl
def wu (a:Pt):mZ (pt a)=a:=by
 show (Rat.divInt (pX a) (pL a),Rat.divInt (pY a) (pL a))=a;rw[T.px_div,T.py_div]
def lo (c:Bool):Nat:=if c then 3 else 2
def hi (c:Bool):Nat:=if c then 8 else 9
def nj (ds:vD_):E5 ds (some 1) none=ds.drop 1:=by
 cases ds with
 |nil=>rfl
 |cons d r=>exact rB (d::r) 1 (by simp)
def pV (ds:vD_):E5 ds none (some 1)=ds.take 1:=by
 cases ds with
 |nil=>rfl
 |cons d r=>exact sW (d::r) 1 (by simp)
end DL
namespace T
open PySem L2 DL
def ya (ds:vD_) (c:Bool) (fs:vO_) (hl:ds.length+1<=sizeLine):az [.tup ds,.bl c] fs=some (.lst ((p8 c ds).map eV),fs):=by
 refine n9 (s:=⟨[.v (.tup ds),.v (.bl c)],fs⟩) ?_;show cU ⟨[.v (.tup ds),.v (.bl c)],fs⟩=_;have h1:ds.length - 1+min 1 ds.length<=sizeLine:=by omega
 cases c
 .simp[cU,c9,B8,d7,a7,m8,dC,Zf,Zg,dL,dV,d6,j9,dB,f9,c8,a6,a9,i9,k9,j7,one,m6,l7,u4,w8,A5,B0,D4,D6,D2,m9,u7,o7,j6,r8,y9,t9,A3,B5,w6,D0,bF,U6,iL,lW,T3,U4,K4,J6,K9,L6,V7,cn,aO,nj,p8,gM]
 .simp[cU,c9,B8,d7,a7,m8,dC,Zf,Zg,dL,dV,d6,j9,dB,f9,c8,a6,a9,i9,k9,j7,one,m6,l7,u4,w8,A5,B0,D4,D6,D2,m9,u7,o7,j6,r8,y9,t9,A3,B5,w6,D0,bF,U6,iL,lW,T3,U4,K4,J6,K9,L6,V7,cn,aO,nj,pV,p8,gM,h1]
abbrev gj:a8:=vR az
def Lx (ds:vD_) (c:Bool) (fs:vO_) (hl:ds.length+1<=sizeLine):gj [.tup [.bl c,.tup ds]] fs=some (.tup ((p8 c ds).map eV),fs):=by
 refine n9 (s:=⟨[.v (.tup [.bl c,.tup ds])],fs⟩) ?_;show kT az ⟨[.v (.tup [.bl c,.tup ds])],fs⟩=_;have e:=ya ds c fs hl;simp[kT,c9,B8,d7,a7,m8,dC,Zf,Zg,dL,dV,d6,j9,dB,f9,c8,a6,a9,i9,k9,j7,one,m6,l7,u4,w8,A5,B0,D4,D6,D2,m9,u7,o7,j6,r8,y9,t9,A3,B5,w6,D0,bF,U6,iL,lW,T3,U4,K4,bO,cE,e,S8]
end T
namespace DL
open PySem L2
def tj {α:Type}(c:Bool) (l:List α):(p8 c l).length=l.length - 1+(if c then min 1 l.length else 0):=by
 unfold p8;cases c
 .show (l.zip (l.drop 1)).length=l.length - 1+0;rw[Xh,Tq,VQ (Nat.sub_le ..)];rfl
 .show (l.zip (l.drop 1++l.take 1)).length=l.length - 1+min 1 l.length;rw[Xh,SG,Tq,Tp];exact VQ (by omega)
end DL
namespace T
open PySem L2 DL
def yc (r s:Int):DL.pt ((r:Rat),(s:Rat)) = .tup [.int r,.int s,.int 1]:=by
 have e:Nat.lcm (r:Rat).den (s:Rat).den=1:=by simp
 unfold pt pX pY pL;rw[e];simp
def MQ {f:DA}{s s1:DS}{ds:vD_}(h:f s=some (ds,s1)) (hz:ds.length<=sizeLine):l7 f s=some (ds,s1):=by
 unfold l7;rw[h,SH,tx hz]
def wU {l:vT_}(h:l.length<2 ^ 20):(v5 l).length<=l.length:=by
 cases J:J0 l with
 |nil=>
  have:v5 l=[]:=by
   unfold v5 P0;show (v7 l8 (J0 l)).dropLast++(v7 l8 (J0 l).reverse).dropLast=[];rw[J];rfl
  rw[this];exact TR _
 |cons p r=>
  by_cases M:r=[]
  .have:v5 l=[]:=by
    unfold v5 P0;show (v7 l8 (J0 l)).dropLast++(v7 l8 (J0 l).reverse).dropLast=[];rw[J,M];rfl
   rw[this];exact TR _
  .exact(jl h J M).len
def Kf {l m:vT_}(h1:l.length<2 ^ 20) (h2:m.length<2 ^ 20) (h:∀z,z∈l↔z∈m):v5 l=v5 m:=by
 unfold v5 P0;show (v7 l8 (J0 l)).dropLast++(v7 l8 (J0 l).reverse).dropLast=(v7 l8 (J0 m)).dropLast++(v7 l8 (J0 m).reverse).dropLast;rw[RD h1 h2 h]
def pM {l m:vT_}(h1:l.length<2 ^ 20) (h2:m.length<2 ^ 20) (h:∀z,z∈l↔z∈m):C3 l=C3 m:=by
 unfold C3;rw[Kf h1 h2 h]
def tk (l:vT_) (i:Nat):Pt:=(l[i % l.length]?).getD (0,0)
def qM {l:vT_}{i:Nat}(h:0<l.length):l[i % l.length]? = some (tk l i):=by
 unfold tk;rw[Tf (Uz _ h)];rfl
def Y2 {l:vT_}{i:Nat}(h:i<l.length):l[i]? = some (tk l i):=by
 have:=qM (l:=l) (i:=i) (by omega)
 rwa [Vn h] at this
def Q3 {l:vT_}(i:Nat) (h:0<l.length):tk l i∈l:=TX (qM (i:=i) h)
def Dv {l:vT_}(h:0<l.length) {i:Nat}(hi:i<=l.length):(l++[tk l 0])[i]? = some (tk l i):=by
 rcases Nat.lt_or_eq_of_le hi with w | w
 .rw[Us w,Y2 w]
 .subst w;rw[Uk (Su _),Wg];show some (tk l 0)=_;unfold tk;rw[Yq,Nat.zero_mod]
def Ni {n i m:Nat}(hi:i<n) (J:m<n):∃j,j<n/\(i+j) % n=m:=by
 by_cases h:i<=m
 .exact⟨m - i,by omega,by rw[show i+(m - i)=m by omega,Vn J]⟩
 .refine⟨m+n - i,by omega,?_⟩;rw[show i+(m+n - i)=m+n by omega,UW,Vn J]
def G3 {l:vT_}(i:Nat):tk l (i % l.length)=tk l i:=by unfold tk;rw[Nat.mod_mod]
def vV {l:vT_}(e:J0 l=[p]):v5 l=[]:=by
 unfold v5 P0;show (v7 l8 (J0 l)).dropLast++(v7 l8 (J0 l).reverse).dropLast=[];rw[e];rfl
def qI {l:vT_}(h:0<l.length):∃p r,J0 l=p::r:=by
 cases e:J0 l with
 |cons p r=>exact⟨p,r,rfl⟩
 |nil=>
  have:=rowP_in.mpr (Q3 (l:=l) 0 h);rw[e] at this;cases this
section
variable {S:Pt->Prop}{p:Pt}{C:vT_}(R:Rnd S p C)
include R
theorem S4:0<C.length:=by
 have:=R.hd;cases C with
 |nil=>cases this
 |cons a r=>simp
theorem Ga:tk C 0=p:=by
 have:=R.hd;rw[Zb,Y2 (S4 R)] at this;exact Tb this
theorem fF (k:Nat):Nx S (tk C k) (tk C (k+1)):=by
 have h0:=S4 R;have hk:=Uz k h0;have run:=R.run;rw[<-Ga R] at run;have:=cF run (Dv h0 (UZ hk)) (Dv h0 hk);rw[G3] at this;have e:tk C (k % C.length+1)=tk C (k+1):=by rw[<-G3,Wi,G3]
 rw[e] at this;exact this
theorem Ji {i j:Nat}(w:tk C i=tk C j):i % C.length=j % C.length:=by
 have h0:=S4 R;have U:∀i j,i<C.length->j<C.length->tk C i=tk C j->i=j:=fun i j hi J w=>by
  have Y:=R.nodup;have W:=Y2 hi;have M:=Y2 J;rw[Tf hi] at W;rw[Tf J] at M;rcases Nat.lt_trichotomy i j with q | q | q
  .exact absurd ((Tb W).trans (w.trans (Tb M).symm)) (Yo.mp Y i j hi J q)
  .exact q
  .exact absurd ((Tb M).trans (w.symm.trans (Tb W).symm)) (Yo.mp Y j i J hi q)
 exact U _ _ (Uz _ h0) (Uz _ h0) (by rw[G3,G3];exact w)
theorem pZ {k j:Nat}(h1:0<j) (h2:j<C.length):tk C (k+j)≠tk C k:=fun w=>by
 have h0:=S4 R;have:=Ji R w;rw[<-Wi] at this;have hk:=Uz k h0;by_cases c:k % C.length+j<C.length
 .rw[Vn c] at this;omega
 .rw[Nat.mod_eq_sub_mod (by omega),Vn (by omega)] at this;omega
theorem kq (k:Nat) {j:Nat}(h1:2<=j) (h2:j<C.length):0<c7 (tk C k) (tk C (k+1)) (tk C (k+j)):=by
 have h0:=S4 R;have m:∀i,S (tk C i):=fun i=>R.mem _ (Q3 i h0)
 refine RW (m _) (m _) (m _) (fF R k) (fF R (k+j)) (pZ R (by omega) h2) ?_;have:=pZ R (k:=k+1) (j:=j - 1) (by omega) (by omega)
 rwa [show k+1+(j - 1)=k+j by omega] at this
theorem mQ (W:q∈C) (k:Nat):∃j,j<C.length/\q=tk C (k+j):=by
 have h0:=S4 R;obtain⟨m,M⟩:=Xi W;have J:=(Tn.mp M).1;obtain⟨j,Y,U⟩:=Ni (i:=k % C.length) (m:=m) (Uz _ h0) J;refine⟨j,Y,?_⟩;rw[Wi] at U;rw[<-G3,U];have:=Y2 J;rw[M] at this;exact Tb this
end
theorem wF (φ:Pt->Rat):∀(C:vT_),C≠[]->∃c∈C,∀x∈C,φ x<=φ c
 |[],h=>absurd rfl h
 |[a],_=>⟨a,by simp,fun x J=>by rw[SJ.mp J];exact TJ⟩
 |a::b::r,_=>by
  obtain⟨c,M,h⟩:=wF φ (b::r) (by simp);by_cases q:φ a<=φ c
  .exact⟨c,SK _ M,fun x J=>by
    rcases Sv.mp J with e | e
    .rw[e];exact q
    .exact h x e⟩
  .have q:φ c<=φ a:=by grind
   exact⟨a,SR ..,fun x J=>by
    rcases Sv.mp J with e | e
    .rw[e];exact TJ
    .exact Rat.le_trans (h x e) q⟩
def D5 (a b c:Rat) (q:Pt):Rat:=a*q.1+b*q.2+c
def yT (S:Pt->Prop) (v:Pt):Prop:=∃a b c:Rat,∀q,S q->q≠v->D5 a b c q<D5 a b c v
def Hq {S:Pt->Prop}{p v:Pt}{C:vT_}(R:Rnd S p C) (h3:3<=C.length) (Z:S v) (E:yT S v):v∈C:=by
 obtain⟨a,b,c,E⟩:=E;have h0:=S4 R;obtain⟨m,J,W⟩:=wF (D5 a b c) C (fun w=>by rw[w] at h0;cases h0);by_cases q:m=v
 .exact q▸J
 .have lt:=E m (R.mem m J) q;obtain⟨k,hk,e⟩:=mQ R J 0;rw[Ur] at e;have N1:=fF R k;have Y:=fF R (k+(C.length - 1));have e2:tk C (k+(C.length - 1)+1)=tk C k:=by
   rw[show k+(C.length - 1)+1=k+C.length by omega,<-G3,UW,G3]
  rw[e2] at Y;have D:=kq R k (j:=C.length - 1) (by omega) (by omega);have f1:=W _ (Q3 (l:=C) (k+1) h0);have f2:=W _ (Q3 (l:=C) (k+(C.length - 1)) h0);have M:=N1.lf v Z;have U:=Y.lf v Z;rw[<-e] at M U D;generalize tk C (k+1)=d at *;generalize tk C (k+(C.length - 1))=g at *;have id1:c7 m d g*(D5 a b c v - D5 a b c m)=c7 g m v*(D5 a b c d - D5 a b c m)+c7 m d v*(D5 a b c g - D5 a b c m):=by
   unfold c7 D5;grind
  have p1:0<c7 m d g*(D5 a b c v - D5 a b c m):=SE D (by grind);have p2:0<=c7 g m v*(D5 a b c m - D5 a b c d):=Tr U (by grind);have p3:0<=c7 m d v*(D5 a b c m - D5 a b c g):=Tr M (by grind);grind
def FP {l:vT_}(hl:l.length<2 ^ 20) {a b c:Pt}(ha:a∈l) (hb:b∈l) (Y:c∈l) (h:c7 a b c≠0):3<=(v5 l).length:=by
 have h0:0<l.length:=Yp ha;obtain⟨p,r,e⟩:=qI h0;have Z:r≠[]:=fun w=>by
  have M:∀q∈l,q=p:=fun q hq=>by
   have:=rowP_in.mpr hq;rw[e,w] at this;simpa using this
  rw[M a ha,M b hb,M c Y] at h;exact h (cS p p)
 have R:=jl hl e Z;have q0:=S4 R;have N:=fF R 0;have W:=fF R 1;rcases Xj (v5 l).length 3 with w | w
 .exfalso;have J:(v5 l).length=1\/(v5 l).length=2:=by omega
  rcases J with q | q
  .have:tk (v5 l) 1=tk (v5 l) 0:=by rw[<-G3 1,q]
   exact N.ne this
  .have e2:tk (v5 l) 2=tk (v5 l) 0:=by rw[<-G3 2,q]
   rw[e2] at W;generalize tk (v5 l) 0=x at *;rw[Ur] at N;generalize tk (v5 l) 1=y at *;have z:∀t∈l,c7 x y t=0:=fun t U=>by
    have k1:=N.lf t U;have k2:=W.lf t U;have:c7 y x t = -c7 x y t:=by unfold c7;grind
    grind
   exact h (MV N.ne (z a ha) (z b hb) (z c Y))
 .exact w
def RV {C:vT_}(R:Rnd S p C) (h3:3<=C.length) (k:Nat):∃a b c:Rat,D5 a b c (tk C k)=0/\∀j,0<j->j<C.length->D5 a b c (tk C (k+j))<0:=by
 have h0:=S4 R;have W:tk C (k+(C.length - 1)+1)=tk C k:=by
  rw[show k+(C.length - 1)+1=k+C.length by omega,<-G3,UW,G3]
 have M:∀j,2<=j->j<C.length->0<c7 (tk C k) (tk C (k+1)) (tk C (k+j)):=fun j a b=>kq R k a b
 have L2:∀j,0<j->j<C.length - 1->0<c7 (tk C (k+(C.length - 1))) (tk C k) (tk C (k+j)):=fun j a b=>by
  have:=kq R (k+(C.length - 1)) (j:=j+1) (by omega) (by omega);rw[W] at this;have Z:tk C (k+(C.length - 1)+(j+1))=tk C (k+j):=by
   rw[show k+(C.length - 1)+(j+1)=k+j+C.length by omega,<-G3,UW,G3]
  rwa [Z] at this
 generalize ev:tk C k=v at *;generalize en:tk C (k+1)=d at *;generalize U:tk C (k+(C.length - 1))=g at *;refine⟨(d.2 - v.2)+(v.2 - g.2),-((d.1 - v.1)+(v.1 - g.1)),-(((d.2 - v.2)+(v.2 - g.2))*v.1 - ((d.1 - v.1)+(v.1 - g.1))*v.2),by unfold D5;grind,fun j h1 h2=>?_⟩;have J:∀q:Pt,D5 ((d.2 - v.2)+(v.2 - g.2)) (-((d.1 - v.1)+(v.1 - g.1))) (-(((d.2 - v.2)+(v.2 - g.2))*v.1 - ((d.1 - v.1)+(v.1 - g.1))*v.2)) q = -(c7 v d q+c7 g v q):=fun q=>by unfold D5 c7;grind
 rw[J];have a1:0<=c7 v d (tk C (k+j)):=by
  rcases Xj j 2 with w | w
  .have:j=1:=by omega
   subst this;rw[en,fM];exact TJ
  .exact Te (M j w h2)
 have a2:0<=c7 g v (tk C (k+j)):=by
  rcases Xj j (C.length - 1) with w | w
  .exact Te (L2 j h1 w)
  .have:j=C.length - 1:=by omega
   subst this;rw[U,cS];exact TJ
 have Y:0<c7 v d (tk C (k+j))\/0<c7 g v (tk C (k+j)):=by
  rcases Xj j 2 with w | w
  .exact .inr (L2 j h1 (by omega))
  .exact .inl (M j w h2)
 rcases Y with w | w <;> grind
def Qm (a b c:Rat) (u w:Pt) (s:Rat):D5 a b c (u9 u w s)=(1 - s)*D5 a b c u+s*D5 a b c w:=by unfold D5 u9;grind
def xq (a b u w:Pt):Pt:=u9 u w (c7 a b u / (c7 a b u - c7 a b w))
def qO {a b u w:Pt}(h:c7 a b u*c7 a b w<0):∃s:Rat,0<s/\s<1/\xq a b u w=u9 u w s:=by
 refine⟨_,?_,?_,rfl⟩
 .by_cases p:0<c7 a b u
  .have n:c7 a b w<0:=by
    refine VE.mp fun z=>?_
    have:=Tr (Te p) z;grind
   rw[SD];exact SE p (UX.mpr (by grind))
  .have p':c7 a b u<=0:=by grind
   have J:c7 a b u≠0:=fun z=>by rw[z,UU] at h;exact absurd h (by decide +kernel)
   have n:0<c7 a b w:=by
    refine VE.mp fun z=>?_
    have:=Tr (show 0 <= -c7 a b u by grind) (show 0 <= -c7 a b w by grind);grind
   have e:c7 a b u / (c7 a b u - c7 a b w)=(-c7 a b u)*(c7 a b w - c7 a b u)⁻¹:=by
    have h1:c7 a b u - c7 a b w≠0:=by grind
    have h2:c7 a b w - c7 a b u≠0:=by grind
    rw[SD];grind
   rw[e];exact SE (by grind) (UX.mpr (by grind))
 .by_cases p:0<c7 a b u
  .have n:c7 a b w<0:=by
    refine VE.mp fun z=>?_
    have:=Tr (Te p) z;grind
   have hd:0<c7 a b u - c7 a b w:=by grind
   have e:1 - c7 a b u / (c7 a b u - c7 a b w)=(-c7 a b w)*(c7 a b u - c7 a b w)⁻¹:=by
    have h1:c7 a b u - c7 a b w≠0:=by grind
    rw[SD];grind
   have:=SE (show 0 < -c7 a b w by grind) (UX.mpr hd);rw[<-e] at this;grind
  .have p':c7 a b u<=0:=by grind
   have J:c7 a b u≠0:=fun z=>by rw[z,UU] at h;exact absurd h (by decide +kernel)
   have n:0<c7 a b w:=by
    refine VE.mp fun z=>?_
    have:=Tr (show 0 <= -c7 a b u by grind) (show 0 <= -c7 a b w by grind);grind
   have hd:0<c7 a b w - c7 a b u:=by grind
   have e:1 - c7 a b u / (c7 a b u - c7 a b w)=c7 a b w*(c7 a b w - c7 a b u)⁻¹:=by
    have h1:c7 a b u - c7 a b w≠0:=by grind
    have h2:c7 a b w - c7 a b u≠0:=by grind
    rw[SD];grind
   have:=SE n (UX.mpr hd);rw[<-e] at this;grind
def Cl (C:vT_) (a b q:Pt):Prop:=(q∈C/\0<=c7 a b q)\/∃k,c7 a b (tk C k)*c7 a b (tk C (k+1))<0/\q=xq a b (tk C k) (tk C (k+1))
section
variable {S:Pt->Prop}{p:Pt}{C:vT_}(R:Rnd S p C) (h3:3<=C.length)
include R h3
theorem OD (a b:Pt) (k:Nat):yT (Cl C a b) (tk C k):=by
 have h0:=S4 R;obtain⟨x,y,z,Y,L⟩:=RV R h3 k;refine⟨x,y,z,fun q M n=>?_⟩;rw[Y];have J:∀m,tk C m=tk C k\/D5 x y z (tk C m)<0:=fun m=>by
  obtain⟨j,W,e⟩:=mQ R (Q3 m h0) k;rw[e];by_cases j0:j=0
  .subst j0;exact .inl rfl
  .exact .inr (L j (by omega) W)
 have Z:∀m,D5 x y z (tk C m)<=0:=fun m=>by
  rcases J m with w | w
  .rw[w,Y];exact TJ
  .exact Te w
 rcases M with ⟨M,_⟩ | ⟨m,hm,rfl⟩
 .obtain⟨j,W,e⟩:=mQ R M k;rw[e] at n ⊢;exact L j (Nat.pos_of_ne_zero fun w=>n (by rw[w];rfl)) W
 .obtain⟨s,s0,s1,e⟩:=qO hm;rw[e,Qm];have u:=Z m;have w:=Z (m+1);have ne:=pZ R (k:=m) (j:=1) (by decide) (by omega);have U:D5 x y z (tk C m)<0\/D5 x y z (tk C (m+1))<0:=by
   rcases J m with q1 | q1
   .rcases J (m+1) with q2 | q2
    .exact absurd (q2.trans q1.symm) ne
    .exact .inr q2
   .exact .inl q1
  have t1:0<=(1 - s) * -D5 x y z (tk C m):=Tr (by grind) (by grind);have t2:0<=s * -D5 x y z (tk C (m+1)):=Tr (by grind) (by grind);rcases U with q | q
  .have:=SE (show 0<1 - s by grind) (show 0 < -D5 x y z (tk C m) by grind);grind
  .have:=SE s0 (show 0 < -D5 x y z (tk C (m+1)) by grind);grind
theorem Ln {a b:Pt}(k:Nat) (hv:0<c7 a b (tk C k)):∃s:Rat,0<s/\Cl C a b (u9 (tk C k) (tk C (k+1)) s):=by
 have h0:=S4 R;by_cases w:0<=c7 a b (tk C (k+1))
 .exact⟨1,by decide +kernel,.inl (by rw[gs];exact⟨Q3 _ h0,w⟩)⟩
 .have n:c7 a b (tk C k)*c7 a b (tk C (k+1))<0:=by
   have:=SE hv (show 0 < -c7 a b (tk C (k+1)) by grind);grind
  obtain⟨s,J,_,e⟩:=qO n;exact⟨s,J,.inr ⟨k,n,e.symm⟩⟩
theorem IB {a b:Pt}(k:Nat) (hv:0<c7 a b (tk C (k+1))):∃s:Rat,s<1/\Cl C a b (u9 (tk C k) (tk C (k+1)) s):=by
 have h0:=S4 R;by_cases w:0<=c7 a b (tk C k)
 .exact⟨0,by decide +kernel,.inl (by rw[gh];exact⟨Q3 _ h0,w⟩)⟩
 .have n:c7 a b (tk C k)*c7 a b (tk C (k+1))<0:=by
   have:=SE hv (show 0 < -c7 a b (tk C k) by grind);grind
  obtain⟨s,_,s1,e⟩:=qO n;exact⟨s,s1,.inr ⟨k,n,e.symm⟩⟩
theorem GC {a b:Pt}(k:Nat) (hv:0<c7 a b (tk C k)):∃x y z,Cl C a b x/\Cl C a b y/\Cl C a b z/\c7 x y z≠0:=by
 have h0:=S4 R;have J:tk C (k+(C.length - 1)+1)=tk C k:=by
  rw[show k+(C.length - 1)+1=k+C.length by omega,<-G3,UW,G3]
 obtain⟨s,W,U⟩:=Ln R h3 k hv;obtain⟨t,Y,M⟩:=IB R h3 (k+(C.length - 1)) (by rw[J];exact hv);rw[J] at M;have D:=kq R k (j:=C.length - 1) (by omega) (by omega);refine⟨tk C k,_,_,.inl ⟨Q3 _ h0,Te hv⟩,U,M,?_⟩;have e:c7 (tk C k) (u9 (tk C k) (tk C (k+1)) s) (u9 (tk C (k+(C.length - 1))) (tk C k) t)=s*(1 - t)*c7 (tk C k) (tk C (k+1)) (tk C (k+(C.length - 1))):=by unfold c7 u9;grind
 rw[e];have:=SE (SE W (show 0<1 - t by grind)) D;grind
theorem NC {a b:Pt}{A:vT_}(hl:A.length<2 ^ 20) (J:∀q,q∈A↔Cl C a b q) {m k:Nat}(hm:0<c7 a b (tk C m)) (hk:0<=c7 a b (tk C k)):3<=(v5 A).length/\tk C k∈v5 A:=by
 have h0:=S4 R;obtain⟨x,y,z,W,y1,Z,U⟩:=GC R h3 m hm;have M:=FP hl ((J x).mpr W) ((J y).mpr y1) ((J z).mpr Z) U;refine⟨M,?_⟩;have la:0<A.length:=Yp ((J x).mpr W);obtain⟨q,r,e⟩:=qI la;have hr:r≠[]:=fun w=>by
  rw[vV (by rw[e,w])] at M;exact absurd M (by decide)
 have RA:=jl hl e hr;obtain⟨u,v,w,E⟩:=OD R h3 a b k;exact Hq RA M ((J _).mpr (.inl ⟨Q3 _ h0,hk⟩)) ⟨u,v,w,fun q Y=>E q ((J q).mp Y)⟩
end
end T
namespace T
open DL
def i5 (u v:Pt):Rat:=u.1*v.2 - u.2*v.1
def C9 (a b:Pt):Pt:=(b.1 - a.1,b.2 - a.2)
def Z4 (a b c d:Pt):Rat:=(b.1 - a.1)*(c.1*d.2 - c.2*d.1) - (a.1*b.2 - a.2*b.1)*(d.1 - c.1)
def aa (a b c d:Pt):Rat:=(a.1*b.2 - a.2*b.1)*(c.2 - d.2) - (a.2 - b.2)*(c.1*d.2 - c.2*d.1)
def aM (a b c d:Pt):Pt:=(Z4 a b c d / i5 (C9 a b) (C9 c d),aa a b c d / i5 (C9 a b) (C9 c d))
end T
namespace T
open PySem L2 DL
def QQ {i j:Int}(h1:A9 i=true) (h2:A9 j=true):i6 (.int i) (.int j)=some (.int (i*j)):=by simp[i6,h1,h2]
end T
namespace DL
open PySem L2
def L4 (w:Rat × Rat × Rat):D:=.lst [fr w.1,fr w.2.1,fr w.2.2]
structure WyS (k:Nat) (w:Rat × Rat × Rat):Prop where
 x:Sz k w.1
 y:Sz k w.2.1
 l:Sz k w.2.2
 nz:¬ (w.1=0/\w.2.1=0)
 ex:w.1*w.1+w.2.1*w.2.1=w.2.2*w.2.2
 lp:0<w.2.2
 dr:∃X Y l:Int,X.natAbs<=15/\Y.natAbs<=15/\0<l/\l<=17/\w.1*(l:Rat)=(X:Rat)*w.2.2/\w.2.1*(l:Rat)=(Y:Rat)*w.2.2
end DL
namespace T
open PySem L2 DL
abbrev gW:a8:=qJ LP LF P5
def Mm {r:Int}(h0:0<=r) (h1:r<6):∃x y l:Int,v8 [D.tup [.int 1,.int 0,.int 1],.tup [.int 1,.int 0,.int 1],.tup [.int 3,.int 4,.int 5],.tup [.int 4,.int 3,.int 5],.tup [.int 5,.int 12,.int 13],.tup [.int 8,.int 15,.int 17]] r=some (.tup [.int x,.int y,.int l])/\0<x/\x<=15/\0<=y/\y<=15/\0<l/\l<=17/\x*x+y*y=l*l:=by
 have:r=0\/r=1\/r=2\/r=3\/r=4\/r=5:=by omega
 rcases this with rfl | rfl | rfl | rfl | rfl | rfl
 .exact⟨1,0,1,rfl,by decide⟩
 .exact⟨1,0,1,rfl,by decide⟩
 .exact⟨3,4,5,rfl,by decide⟩
 .exact⟨4,3,5,rfl,by decide⟩
 .exact⟨5,12,13,rfl,by decide⟩
 .exact⟨8,15,17,rfl,by decide⟩
def Lo {r:Int}(h0:0<=r) (h1:r<5):∃a:Int,v8 [D.int 1,.int 2,.int 3,.int 4,.int 6] r=some (.int a)/\0<a/\a<=6:=by
 have:r=0\/r=1\/r=2\/r=3\/r=4:=by omega
 rcases this with rfl | rfl | rfl | rfl | rfl
 .exact⟨1,rfl,by decide⟩
 .exact⟨2,rfl,by decide⟩
 .exact⟨3,rfl,by decide⟩
 .exact⟨4,rfl,by decide⟩
 .exact⟨6,rfl,by decide⟩
def xy {i:Int}(h:i.natAbs<2 ^ 10):A9 i=true:=(show Bd 10 i from h).bits (by omega)
def lF {ds:vD_}{i:Int}(h:v8 ds i=some d):b0 (.lst ds) (.int i)=some d:=(U6 ds i).trans h
def KU {idx:List Nat}{fi:DA}{s s1:DS}{ds R:vD_}{fs':vO_}(h:fi s=some (ds,s1)) (hz:ds.length<=sizeLine) (c:C2 (fun d=>some (.v d::Y6 idx s1.sl)) fc fe ds s1.fs=some (R,fs')):N0 idx fi fc fe s=some (R,{ s1 with fs:=fs' }):=by
 unfold N0;rw[h,SH,tx hz,c];rfl
abbrev uu (m:a8):DM:=j9 (dB (a7 w9 (c8 m (a6 (dV 0) (a6 (Zf 2) a9))) (Zf 0))) (B5 1 2 (a6 (dV 2) (a6 (dV 1) a9))) k9
def Gy {Z m2 m3:a8}{f f1 f2 f3 f4 f5 f6 J:FS}{r1 M W r5 r6 r7 x y l U Y a b d:Int}{s v1 v2 v3:D}
  (e1:m3 [.feed,.int 6] (some f)=some (.int r1,some f1))
  (q:v8 [D.tup [.int 1,.int 0,.int 1],.tup [.int 1,.int 0,.int 1],.tup [.int 3,.int 4,.int 5],.tup [.int 4,.int 3,.int 5],.tup [.int 5,.int 12,.int 13],.tup [.int 8,.int 15,.int 17]] r1=some (.tup [.int x,.int y,.int l]))
  (sw:uu m3 ⟨[.v .feed,.v (.int x),.v (.int y),.v (.int l),.no],some f1⟩=some (.next,⟨[.v .feed,.v (.int U),.v (.int Y),.v (.int l),.no],some f2⟩))
  (e3:m3 [.feed,.int 2] (some f2)=some (.int M,some f3)) (p3:i6 (.int 2) (.int M)=some (.int (2*M))) (q3:i6 (.int U) (.int (1 - 2*M))=some (.int (U*(1 - 2*M))))
  (e4:m3 [.feed,.int 2] (some f3)=some (.int W,some f4)) (p4:i6 (.int 2) (.int W)=some (.int (2*W))) (q4:i6 (.int Y) (.int (1 - 2*W))=some (.int (Y*(1 - 2*W))))
  (e5:m3 [.feed,.int 5] (some f4)=some (.int r5,some f5)) (q5:v8 [D.int 1,.int 2,.int 3,.int 4,.int 6] r5=some (.int a))
  (e6:m3 [.feed,.int 2] (some f5)=some (.int r6,some f6)) (q6:v8 [D.int 1,.int l] r6=some (.int b)) (p6:i6 (.int a) (.int b)=some (.int (a*b))) (p7:i6 (.int 2) (.int l)=some (.int (2*l)))
  (e7:m3 [.feed,.int 3] (some f6)=some (.int r7,some J)) (q7:v8 [D.int 1,.int l,.int (2*l)] r7=some (.int d)) (ef:m2 [.int (a*b),.int d] (some J)=some (s,some J))
  (w1:Z [.tup [.int (U*(1 - 2*M)),.int 1],s] (some J)=some (v1,some J)) (w2:Z [.tup [.int (Y*(1 - 2*W)),.int 1],s] (some J)=some (v2,some J)) (w3:Z [.tup [.int l,.int 1],s] (some J)=some (v3,some J)) :
  qJ Z m2 m3 [.feed] (some f)=some (.lst [v1,v2,v3],some J):=by
 refine n9 (s:=⟨[.v .feed,.v (.int (U*(1 - 2*M))),.v (.int (Y*(1 - 2*W))),.v (.int l),.v s],some J⟩) ?_;show qT Z m2 m3 ⟨[.v .feed,.no,.no,.no,.no],some f⟩=_;unfold qT;rw[d8 (s1:=⟨[.v .feed,.v (.int x),.v (.int y),.v (.int l),.no],some f1⟩) (k6 (c6 (s1:=⟨[.v .feed,.no,.no,.no,.no],some f⟩) rfl (Y4 rfl e1) (lF q)) rfl)];rw[d8 (s1:=⟨[.v .feed,.v (.int U),.v (.int Y),.v (.int l),.no],some f2⟩) sw,
  d8 (s1:=⟨[.v .feed,.v (.int (U*(1 - 2*M))),.v (.int Y),.v (.int l),.no],some f3⟩) (k6 (c6 rfl (c6 rfl (c6 rfl (Y4 rfl e3) p3) rfl) q3) rfl),
  d8 (s1:=⟨[.v .feed,.v (.int (U*(1 - 2*M))),.v (.int (Y*(1 - 2*W))),.v (.int l),.no],some f4⟩) (k6 (c6 rfl (c6 rfl (c6 rfl (Y4 rfl e4) p4) rfl) q4) rfl),
  d8 (s1:=⟨[.v .feed,.v (.int (U*(1 - 2*M))),.v (.int (Y*(1 - 2*W))),.v (.int l),.v (.int (a*b))],some f6⟩) (k6 (c6 (c6 rfl (Y4 rfl e5) (lF q5)) (c6 rfl (Y4 rfl e6) (lF q6)) p6) rfl)]
 rw[d8 (s1:=⟨[.v .feed,.v (.int (U*(1 - 2*M))),.v (.int (Y*(1 - 2*W))),.v (.int l),.v s],some J⟩) (k6 (Y4 (A0 rfl (A0 (c6 (x:=.lst [.int 1,.int l,.int (2*l)]) (s1:=⟨[.v .feed,.v (.int (U*(1 - 2*M))),.v (.int (Y*(1 - 2*W))),.v (.int l),.v (.int (a*b))],some f6⟩) (by
  show m6 (l7 _) _=_;unfold m6 l7;rw[A0 rfl (A0 rfl (A0 (c6 rfl rfl p7) rfl))];rfl) (Y4 rfl e7) (lF q7)) rfl)) ef) rfl)]
 refine p9 ?_;have c:C2 (fun d=>some (.v d::[.v s])) E3 (c8 Z (a6 (i9 (a6 (dV 0) (a6 (Zf 1) a9))) (a6 (dV 1) a9))) [.int (U*(1 - 2*M)),.int (Y*(1 - 2*W)),.int l] (some J)=some ([v1,v2,v3],some J):=by
  have st:∀(k:D) (v:D) (r vs:vD_),Z [.tup [k,.int 1],s] (some J)=some (v,some J)->C2 (fun d=>some (.v d::[.v s])) E3 (c8 Z (a6 (i9 (a6 (dV 0) (a6 (Zf 1) a9))) (a6 (dV 1) a9))) r (some J)=some (vs,some J) ->
    C2 (fun d=>some (.v d::[.v s])) E3 (c8 Z (a6 (i9 (a6 (dV 0) (a6 (Zf 1) a9))) (a6 (dV 1) a9))) (k::r) (some J)=some (v::vs,some J):=fun k v r vs h1 h2=>by
   have h3:c8 Z (a6 (i9 (a6 (dV 0) (a6 (Zf 1) a9))) (a6 (dV 1) a9)) ⟨.v k::[.v s],some J⟩=some (v,⟨.v k::[.v s],some J⟩):=Y4 (s1:=⟨.v k::[.v s],some J⟩) (xs:=[.tup [k,.int 1],s]) rfl h1;rw[C2,SH,show E3 ⟨.v k::[.v s],some J⟩=some (true,⟨.v k::[.v s],some J⟩) from rfl,SH,tx rfl,h3,SH,h2];rfl
  exact st _ _ _ _ w1 (st _ _ _ _ w2 (st _ _ _ _ w3 rfl))
 unfold m6;rw[KU (idx:=[4]) (s1:=⟨[.v .feed,.v (.int (U*(1 - 2*M))),.v (.int (Y*(1 - 2*W))),.v (.int l),.v s],some J⟩) (ds:=[.int (U*(1 - 2*M)),.int (Y*(1 - 2*W)),.int l]) rfl (show 3<=sizeLine by decide) c];rfl
def EN {x y l sx sy:Int}(Y:0<=x/\x<=15) (hy:0<=y/\y<=15) (Z:¬ (x=0/\y=0)) (W:x*x+y*y=l*l) (M:sx=1\/sx = -1) (J:sy=1\/sy = -1) :
  (x*sx).natAbs<=15/\(y*sy).natAbs<=15/\¬ (x*sx=0/\y*sy=0)/\(x*sx)*(x*sx)+(y*sy)*(y*sy)=l*l:=by
 have U:sx*sx=1/\sy*sy=1:=⟨by rcases M with rfl | rfl <;> rfl,by rcases J with rfl | rfl <;> rfl⟩
 refine⟨by rcases M with rfl | rfl <;> omega,by rcases J with rfl | rfl <;> omega,by rcases M with rfl | rfl <;> rcases J with rfl | rfl <;> omega,?_⟩;have e:∀a b:Int,b*b=1->a*b*(a*b)=a*a:=fun a b h=>by rw[Int.mul_assoc,Int.mul_left_comm b,h,Int.mul_one]
 rw[e x sx U.1,e y sy U.2,W]
def RR {X Y l:Int}{s:Rat}(M:X.natAbs<=15) (U:Y.natAbs<=15) (Z:¬ (X=0/\Y=0)) (pz:X*X+Y*Y=l*l) (l1:0<l) (l2:l<=17) (W:Sz 7 s) (sp:0<s):WyS 20 ((X:Rat)*s,(Y:Rat)*s,(l:Rat)*s):=by
 have z:∀i:Int,i.natAbs<2 ^ 7->Sz 20 ((i:Rat)*s):=fun i h=>((Sz.int (k:=7) (ji h) (by decide)).mul W).mono (by decide)
 have J:∀i:Int,(i:Rat)*s=0->i=0:=fun i h=>by
  rcases Td.mp h with q | q
  .exact Uq.mp q
  .rw[q] at sp;exact absurd sp Vl
 refine⟨z X (by omega),z Y (by omega),z l (by omega),fun h=>Z ⟨J X h.1,J Y h.2⟩,?_,SE (TF.mpr l1) sp,X,Y,l,M,U,l1,l2,by show (X:Rat)*s*(l:Rat)=(X:Rat)*((l:Rat)*s);grind,by show (Y:Rat)*s*(l:Rat)=(Y:Rat)*((l:Rat)*s);grind⟩;have pr:(X:Rat)*X+(Y:Rat)*Y=(l:Rat)*l:=by rw[<-SQ,<-SQ,<-SQ,<-Vm,pz]
 have e:∀a b c t:Rat,a*a+b*b=c*c->a*t*(a*t)+b*t*(b*t)=c*t*(c*t):=fun a b c t h=>by grind
 exact e _ _ _ _ pr
def Ej {l r:Int}(h0:0<=r) (h1:r<2) (l1:0<l) (l2:l<=17):∃b:Int,v8 [D.int 1,D.int l] r=some (.int b)/\0<b/\b<=17:=by
 have:r=0\/r=1:=by omega
 rcases this with rfl | rfl
 .exact⟨1,rfl,by decide⟩
 .exact⟨l,rfl,l1,l2⟩
def Se {l r:Int}(h0:0<=r) (h1:r<3) (l1:0<l) (l2:l<=17):∃d:Int,v8 [D.int 1,D.int l,D.int (2*l)] r=some (.int d)/\0<d/\d<=34:=by
 have:r=0\/r=1\/r=2:=by omega
 rcases this with rfl | rfl | rfl
 .exact⟨1,rfl,by decide⟩
 .exact⟨l,rfl,l1,by omega⟩
 .exact⟨2*l,rfl,by omega,by omega⟩
def FY {m:a8}{f1 M:FS}{r x y l:Int}(U:m [.feed,.int 2] (some f1)=some (.int r,some M)) (Y:0<=x/\x<=15) (hy:0<=y/\y<=15) (W:¬ (x=0/\y=0)) (Z:x*x+y*y=l*l) :
  ∃x' y':Int,(0<=x'/\x'<=15)/\(0<=y'/\y'<=15)/\¬ (x'=0/\y'=0)/\x'*x'+y'*y'=l*l/\uu m ⟨[.v .feed,.v (.int x),.v (.int y),.v (.int l),.no],some f1⟩=some (.next,⟨[.v .feed,.v (.int x'),.v (.int y'),.v (.int l),.no],some M⟩):=by
 by_cases J:r=0
 .exact⟨y,x,hy,Y,fun h=>W ⟨h.2,h.1⟩,by rw[Int.add_comm];exact Z,by simp[c9,B8,d7,a7,m8,dC,Zf,Zg,dL,dV,d6,j9,dB,f9,c8,a6,a9,i9,k9,j7,one,m6,l7,u4,w8,A5,B0,D4,D6,D2,b0,m9,u7,o7,j6,r8,y9,t9,A3,B5,w6,D0,U,W3,J]⟩
 .exact⟨x,y,Y,hy,W,Z,by simp[c9,B8,d7,a7,m8,dC,Zf,Zg,dL,dV,d6,j9,dB,f9,c8,a6,a9,i9,k9,j7,one,m6,l7,u4,w8,A5,B0,D4,D6,D2,b0,m9,u7,o7,j6,r8,y9,t9,A3,B5,w6,D0,U,W3,J]⟩
def lO {i j:Int}(hi:i.natAbs<2 ^ 10) (J:j.natAbs<2 ^ 10):i6 (.int i) (.int j)=some (.int (i*j)):=QQ (xy hi) (xy J)
def Mr {a b d:Int}(Y:0<a) (U:a<=6) (W:0<b) (J:b<=17) (M:0<d) (d2:d<=34) (fs:vO_):LF [.int (a*b),.int d] fs=some (fr (Rat.divInt (a*b) d),fs)/\Sz 7 (Rat.divInt (a*b) d)/\0<Rat.divInt (a*b) d:=by
 have h0:0<a*b:=Xk Y W;have h1:a*b<=6*17:=Yi U J (by omega) (by omega);have Z:(a*b).natAbs<2 ^ 7:=by omega
 refine⟨T8 (a*b) d fs (by omega) (ji (k:=7) (by omega)) (by omega),Sz.of_divInt (by omega) Z (by omega),?_⟩;rw[Tx,SD];exact SE (TF.mpr h0) (UX.mpr (TF.mpr M))
def qC (X:Int) (s:Rat) (fs:vO_) (h:X.natAbs<=17) (J:Sz 7 s):LP [.tup [.int X,.int 1],fr s] fs=some (fr ((X:Rat)*s),fs):=
 P9 (X:Rat) s fs (Sz.int (k:=7) (ji (by omega)) (by decide)) J (by decide)
def cX {n:Nat}(i:Nat) (h:n+7<2 ^ 30) (hi:i<=7:=by decide):n+i<2 ^ 30:=TC (Nat.add_le_add_left hi n) h
def CA {r:Int}(h0:0<=r) (h1:r<2):i6 (.int 2) (.int r)=some (.int (2*r)):=lO (by decide) (by omega)
def wQ {x r:Int}(J:0<=x/\x<=15) (h0:0<=r) (h1:r<2):i6 (.int x) (.int (1 - 2*r))=some (.int (x*(1 - 2*r))):=lO (by omega) (by omega)
def FJ {a b:Int}(U:0<a) (M:a<=6) (W:0<b) (J:b<=17):i6 (.int a) (.int b)=some (.int (a*b)):=lO (by omega) (by omega)
def Sk {l:Int}(l1:0<l) (l2:l<=17):i6 (.int 2) (.int l)=some (.int (2*l)):=lO (by decide) (by omega)
def Hf {l:Int}(l1:0<l) (l2:l<=17):l.natAbs<=17:=by omega
def um {r:Int}(h0:0<=r) (h1:r<2):1 - 2*r=1\/1 - 2*r = -1:=by omega
def KN {n:Nat}(h:Fd n f) (hn:n<2 ^ 28):∃w f',gW [.feed] (some f)=some (L4 w,some f')/\WyS 20 w/\Fd (n+7) f':=by
 have J:n+7<2 ^ 30:=by omega
 obtain⟨r1,f1,e1,a1,a2,h1⟩:=K8 6 h (by decide) (cX 0 J) (by decide);obtain⟨x,y,l,q,x1,x2,y1,y2,l1,l2,W⟩:=Mm a1 a2;obtain⟨r2,f2,e2,b1,b2,h2⟩:=K8 2 h1 (by decide) (cX 1 J) (by decide);obtain⟨r3,f3,e3,c1,c2,h3⟩:=K8 2 h2 (by decide) (cX 2 J) (by decide);obtain⟨r4,f4,e4,d1,d2,h4⟩:=K8 2 h3 (by decide) (cX 3 J) (by decide);obtain⟨r5,f5,e5,g1,g2,h5⟩:=K8 5 h4 (by decide) (cX 4 J) (by decide);obtain⟨r6,f6,e6,i1,i2,h6⟩:=K8 2 h5 (by decide) (cX 5 J) (by decide);obtain⟨r7,f7,e7,j1,j2,h7⟩:=K8 3 h6 (by decide) (cX 6 J) (by decide);obtain⟨a,qa,Y,qa2⟩:=Lo g1 g2;obtain⟨b,qb,qb1,Z⟩:=Ej i1 i2 l1 l2;obtain⟨d,qd,qd1,qd2⟩:=Se j1 j2 l1 l2;obtain⟨x',y',U,M,hnz,pz,sw⟩:=FY e2 ⟨by omega,x2⟩ ⟨y1,y2⟩ (by omega) W;obtain⟨ub,vb,nz,pq⟩:=EN (sx:=1 - 2*r3) (sy:=1 - 2*r4) U M hnz pz (um c1 c2) (um d1 d2);obtain⟨ef,ss,sp⟩:=Mr Y qa2 qb1 Z qd1 qd2 (some f7);exact⟨_,f7,Gy e1 q sw e3 (CA c1 c2) (wQ U c1 c2) e4 (CA d1 d2) (wQ M d1 d2) e5 qa e6 qb (FJ Y qa2 qb1 Z) (Sk l1 l2) e7 qd ef
  (qC _ _ _ (SI ub (by decide)) ss) (qC _ _ _ (SI vb (by decide)) ss) (qC _ _ _ (Hf l1 l2) ss),RR ub vb nz pq l1 l2 ss sp,h7⟩
def cr (a b:Pt):Rat:=a.1*b.2 - a.2*b.1
def uB:Pt->List Pt->Rat
 |_,[]=>0
 |a,b::r=>cr a b+uB b r
def rS:List Pt->Rat
 |[]=>0
 |a::r=>uB a (r++[a])
abbrev km:a8:=xY LS LP
abbrev cO:a8:=zV km LG P5 F4 gW iW
def Ca {f:DA}{s s1:DS}{ds:vD_}(h:f s=some (ds,s1)) (hz:ds.length<=sizeLine):i9 f s=some (.tup ds,s1):=by
 unfold i9;rw[h,SH,tx hz]
abbrev fx (x y l:Int):D:=.tup [.int x,.int y,.int l]
def De {k:Nat}{x y l J M U:Int}(fs:vO_) (hx:Bd k x) (hy:Bd k y) (hl:Bd k l) (Z:Bd k J) (Y:Bd k M) (W:Bd k U) (hk:k<=2000):mU [fx x y l,fx J M U] fs=some (fx (y*U - l*M) (l*J - x*U) (x*M - y*J),fs):=by
 have b1:=hx.bits (by omega);have b2:=hy.bits (by omega);have b3:=hl.bits (by omega);have c1:=Z.bits (by omega);have c2:=Y.bits (by omega);have c3:=W.bits (by omega);refine n9 (s:=⟨[.v (fx x y l),.v (fx J M U)],fs⟩) (p9 ?_);exact Z2 (c6 (c6 (c6 rfl rfl rfl) (c6 rfl rfl rfl) (n8 b2 c3)) (c6 (c6 rfl rfl rfl) (c6 rfl rfl rfl) (n8 b3 c2)) rfl) (c6 (c6 (c6 rfl rfl rfl) (c6 rfl rfl rfl) (n8 b3 c1)) (c6 (c6 rfl rfl rfl) (c6 rfl rfl rfl) (n8 b1 c3)) rfl) (c6 (c6 (c6 rfl rfl rfl) (c6 rfl rfl rfl) (n8 b1 c2)) (c6 (c6 rfl rfl rfl) (c6 rfl rfl rfl) (n8 b2 c1)) rfl)
abbrev bL:a8:=BJ mU
def M6 (a b:Pt):Int:=pY a*pL b - pL a*pY b
def M4 (a b:Pt):Int:=pL a*pX b - pX a*pL b
def Q9 (a b:Pt):Int:=pX a*pY b - pY a*pX b
abbrev F2 (a b:Pt):D:=fx (M6 a b) (M4 a b) (Q9 a b)
def ug {k:Nat}{a b:Pt}(ha:Ps k a) (hb:Ps k b):Bd (k+k+1) (M6 a b)/\Bd (k+k+1) (M4 a b)/\Bd (k+k+1) (Q9 a b):=
 ⟨((ha.y.mul hb.l).sub (ha.l.mul hb.y)).mono (by omega),((ha.l.mul hb.x).sub (ha.x.mul hb.l)).mono (by omega),((ha.x.mul hb.y).sub (ha.y.mul hb.x)).mono (by omega)⟩
def mj {k:Nat}{a b:Pt}(fs:vO_) (ha:Ps k a) (hb:Ps k b) (hk:k<=900):bL [pt a,pt b] fs=some (F2 a b,fs):=by
 have e:=De fs ha.x ha.y ha.l hb.x hb.y hb.l (by omega);exact n9 (s:=⟨[.v (pt a),.v (pt b)],fs⟩) (p9 (i7 rfl e))
def zS {q a b:Rat}(M:q≠0) (hb:b≠0):(q*a) / (q*b)=a / b:=by
 have J:q*b≠0:=fun z=>by
  rcases Td.mp z with z | z
  .exact M z
  .exact hb z
 have W:=Yj (a:=q*a) J;have U:=Yj (a:=a) hb;have:(q*a / (q*b) - a / b)*(q*b)=0:=by grind
 rcases Td.mp this with z | z
 .grind
 .exact absurd z J
def Jh {a b c d:Pt}(J:i5 (C9 a b) (C9 c d)≠0):M6 a b*M4 c d - M4 a b*M6 c d≠0/\(Rat.divInt (M4 a b*Q9 c d - Q9 a b*M4 c d) (M6 a b*M4 c d - M4 a b*M6 c d),Rat.divInt (Q9 a b*M6 c d - M6 a b*Q9 c d) (M6 a b*M4 c d - M4 a b*M6 c d))=aM a b c d:=by
 have P:(pL a:Rat)*pL b*(pL c*pL d)≠0:=fun z=>by
  rcases Td.mp z with z | z
  .rcases Td.mp z with z | z
   .exact M7 a z
   .exact M7 b z
  .rcases Td.mp z with z | z
   .exact M7 c z
   .exact M7 d z
 have M:((M6 a b*M4 c d - M4 a b*M6 c d:Int):Rat)=((pL a:Rat)*pL b*(pL c*pL d))*i5 (C9 a b) (C9 c d):=by
  unfold M6 M4 i5 C9;simp only[Ue,SQ,N5,N8];grind
 have U:((M4 a b*Q9 c d - Q9 a b*M4 c d:Int):Rat)=((pL a:Rat)*pL b*(pL c*pL d))*Z4 a b c d:=by
  unfold M4 Q9 Z4;simp only[Ue,SQ,N5,N8];grind
 have W:((Q9 a b*M6 c d - M6 a b*Q9 c d:Int):Rat)=((pL a:Rat)*pL b*(pL c*pL d))*aa a b c d:=by
  unfold M6 Q9 aa;simp only[Ue,SQ,N5,N8];grind
 refine⟨fun z=>?_,?_⟩
 .rw[z] at M;rcases Td.mp M.symm with q | q
  .exact P q
  .exact J q
 .unfold aM;rw[Tx,Tx,M,U,W,zS P J,zS P J]
abbrev bG:a8:=Aj FL mU
def uR {k:Nat}{a b c d:Pt}(fs:vO_) (ha:Ps k a) (hb:Ps k b) (W:Ps k c) (hd:Ps k d) (hk:k<=400) (U:i5 (C9 a b) (C9 c d)≠0):bG [F2 a b,F2 c d] fs=some (pt (aM a b c d),fs):=by
 obtain⟨h1,h2,h3⟩:=ug ha hb;obtain⟨J,M,Z⟩:=ug W hd;have e:=De fs h1 h2 h3 J M Z (by omega);obtain⟨Y,q⟩:=Jh U;have l:=jC (M4 a b*Q9 c d - Q9 a b*M4 c d) (Q9 a b*M6 c d - M6 a b*Q9 c d) (M6 a b*M4 c d - M4 a b*M6 c d) fs Y ((h1.mul M).sub (h2.mul J)) (by omega);rw[q] at l;exact n9 (s:=⟨[.v (F2 a b),.v (F2 c d)],fs⟩) (p9 (i7 (A0 (i7 rfl e) rfl) l))
def ko (x:Rat):A9 (i8 x)=true:=by
 unfold i8;split
 .decide
 .split <;> decide
def gO (a b u w:Pt):i5 (C9 a b) (C9 u w)=c7 a b w - c7 a b u:=by unfold i5 C9 c7;grind
def Og {a b u w:Pt}(h:c7 a b u*c7 a b w<0):i5 (C9 a b) (C9 u w)≠0/\aM a b u w=xq a b u w:=by
 have M:c7 a b w - c7 a b u≠0:=fun z=>by
  have e:c7 a b w=c7 a b u:=by grind
  rw[e] at h;have:=cM (c7 a b u);grind
 refine⟨by rw[gO];exact M,?_⟩;have J:c7 a b u - c7 a b w≠0:=by grind
 unfold aM xq u9;rw[gO];have s:c7 a b u / (c7 a b u - c7 a b w) = -c7 a b u / (c7 a b w - c7 a b u):=by
  rw[SD,SD];grind
 rw[s];refine SU ?_ ?_
 .show Z4 a b u w / (c7 a b w - c7 a b u)=u.1 + -c7 a b u / (c7 a b w - c7 a b u)*(w.1 - u.1);have e:Z4 a b u w=u.1*(c7 a b w - c7 a b u) - c7 a b u*(w.1 - u.1):=by unfold Z4 c7;grind
  rw[e,SD,SD];generalize c7 a b w - c7 a b u=W at *;grind
 .show aa a b u w / (c7 a b w - c7 a b u)=u.2 + -c7 a b u / (c7 a b w - c7 a b u)*(w.2 - u.2);have e:aa a b u w=u.2*(c7 a b w - c7 a b u) - c7 a b u*(w.2 - u.2):=by unfold aa c7;grind
  rw[e,SD,SD];generalize c7 a b w - c7 a b u=W at *;grind
def CZ (x:Rat):i8 x = -1↔x<0:=by
 unfold i8;by_cases h:0<x
 .rw[tx h];exact⟨fun z=>absurd z (by decide),fun z=>by grind⟩
 .rw[So h];by_cases h2:x<0
  .rw[tx h2];exact⟨fun _=>h2,fun _=>rfl⟩
  .rw[So h2];exact⟨fun z=>absurd z (by decide),fun z=>absurd z h2⟩
def eM (x:Rat):(0<x/\i8 x=1)\/(x<0/\i8 x = -1)\/(x=0/\i8 x=0):=by
 unfold i8;by_cases h:0<x
 .rw[tx h];exact .inl ⟨h,rfl⟩
 .rw[So h];by_cases h2:x<0
  .rw[tx h2];exact .inr (.inl ⟨h2,rfl⟩)
  .rw[So h2];exact .inr (.inr ⟨by grind,rfl⟩)
def nN (x y:Rat):i8 x*i8 y = -1↔x*y<0:=by
 rcases eM x with ⟨a,e⟩ | ⟨a,e⟩ | ⟨a,e⟩ <;> rcases eM y with ⟨b,e'⟩ | ⟨b,e'⟩ | ⟨b,e'⟩ <;> rw[e,e']
 .have:=SE a b;exact⟨fun z=>absurd z (by decide),fun z=>by grind⟩
 .have:=SE a (show 0 < -y by grind);exact⟨fun _=>by grind,fun _=>rfl⟩
 .rw[b];exact⟨fun z=>absurd z (by decide),fun z=>by grind⟩
 .have:=SE (show 0 < -x by grind) b;exact⟨fun _=>by grind,fun _=>rfl⟩
 .have:=SE (show 0 < -x by grind) (show 0 < -y by grind);exact⟨fun z=>absurd z (by decide),fun z=>by grind⟩
 .rw[b];exact⟨fun z=>absurd z (by decide),fun z=>by grind⟩
 .rw[a];exact⟨fun z=>absurd z (by decide),fun z=>by grind⟩
 .rw[a];exact⟨fun z=>absurd z (by decide),fun z=>by grind⟩
 .rw[a];exact⟨fun z=>absurd z (by decide),fun z=>by grind⟩
def bj (a b:Pt) (q:Pt × Pt):List Pt:=(if i8 (c7 a b q.1) = -1 then [] else [q.1])++(if i8 (c7 a b q.1)*i8 (c7 a b q.2) = -1 then [xq a b q.1 q.2] else [])
def Q0 (a b:Pt) (qs:List (Pt × Pt)):List Pt:=qs.flatMap (bj a b)
def yx (a b:Pt) (q:Pt × Pt):(bj a b q).length<=2:=by
 unfold bj;rw[SG];split <;> split <;> simp
theorem eS (a b:Pt):∀qs:List (Pt × Pt),(Q0 a b qs).length<=2*qs.length
 |[]=>Su _
 |q::r=>by
  have h:=eS a b r;have h1:=yx a b q;unfold Q0 at *;rw[Xl,SG,SW];omega
abbrev gX:a8:=Aq az
def Ma (fd:vT_) (fs:vO_) (hl:fd.length<=41):gX [.tup (fd.map pt)] fs=some (.lst ((p8 true fd).map fun q=>.tup [pt q.1,pt q.2]),fs):=by
 have e:=ya (fd.map pt) true fs (SI (by rw[Ss];omega:_<=42) (show 42<=sizeLine by decide));rw[iH,TN] at e;exact n9 (s:=⟨[.v (.tup (fd.map pt))],fs⟩) (p9 (i7 (A0 rfl (A0 rfl rfl)) e))
abbrev vD:a8:=Aa Q6 bG bL gX
abbrev qS (x0:Sl) (a b:Pt) (ln:D) (acc:vT_) (x5 x6 x7:Sl) (fs:vO_):DS:=⟨[x0,.v (pt a),.v (pt b),.v ln,.own (acc.map pt),x5,x6,x7],fs⟩
def PQ {a b u w:Pt}(U x7:Sl) (M:vT_) (fs:vO_) (ha:PtS 120 a) (hb:PtS 120 b) (hu:PtS 120 u) (hw:PtS 120 w) (hl:M.length<=1000) :
  nE Q6 bG bL gX (qS U a b (F2 a b) M (.v (pt u)) (.v (pt w)) x7 fs)=some (.next,qS U a b (F2 a b) (M++bj a b (u,w)) (.v (pt u)) (.v (pt w)) (.v (.int (i8 (c7 a b u)))) fs):=by
 have t1:=qr a b u fs ha.ps hb.ps hu.ps (by decide);have t2:=qr a b w fs ha.ps hb.ps hw.ps (by decide);have Y:=ko (c7 a b u);have W:=ko (c7 a b w);have ls:∀l:List Pt,l.length<=1001->(l.map pt).length<sizeLine:=fun l h=>by rw[Ss];exact TC h (by decide)
 unfold nE;rw[d8 (s1:=qS U a b (F2 a b) M (.v (pt u)) (.v (pt w)) (.v (.int (i8 (c7 a b u)))) fs) (k6 (i7 rfl t1) rfl)];have Z:dB (a7 B4 (dL 7) (m8 o7 (Zf 1))) (qS U a b (F2 a b) M (.v (pt u)) (.v (pt w)) (.v (.int (i8 (c7 a b u)))) fs)=some (!decide (i8 (c7 a b u) = -1),qS U a b (F2 a b) M (.v (pt u)) (.v (pt w)) (.v (.int (i8 (c7 a b u)))) fs):=u6 (c6 rfl rfl (aZ _ (-1)));have st:∀J:List Pt,J.length<=1001->j9 (dB (a7 w9 (a7 i6 (dL 7) (c8 Q6 (a6 (dV 1) (a6 (dV 2) (a6 (dV 6) a9))))) (m8 o7 (Zf 1)))) (F0 4 (c8 bG (a6 (dV 3) (a6 (c8 bL (a6 (dV 5) (a6 (dV 6) a9))) a9)))) k9 (qS U a b (F2 a b) J (.v (pt u)) (.v (pt w)) (.v (.int (i8 (c7 a b u)))) fs)
   = some (.next,qS U a b (F2 a b) (J++(if i8 (c7 a b u)*i8 (c7 a b w) = -1 then [xq a b u w] else [])) (.v (pt u)) (.v (pt w)) (.v (.int (i8 (c7 a b u)))) fs):=fun J h1=>by
  have c2:dB (a7 w9 (a7 i6 (dL 7) (c8 Q6 (a6 (dV 1) (a6 (dV 2) (a6 (dV 6) a9))))) (m8 o7 (Zf 1))) (qS U a b (F2 a b) J (.v (pt u)) (.v (pt w)) (.v (.int (i8 (c7 a b u)))) fs)=some (decide (i8 (c7 a b u)*i8 (c7 a b w) = -1),qS U a b (F2 a b) J (.v (pt u)) (.v (pt w)) (.v (.int (i8 (c7 a b u)))) fs):=
   u6 (c6 (c6 rfl (i7 rfl t2) (n8 Y W)) rfl (W3 _ (-1)))
  by_cases h:i8 (c7 a b u)*i8 (c7 a b w) = -1
  .rw[SA h] at c2;rw[E6 c2,tx h];obtain⟨q1,q2⟩:=Og ((nN _ _).mp h);have e1:=mj fs hu.ps hw.ps (by decide);have e2:=uR fs ha.ps hb.ps hu.ps hw.ps (by decide) q1;rw[q2] at e2;have:=Q2 (i:=4) (s:=qS U a b (F2 a b) J (.v (pt u)) (.v (pt w)) (.v (.int (i8 (c7 a b u)))) fs) (s1:=qS U a b (F2 a b) J (.v (pt u)) (.v (pt w)) (.v (.int (i8 (c7 a b u)))) fs) (ds:=J.map pt) (ds0:=J.map pt) (d:=pt (xq a b u w)) (f:=c8 bG (a6 (dV 3) (a6 (c8 bL (a6 (dV 5) (a6 (dV 6) a9))) a9))) rfl (i7 (j3 rfl (j3 (i7 rfl e1) rfl)) e2) rfl (ls J h1);rw[this];show _=some (Fl.next,qS U a b (F2 a b) (J++[xq a b u w]) (.v (pt u)) (.v (pt w)) (.v (.int (i8 (c7 a b u)))) fs);unfold qS;rw[Tj];rfl
  .rw[SF h] at c2;rw[aL c2,So h,Tt];rfl
 unfold bj;by_cases h:i8 (c7 a b u) = -1
 .rw[SA h] at Z;rw[d8 (K0 Z),st M (by omega)];show _=some (Fl.next,qS U a b (F2 a b) (M++((if i8 (c7 a b u) = -1 then [] else [u])++_)) _ _ _ fs);rw[tx h,Uv]
 .rw[SF h] at Z;have ap:j9 (dB (a7 B4 (dL 7) (m8 o7 (Zf 1)))) (F0 4 (dV 5)) k9 (qS U a b (F2 a b) M (.v (pt u)) (.v (pt w)) (.v (.int (i8 (c7 a b u)))) fs)=some (.next,qS U a b (F2 a b) (M++[u]) (.v (pt u)) (.v (pt w)) (.v (.int (i8 (c7 a b u)))) fs):=by
   rw[E6 Z];have:=Q2 (i:=4) (s:=qS U a b (F2 a b) M (.v (pt u)) (.v (pt w)) (.v (.int (i8 (c7 a b u)))) fs) (s1:=qS U a b (F2 a b) M (.v (pt u)) (.v (pt w)) (.v (.int (i8 (c7 a b u)))) fs) (ds:=M.map pt) (ds0:=M.map pt) (d:=pt u) (f:=dV 5) rfl rfl rfl (ls M (by omega));rw[this];unfold qS;rw[Tj];rfl
  rw[d8 ap,st (M++[u]) (by rw[SG,Vu];omega)];show _=some (Fl.next,qS U a b (F2 a b) (M++((if i8 (c7 a b u) = -1 then [] else [u])++_)) _ _ _ fs);rw[So h,Ul]
theorem AS {a b:Pt}(J:Sl) (fs:vO_) (ha:PtS 120 a) (hb:PtS 120 b):∀(qs:List (Pt × Pt)) (acc:vT_) (x5 x6 x7:Sl),(∀q∈qs,PtS 120 q.1/\PtS 120 q.2)->acc.length+2*qs.length<=1000->∃y5 y6 y7,C4 (y9 2 (t9 (d6 5) (t9 (d6 6) A3))) (nE Q6 bG bL gX) (qs.map fun q=>.tup [pt q.1,pt q.2]) (qS J a b (F2 a b) acc x5 x6 x7 fs)=some (.next,qS J a b (F2 a b) (acc++Q0 a b qs) y5 y6 y7 fs)
 |[],acc,x5,x6,x7,_,_=>⟨x5,x6,x7,by unfold Q0;rw[Yr,Tt];rfl⟩
 |q::r,acc,x5,x6,x7,h,hl=>by
  obtain⟨h1,h2⟩:=h q (SR ..);rw[SW] at hl;have l1:=yx a b q;obtain⟨y5,y6,y7,e⟩:=AS J fs ha hb r (acc++bj a b q) (.v (pt q.1)) (.v (pt q.2)) (.v (.int (i8 (c7 a b q.1)))) (fun z M=>h z (SK _ M)) (by rw[SG];omega);refine⟨y5,y6,y7,?_⟩;rw[SN,W9 (s1:=qS J a b (F2 a b) acc (.v (pt q.1)) (.v (pt q.2)) x7 fs) rfl (PQ J x7 acc fs ha hb h1 h2 (by omega)),e];unfold Q0;rw[Xl,Ul]
def Oo {a b:Pt}{fd:vT_}(fs:vO_) (ha:PtS 120 a) (hb:PtS 120 b) (hf:∀p∈fd,PtS 120 p) (hl:fd.length<=30):vD [.tup (fd.map pt),pt a,pt b] fs=some (.lst ((Q0 a b (p8 true fd)).map pt),fs):=by
 have Y:=aU true fd;obtain⟨W,M,U,e⟩:=AS (.v (.tup (fd.map pt))) fs ha hb (p8 true fd) [] .no .no .no (fun q J=>⟨hf _ (eB J).1,hf _ (eB J).2⟩) (by rw[UJ];omega);rw[Uv] at e;have s:=mj fs ha.ps hb.ps (by decide);refine n9 (s:=⟨[.v (.tup (fd.map pt)),.v (pt a),.v (pt b),.v (F2 a b),.v (.lst ((Q0 a b (p8 true fd)).map pt)),W,M,U],fs⟩) ?_;show mI Q6 bG bL gX ⟨[.v (.tup (fd.map pt)),.v (pt a),.v (pt b),.no,.no,.no,.no,.no],fs⟩=_;unfold mI;rw[d8 (s1:=⟨[.v (.tup (fd.map pt)),.v (pt a),.v (pt b),.v (F2 a b),.no,.no,.no,.no],fs⟩) (k6 (i7 rfl s) rfl)];rw[d8 (s1:=qS (.v (.tup (fd.map pt))) a b (F2 a b) [] .no .no .no fs) (Q7 (i:=4) (s1:=⟨[.v (.tup (fd.map pt)),.v (pt a),.v (pt b),.v (F2 a b),.no,.no,.no,.no],fs⟩) (ds:=[]) rfl (by show 4<8;decide))];rw[d8 ((cy (ds:=(p8 true fd).map fun q=>.tup [pt q.1,pt q.2]) (i7 rfl (Ma fd fs (by omega)))).trans e)];exact p9 rfl
def pI {fd:vT_}(h0:0<fd.length) (q:Pt × Pt):q∈p8 true fd↔∃k,q=(tk fd k,tk fd (k+1)):=by
 have l2:(fd.drop 1++fd.take 1).length=fd.length:=by rw[SG,Tq,Tp];omega
 have M:∀i,i<fd.length->(fd.drop 1++fd.take 1)[i]? = some (tk fd (i+1)):=fun i hi=>by
  by_cases c:i+1<fd.length
  .rw[Us (by rw[Tq];omega),Xm,UM 1 i,Y2 c]
  .have U:i+1=fd.length:=by omega
   rw[Uk (by rw[Tq];omega),Tq,show i - (fd.length - 1)=0 by omega,Xv (by decide),Y2 h0];rw[<-G3 (i+1),U,Yq]
 unfold p8;simp only[TB];constructor
 .intro h;obtain⟨i,hi⟩:=Xi h;have J:=(Tn.mp hi).1;rw[Xh,l2,Nat.min_self] at J;rw[VA] at hi;refine⟨i,SU ?_ ?_⟩
  .have:=hi.1;rw[Y2 J] at this;exact(Tb this).symm
  .have:=hi.2;rw[M i J] at this;exact(Tb this).symm
 .rintro⟨k,rfl⟩;have W:=Uz k h0;refine TX (i:=k % fd.length) (VA.mpr ⟨qM h0,?_⟩);rw[M _ W];show some (tk fd (k % fd.length+1))=some (tk fd (k+1));rw[<-G3 (k % fd.length+1),Wi,G3]
def ie {fd:vT_}(h0:0<fd.length) (a b q:Pt):q∈Q0 a b (p8 true fd)↔Cl fd a b q:=by
 unfold Q0 Cl;rw[List.mem_flatMap];constructor
 .rintro⟨e,U,J⟩;obtain⟨k,rfl⟩:=(pI h0 e).mp U;unfold bj at J;rcases SM.mp J with w | w
  .by_cases c:i8 (c7 a b (tk fd k)) = -1
   .rw[tx c] at w;cases w
   .rw[So c] at w;have:q=tk fd k:=SJ.mp w;subst this;exact .inl ⟨Q3 k h0,Uh.mp fun z=>c ((CZ _).mpr z)⟩
  .by_cases c:i8 (c7 a b (tk fd k))*i8 (c7 a b (tk fd (k+1))) = -1
   .rw[tx c] at w;exact .inr ⟨k,(nN _ _).mp c,SJ.mp w⟩
   .rw[So c] at w;cases w
 .rintro(⟨J,M⟩ | ⟨k,hk,rfl⟩)
  .obtain⟨k,hk⟩:=Xi J;have W:=(Tn.mp hk).1;have e:q=tk fd k:=by rw[Y2 W] at hk;exact(Tb hk).symm
   refine⟨(tk fd k,tk fd (k+1)),(pI h0 _).mpr ⟨k,rfl⟩,?_⟩;unfold bj;have n:¬ i8 (c7 a b (tk fd k)) = -1:=fun z=>by
    have:=(CZ _).mp z;rw[e] at M;exact absurd this (Uh.mpr M)
   show q∈(if i8 (c7 a b (tk fd k)) = -1 then [] else [tk fd k])++_;rw[So n,e];simp
  .refine⟨(tk fd k,tk fd (k+1)),(pI h0 _).mpr ⟨k,rfl⟩,?_⟩;unfold bj;refine SM.mpr (.inr ?_);show _∈(if i8 (c7 a b (tk fd k))*i8 (c7 a b (tk fd (k+1))) = -1 then _ else _);rw[tx ((nN _ _).mpr hk)];simp
section
variable {a b:DM}{c c':DT}{e e':DE}{f:DA}{s s1 s2:DS}{d x y w:D}{ds xs:vD_}{r:Option (Fl × DS)}{q:Option (D × DS)}{v:Option (Bool × DS)}{fs fs':vO_}{sl:List Sl}{m:a8}{p:D->D->Option D}{p1:D->Option D}{pl:List D->Option D}{n:Nat}{t:D->DS->Option DS}{B:Bool}
def z_fn (h:a ⟨ds.map .v++List.replicate (n - ds.length) .no,fs⟩=some (.ret d,⟨sl,fs'⟩)):l6 n a ds fs=some (d,fs'):=by simp[l6,h]
def z_sq (h:a s=some (.next,s1)) (k:b s1=r):c9 a b s=r:=by simp[c9,h,B8,k]
def z_sr (h:a s=some (.ret d,s1)):c9 a b s=some (.ret d,s1):=by simp[c9,h,B8]
def z_it (h:c s=some (true,s1)) (k:a s1=r):j9 c a b s=r:=by simp[j9,h,k]
def z_if (h:c s=some (false,s1)) (k:b s1=r):j9 c a b s=r:=by simp[j9,h,k]
def z_et (h:c s=some (true,s1)) (k:e s1=q):u4 c e e' s=q:=by simp[u4,h,k]
def z_ef (h:c s=some (false,s1)) (k:e' s1=q):u4 c e e' s=q:=by simp[u4,h,k]
def z_rt (h:e s=some (d,s1)):f9 e s=some (.ret d,s1):=by simp[f9,h]
def z_as (h1:e s=some (d,s1)) (h2:t d s1=some s2):d7 e t s=some (.next,s2):=by simp[d7,h1,h2]
def z_op (h1:e s=some (x,s1)) (h2:e' s1=some (y,s2)) (h3:p x y=some w):a7 p e e' s=some (w,s2):=by simp[a7,h1,h2,h3]
def z_un (h1:e s=some (x,s1)) (h3:p1 x=some w):m8 p1 e s=some (w,s1):=by simp[m8,h1,h3]
def z_cl (h1:f s=some (xs,⟨sl,fs⟩)) (h2:m xs fs=some (d,fs')):c8 m f s=some (d,⟨sl,fs'⟩):=by simp[c8,h1,h2]
def z_co (h1:e s=some (x,s1)) (h2:f s1=some (xs,s2)):a6 e f s=some (x::xs,s2):=by simp[a6,h1,h2]
def z_tp (h:f s=some (ds,s1)) (l:Nat.ble ds.length sizeLine=true):i9 f s=some (.tup ds,s1):=by simp[i9,h,Xn l]
def z_ls (h:f s=some (ds,s1)) (l:Nat.ble ds.length sizeLine=true):l7 f s=some (ds,s1):=by simp[l7,h,Xn l]
def z_nw (h:f s=some (ds,s1)):m6 f s=some (.lst ds,s1):=by simp[m6,h]
def z_cb (h:f s=some (xs,s1)) (k:pl xs=some d):j7 pl f s=some (d,s1):=by simp[j7,h,k]
def z_b (h:e s=some (.bl B,s1)):dB e s=some (B,s1):=by simp[dB,h]
def z_tr (h:e s=some (x,s1)) (k:D0 x=some B):w6 e s=some (B,s1):=by simp[w6,h,k]
def z_nt (h:c s=some (false,s1)):B0 c s=some (true,s1):=by simp[B0,h]
def z_nf (h:c s=some (true,s1)):B0 c s=some (false,s1):=by simp[B0,h]
def z_ot (h:c s=some (true,s1)):A5 c c' s=some (true,s1):=by simp[A5,h]
def z_of (h:c s=some (false,s1)) (k:c' s1=v):A5 c c' s=v:=by simp[A5,h,k]
def z_at (h:c s=some (true,s1)) (k:c' s1=v):w8 c c' s=v:=by simp[w8,h,k]
def z_af (h:c s=some (false,s1)):w8 c c' s=some (false,s1):=by simp[w8,h]
def z_ao (h:f s=some (ds,s1)) (l:Nat.blt n s1.sl.length=true):F5 n f s=some (.next,{ s1 with sl:=s1.sl.set n (.own ds) }):=by
 have:=Xn l;unfold F5;rw[h];exact tx this
def z_ap (h0:s.sl[n]? = some (.own ds)) (h:e s=some (d,s1)) (h1:s1.sl[n]? = some (.own xs)) (l:Nat.blt xs.length sizeLine=true):F0 n e s=some (.next,{ s1 with sl:=s1.sl.set n (.own (xs++[d])) }):=by
 have:=Xn l;unfold F0;rw[h0];show (e s).bind _=_;rw[h,SH];show (match s1.sl[n]? with | some (.own ds)=>_ | _=>none)=_;rw[h1];exact tx this
def z_fr (h:f s=some (xs,s1)) (h2:fP xs=some ds) (k:C4 t a ds s1=r):ar f t a s=r:=by simp only[ar,h,SH,h2,k]
def z_fl (h:e s=some (.lst ds,s1)) (k:C4 t a ds s1=r):L8 e t a s=r:=by unfold L8;rw[h];exact k
def z_ft (h:e s=some (.tup ds,s1)) (k:C4 t a ds s1=r):L8 e t a s=r:=by unfold L8;rw[h];exact k
end
end T
local macro_rules | `(tactic| wtm_at "y")=>`(tactic| first | with_reducible assumption | exact rfl)
local macro_rules | `(tactic| wtm_at "z")=>`(tactic| first | with_reducible assumption | (focus (with_reducible apply T.z_sq);wtm_at "z";wtm_at "z") | (focus (with_reducible apply T.z_sr);wtm_at "z") | (focus (with_reducible apply T.z_as);wtm_at "z";exact rfl) | (focus (with_reducible apply T.z_rt);wtm_at "z") | (focus (with_reducible apply T.z_op);wtm_at "z";wtm_at "z";wtm_at "y") | (focus (with_reducible apply T.z_cl);wtm_at "z";first | with_reducible assumption | assumption) | (focus (with_reducible apply T.z_co);wtm_at "z";wtm_at "z") | (focus (with_reducible apply T.z_un);wtm_at "z";wtm_at "y") | (focus (with_reducible apply T.z_it);wtm_at "z";wtm_at "z") | (focus (with_reducible apply T.z_if);wtm_at "z";wtm_at "z") | (focus (with_reducible apply T.z_b);wtm_at "z") | (focus (with_reducible apply T.z_tr);wtm_at "z";exact rfl) | (focus (with_reducible apply T.z_et);wtm_at "z";wtm_at "z") | (focus (with_reducible apply T.z_ef);wtm_at "z";wtm_at "z") | (focus (with_reducible apply T.z_tp);wtm_at "z";exact rfl) | (focus (with_reducible apply T.z_ls);wtm_at "z";exact rfl) | (focus (with_reducible apply T.z_nw);wtm_at "z") | (focus (with_reducible apply T.z_cb);wtm_at "z";wtm_at "y") | (focus (with_reducible apply T.z_nt);wtm_at "z") | (focus (with_reducible apply T.z_nf);wtm_at "z") | (focus (with_reducible apply T.z_of);wtm_at "z";wtm_at "z") | (focus (with_reducible apply T.z_ot);wtm_at "z") | (focus (with_reducible apply T.z_at);wtm_at "z";wtm_at "z") | (focus (with_reducible apply T.z_af);wtm_at "z") | (focus (with_reducible apply T.z_ao);wtm_at "z";exact rfl) | (focus (with_reducible apply T.z_ap);exact rfl;wtm_at "z";exact rfl;wtm_at "y") | (focus (with_reducible apply T.z_fr);wtm_at "z";wtm_at "y";wtm_at "y") | (focus (with_reducible apply T.z_fl);wtm_at "z";wtm_at "y") | (focus (with_reducible apply T.z_ft);wtm_at "z";wtm_at "y") | exact rfl)
local macro_rules | `(tactic| wtm_at "Z")=>`(tactic| (apply T.z_fn;first | (focus (apply T.z_sq;wtm_at "z";wtm_at "z")) | (focus (apply T.z_sr;wtm_at "z")) | (focus (apply T.z_rt;wtm_at "z"))))
local macro_rules | `(tactic| wtm_at "Y")=>`(tactic| (first | (with_reducible apply T.z_sq) | apply T.z_sq);wtm_at "z")
namespace T
open PySem L2 DL
abbrev P6:a8:=BM W6 vD
def QU {a b:Pt}{fd:vT_}(fs:vO_) (ha:PtS 120 a) (hb:PtS 120 b) (hf:∀p∈fd,PtS 120 p) (h0:0<fd.length) (hl:fd.length<=30) (J:∀q,Cl fd a b q->PtS 300 q):P6 [.tup (fd.map pt),pt a,pt b] fs=some (C3 (Q0 a b (p8 true fd)),fs):=by
 have e:=Oo fs ha hb hf hl;have U:=eS a b (p8 true fd);have W:=aU true fd;have s:=qX (k:=600) (by decide) (.lst ((Q0 a b (p8 true fd)).map pt)) (Q0 a b (p8 true fd)) fs rfl (fun z M=>(J z ((ie h0 a b z).mp M)).ps) (by omega);wtm_at "Z"
abbrev kQ:a8:=wo LS F4 LX
def oE {a b:Pt}(fs:vO_) (ha:PtS 120 a) (hb:PtS 120 b):kQ [pt a,pt b] fs=some (.tup [fr (b.1 - a.1),fr (b.2 - a.2)],fs):=by
 have U:=dJ a fs ha.ps (by decide);have M:=dJ b fs hb.ps (by decide);have W:=X7 a.1 fs;have J:=X7 a.2 fs;have s1:=V5 b.1 (-a.1) fs hb.x ha.x.neg (by decide);have s2:=V5 b.2 (-a.2) fs hb.y ha.y.neg (by decide);rw[<-WX] at s1 s2;wtm_at "Z"
abbrev lV:a8:=vn LS F4 LP
def vZ {x y z w:Rat}(fs:vO_) (M:Sz 241 x) (U:Sz 241 y) (hz:Sz 241 z) (J:Sz 241 w):lV [.tup [fr x,fr y],.tup [fr z,fr w]] fs=some (fr (x*w - y*z),fs):=by
 have p1:=P9 x w fs M J (by decide);have p2:=P9 y z fs U hz (by decide);have m:=X7 (y*z) fs;have s:=V5 (x*w) (-(y*z)) fs (M.mul J) (U.mul hz).neg (by decide);rw[<-WX] at s;wtm_at "Z"
abbrev bQ:a8:=qk LG LP LF lV kQ
def kr {t d:Rat}(hd:d≠0):Rat.divInt (t.num*d.den) (t.den*d.num)=t / d:=by
 have M:=aI t;have J:=aI d;have td:((t.den:Int):Rat)≠0:=fun z=>G7 t (Uq.mp z)
 have U:((d.den:Int):Rat)≠0:=fun z=>G7 d (Uq.mp z)
 rw[Tx,SQ,SQ,M,J,SD,SD];grind
def Bo {a b u w:Pt}(fs:vO_) (ha:PtS 120 a) (hb:PtS 120 b) (hu:PtS 120 u) (J:PtS 120 w) (hd:c7 a b u - c7 a b w≠0):bQ [pt u,pt w,pt a,pt b] fs=some (pt (xq a b u w),fs):=by
 have d1:=oE fs hu J;have d2:=oE fs hu ha;have d3:=oE fs ha hb;have z:∀{x y:Rat},Sz 120 x->Sz 120 y->Sz 241 (y - x):=fun {x y} hx hy=>(hy.sub hx).mono (by decide)
 have t1:=vZ fs (z hu.x ha.x) (z hu.y ha.y) (z ha.x hb.x) (z ha.y hb.y);have t2:=vZ fs (z hu.x J.x) (z hu.y J.y) (z ha.x hb.x) (z ha.y hb.y);have Z:(a.1 - u.1)*(b.2 - a.2) - (a.2 - u.2)*(b.1 - a.1)=c7 a b u:=by unfold c7;grind
 have Y:(w.1 - u.1)*(b.2 - a.2) - (w.2 - u.2)*(b.1 - a.1)=c7 a b u - c7 a b w:=by unfold c7;grind
 have U:Sz 965 (c7 a b u):=by rw[<-Z];exact(((z hu.x ha.x).mul (z ha.y hb.y)).sub ((z hu.y ha.y).mul (z ha.x hb.x))).mono (by decide)
 have M:Sz 965 (c7 a b u - c7 a b w):=by rw[<-Y];exact(((z hu.x J.x).mul (z ha.y hb.y)).sub ((z hu.y J.y).mul (z ha.x hb.x))).mono (by decide)
 rw[Z] at t1;rw[Y] at t2;have W:((c7 a b u).den:Int)*(c7 a b u - c7 a b w).num≠0:=TV (G7 _) (fun y=>hd (Xo.mp y));have f:=T8 ((c7 a b u).num*(c7 a b u - c7 a b w).den) ((c7 a b u).den*(c7 a b u - c7 a b w).num) fs W (U.den.mul M.num) (by decide);have zs:Sz 1930 (c7 a b u / (c7 a b u - c7 a b w)):=by
  rw[<-kr hd];exact Sz.of_divInt W (U.num.mul M.den) (U.den.mul M.num)
 rw[kr hd] at f;have p1:=P9 (c7 a b u / (c7 a b u - c7 a b w)) (w.1 - u.1) fs zs (z hu.x J.x) (by decide);have p2:=P9 (c7 a b u / (c7 a b u - c7 a b w)) (w.2 - u.2) fs zs (z hu.y J.y) (by decide);have g:=gm u _ _ fs hu.x hu.y (zs.mul (z hu.x J.x)) (zs.mul (z hu.y J.y)) (by decide);have b1:=U.num.bits (by decide);have b2:=M.den.bits (by decide);have b3:=U.den.bits (by decide);have b4:=M.num.bits (by decide)
 show qk LG LP LF lV kQ [pt u,pt w,pt a,pt b] fs=some (pt (u.1+c7 a b u / (c7 a b u - c7 a b w)*(w.1 - u.1),u.2+c7 a b u / (c7 a b u - c7 a b w)*(w.2 - u.2)),fs);generalize c7 a b u / (c7 a b u - c7 a b w)=sh at *;generalize c7 a b u - c7 a b w=bo at *;generalize c7 a b u=tp at *;refine n9 (s:=⟨[.v (pt u),.v (pt w),.v (pt a),.v (pt b),.v (.tup [fr (w.1 - u.1),fr (w.2 - u.2)]),.v (.tup [fr (a.1 - u.1),fr (a.2 - u.2)]),.v (.tup [fr (b.1 - a.1),fr (b.2 - a.2)]),.v (fr tp),.v (fr bo),.v (fr sh)],fs⟩) ?_;show lT LG LP LF lV kQ ⟨[.v (pt u),.v (pt w),.v (pt a),.v (pt b),.no,.no,.no,.no,.no,.no],fs⟩=_;unfold lT;rw[d8 (s1:=⟨[.v (pt u),.v (pt w),.v (pt a),.v (pt b),.v (.tup [fr (w.1 - u.1),fr (w.2 - u.2)]),.no,.no,.no,.no,.no],fs⟩) (k6 (i7 rfl d1) rfl)];rw[d8 (s1:=⟨[.v (pt u),.v (pt w),.v (pt a),.v (pt b),.v (.tup [fr (w.1 - u.1),fr (w.2 - u.2)]),.v (.tup [fr (a.1 - u.1),fr (a.2 - u.2)]),.no,.no,.no,.no],fs⟩) (k6 (i7 rfl d2) rfl)];rw[d8 (s1:=⟨[.v (pt u),.v (pt w),.v (pt a),.v (pt b),.v (.tup [fr (w.1 - u.1),fr (w.2 - u.2)]),.v (.tup [fr (a.1 - u.1),fr (a.2 - u.2)]),.v (.tup [fr (b.1 - a.1),fr (b.2 - a.2)]),.no,.no,.no],fs⟩) (k6 (i7 rfl d3) rfl)];rw[d8 (s1:=⟨[.v (pt u),.v (pt w),.v (pt a),.v (pt b),.v (.tup [fr (w.1 - u.1),fr (w.2 - u.2)]),.v (.tup [fr (a.1 - u.1),fr (a.2 - u.2)]),.v (.tup [fr (b.1 - a.1),fr (b.2 - a.2)]),.v (fr tp),.no,.no],fs⟩) (k6 (i7 rfl t1) rfl)];rw[d8 (s1:=⟨[.v (pt u),.v (pt w),.v (pt a),.v (pt b),.v (.tup [fr (w.1 - u.1),fr (w.2 - u.2)]),.v (.tup [fr (a.1 - u.1),fr (a.2 - u.2)]),.v (.tup [fr (b.1 - a.1),fr (b.2 - a.2)]),.v (fr tp),.v (fr bo),.no],fs⟩) (k6 (i7 rfl t2) rfl)];rw[d8 (s1:=⟨[.v (pt u),.v (pt w),.v (pt a),.v (pt b),.v (.tup [fr (w.1 - u.1),fr (w.2 - u.2)]),.v (.tup [fr (a.1 - u.1),fr (a.2 - u.2)]),.v (.tup [fr (b.1 - a.1),fr (b.2 - a.2)]),.v (fr tp),.v (fr bo),.v (fr sh)],fs⟩) (k6 (i7 (j3 (c6 (c6 rfl rfl (T7 tp)) (c6 rfl rfl (O6 bo)) (n8 b1 b2)) (j3 (c6 (c6 rfl rfl (O6 tp)) (c6 rfl rfl (T7 bo)) (n8 b3 b4)) rfl)) f) rfl)];exact p9 (i7 (j3 rfl (j3 (i7 (j3 rfl (j3 (c6 rfl rfl rfl) rfl)) p1) (j3 (i7 (j3 rfl (j3 (c6 rfl rfl rfl) rfl)) p2) rfl))) g)
def sg {x y:Rat}(h:x*y<0):x - y≠0:=fun z=>by
 have e:y=x:=by grind
 rw[e] at h;have:=cM x;grind
def qW (x y:Rat):i8 x*i8 y<0↔x*y<0:=by
 rw[<-nN];rcases eM x with ⟨_,e⟩ | ⟨_,e⟩ | ⟨_,e⟩ <;> rcases eM y with ⟨_,e'⟩ | ⟨_,e'⟩ | ⟨_,e'⟩ <;> rw[e,e'] <;> decide
def zI (x:Rat):0<=i8 x↔0<=x:=by
 rcases eM x with ⟨a,e⟩ | ⟨a,e⟩ | ⟨a,e⟩ <;> rw[e]
 .exact⟨fun _=>Te a,fun _=>by decide⟩
 .exact⟨fun z=>absurd z (by decide),fun z=>absurd a (Uh.mpr z)⟩
 .rw[a];exact⟨fun _=>TJ,fun _=>by decide⟩
def V9 (a b:Pt) (fd:vT_):List Pt:=fd.filter fun v=>decide (0<=i8 (c7 a b v))
def ao (a b:Pt) (fd:vT_) (k:Nat):List Pt:=if i8 (c7 a b (tk fd (k+(fd.length - 1))))*i8 (c7 a b (tk fd k))<0 then [xq a b (tk fd (k+(fd.length - 1))) (tk fd k)] else []
def M8 (a b:Pt) (fd:vT_):List Pt:=V9 a b fd++(List.range fd.length).flatMap (ao a b fd)
def uo {fd:vT_}(h0:0<fd.length) (k:Nat):tk fd (k+(fd.length - 1)+1)=tk fd k:=by
 rw[show k+(fd.length - 1)+1=k+fd.length by omega,<-G3,UW,G3]
def yV {fd:vT_}(h0:0<fd.length) (a b q:Pt):q∈M8 a b fd↔Cl fd a b q:=by
 unfold M8 V9 Cl;rw[SM,Wl,List.mem_flatMap];constructor
 .rintro(⟨h1,h2⟩ | ⟨k,hk,hq⟩)
  .exact .inl ⟨h1,(zI _).mp (TQ h2)⟩
  .unfold ao at hq;by_cases c:i8 (c7 a b (tk fd (k+(fd.length - 1))))*i8 (c7 a b (tk fd k))<0
   .rw[tx c] at hq;refine .inr ⟨k+(fd.length - 1),?_,?_⟩
    .rw[uo h0];exact(qW _ _).mp c
    .rw[uo h0];exact SJ.mp hq
   .rw[So c] at hq;cases hq
 .rintro(⟨h1,h2⟩ | ⟨k,hk,rfl⟩)
  .exact .inl ⟨h1,SA ((zI _).mpr h2)⟩
  .refine .inr ⟨(k+1) % fd.length,Wm.mpr (Uz _ h0),?_⟩;have M:tk fd ((k+1) % fd.length)=tk fd (k+1):=G3 _;have J:tk fd ((k+1) % fd.length+(fd.length - 1))=tk fd k:=by
    rw[<-G3,Wi,show k+1+(fd.length - 1)=k+fd.length by omega,UW,G3]
   unfold ao;rw[M,J,tx ((qW _ _).mpr hk)];simp
def Ic (a b:Pt) (fd:vT_) (k:Nat):(ao a b fd k).length<=1:=by unfold ao;split <;> simp
theorem oG (a b:Pt) (fd:vT_):∀r:List Nat,(r.flatMap (ao a b fd)).length<=r.length
 |[]=>Su _
 |k::r=>by
  have:=oG a b fd r;have h:=Ic a b fd k;rw[Xl,SG,SW];omega
def Bu (a b:Pt) (fd:vT_):(M8 a b fd).length<=2*fd.length:=by
 unfold M8 V9;have h1:=Ys (fun v=>decide (0<=i8 (c7 a b v))) fd;have h2:=oG a b fd (List.range fd.length);rw[List.length_range] at h2;rw[SG];omega
abbrev U2:a8:=vt S0 S7 bQ
section
variable {a b:Pt}{fd:vT_}(fs:vO_) (ha:PtS 120 a) (hb:PtS 120 b) (hf:∀p∈fd,PtS 120 p) (h0:0<fd.length) (hl:fd.length<=30)
include ha hb
theorem uG:∀l:List Pt,(∀p∈l,PtS 120 p)->C2 (fun d=>some (.v d::[.v (pt a),.v (pt b)])) (dB (a7 (j6 (fun i j=>decide (j<=i))) (c8 S7 (a6 (dV 1) (a6 (dV 2) (a6 (dV 0) a9)))) (Zf 0))) (dV 0) (l.map pt) fs=some ((V9 a b l).map pt,fs)
 |[],_=>rfl
 |v::r,h=>by
  have J:=uG r fun p hp=>h p (SK _ hp)
  have T:=gp a b v fs ha.ps hb.ps (h v (SR ..)).ps (by decide);have c:dB (a7 (j6 (fun i j=>decide (j<=i))) (c8 S7 (a6 (dV 1) (a6 (dV 2) (a6 (dV 0) a9)))) (Zf 0)) ⟨[.v (pt v),.v (pt a),.v (pt b)],fs⟩=some (decide (0<=i8 (c7 a b v)),⟨[.v (pt v),.v (pt a),.v (pt b)],fs⟩):=u6 (c6 (i7 rfl T) rfl rfl);unfold V9 at *;rw[SN,C2,SH,c,SH,List.filter_cons];cases w:decide (0<=i8 (c7 a b v)) with
  |true=>
   rw[tx rfl,show dV 0 ⟨[.v (pt v),.v (pt a),.v (pt b)],fs⟩=some (pt v,⟨[.v (pt v),.v (pt a),.v (pt b)],fs⟩) from rfl,SH,J];rfl
  |false=>
   rw[So (show ¬ (false=true) by decide),J];rfl
include hf h0 hl
abbrev gS (a b:Pt) (fd acc:vT_) (x4 x5 x6:Sl) (fs:vO_):DS:=⟨[.v (.tup (fd.map pt)),.v (pt a),.v (pt b),.own (acc.map pt),x4,x5,x6],fs⟩
theorem PJ (J:vT_) (k:Nat) (hk:k<fd.length) (Z:J.length<=100) (x5 x6:Sl):jB S0 S7 bQ (gS a b fd J (.v (.int (k:Int))) x5 x6 fs)=some (.next,gS a b fd (J++ao a b fd k) (.v (.int (k:Int))) (.v (pt (tk fd (k+(fd.length - 1))))) (.v (pt (tk fd k))) fs):=by
 have U:=hf _ (Q3 (l:=fd) (k+(fd.length - 1)) h0);have M:=hf _ (Q3 (l:=fd) k h0);have iy:v8 (fd.map pt) ((k:Int) - 1)=some (pt (tk fd (k+(fd.length - 1)))):=by
  by_cases Y:k=0
  .rw[Y];unfold v8 S6;rw[So (by decide),tx (by rw[Ss];omega)];show (fd.map pt)[(((0:Nat):Int) - 1+((fd.map pt).length:Int)).toNat]? = _;rw[Ss,show (((0:Nat):Int) - 1+(fd.length:Int)).toNat=fd.length - 1 by omega,TM,Y2 (by omega),Ur];rfl
  .rw[show (k:Int) - 1=((k - 1:Nat):Int) by omega];have e:tk fd (k+(fd.length - 1))=tk fd (k - 1):=by
    rw[show k+(fd.length - 1)=k - 1+fd.length by omega,<-G3,UW,G3]
   rw[e];exact cx (by rw[TM,Y2 (by omega)];rfl)
 have iz:v8 (fd.map pt) (k:Int)=some (pt (tk fd k)):=cx (by rw[TM,Y2 hk];rfl);generalize eu:tk fd (k+(fd.length - 1))=u at *;generalize ew:tk fd k=w at *;have t1:=gp a b u fs ha.ps hb.ps U.ps (by decide);have t2:=gp a b w fs ha.ps hb.ps M.ps (by decide);have b1:=ko (c7 a b u);have W:=ko (c7 a b w);unfold jB;rw[d8 (s1:=gS a b fd J (.v (.int (k:Int))) (.v (pt u)) (.v (pt w)) fs) (qg (j3 (c6 (x:=.tup (fd.map pt)) rfl (c6 rfl rfl rfl) ((bF _ _).trans iy)) (j3 (c6 (x:=.tup (fd.map pt)) rfl rfl ((bF _ _).trans iz)) rfl)) rfl)];have c:dB (a7 (j6 (fun i j=>decide (i<j))) (a7 i6 (c8 S7 (a6 (dV 1) (a6 (dV 2) (a6 (dV 5) a9)))) (c8 S7 (a6 (dV 1) (a6 (dV 2) (a6 (dV 6) a9))))) (Zf 0)) (gS a b fd J (.v (.int (k:Int))) (.v (pt u)) (.v (pt w)) fs)=some (decide (i8 (c7 a b u)*i8 (c7 a b w)<0),gS a b fd J (.v (.int (k:Int))) (.v (pt u)) (.v (pt w)) fs):=
  u6 (c6 (c6 (i7 rfl t1) (i7 rfl t2) (n8 b1 W)) rfl rfl)
 unfold ao;rw[eu,ew];by_cases h:i8 (c7 a b u)*i8 (c7 a b w)<0
 .rw[SA h] at c;rw[E6 c,tx h];have e:=Bo fs ha hb U M (sg ((qW _ _).mp h));have:=Q2 (i:=3) (s:=gS a b fd J (.v (.int (k:Int))) (.v (pt u)) (.v (pt w)) fs) (s1:=gS a b fd J (.v (.int (k:Int))) (.v (pt u)) (.v (pt w)) fs) (ds:=J.map pt) (ds0:=J.map pt) (d:=pt (xq a b u w)) (f:=c8 bQ (a6 (dV 5) (a6 (dV 6) (a6 (dV 1) (a6 (dV 2) a9))))) rfl (i7 rfl e) rfl (by rw[Ss];exact TC Z (by decide));rw[this];unfold gS;rw[Tj];rfl
 .rw[SF h] at c;rw[aL c,So h,Tt];rfl
theorem Ex (hx:∀q,Cl fd a b q->PtS 300 q):U2 [.tup (fd.map pt),pt a,pt b] fs=some (C3 (M8 a b fd),fs):=by
 have c:=uG fs ha hb fd hf;have fl:=Ys (fun v=>decide (0<=i8 (c7 a b v))) fd;obtain⟨s',e,U,M,J,rfl⟩:=jh (t:=d6 4) (b:=jB S0 S7 bQ) (fun i s=>∃U M J,s=gS a b fd (V9 a b fd++(List.range i).flatMap (ao a b fd)) U M J fs) (P7 0 fd.length) 0 (gS a b fd (V9 a b fd) .no .no .no fs) ⟨_,_,_,by rw[List.range_zero,Yr,Tt]⟩ (by
  rintro i d s hd ⟨U,M,J,rfl⟩;obtain⟨rfl,hi⟩:=jZ hd;rw[Ur,Yt];have lr:=oG a b fd (List.range i);rw[List.length_range] at lr;have T:=PJ fs ha hb hf h0 hl (V9 a b fd++(List.range i).flatMap (ao a b fd)) i hi (by rw[SG];unfold V9;omega) M J;refine⟨_,_,rfl,.inl T,.v (.int (i:Int)),.v (pt (tk fd (i+(fd.length - 1)))),.v (pt (tk fd i)),?_⟩;rw[List.range_succ,List.flatMap_append,Xl,Yr,Tt,Ul])
 rw[Ur,gG] at e;have ln:=Bu a b fd;have Y:PL (M8 a b fd):=fun p hp=>hx p ((yV h0 a b p).mp hp)
 have Z:j7 (one r8) (a6 (dL 0) a9) (gS a b fd (V9 a b fd) .no .no .no fs)=some (.int (fd.length:Int),gS a b fd (V9 a b fd) .no .no .no fs):=by
  refine F8 (x:=.tup (fd.map pt)) rfl ?_;show some (D.int ((fd.map pt).length:Nat))=_;rw[Ss]
 have ne:B4 (.lst ((M8 a b fd).map pt)) (.lst [])=some (.bl (!decide (M8 a b fd=[]))):=by
  have e1:=yC Y;have e2:L5 (.lst [])=true:=rfl;show (if L5 (.lst ((M8 a b fd).map pt))&&L5 (.lst []) then some (D.bl (!PyData.eqv (D.lst ((M8 a b fd).map pt)).py (D.lst []).py)) else none)=_;rw[e1,e2];cases M8 a b fd with
  |nil=>rfl
  |cons p r=>rfl
 have W:rQ S0 S7 bQ ⟨[.v (.tup (fd.map pt)),.v (pt a),.v (pt b),.no,.no,.no,.no],fs⟩=f9 (u4 (dB (a7 B4 (dL 3) (m6 (l7 a9)))) (c8 S0 (a6 (dV 3) a9)) (dC .non)) (gS a b fd (M8 a b fd) U M J fs):=by
  unfold rQ;rw[d8 (s1:=gS a b fd (V9 a b fd) .no .no .no fs) (Q7 (i:=3) (s1:=⟨[.v (.tup (fd.map pt)),.v (pt a),.v (pt b),.no,.no,.no,.no],fs⟩) (ds:=(V9 a b fd).map pt) (aC (idx:=[1,2]) (fi:=G5 (dV 0)) (s:=⟨[.v (.tup (fd.map pt)),.v (pt a),.v (pt b),.no,.no,.no,.no],fs⟩) (s1:=⟨[.v (.tup (fd.map pt)),.v (pt a),.v (pt b),.no,.no,.no,.no],fs⟩) (ds:=fd.map pt) rfl (by rw[Ss];exact SI hl (by decide)) c) (by show 3<7;decide))];rw[d8 ((jv (j3 Z rfl) (gH (by omega))).trans e)];rfl
 by_cases h:M8 a b fd=[]
 .have hh:C3 (M8 a b fd) = .non:=by
   rw[h];unfold C3;have:v5 ([]:vT_)=[]:=rfl;rw[this];rfl
  rw[hh];refine n9 (s:=gS a b fd (M8 a b fd) U M J fs) (W.trans (p9 ((S5 (u6 (c6 (s1:=gS a b fd (M8 a b fd) U M J fs) rfl rfl (ne.trans (by rw[SA h];rfl))))).trans rfl)))
 .have hu:=Bx fs Y (List.length_pos_iff.mpr h) (by omega);refine n9 (s:=⟨[.v (.tup (fd.map pt)),.v (pt a),.v (pt b),.v (.lst ((M8 a b fd).map pt)),U,M,J],fs⟩) (W.trans (p9 ((aw (u6 (c6 (s1:=gS a b fd (M8 a b fd) U M J fs) rfl rfl (ne.trans (by rw[SF h];rfl))))).trans (fR (sl':=[.v (.tup (fd.map pt)),.v (pt a),.v (pt b),.v (.lst ((M8 a b fd).map pt)),U,M,J]) rfl hu))))
end
def uc {k:Nat}{l:vT_}(h:∀z∈l,Ps k z) (hk:k<=1920:=by decide):Ok 2 (l.length*4) (.tup (l.map pt)):=by
 have:=OkL.all (k:=1) (n:=3) (ds:=l.map pt) (fun d hd=>by
  obtain⟨z,J,rfl⟩:=Tg.mp hd;exact Ok.pt (h z J) hk)
 rw[Ss] at this;exact Ok.tup this
def C0 (a:Pt) (h:Rat) (w:Int × Int):Pt:=(a.1+h*Rat.divInt w.1 5,a.2+h*Rat.divInt w.2 5)
def gR (u v:Int × Int):Bool:=decide (u.1<v.1)||(decide (u.1=v.1)&&decide (u.2<v.2))
def gN (u v w:Int × Int):Int:=(v.1 - u.1)*(w.2 - u.2) - (v.2 - u.2)*(w.1 - u.1)
def gP (u v w:Int × Int):Bool:=decide (0<gN u v w)
abbrev WY:List (Int × Int):=[(5,0),(4,3),(3,4),(0,5),(-3,4),(-4,3),(-5,0),(-4,-3),(-3,-4),(0,-5),(3,-4),(4,-3)]
abbrev WL:List (Int × Int):=[(-5,0),(-4,-3),(-3,-4),(0,-5),(3,-4),(4,-3),(5,0),(4,3),(3,4),(0,5),(-3,4),(-4,3)]
def KL:P0 gR gP (A8 WY)=WL:=by decide +kernel
def Ed:P0 gR gP (A8 WL)=WL:=by decide +kernel
def d5 (x:Int):Rat.divInt x 5=(x:Rat)*(1 / 5):=by rw[Tx];grind
def sV:(0:Rat)<1 / 5:=by decide +kernel
def Iq (r:Rat):i8 r=1↔0<r:=by
 unfold i8;by_cases h:0<r
 .rw[tx h];exact⟨fun _=>h,fun _=>rfl⟩
 .rw[So h];by_cases h2:r<0
  .rw[tx h2];exact⟨fun z=>absurd z (by decide),fun z=>absurd z h⟩
  .rw[So h2];exact⟨fun z=>absurd z (by decide),fun z=>absurd z h⟩
section
variable {a:Pt}{h:Rat}(hp:0<h)
include hp
theorem Lf (c x y:Rat):(c+h*(x*(1 / 5))<c+h*(y*(1 / 5)))↔x<y:=by
 have k:0<h*(1 / 5:Rat):=SE hp sV;have M:c+h*(x*(1 / 5))=c+(h*(1 / 5))*x:=by grind
 have J:c+h*(y*(1 / 5))=c+(h*(1 / 5))*y:=by grind
 rw[M,J,Rat.add_lt_add_left];exact VZ k
theorem zG (c x y:Rat):(c+h*(x*(1 / 5))=c+h*(y*(1 / 5)))↔x=y:=by
 constructor
 .intro e;have k:h*(1 / 5:Rat)≠0:=by
   have:0<h*(1 / 5:Rat):=SE hp sV;grind
  grind
 .rintro rfl;rfl
theorem GV (u v:Int × Int):j5 (C0 a h u) (C0 a h v)=gR u v:=by
 have i1:((u.1:Rat)<(v.1:Rat))↔u.1<v.1:=VY;have i2:((u.1:Rat)=(v.1:Rat))↔u.1=v.1:=VC;have J:((u.2:Rat)<(v.2:Rat))↔u.2<v.2:=VY;unfold j5 gR C0;rw[Ua];simp only[Bool.or_eq_true,TK,TH,d5,Lf hp,zG hp,i1,i2,J]
theorem NA (u v:Int × Int) (e:C0 a h u=C0 a h v):u=v:=by
 unfold C0 at e;simp only[SX,d5,zG hp] at e;exact SU (VC.mp e.1) (VC.mp e.2)
theorem Sa (u v w:Int × Int):l8 (C0 a h u) (C0 a h v) (C0 a h w)=gP u v w:=by
 have k:0<(h*(1 / 5))*(h*(1 / 5):Rat):=by
  have:0<h*(1 / 5:Rat):=SE hp sV;exact SE this this
 have e:c7 (C0 a h u) (C0 a h v) (C0 a h w)=((h*(1 / 5))*(h*(1 / 5)))*((gN u v w:Int):Rat):=by
  unfold c7 C0 gN;simp only[d5,Ue,SQ];grind
 unfold l8 gP;rw[e,Ua,TH,TH,Iq];constructor
 .intro z;have:(0:Rat)<((gN u v w:Int):Rat):=by
   by_cases y:(0:Rat)<((gN u v w:Int):Rat)
   .exact y
   .exact absurd z (Uh.mpr (by
     have:=Za (Uh.mp y) (Te k)
     rwa [UA] at this))
  exact TF.mp this
 .intro z;exact SE k (TF.mpr z)
end
def dQ {x:Int}(h:x.natAbs<=5):Sz 3 (Rat.divInt x 5):=Sz.of_divInt (by decide) (by show x.natAbs<8;omega) (by decide)
def Jx {h:Rat}{w:Int × Int}(ha:PtS 70 a) (hh:Sz 14 h) (h1:w.1.natAbs<=5) (h2:w.2.natAbs<=5):PtS 88 (C0 a h w):=⟨(ha.x.add (hh.mul (dQ h1))).mono (by decide),(ha.y.add (hh.mul (dQ h2))).mono (by decide)⟩
def rJ:∀w∈WY,w.1.natAbs<=5/\w.2.natAbs<=5:=by decide
def zR:∀w∈WL,w.1.natAbs<=5/\w.2.natAbs<=5:=by decide
abbrev eQ:a8:=CJ FL
def Dz (p:Rat) (h:Rat) (x X L:Int) (W:(L:Rat)≠0) (M:(X:Rat)=p*(L:Rat)):Rat.divInt (X*(5*(h.den:Int))+h.num*x*L) (L*(5*(h.den:Int)))=p+h*Rat.divInt x 5:=by
 have hd:((h.den:Int):Rat)≠0:=fun z=>G7 h (Uq.mp z)
 have U:=aI h;rw[Tx,d5];simp only[Vm,SQ];rw[M,U];have J:((5:Int):Rat)=5:=rfl;rw[J];grind
def OA {h:Rat}{w:Int × Int}(ha:PtS 70 a) (hh:Sz 14 h) (h1:w.1.natAbs<=5) (h2:w.2.natAbs<=5) (fs:vO_):eQ [pt a,fr h,.tup [.int w.1,.int w.2]] fs=some (pt (C0 a h w),fs):=by
 have P:=ha.ps;have U:Bd 3 w.1:=by show w.1.natAbs<8;omega
 have M:Bd 3 w.2:=by show w.2.natAbs<8;omega
 have W:Bd 3 (5:Int):=by show (5:Int).natAbs<8;decide
 have J:=W.mul hh.den;have Y:pL a*(5*(h.den:Int))≠0:=TV (Y1 a) (TV (by decide) (G7 h));have e:=jC (pX a*(5*(h.den:Int))+h.num*w.1*pL a) (pY a*(5*(h.den:Int))+h.num*w.2*pL a) (pL a*(5*(h.den:Int))) fs Y (P.l.mul J) (by decide);rw[Dz a.1 h w.1 (pX a) (pL a) (M7 a) (N5 a),Dz a.2 h w.2 (pY a) (pL a) (M7 a) (N8 a)] at e;refine n9 (s:=⟨[.v (pt a),.v (fr h),.v (.tup [.int w.1,.int w.2]),.v (.int (5*(h.den:Int))),.v (.int (pX a*(5*(h.den:Int))+h.num*w.1*pL a)),.v (.int (pY a*(5*(h.den:Int))+h.num*w.2*pL a))],fs⟩) ?_;show kP FL ⟨[.v (pt a),.v (fr h),.v (.tup [.int w.1,.int w.2]),.no,.no,.no],fs⟩=_;unfold kP;rw[d8 (s1:=⟨[.v (pt a),.v (fr h),.v (.tup [.int w.1,.int w.2]),.v (.int (5*(h.den:Int))),.no,.no],fs⟩) (k6 (c6 rfl (c6 rfl rfl (O6 h)) (n8 (W.bits (by decide)) (hh.den.bits (by decide)))) rfl)];rw[d8 (s1:=⟨[.v (pt a),.v (fr h),.v (.tup [.int w.1,.int w.2]),.v (.int (5*(h.den:Int))),.v (.int (pX a*(5*(h.den:Int))+h.num*w.1*pL a)),.no],fs⟩) (k6 (c6
  (c6 (c6 rfl rfl (T3 a)) rfl (n8 (P.x.bits (by decide)) (J.bits (by decide))))
  (c6 (c6 (c6 rfl rfl (T7 h)) (c6 rfl rfl (bO (.int w.1) (.int w.2))) (n8 (hh.num.bits (by decide)) (U.bits (by decide)))) (c6 rfl rfl (K4 a)) (n8 ((hh.num.mul U).bits (by decide)) (P.l.bits (by decide)))) rfl) rfl)]
 rw[d8 (s1:=⟨[.v (pt a),.v (fr h),.v (.tup [.int w.1,.int w.2]),.v (.int (5*(h.den:Int))),.v (.int (pX a*(5*(h.den:Int))+h.num*w.1*pL a)),.v (.int (pY a*(5*(h.den:Int))+h.num*w.2*pL a))],fs⟩) (k6 (c6
  (c6 (c6 rfl rfl (U4 a)) rfl (n8 (P.y.bits (by decide)) (J.bits (by decide))))
  (c6 (c6 (c6 rfl rfl (T7 h)) (c6 rfl rfl (cE (.int w.1) (.int w.2))) (n8 (hh.num.bits (by decide)) (M.bits (by decide)))) (c6 rfl rfl (K4 a)) (n8 ((hh.num.mul M).bits (by decide)) (P.l.bits (by decide)))) rfl) rfl)]
 exact p9 (i7 (A0 (Z2 rfl rfl (c6 (c6 rfl rfl (K4 a)) rfl (n8 (P.l.bits (by decide)) (J.bits (by decide))))) rfl) e)
def O0 (w:Int × Int):D:=.tup [.int w.1,.int w.2]
abbrev ir:a8:=vP W6 eQ
def DX {h:Rat}(hp:0<h) (W:List (Int × Int)) (e:P0 gR gP (A8 W)=WL):v5 (W.map (C0 a h))=WL.map (C0 a h):=by
 unfold v5;rw[uS (NA hp),MZ (GV hp) (Sa hp),e]
def uI {h:Rat}(ha:PtS 70 a) (hh:Sz 14 h) (hp:0<h) (fs:vO_):ir [pt a,fr h] fs=some (.tup ((WL.map (C0 a h)).map pt),fs):=by
 have c:C2 (fun d=>some (.v d::[.v (pt a),.v (fr h)])) E3 (c8 eQ (a6 (dV 1) (a6 (dV 2) (a6 (dV 0) a9)))) (WY.map O0) fs=some ((WY.map (C0 a h)).map pt,fs):=by
  have key:∀W:List (Int × Int),(∀w∈W,w.1.natAbs<=5/\w.2.natAbs<=5)->C2 (fun d=>some (.v d::[.v (pt a),.v (fr h)])) E3 (c8 eQ (a6 (dV 1) (a6 (dV 2) (a6 (dV 0) a9)))) (W.map O0) fs=some ((W.map (C0 a h)).map pt,fs):=by
   intro W;induction W with
   |nil=>intro _;rfl
   |cons w r ih=>
    intro J;obtain⟨U,Y⟩:=J w (SR ..);have e:c8 eQ (a6 (dV 1) (a6 (dV 2) (a6 (dV 0) a9))) ⟨[.v (O0 w),.v (pt a),.v (fr h)],fs⟩=some (pt (C0 a h w),⟨[.v (O0 w),.v (pt a),.v (fr h)],fs⟩):=i7 rfl (OA ha hh U Y fs);have q:=ih fun x M=>J x (SK _ M)
    simp[C2,E3,e,q]
  exact key WY rJ
 have S:=qX (k:=176) (by decide) (.lst ((WY.map (C0 a h)).map pt)) (WY.map (C0 a h)) fs rfl (fun z Z=>by
  obtain⟨w,J,rfl⟩:=Tg.mp Z;exact(Jx ha hh (rJ w J).1 (rJ w J).2).ps) (by rw[Ss];decide)
 have e:C3 (WY.map (C0 a h)) = .tup ((WL.map (C0 a h)).map pt):=by
  unfold C3;rw[DX hp WY KL,So (by rw[Ss];decide)]
 rw[e] at S;refine n9 (s:=⟨[.v (pt a),.v (fr h)],fs⟩) ?_;show sE W6 eQ ⟨[.v (pt a),.v (fr h)],fs⟩=_;unfold sE;exact p9 (i7 (A0 (U0 (aC (ds:=WY.map O0) rfl (by rw[Ss];decide) c)) rfl) S)
abbrev bH:a8:=AM LG LP LF
def ud {h:Rat}(ha:PtS 70 a) (hh:Sz 14 h) (fs:vO_):bH [pt a,fr h] fs=some (.tup ((WL.map (C0 a h)).map pt),fs):=by
 have lp:∀(W:List (Int × Int)) (J:vD_) (Y Z:Sl),(∀w∈W,w.1.natAbs<=5/\w.2.natAbs<=5)->J.length+W.length<1000->∃M U,C4 (y9 2 (t9 (d6 4) (t9 (d6 5) A3))) (sk LG LP LF) (W.map O0) ⟨[.v (pt a),.v (fr h),.v (.lst (WL.map O0)),.own J,Y,Z],fs⟩
   = some (.next,⟨[.v (pt a),.v (fr h),.v (.lst (WL.map O0)),.own (J++(W.map (C0 a h)).map pt),M,U],fs⟩):=by
  intro W;induction W with
  |nil=>intro J Y Z _ _;exact⟨Y,Z,by simp[C4]⟩
  |cons w r ih=>
   intro J Y Z hw hl;obtain⟨w1,w2⟩:=hw w (SR ..);have b1:Bd 3 w.1:=by show w.1.natAbs<8;omega
   have b2:Bd 3 w.2:=by show w.2.natAbs<8;omega
   have f1:=T8 w.1 5 fs (by decide) (k:=3) (by show (5:Int).natAbs<8;decide) (by decide);have f2:=T8 w.2 5 fs (by decide) (k:=3) (by show (5:Int).natAbs<8;decide) (by decide);have p1:=P9 h (Rat.divInt w.1 5) fs hh (dQ w1) (by decide);have p2:=P9 h (Rat.divInt w.2 5) fs hh (dQ w2) (by decide);have g:=gm a _ _ fs ha.x ha.y (hh.mul (dQ w1)) (hh.mul (dQ w2)) (by decide);have B:sk LG LP LF ⟨[.v (pt a),.v (fr h),.v (.lst (WL.map O0)),.own J,.v (.int w.1),.v (.int w.2)],fs⟩=some (.next,⟨[.v (pt a),.v (fr h),.v (.lst (WL.map O0)),.own (J++[pt (C0 a h w)]),.v (.int w.1),.v (.int w.2)],fs⟩):=
    Q2 (i:=3) (s:=⟨[.v (pt a),.v (fr h),.v (.lst (WL.map O0)),.own J,.v (.int w.1),.v (.int w.2)],fs⟩) (s1:=⟨[.v (pt a),.v (fr h),.v (.lst (WL.map O0)),.own J,.v (.int w.1),.v (.int w.2)],fs⟩) (ds:=J) (ds0:=J) (d:=pt (C0 a h w)) rfl
     (i7 (j3 rfl (j3 (i7 (j3 rfl (j3 (i7 rfl f1) rfl)) p1) (j3 (i7 (j3 rfl (j3 (i7 rfl f2) rfl)) p2) rfl))) g) rfl (by simp only[SW] at hl;exact Ta (by omega:J.length<1000) (by decide))
   obtain⟨M,U,q⟩:=ih (J++[pt (C0 a h w)]) (.v (.int w.1)) (.v (.int w.2)) (fun x hx=>hw x (SK _ hx)) (by simp only[SG,SW,UJ] at hl ⊢;omega);refine⟨M,U,?_⟩;rw[SN,W9 (s1:=⟨[.v (pt a),.v (fr h),.v (.lst (WL.map O0)),.own J,.v (.int w.1),.v (.int w.2)],fs⟩) rfl B,q];simp
 obtain⟨M,U,q⟩:=lp WL [] .no .no zR (by decide);refine n9 (s:=⟨[.v (pt a),.v (fr h),.v (.lst (WL.map O0)),.own ([]++(WL.map (C0 a h)).map pt),M,U],fs⟩) ?_;show kZ LG LP LF ⟨[.v (pt a),.v (fr h),.no,.no,.no,.no],fs⟩=_;unfold kZ;rw[d8 (s1:=⟨[.v (pt a),.v (fr h),.own (WL.map O0),.no,.no,.no],fs⟩) rfl];rw[d8 (s1:=⟨[.v (pt a),.v (fr h),.own (WL.map O0),.own [],.no,.no],fs⟩) rfl];rw[d8 (s1:=⟨[.v (pt a),.v (fr h),.v (.lst (WL.map O0)),.own ([]++(WL.map (C0 a h)).map pt),M,U],fs⟩) ((cy (s1:=⟨[.v (pt a),.v (fr h),.v (.lst (WL.map O0)),.own [],.no,.no],fs⟩) (ds:=WL.map O0) rfl).trans q)];exact p9 rfl
def P1 (p:Pt) (h:Rat) (t:Pt):Pt:=(p.1+h*t.1,p.2+h*t.2)
def gQ (p:Pt) (h:Rat) (w:Int × Int):C0 p h w=P1 p h (Rat.divInt w.1 5,Rat.divInt w.2 5):=rfl
def Hb (k:Nat) (t:Pt):Prop:=∃X Y L:Int,0<L/\Bd k X/\Bd k Y/\Bd k L/\t=((X:Rat) / (L:Rat),(Y:Rat) / (L:Rat))
theorem Hb.mono {k l:Nat}{t:Pt}(h:Hb k t) (hk:k<=l):Hb l t:=by
 obtain⟨X,Y,L,a,b,c,d,e⟩:=h;exact⟨X,Y,L,a,b.mono hk,c.mono hk,d.mono hk,e⟩
def Hb.pts {k:Nat}{t:Pt}(h:Hb k t):PtS k t:=by
 obtain⟨X,Y,L,a,b,c,d,rfl⟩:=h;refine⟨?_,?_⟩
 .show Sz k ((X:Rat) / (L:Rat));rw[<-Tx];exact Sz.of_divInt (by omega) b d
 .show Sz k ((Y:Rat) / (L:Rat));rw[<-Tx];exact Sz.of_divInt (by omega) c d
def mr {p t:Pt}{h:Rat}{j m k:Nat}(hp:PtS j p) (hh:Sz m h) (J:Hb k t):PtS (j+(m+k)+1) (P1 p h t):=⟨hp.x.add (hh.mul J.pts.x),hp.y.add (hh.mul J.pts.y)⟩
def K3 (p:Pt) (h:Rat) (d a b:Pt):Prop:=∃c:Rat,0<c/\∀t,c7 a b (P1 p h t)=c*i5 d t
def xj {c x y:Rat}(J:0<c) (h:c*x*(c*y)<0):x*y<0:=by
 refine VE.mp fun z=>?_
 have:=Tr (Tr (Te J) (Te J)) z;grind
def EG {k m:Nat}{d t s:Pt}(hd:Hb m d) (ht:Hb k t) (hs:Hb k s) (h:i5 d t*i5 d s<0):Hb (2*k+m+2) (u9 t s (i5 d t / (i5 d t - i5 d s))):=by
 obtain⟨A,B,C,c0,a1,b1,c1,rfl⟩:=hd;obtain⟨X,Y,L,l0,x1,y1,l1,rfl⟩:=ht;obtain⟨U,V,M,m0,u1,v1,m1,rfl⟩:=hs;have cR:(0:Rat)<(C:Rat):=TF.mpr c0;have lR:(0:Rat)<(L:Rat):=TF.mpr l0;have mR:(0:Rat)<(M:Rat):=TF.mpr m0;have cN:(C:Rat)≠0:=by grind
 have lN:(L:Rat)≠0:=by grind
 have mN:(M:Rat)≠0:=by grind
 have n1:Bd (m+k+1) (A*Y - B*X):=((a1.mul y1).sub (b1.mul x1)).mono (by omega);have n2:Bd (m+k+1) (A*V - B*U):=((a1.mul v1).sub (b1.mul u1)).mono (by omega);have e1:i5 ((A:Rat) / (C:Rat),(B:Rat) / (C:Rat)) ((X:Rat) / (L:Rat),(Y:Rat) / (L:Rat))=((A*Y - B*X:Int):Rat) / ((C:Rat)*(L:Rat)):=by
  unfold i5;simp only[Ue,SQ];grind
 have e2:i5 ((A:Rat) / (C:Rat),(B:Rat) / (C:Rat)) ((U:Rat) / (M:Rat),(V:Rat) / (M:Rat))=((A*V - B*U:Int):Rat) / ((C:Rat)*(M:Rat)):=by
  unfold i5;simp only[Ue,SQ];grind
 rw[e1,e2] at h ⊢;generalize A*Y - B*X=N1 at *;generalize A*V - B*U=N2 at *;have hN:(N1:Rat)*(N2:Rat)<0:=by
  refine VE.mp fun z=>?_
  have p:=Tr z (Te (SE (UX.mpr (SE cR lR)) (UX.mpr (SE cR mR))));rw[SD,SD] at h;grind
 have hI:N1*N2<0:=by
  have:((N1*N2:Int):Rat)<((0:Int):Rat):=by rw[SQ];exact hN
  exact VY.mp this
 have key:∀J Z:Int,0<J->0<Z->((N1:Rat)=(J:Rat)/\(N2:Rat) = -(Z:Rat))\/((N1:Rat) = -(J:Rat)/\(N2:Rat)=(Z:Rat))->Bd (m+k+1) J->Bd (m+k+1) Z->Hb (2*k+m+2) (u9 ((X:Rat) / (L:Rat),(Y:Rat) / (L:Rat)) ((U:Rat) / (M:Rat),(V:Rat) / (M:Rat)) ((N1:Rat) / ((C:Rat)*(L:Rat)) / ((N1:Rat) / ((C:Rat)*(L:Rat)) - (N2:Rat) / ((C:Rat)*(M:Rat))))):=fun J Z k1 k2 hs b1 b2=>by
  have g1:(0:Rat)<(J:Rat):=TF.mpr k1;have g2:(0:Rat)<(Z:Rat):=TF.mpr k2;have bot:(0:Rat)<(J:Rat)*(M:Rat)+(Z:Rat)*(L:Rat):=by
   have:=SE g1 mR;have:=SE g2 lR;grind
  have bI:0<J*M+Z*L:=by
   have:=Xk k1 m0;have:=Xk k2 l0;omega
  have s:(N1:Rat) / ((C:Rat)*(L:Rat)) / ((N1:Rat) / ((C:Rat)*(L:Rat)) - (N2:Rat) / ((C:Rat)*(M:Rat)))=(J:Rat)*(M:Rat) / ((J:Rat)*(M:Rat)+(Z:Rat)*(L:Rat)):=by
   rcases hs with ⟨w1,w2⟩ | ⟨w1,w2⟩
   .have e:(N1:Rat) / ((C:Rat)*(L:Rat)) - (N2:Rat) / ((C:Rat)*(M:Rat))=((J:Rat)*(M:Rat)+(Z:Rat)*(L:Rat)) / ((C:Rat)*(L:Rat)*(M:Rat)):=by rw[w1,w2];grind
    rw[e,w1];generalize (J:Rat)*(M:Rat)+(Z:Rat)*(L:Rat)=W at *;grind
   .have e:(N1:Rat) / ((C:Rat)*(L:Rat)) - (N2:Rat) / ((C:Rat)*(M:Rat)) = -((J:Rat)*(M:Rat)+(Z:Rat)*(L:Rat)) / ((C:Rat)*(L:Rat)*(M:Rat)):=by rw[w1,w2];grind
    rw[e,w1];generalize (J:Rat)*(M:Rat)+(Z:Rat)*(L:Rat)=W at *;grind
  rw[s];refine⟨J*U+Z*X,J*V+Z*Y,J*M+Z*L,bI,((b1.mul u1).add (b2.mul x1)).mono (by omega),((b1.mul v1).add (b2.mul y1)).mono (by omega),((b1.mul m1).add (b2.mul l1)).mono (by omega),?_⟩;unfold u9;simp only[Vm,SQ];refine SU ?_ ?_
  .show (X:Rat) / (L:Rat)+(J:Rat)*(M:Rat) / ((J:Rat)*(M:Rat)+(Z:Rat)*(L:Rat))*((U:Rat) / (M:Rat) - (X:Rat) / (L:Rat))=((J:Rat)*(U:Rat)+(Z:Rat)*(X:Rat)) / ((J:Rat)*(M:Rat)+(Z:Rat)*(L:Rat));generalize hW:(J:Rat)*(M:Rat)+(Z:Rat)*(L:Rat)=W at *;have k2:(Z:Rat)=(W - (J:Rat)*(M:Rat)) / (L:Rat):=by grind
   rw[k2];grind
  .show (Y:Rat) / (L:Rat)+(J:Rat)*(M:Rat) / ((J:Rat)*(M:Rat)+(Z:Rat)*(L:Rat))*((V:Rat) / (M:Rat) - (Y:Rat) / (L:Rat))=((J:Rat)*(V:Rat)+(Z:Rat)*(Y:Rat)) / ((J:Rat)*(M:Rat)+(Z:Rat)*(L:Rat));generalize hW:(J:Rat)*(M:Rat)+(Z:Rat)*(L:Rat)=W at *;have k2:(Z:Rat)=(W - (J:Rat)*(M:Rat)) / (L:Rat):=by grind
   rw[k2];grind
 rcases Int.lt_trichotomy N1 0 with q | q | q
 .have q2:0<N2:=by
   rcases Vj 0 N2 with z | z
   .exact z
   .have:=Zc (Xp q) z;omega
  exact key (-N1) N2 (by omega) q2 (.inr ⟨by rw[UT];grind,rfl⟩) n1.neg n2
 .rw[q,Int.zero_mul] at hI;omega
 .have q2:N2<0:=by
   rcases Vj N2 0 with z | z
   .exact z
   .have:=Ud (Xp q) z;omega
  exact key N1 (-N2) q (by omega) (.inl ⟨rfl,by rw[UT];grind⟩) n1 n2.neg
def Fr (p:Pt) (h:Rat) (k:Nat) (l:vT_):Prop:=∀q∈l,∃t,q=P1 p h t/\Hb k t
def IH (p:Pt) (h:Rat) (t s:Pt) (r:Rat):u9 (P1 p h t) (P1 p h s) r=P1 p h (u9 t s r):=by
 unfold u9 P1;exact SU (by grind) (by grind)
def Cy {p d a b:Pt}{h:Rat}{k m:Nat}{fd:vT_}(T:K3 p h d a b) (hd:Hb m d) (h0:0<fd.length) (F:Fr p h k fd) {q:Pt}(J:Cl fd a b q):∃t,q=P1 p h t/\Hb (2*k+m+2) t:=by
 obtain⟨c,c0,T⟩:=T;rcases J with ⟨J,_⟩ | ⟨j,U,rfl⟩
 .obtain⟨t,e,M⟩:=F q J;exact⟨t,e,M.mono (by omega)⟩
 .obtain⟨t,e,M⟩:=F _ (Q3 j h0);obtain⟨s,Z,hs⟩:=F _ (Q3 (j+1) h0);rw[e,Z] at U ⊢;rw[T,T] at U;have W:=xj c0 U;refine⟨_,?_,EG hd M hs W⟩;unfold xq;rw[T,T,IH];have:c*i5 d t / (c*i5 d t - c*i5 d s)=i5 d t / (i5 d t - i5 d s):=by
   have nz:=sg W;have Y:c*i5 d t - c*i5 d s≠0:=fun z=>by
    have e:c*(i5 d t - i5 d s)=0:=by grind
    rcases Td.mp e with w | w
    .grind
    .exact nz w
   rw[SD,SD];grind
  rw[this]
def Ll {p d a b Z Y:Pt}{h:Rat}{k:Nat}{fd:vT_}(T:K3 p h d a b) (J:K3 p h d Z Y) (h0:0<fd.length) (F:Fr p h k fd) (q:Pt):Cl fd a b q↔Cl fd Z Y q:=by
 obtain⟨c,U,T⟩:=T;obtain⟨e,W,J⟩:=J;have M:∀{c e:Rat}{a b Z Y:Pt},0<c->0<e->(∀t,c7 a b (P1 p h t)=c*i5 d t)->(∀t,c7 Z Y (P1 p h t)=e*i5 d t)->Cl fd a b q->Cl fd Z Y q:=by
  intro c e a b Z Y U W T J hq;rcases hq with ⟨hq,w⟩ | ⟨j,hj,rfl⟩
  .obtain⟨t,rfl,_⟩:=F q hq;refine .inl ⟨hq,?_⟩;rw[T] at w;rw[J];refine Tr (Te W) (Uh.mp fun z=>?_);have:=SE U (show 0 < -i5 d t by grind);grind
  .obtain⟨t,e1,_⟩:=F _ (Q3 j h0);obtain⟨s,e2,_⟩:=F _ (Q3 (j+1) h0);have hj':=hj;rw[e1,e2,T,T] at hj;have hn:=xj U hj;refine .inr ⟨j,?_,?_⟩
   .rw[e1,e2,J,J];have:=SE (SE W W) (show 0 < -(i5 d t*i5 d s) by grind);grind
   .unfold xq;rw[e1,e2,T,T,J,J];have nz:=sg hn;have gen:∀{c:Rat},0<c->c*i5 d t / (c*i5 d t - c*i5 d s)=i5 d t / (i5 d t - i5 d s):=fun {c} U=>by
     have nz2:c*i5 d t - c*i5 d s≠0:=fun z=>by
      have e:c*(i5 d t - i5 d s)=0:=by grind
      rcases Td.mp e with w | w
      .grind
      .exact nz w
     rw[SD,SD];grind
    rw[gen U,gen W]
 exact⟨M U W T J,M W U J T⟩
def Sm (M:Int):Prop:=1<=M/\M<=2 ^ 4000
def Sm.bd {M g:Int}(J:Sm M) (h0:0<=g) (h:g<=2*M):Bd 4002 g:=by
 unfold Bd;have e:(2:Nat) ^ 4002=4*2 ^ 4000:=by rw[show (4002:Nat)=4000+2 from rfl,Nat.pow_add];omega
 have h2:M<=((2 ^ 4000:Nat):Int):=by have:=J.2;rw[Int.natCast_pow];exact this
 have p:0<(2:Nat) ^ 4000:=Nat.pow_pos (by decide);rw[e];omega
theorem Sm.bits {M g:Int}(J:Sm M) (h0:0<=g) (h:g<=2*M):A9 g=true:=(J.bd h0 h).bits (by decide)
def Sm.div {M g:Int}(J:Sm M) (h0:1<=g) (h:g<=2*M):J7 g=true:=by
 have b:=J.bd (by omega) h;unfold J7;rw[TK,TH,TH];refine⟨by omega,?_⟩;have:g.natAbs.log2<4002:=(Nat.log2_lt (by omega)).mpr b;omega
def T5 (r n:Int):Prop:=0<=r/\r*r<=n/\n<(r+1)*(r+1)
def lX {a b:Int}(h0:0<=a) (h:a<=b):a*a<=b*b:=Yi h h h0 (by omega)
def sF {r s n:Int}(h1:T5 r n) (h2:T5 s n):r=s:=by
 obtain⟨M,W,Y⟩:=h1;obtain⟨Z,J,U⟩:=h2;rcases Int.lt_trichotomy r s with h | h | h
 .have:=lX (a:=r+1) (b:=s) (by omega) (by omega);omega
 .exact h
 .have:=lX (a:=s+1) (b:=r) (by omega) (by omega);omega
def zr (n:Nat):∃r,T5 r n:=by
 induction n with
 |zero=>exact⟨0,by decide,by decide,by decide⟩
 |succ n J=>
  obtain⟨r,h1,h2,h3⟩:=J;by_cases h:(r+1)*(r+1)<=((n+1:Nat):Int)
  .refine⟨r+1,by omega,h,?_⟩;have e:(r+1+1)*(r+1+1)=(r+1)*(r+1)+2*(r+1)+1:=by grind
   omega
  .exact⟨r,h1,by omega,by omega⟩
def CL {a b:Int}(hb:0<=b) (h:a*a<(b+1)*(b+1)):a<=b:=by
 rcases Vj b a with z | z
 .have:=lX (a:=b+1) (b:=a) (by omega) (by omega);omega
 .exact z
def sj {M g n:Int}(J:Sm M) (h:g*g<=n) (U:n<M*M) (h0:0<=g):g<M:=by
 rcases Vj g M with z | z
 .exact z
 .have:=lX (a:=M) (b:=g) (by have:=J.1;omega) z;omega
abbrev aT:DT:=dB (a7 (j6 (fun i j=>decide (j<i))) (dL 2) (Zf 0))
abbrev aB:DM:=c9 (d7 (a7 i6 (dL 1) (Zf 2)) (d6 1)) (d7 (a7 E7 (dL 2) (Zf 4)) (d6 2))
def Fz {M:Int}(J:Sm M) (N:Sl) (fs:vO_) (n:Int) (hn:n<M*M) (rest:Nat):∀g:Int,1<=g->g<=2*M->g*g*rest<=n->n<g*g*(rest+1) ->
  ∃g',F7 aT aB ⟨[N,.v (.int g),.v (.int rest)],fs⟩=some (.next,⟨[N,.v (.int g'),.v (.int 0)],fs⟩)/\1<=g'/\g'<=2*M/\n<g'*g':=by
 induction rest using Nat.strongRecOn with
 |ind rest ih=>
  intro g h1 h2 h3 h4;by_cases h:rest=0
  .subst h;refine⟨g,W0 (by simp[dB,a7,dL,dC,Zf,Zg,j6]),h1,h2,?_⟩;have:g*g*((0:Nat)+1:Int)=g*g:=by grind
   omega
  .have W:g*g<=n:=by
    have:g*g*1<=g*g*(rest:Int):=Vk (by omega) (Ud (by omega) (by omega));omega
   have hs:=sj J W hn (by omega);have e4:((rest:Int).fdiv 4)=((rest / 4:Nat):Int):=by rw[US _ (by decide)];rfl
   have hq:rest<=4*(rest / 4)+3:=by omega
   have hq2:4*(rest / 4)<=rest:=by omega
   obtain⟨g',e,U,r2,r3⟩:=ih (rest / 4) (by omega) (g*2) (by omega) (by omega) (by
    have e1:g*2*(g*2)*((rest / 4:Nat):Int)=g*g*(4*((rest / 4:Nat):Int)):=by grind
    have:g*g*(4*((rest / 4:Nat):Int))<=g*g*(rest:Int):=Vk (by omega) (Ud (by omega) (by omega));omega) (by
    have e1:g*2*(g*2)*(((rest / 4:Nat):Int)+1)=g*g*(4*((rest / 4:Nat):Int)+4):=by grind
    have:g*g*((rest:Int)+1)<=g*g*(4*((rest / 4:Nat):Int)+4):=Vk (by omega) (Ud (by omega) (by omega));omega)
   refine⟨g',X8 (s1:=⟨[N,.v (.int g),.v (.int rest)],fs⟩) (s2:=⟨[N,.v (.int (g*2)),.v (.int ((rest / 4:Nat):Int))],fs⟩) ?_ ?_ e,U,r2,r3⟩
   .have:0<rest:=by omega
    simp[dB,a7,dL,dC,Zf,Zg,j6,this]
   .have b1:A9 g=true:=J.bits (by omega) (by omega);have Y:A9 2=true:=by decide
    have Z:J7 4=true:=by decide
    exact(d8 (s1:=⟨[N,.v (.int (g*2)),.v (.int rest)],fs⟩) (k6 (c6 rfl rfl (n8 b1 Y)) rfl)).trans (k6 (c6 rfl rfl ((bp _ Z).trans (congrArg (fun z=>some (D.int z)) e4))) rfl)
def above {M:Int}(U:Sm M) (n:Int) (J:0<=n) (hn:n<M*M) (fs:vO_):∃g,cq [.int n] fs=some (.int g,fs)/\1<=g/\g<=2*M/\n<g*g:=by
 obtain⟨m,rfl⟩:=YR J;obtain⟨g,e,Y,W,Z⟩:=Fz U (.v (.int m)) fs m hn m 1 (by decide) (by have:=U.1;omega) (by omega) (by omega);refine⟨g,n9 (s:=⟨[.v (.int m),.v (.int g),.v (.int 0)],fs⟩) ?_,Y,W,Z⟩;show kL ⟨[.v (.int m),.no,.no],fs⟩=_;unfold kL;rw[d8 (s1:=⟨[.v (.int m),.v (.int 1),.no],fs⟩) (by simp[d7,dC,Zf,Zg,d6])];rw[d8 (s1:=⟨[.v (.int m),.v (.int 1),.v (.int m)],fs⟩) (by simp[d7,dV,d6])];rw[d8 e];exact p9 (by simp[dV])
def RE {g q r n:Int}(W:0<g) (h1:n<g*q+g) (h2:r*r<=n):2*r<=g+q:=by
 have h:¬ (g+q<=2*r - 1):=by
  intro h;have h3:g*(q+1)<=g*(2*r - g):=Vk (by omega) (by omega);have M:g*(2*r - g)=r*r - (r - g)*(r - g):=by grind
  have U:0<=(r - g)*(r - g):=by
   rcases Int.le_total 0 (r - g) with z | z
   .exact Ud z z
   .exact Zc z z
  have J:g*(q+1)=g*q+g:=by grind
  omega
 omega
abbrev nT:DT:=dB (a7 (j6 (fun i j=>decide (i<j))) (dL 2) (dL 1))
abbrev nS:DM:=d7 (a7 E7 (a7 m9 (dL 1) (a7 E7 (dL 0) (dL 1))) (Zf 2)) (d6 2)
def nx (n g:Int):Int:=(g+n / g) / 2
def ui {M:Int}(J:Sm M) (n g:Int) (x:Sl) (fs:vO_) (h1:1<=g) (h2:g<=2*M):nS ⟨[.v (.int n),.v (.int g),x],fs⟩=some (.next,⟨[.v (.int n),.v (.int g),.v (.int (nx n g))],fs⟩):=by
 have Z:J7 g=true:=J.div h1 h2;have Y:J7 2=true:=by decide
 have W:=US n (show (0:Int)<=g by omega);have U:=US (g+n / g) (show (0:Int)<=2 by decide);simp[d7,a7,dL,dC,Zf,Zg,d6,E7,m9,Z,Y,W,U,nx]
def sZ {n g r:Int}(h1:1<=g) (J:T5 r n):r<=nx n g:=by
 have U:=Zd n g;have M:=Yc n (show g≠0 by omega);have W:=Int.emod_lt_of_pos n (show 0<g by omega);have:=RE (q:=n / g) (show 0<g by omega) (by omega) J.2.1;unfold nx;omega
def PM {M:Int}(Y:Sm M) (n r:Int) (J:T5 r n) (r1:1<=r) (fs:vO_) (k:Nat):∀g:Int,g.toNat=k->r<=g->g<=2*M ->
  ∃x,F7 nT (c9 (d7 (dV 2) (d6 1)) nS) ⟨[.v (.int n),.v (.int g),.v (.int (nx n g))],fs⟩=some (.next,⟨[.v (.int n),.v (.int r),x],fs⟩):=by
 induction k using Nat.strongRecOn with
 |ind k Z=>
  intro g hk h1 h2;by_cases h:nx n g<g
  .obtain⟨x,e⟩:=Z (nx n g).toNat (by have:=sZ (g:=g) (by omega) J;omega) (nx n g) rfl (sZ (by omega) J) (by omega);refine⟨x,X8 (s1:=⟨[.v (.int n),.v (.int g),.v (.int (nx n g))],fs⟩) (s2:=⟨[.v (.int n),.v (.int (nx n g)),.v (.int (nx n (nx n g)))],fs⟩) (by simp[dB,a7,dL,j6,h]) ?_ e⟩;rw[d8 (s1:=⟨[.v (.int n),.v (.int (nx n g)),.v (.int (nx n g))],fs⟩) (by simp[d7,dV,d6])];exact ui Y n (nx n g) _ fs (by have:=sZ (g:=g) (by omega) J;omega) (by omega)
  .have m1:=Zd n g;have m2:=Yc n (show g≠0 by omega);have U:g<=n / g:=by unfold nx at h;omega
   have W:g*g<=g*(n / g):=Vk U (by omega);have:g<=r:=CL J.1 (by have:=J.2.2;omega);have e:g=r:=by omega
   subst e;exact⟨.v (.int (nx n g)),W0 (by simp[dB,a7,dL,j6,h])⟩
def AG {M:Int}(Y:Sm M) (n r:Int) (J:T5 r n) (hn:n<M*M) (fs:vO_):gL cq [.int n] fs=some (.int r,fs):=by
 have W:0<=n:=by have:=Ud J.1 J.1;have:=J.2.1;omega
 by_cases h0:n=0
 .subst h0;have e:r=0:=sF J ⟨by decide,by decide,by decide⟩;subst e;refine n9 (s:=⟨[.v (.int 0),.no,.no],fs⟩) ?_;show fV cq ⟨[.v (.int 0),.no,.no],fs⟩=_;unfold fV;exact N4 (by simp[j9,dB,a7,dL,dC,Zf,Zg,W3,f9])
 .obtain⟨g,e,g1,Z,g3⟩:=above Y n W hn fs;have r1:1<=r:=by
   rcases Vj r 1 with z | z
   .have e:r=0:=by have:=J.1;omega
    subst e;have:=J.2.2;omega
   .exact z
  have U:r<=g:=by
   have h:=J.2.1;have e:(g - 1+1)*(g - 1+1)=g*g:=by grind
   have:r<=g - 1:=CL (by omega) (by omega);omega
  obtain⟨x,hw⟩:=PM Y n r J r1 fs g.toNat g rfl U Z;refine n9 (s:=⟨[.v (.int n),.v (.int r),x],fs⟩) ?_;show fV cq ⟨[.v (.int n),.no,.no],fs⟩=_;unfold fV;rw[d8 (s1:=⟨[.v (.int n),.no,.no],fs⟩) (K0 (u6 (c6 rfl rfl ((W3 _ _).trans (by rw[SF h0])))))];rw[d8 (s1:=⟨[.v (.int n),.v (.int g),.no],fs⟩) (k6 (i7 rfl e) rfl)];rw[d8 (ui Y n g .no fs g1 Z)];rw[d8 hw];exact p9 (by simp[dV])
abbrev NU:DT:=dB (a7 (j6 (fun i j=>decide (i<=j))) (a7 i6 (dL 2) (dL 2)) (dL 0))
abbrev Iu:DM:=d7 (a7 i6 (dL 2) (Zf 2)) (d6 2)
def MN {M:Int}(U:Sm M) (n:Int) (Y:0<=n) (Z:n<M*M) (a x:Sl) (fs:vO_) (k:Nat):∀h:Int,(n+1 - h).toNat=k->1<=h->h<=2*M ->
  ∃h',F7 NU Iu ⟨[.v (.int n),a,.v (.int h),x],fs⟩=some (.next,⟨[.v (.int n),a,.v (.int h'),x],fs⟩)/\1<=h'/\h'<=2*M/\n<h'*h':=by
 induction k using Nat.strongRecOn with
 |ind k ih=>
  intro h hk h1 h2;have J:A9 h=true:=U.bits (by omega) h2;by_cases c:h*h<=n
  .have hs:=sj U c Z (by omega);have hle:h<=n:=by
    have:h*1<=h*h:=Vk h1 (by omega);omega
   obtain⟨h',e,r⟩:=ih (n+1 - h*2).toNat (by omega) (h*2) rfl (by omega) (by omega);have W:A9 2=true:=by decide
   exact⟨h',X8 (s1:=⟨[.v (.int n),a,.v (.int h),x],fs⟩) (s2:=⟨[.v (.int n),a,.v (.int (h*2)),x],fs⟩) (by simp[dB,a7,dL,j6,i6,J,c]) (by simp[d7,a7,dL,dC,Zf,Zg,d6,i6,J,W]) e,r⟩
  .exact⟨h,W0 (by simp[dB,a7,dL,j6,i6,J,c]),h1,h2,by omega⟩
abbrev wX:DT:=dB (a7 (j6 (fun i j=>decide (j<i))) (a7 u7 (dL 2) (dL 1)) (Zf 1))
abbrev PH:DM:=c9 (d7 (a7 E7 (a7 m9 (dL 1) (dL 2)) (Zf 2)) (d6 3)) (d7 (u4 (dB (a7 (j6 (fun i j=>decide (i<=j))) (a7 i6 (dL 3) (dL 3)) (dL 0))) (i9 (a6 (dV 3) (a6 (dV 2) a9))) (i9 (a6 (dV 1) (a6 (dV 3) a9)))) (y9 2 (t9 (d6 1) (t9 (d6 2) A3))))
def QY {M:Int}(Y:Sm M) (n:Int) (fs:vO_) (k:Nat):∀(l h:Int) (x:Sl),(h - l).toNat=k->0<=l->l<h->h<=2*M->l*l<=n->n<h*h ->
  ∃l' y z,F7 wX PH ⟨[.v (.int n),.v (.int l),.v (.int h),x],fs⟩=some (.next,⟨[.v (.int n),.v (.int l'),y,z],fs⟩)/\T5 l' n:=by
 induction k using Nat.strongRecOn with
 |ind k W=>
  intro l h x hk h0 h1 h2 h3 U;have sz:(2:Nat)<=sizeLine:=by decide
  by_cases c:1<h - l
  .have e2:=US (l+h) (show (0:Int)<=2 by decide);have Z:J7 2=true:=by decide
   have J:A9 ((l+h) / 2)=true:=Y.bits (by omega) (by omega);have st:∀(l h:Int) (x:Sl),d7 (a7 E7 (a7 m9 (dL 1) (dL 2)) (Zf 2)) (d6 3) ⟨[.v (.int n),.v (.int l),.v (.int h),x],fs⟩=some (.next,⟨[.v (.int n),.v (.int l),.v (.int h),.v (.int ((l+h) / 2))],fs⟩):=fun l h x=>k6 (c6 (c6 rfl rfl rfl) rfl ((bp _ Z).trans (congrArg (fun z=>some (D.int z)) (US (l+h) (show (0:Int)<=2 by decide))))) rfl
   have t:wX ⟨[.v (.int n),.v (.int l),.v (.int h),x],fs⟩=some (true,⟨[.v (.int n),.v (.int l),.v (.int h),x],fs⟩):=by simp[dB,a7,dL,dC,Zf,Zg,j6,u7,c]
   by_cases q:(l+h) / 2*((l+h) / 2)<=n
   .obtain⟨l',y,z,e,r⟩:=W (h - (l+h) / 2).toNat (by omega) ((l+h) / 2) h (.v (.int ((l+h) / 2))) rfl (by omega) (by omega) h2 q U;refine⟨l',y,z,X8 t ?_ e,r⟩;exact(d8 (st l h x)).trans (k6 ((aw (u6 (c6 (c6 rfl rfl (n8 J J)) rfl (congrArg (fun z=>some (D.bl z)) (SA q))))).trans (X4 rfl rfl)) rfl)
   .obtain⟨l',y,z,e,r⟩:=W ((l+h) / 2 - l).toNat (by omega) l ((l+h) / 2) (.v (.int ((l+h) / 2))) rfl h0 (by omega) (by omega) h3 (by omega);refine⟨l',y,z,X8 t ?_ e,r⟩;exact(d8 (st l h x)).trans (k6 ((S5 (u6 (c6 (c6 rfl rfl (n8 J J)) rfl (congrArg (fun z=>some (D.bl z)) (SF q))))).trans (X4 rfl rfl)) rfl)
  .have e:h=l+1:=by omega
   subst e;exact⟨l,.v (.int (l+1)),x,W0 (by simp[dB,a7,dL,dC,Zf,Zg,j6,u7,c]),h0,h3,U⟩
def Jz {M:Int}(W:Sm M) (n r:Int) (J:T5 r n) (hn:n<M*M) (fs:vO_):cG [.int n] fs=some (.int r,fs):=by
 have U:0<=n:=by have:=Ud J.1 J.1;have:=J.2.1;omega
 have sz:(2:Nat)<=sizeLine:=by decide
 obtain⟨h,Z,a1,a2,a3⟩:=MN W n U hn (.v (.int 0)) .no fs _ 1 rfl (by decide) (by have:=W.1;omega);obtain⟨l,y,z,Y,b⟩:=QY W n fs _ 0 h .no rfl (by decide) (by omega) a2 (by omega) a3;have:=sF b J;subst this;refine n9 (s:=⟨[.v (.int n),.v (.int l),y,z],fs⟩) ?_;show nI ⟨[.v (.int n),.no,.no,.no],fs⟩=_;unfold nI;rw[d8 (s1:=⟨[.v (.int n),.v (.int 0),.v (.int 1),.no],fs⟩) (by simp[d7,i9,a6,dC,Zf,Zg,a9,sz,y9,t9,A3,d6])];rw[d8 Z,d8 Y];exact p9 (by simp[dV])
def dY (n d M J:Int):D:=if M*M=n/\J*J=d then .tup [.int M,.int J] else .non
def sm {M n r:Int}(W:Sm M) (J:T5 r n) (U:n<M*M):r<M:=sj W J.2.1 U J.1
def Ff {M:Int}(W:Sm M) (n d J U:Int) (h1:T5 J n) (h2:T5 U d) (hn:n<M*M) (hd:d<M*M) (fs:vO_):rM (gL cq) [.tup [.int n,.int d]] fs=some (dY n d J U,fs):=by
 have hn0:¬ n<0:=by have:=Ud h1.1 h1.1;have:=h1.2.1;omega
 have s1:=sm W h1 hn;have s2:=sm W h2 hd;have b1:A9 J=true:=W.bits h1.1 (by have:=W.1;omega);have b2:A9 U=true:=W.bits h2.1 (by have:=W.1;omega);have sz:(2:Nat)<=sizeLine:=by decide
 refine n9 (s:=⟨[.v (.tup [.int n,.int d]),.v (.int J),.v (.int U)],fs⟩) ?_;show jx (gL cq) ⟨[.v (.tup [.int n,.int d]),.no,.no],fs⟩=_;unfold jx;rw[d8 (s1:=⟨[.v (.tup [.int n,.int d]),.no,.no],fs⟩) (K0 (u6 (c6 (c6 rfl rfl rfl) rfl (congrArg (fun z=>some (D.bl z)) (SF hn0)))))];rw[d8 (s1:=⟨[.v (.tup [.int n,.int d]),.v (.int J),.no],fs⟩) (k6 (i7 (A0 (c6 rfl rfl rfl) rfl) (AG W n J h1 hn fs)) rfl)];rw[d8 (s1:=⟨[.v (.tup [.int n,.int d]),.v (.int J),.v (.int U)],fs⟩) (k6 (i7 (A0 (c6 rfl rfl rfl) rfl) (AG W d U h2 hd fs)) rfl)];have t1:∀z,(!decide (J*J=n))=z->dB (a7 B4 (a7 i6 (dL 1) (dL 1)) (Zg 0 0)) ⟨[.v (.tup [.int n,.int d]),.v (.int J),.v (.int U)],fs⟩=some (z,⟨[.v (.tup [.int n,.int d]),.v (.int J),.v (.int U)],fs⟩):=fun z hz=>u6 (c6 (c6 rfl rfl (n8 b1 b1)) (c6 rfl rfl rfl) ((aZ _ _).trans (by rw[hz])))
 have t2:∀z,(!decide (U*U=d))=z->dB (a7 B4 (a7 i6 (dL 2) (dL 2)) (Zg 0 1)) ⟨[.v (.tup [.int n,.int d]),.v (.int J),.v (.int U)],fs⟩=some (z,⟨[.v (.tup [.int n,.int d]),.v (.int J),.v (.int U)],fs⟩):=fun z hz=>u6 (c6 (c6 rfl rfl (n8 b2 b2)) (c6 rfl rfl rfl) ((aZ _ _).trans (by rw[hz])))
 by_cases Y:J*J=n
 .by_cases Z:U*U=d
  .rw[d8 (K0 (cz (t1 false (by rw[SA Y];rfl)) (t2 false (by rw[SA Z];rfl)))),dY,tx ⟨Y,Z⟩];exact p9 (X4 rfl rfl)
  .rw[dY,So (fun z=>Z z.2)];refine N4 ?_;rw[E6 (cz (t1 false (by rw[SA Y];rfl)) (t2 true (by rw[SF Z];rfl)))];rfl
 .rw[dY,So (fun z=>Y z.1)];refine N4 ?_;rw[E6 (iE (t1 true (by rw[SF Y];rfl)))];rfl
def bR (n:Int):Int:=Classical.choose (zr n.toNat)
def kG {n:Int}(h:0<=n):T5 (bR n) n:=by
 have e:T5 (bR n) ((n.toNat:Nat):Int):=Classical.choose_spec (zr n.toNat);have J:((n.toNat:Nat):Int)=n:=Int.toNat_of_nonneg h;rw[J] at e;exact e
def pg (q:Rat):D:=dY q.num q.den (bR q.num) (bR q.den)
def uX:Sm (2 ^ 1000):=⟨by decide +kernel,by decide +kernel⟩
def Pq:((2:Int) ^ 1000)*2 ^ 1000=((2 ^ 2000:Nat):Int):=by decide +kernel
abbrev oq:a8:=rM (gL cq)
def Qz {q:Rat}(h:0<=q):0<=q.num:=Yu.mpr h
def rq {q:Rat}(J:Sz 2000 q):q.num<(2:Int) ^ 1000*2 ^ 1000/\(q.den:Int)<(2:Int) ^ 1000*2 ^ 1000:=by
 rw[Pq];have h1:=J.1;have h2:=J.2;generalize (2:Nat) ^ 2000=W at *;omega
def ME {q:Rat}(h0:0<=q) (J:Sz 2000 q) (fs:vO_):oq [fr q] fs=some (pg q,fs):=
 Ff uX q.num q.den _ _ (kG (Qz h0)) (kG (by omega)) (rq J).1 (rq J).2 fs
def DF {n:Int}(h0:0<=n) (J:n<(2:Int) ^ 1000*2 ^ 1000) (fs:vO_):cG [.int n] fs=some (.int (bR n),fs):=Jz uX n _ (kG h0) J fs
def uk {f:DE}{s s1:DS}{ds:vD_}(h:f s=some (.tup ds,s1)):G5 f s=some (ds,s1):=by
 unfold G5;rw[h];rfl
def zf (r:Rat):(r*r).num=r.num*r.num/\((r*r).den:Int)=r.den*r.den:=by
 have hd:(0:Int)<r.den*r.den:=Xk (cV r) (cV r);have g:Int.gcd (r.num*r.num) ((r.den:Int)*r.den)=1:=by
  have J:Nat.Coprime r.num.natAbs r.den:=r.reduced;show Nat.gcd (r.num*r.num).natAbs ((r.den:Int)*r.den).natAbs=1;rw[VU,VU,Int.natAbs_natCast];exact Nat.Coprime.mul_left (Ze J J) (Ze J J)
 rw[qA,Sg hd,yU hd,g];simp
def JL {s:Int}(h:0<=s):T5 s (s*s):=⟨h,Int.le_refl _,by
 have e:(s+1)*(s+1)=s*s+2*s+1:=by grind
 omega⟩
def kc {s:Int}(h:0<=s):bR (s*s)=s:=sF (kG (Ud h h)) (JL h)
def lfW (w:Pt):Pt:=(-w.2,w.1)
def rtW (w:Pt):Pt:=(w.2,-w.1)
def abW (w:Pt):Pt:=(-w.1,-w.2)
def m7 (h:Rat) (u:Pt):Pt:=(h*u.1,h*u.2)
def d9 (p u:Pt) (f:Rat):Pt:=(p.1 - f*u.2,p.2+f*u.1)
def w4 (p u:Pt) (f:Rat):Pt:=(p.1+f*u.1,p.2+f*u.2)
def Qc (w:Pt):pt (lfW w) = .tup [.int (-pY w),.int (pX w),.int (pL w)]:=by
 show D.tup [.int ((-w.2).num*((Nat.lcm (-w.2).den w.1.den / (-w.2).den:Nat):Int)),.int (w.1.num*((Nat.lcm (-w.2).den w.1.den / w.1.den:Nat):Int)),.int ((Nat.lcm (-w.2).den w.1.den:Nat):Int)]=_;rw[Xq,VW,Nat.lcm_comm,Xr];rfl
def Ia (w:Pt):pt (rtW w) = .tup [.int (pY w),.int (-pX w),.int (pL w)]:=by
 show D.tup [.int (w.2.num*((Nat.lcm w.2.den (-w.1).den / w.2.den:Nat):Int)),.int ((-w.1).num*((Nat.lcm w.2.den (-w.1).den / (-w.1).den:Nat):Int)),.int ((Nat.lcm w.2.den (-w.1).den:Nat):Int)]=_;rw[Xq,VW,Nat.lcm_comm,Xr];rfl
def OM (w:Pt):pt (abW w) = .tup [.int (-pX w),.int (-pY w),.int (pL w)]:=by
 show D.tup [.int ((-w.1).num*((Nat.lcm (-w.1).den (-w.2).den / (-w.1).den:Nat):Int)),.int ((-w.2).num*((Nat.lcm (-w.1).den (-w.2).den / (-w.2).den:Nat):Int)),.int ((Nat.lcm (-w.1).den (-w.2).den:Nat):Int)]=_;rw[Xq,VW,Xq,VW,Xr,Xr];rfl
def dZ {p:D->Option D}{a:DE}{s s1:DS}(h1:a s=some (x,s1)) (h3:p x=some z):m8 p a s=some (z,s1):=by
 simp[m8,h1,h3]
def MS (w:Pt) (fs:vO_):nK [pt w] fs=some (pt (lfW w),fs):=by
 rw[Qc];exact n9 (s:=⟨[.v (pt w)],fs⟩) (p9 (Z2 (dZ (c6 rfl rfl (U4 w)) rfl) (c6 rfl rfl (T3 w)) (c6 rfl rfl (K4 w))))
def Nb (w:Pt) (fs:vO_):qf [pt w] fs=some (pt (rtW w),fs):=by
 rw[Ia];exact n9 (s:=⟨[.v (pt w)],fs⟩) (p9 (Z2 (c6 rfl rfl (U4 w)) (dZ (c6 rfl rfl (T3 w)) rfl) (c6 rfl rfl (K4 w))))
def qi (w:Pt) (fs:vO_):af [pt w] fs=some (pt (abW w),fs):=by
 rw[OM];exact n9 (s:=⟨[.v (pt w)],fs⟩) (p9 (Z2 (dZ (c6 rfl rfl (T3 w)) rfl) (dZ (c6 rfl rfl (U4 w)) rfl) (c6 rfl rfl (K4 w))))
abbrev K6:a8:=vz FL
def zv (x y:Rat) (X L U M:Int) (Z:(L:Rat)≠0) (Y:(M:Rat)≠0) (W:(X:Rat)=x*(L:Rat)) (J:(U:Rat)=y*(M:Rat)):Rat.divInt (X*M+U*L) (L*M)=x+y:=by
 rw[Tx];simp only[Vm,SQ];rw[W,J];grind
def JI {k:Nat}(p w:Pt) (fs:vO_) (hp:Ps k p) (J:Ps k w) (hk:k<=2000):K6 [pt p,pt w] fs=some (pt (p.1+w.1,p.2+w.2),fs):=by
 have M:pL p*pL w≠0:=TV (Y1 p) (Y1 w);have e:=jC (pX p*pL w+pX w*pL p) (pY p*pL w+pY w*pL p) (pL p*pL w) fs M (hp.l.mul J.l) (by omega);rw[zv p.1 w.1 (pX p) (pL p) (pX w) (pL w) (M7 p) (M7 w) (N5 p) (N5 w),zv p.2 w.2 (pY p) (pL p) (pY w) (pL w) (M7 p) (M7 w) (N8 p) (N8 w)] at e;have b:∀{i:Int},Bd k i->A9 i=true:=fun h=>h.bits (by omega)
 refine n9 (s:=⟨[.v (pt p),.v (pt w),.v (.int (pX p*pL w+pX w*pL p)),.v (.int (pY p*pL w+pY w*pL p))],fs⟩) ?_;show jz FL ⟨[.v (pt p),.v (pt w),.no,.no],fs⟩=_;unfold jz;rw[d8 (s1:=⟨[.v (pt p),.v (pt w),.v (.int (pX p*pL w+pX w*pL p)),.no],fs⟩) (k6 (c6 (c6 (c6 rfl rfl (T3 p)) (c6 rfl rfl (K4 w)) (n8 (b hp.x) (b J.l))) (c6 (c6 rfl rfl (T3 w)) (c6 rfl rfl (K4 p)) (n8 (b J.x) (b hp.l))) rfl) rfl)];rw[d8 (s1:=⟨[.v (pt p),.v (pt w),.v (.int (pX p*pL w+pX w*pL p)),.v (.int (pY p*pL w+pY w*pL p))],fs⟩) (k6 (c6 (c6 (c6 rfl rfl (U4 p)) (c6 rfl rfl (K4 w)) (n8 (b hp.y) (b J.l))) (c6 (c6 rfl rfl (U4 w)) (c6 rfl rfl (K4 p)) (n8 (b J.y) (b hp.l))) rfl) rfl)];exact p9 (i7 (A0 (Z2 rfl rfl (c6 (c6 rfl rfl (K4 p)) (c6 rfl rfl (K4 w)) (n8 (b hp.l) (b J.l)))) rfl) e)
structure Pc (a b u:Pt) (L:Rat):Prop where
 sa:PtS 70 a
 sb:PtS 70 b
 su:Hb 5 u
 one:u.1*u.1+u.2*u.2=1
 pos:0<L
 sl:Sz 20 L
 eq:b=(a.1+L*u.1,a.2+L*u.2)
theorem Pc.dsq {a b u:Pt}{L:Rat}(P:Pc a b u L):dsq a b=L*L:=by
 rw[P.eq];have:=P.one;unfold DL.dsq;grind
def Mu {L:Rat}(h:0<L):pg (L*L)=fr L:=by
 obtain⟨U,M⟩:=zf L;have J:0<=L.num:=Yu.mpr (Te h);unfold pg;rw[U,M,kc J,kc (Xp (cV L))];unfold dY;rw[tx ⟨rfl,rfl⟩];rfl
def A6 (a b w:Pt):D:=.tup [pt a,pt b,pt w,pt (lfW w)]
abbrev fJ:a8:=xX nK FL oq (ju FF)
def Ba (x y h L d:Rat) (X Y A B:Int) (hA:(A:Rat)≠0) (hB:(B:Rat)≠0) (hL:L≠0) (U:(X:Rat)=x*(A:Rat)) (M:(Y:Rat)=y*(B:Rat)) (e:y=x+L*d):Rat.divInt ((Y*A - X*B)*(h.num*(L.den:Int))) (A*B*(h.den:Int)*L.num)=h*d:=by
 have hn:=aI h;have W:=aI L;have hd:((h.den:Int):Rat)≠0:=fun z=>G7 h (Uq.mp z)
 have Z:((L.den:Int):Rat)≠0:=fun z=>G7 L (Uq.mp z)
 rw[Tx];simp only[Ue,SQ];rw[U,M,hn,W,e];generalize ((h.den:Int):Rat)=p at *;generalize ((L.den:Int):Rat)=q at *;generalize (A:Rat)=A at *;generalize (B:Rat)=B at *;have z:A*B*p*(L*q)≠0:=by
  have J:∀{x y:Rat},x≠0->y≠0->x*y≠0:=fun h1 h2 z=>by
   rcases Td.mp z with w | w
   .exact h1 w
   .exact h2 w
  exact J (J (J hA hB) hd) (J hL Z)
 have k:((x+L*d)*B*A - x*A*B)*(h*p*q)=h*d*(A*B*p*(L*q)):=by grind
 rw[k,SD,VG,Vo _ z,Wj]
def Gz {a b u:Pt}{L h:Rat}(P:Pc a b u L) (hh:Sz 4 h) (fs:vO_):fJ [pt a,pt b,fr h] fs=some (A6 a b (m7 h u),fs):=by
 have e1:=zJ a b fs P.sa.ps P.sb.ps (by decide);rw[P.dsq] at e1;have Z:=ME (q:=L*L) (Te (SE P.pos P.pos)) ((P.sl.mul P.sl).mono (by decide)) fs;rw[Mu P.pos] at Z;have W:L≠0:=fun z=>by have:=P.pos;rw[z] at this;exact absurd this (by decide +kernel)
 have n0:L.num≠0:=fun z=>W (Xo.mp z)
 have M:=P.sa.ps;have U:=P.sb.ps;have d0:pL a*pL b*(h.den:Int)*L.num≠0:=TV (TV (TV (Y1 a) (Y1 b)) (G7 h)) n0;have dB:=((M.l.mul U.l).mul hh.den).mul P.sl.num;have e:=jC ((pX b*pL a - pX a*pL b)*(h.num*(L.den:Int))) ((pY b*pL a - pY a*pL b)*(h.num*(L.den:Int))) (pL a*pL b*(h.den:Int)*L.num) fs d0 dB (by decide);rw[Ba a.1 b.1 h L u.1 (pX a) (pX b) (pL a) (pL b) (M7 a) (M7 b) W (N5 a) (N5 b) (by rw[P.eq]),Ba a.2 b.2 h L u.2 (pY a) (pY b) (pL a) (pL b) (M7 a) (M7 b) W (N8 a) (N8 b) (by rw[P.eq])] at e;have Y:=hh.num.mul P.sl.den;have xB:=(U.x.mul M.l).sub (M.x.mul U.l);have yB:=(U.y.mul M.l).sub (M.y.mul U.l);have J:∀{k:Nat}{i:Int},Bd k i->decide (k<=8000)=true->A9 i=true:=fun h1 h2=>h1.bits (TQ h2)
 have l:=MS (m7 h u) fs;generalize hx:(pX b*pL a - pX a*pL b)*(h.num*(L.den:Int))=x at *;generalize hy:(pY b*pL a - pY a*pL b)*(h.num*(L.den:Int))=y at *;refine n9 (s:=⟨[.v (pt a),.v (pt b),.v (fr h),.v (fr L),.v (.int (h.num*(L.den:Int))),.v (.int x),.v (.int y),.v (pt (m7 h u))],fs⟩) ?_;show lP nK FL oq (ju FF) ⟨[.v (pt a),.v (pt b),.v (fr h),.no,.no,.no,.no,.no],fs⟩=_;unfold lP;rw[d8 (s1:=⟨[.v (pt a),.v (pt b),.v (fr h),.v (fr L),.no,.no,.no,.no],fs⟩) (k6 (i7 (j3 (i7 rfl e1) rfl) Z) rfl)];rw[d8 (s1:=⟨[.v (pt a),.v (pt b),.v (fr h),.v (fr L),.v (.int (h.num*(L.den:Int))),.no,.no,.no],fs⟩) (k6 (c6 (c6 rfl rfl (T7 h)) (c6 rfl rfl (O6 L)) (n8 (J hh.num rfl) (J P.sl.den rfl))) rfl)];rw[d8 (s1:=⟨[.v (pt a),.v (pt b),.v (fr h),.v (fr L),.v (.int (h.num*(L.den:Int))),.v (.int x),.no,.no],fs⟩) (k6 (c6 (c6 (c6 (c6 rfl rfl (T3 b)) (c6 rfl rfl (K4 a)) (n8 (J U.x rfl) (J M.l rfl))) (c6 (c6 rfl rfl (T3 a)) (c6 rfl rfl (K4 b)) (n8 (J M.x rfl) (J U.l rfl))) rfl) rfl ((n8 (J xB rfl) (J Y rfl)).trans (by rw[hx]))) rfl)];rw[d8 (s1:=⟨[.v (pt a),.v (pt b),.v (fr h),.v (fr L),.v (.int (h.num*(L.den:Int))),.v (.int x),.v (.int y),.no],fs⟩) (k6 (c6 (c6 (c6 (c6 rfl rfl (U4 b)) (c6 rfl rfl (K4 a)) (n8 (J U.y rfl) (J M.l rfl))) (c6 (c6 rfl rfl (U4 a)) (c6 rfl rfl (K4 b)) (n8 (J M.y rfl) (J U.l rfl))) rfl) rfl ((n8 (J yB rfl) (J Y rfl)).trans (by rw[hy]))) rfl)];rw[d8 (s1:=⟨[.v (pt a),.v (pt b),.v (fr h),.v (fr L),.v (.int (h.num*(L.den:Int))),.v (.int x),.v (.int y),.v (pt (m7 h u))],fs⟩) (k6 (i7 (j3 (Z2 rfl rfl (c6 (c6 (c6 (c6 rfl rfl (K4 a)) (c6 rfl rfl (K4 b)) (n8 (J M.l rfl) (J U.l rfl))) (c6 rfl rfl (O6 h)) (n8 (J (M.l.mul U.l) rfl) (J hh.den rfl))) (c6 rfl rfl (T7 L)) (n8 (J ((M.l.mul U.l).mul hh.den) rfl) (J P.sl.num rfl)))) rfl) e) rfl)];exact p9 (Ca (j3 rfl (j3 rfl (j3 rfl (j3 (i7 rfl l) rfl)))) (by show 4<=sizeLine;decide))
theorem Hb.lfW {k:Nat}(h:Hb k u):Hb k (lfW u):=by
 obtain⟨X,Y,L,a,b,c,d,rfl⟩:=h;exact⟨-Y,X,L,a,c.neg,b,d,SU (by show -((Y:Rat) / (L:Rat))=((-Y:Int):Rat) / (L:Rat);rw[UT,SD,SD,Xd]) rfl⟩
theorem Hb.rtW {k:Nat}(h:Hb k u):Hb k (rtW u):=by
 obtain⟨X,Y,L,a,b,c,d,rfl⟩:=h;exact⟨Y,-X,L,a,c,b.neg,d,SU rfl (by show -((X:Rat) / (L:Rat))=((-X:Int):Rat) / (L:Rat);rw[UT,SD,SD,Xd])⟩
theorem Hb.abW {k:Nat}(h:Hb k u):Hb k (abW u):=by
 have:=h.lfW.lfW;have e:T.lfW (T.lfW u)=T.abW u:=rfl
 rwa [e] at this
def Q8 {x y:Rat}(h1:0<x) (h2:0<y):0<x*y:=SE h1 h2
def Lm {p u:Pt}{h f:Rat}(hh:0<h) (hf:0<f):K3 p h (lfW u) p (d9 p u f):=⟨h*f,Q8 hh hf,fun t=>by unfold c7 P1 d9 i5 lfW;grind⟩
def LR {p u:Pt}{h f:Rat}(hh:0<h) (hf:0<f):K3 p h (rtW u) p (d9 p u (-f)):=⟨h*f,Q8 hh hf,fun t=>by unfold c7 P1 d9 i5 rtW;grind⟩
def js {p u:Pt}{h f:Rat}(hh:0<h) (hf:0<f):K3 p h (lfW u) (d9 p u (-f)) p:=⟨h*f,Q8 hh hf,fun t=>by unfold c7 P1 d9 i5 lfW;grind⟩
def gA {p u:Pt}{h f:Rat}(hh:0<h) (hf:0<f):K3 p h (rtW u) (d9 p u f) p:=⟨h*f,Q8 hh hf,fun t=>by unfold c7 P1 d9 i5 rtW;grind⟩
def lK {p u:Pt}{h f:Rat}(hh:0<h) (hf:0<f):K3 p h u p (w4 p u f):=⟨h*f,Q8 hh hf,fun t=>by unfold c7 P1 w4 i5;grind⟩
def lQ {p u:Pt}{h f:Rat}(hh:0<h) (hf:0<f):K3 p h (abW u) (w4 p u f) p:=⟨h*f,Q8 hh hf,fun t=>by unfold c7 P1 w4 i5 abW;grind⟩
def P2 {f:Rat}{j k:Nat}(hp:PtS j p) (hu:Hb 5 u) (hf:Sz k f):PtS (j+(k+5)+1) (d9 p u f):=
 ⟨hp.x.sub (hf.mul hu.pts.y),hp.y.add (hf.mul hu.pts.x)⟩
def ah {f:Rat}{j k:Nat}(hp:PtS j p) (hu:Hb 5 u) (hf:Sz k f):PtS (j+(k+5)+1) (w4 p u f):=
 ⟨hp.x.add (hf.mul hu.pts.x),hp.y.add (hf.mul hu.pts.y)⟩
def cu (fd:vT_) (a b:Pt):List Pt:=v5 (Q0 a b (p8 true fd))
def P4 (fd:vT_) (a b:Pt):D:=C3 (Q0 a b (p8 true fd))
def fA {fd:vT_}{a b:Pt}(h:3<=(cu fd a b).length):P4 fd a b = .tup ((cu fd a b).map pt):=by
 unfold P4 C3;rw[So (by unfold cu at h;omega)];rfl
section
variable {p d a b:Pt}{h:Rat}{k:Nat}{fd:vT_}
def HF (T:K3 p h d a b) (hd:Hb 5 d) (h0:0<fd.length) (F:Fr p h k fd):Fr p h (2*k+7) (cu fd a b):=fun q J=>by
 have:=pE J;exact Cy T hd h0 F ((ie h0 a b q).mp this)
def Lc (hl:fd.length<=1000):(cu fd a b).length<=2*fd.length:=by
 have l1:=eS a b (p8 true fd);have l2:=aU true fd;have J:=wU (l:=Q0 a b (p8 true fd)) (by omega);unfold cu;omega
variable (hp:PtS 70 p) (hh:Sz 4 h) (ha:PtS 120 a) (hb:PtS 120 b) (h0:0<fd.length) (hl:fd.length<=30) (F:Fr p h k fd) (hk:k<=45) (T:K3 p h d a b) (hd:Hb 5 d) (fs:vO_)
include hp hh h0 hl F hk T hd
theorem ro (q:Pt) (J:Cl fd a b q):PtS 300 q:=by
 obtain⟨t,rfl,M⟩:=Cy T hd h0 F J;exact(mr hp hh M).mono (by omega)
include ha hb
theorem tJ:P6 [.tup (fd.map pt),pt a,pt b] fs=some (P4 fd a b,fs):=
 QU fs ha hb (fun q J=>by
  obtain⟨t,rfl,M⟩:=F q J;exact(mr hp hh M).mono (by omega)) h0 hl (ro hp hh h0 hl F hk T hd)
theorem wA (J:PtS 120 a') (M:PtS 120 b') (U:K3 p h d a' b'):U2 [.tup (fd.map pt),pt a',pt b'] fs=some (P4 fd a b,fs):=by
 have e:=Ex fs J M (fun q W=>by
  obtain⟨t,rfl,Y⟩:=F q W;exact(mr hp hh Y).mono (by omega)) h0 hl (ro hp hh h0 hl F hk U hd)
 rw[e];unfold P4;have l1:=eS a b (p8 true fd);have l2:=aU true fd;have Z:=Bu a' b' fd;rw[pM (by omega) (by omega) (fun z=>(yV h0 a' b' z).trans ((Ll U T h0 F z).trans (ie h0 a b z).symm))]
end
def TW (p:Pt) (h:Rat):List Pt:=WL.map (C0 p h)
def aN (p:Pt) (h:Rat):(TW p h).length=12:=by unfold TW;rw[Ss];rfl
def qt (p:Pt) (h:Rat):Fr p h 3 (TW p h):=fun q J=>by
 obtain⟨w,M,rfl⟩:=Tg.mp J;obtain⟨h1,h2⟩:=zR w M;refine⟨_,gQ p h w,w.1,w.2,5,by decide,by show w.1.natAbs<8;omega,by show w.2.natAbs<8;omega,by show (5:Int).natAbs<8;decide,?_⟩;rw[Tx,Tx]
def Ge {h:Rat}(hh:0<h):∃q,Rnd (fun z=>z∈TW p h) q (TW p h):=by
 have e:v5 (TW p h)=TW p h:=DX hh WL Ed;have J:=aN p h;obtain⟨q,r,M⟩:=qI (l:=TW p h) (by omega);have U:r≠[]:=fun w=>by
  have:=vV (l:=TW p h) (by rw[M,w]);rw[e] at this;rw[this] at J;cases J
 have:=jl (by omega) M U;rw[e] at this;exact⟨q,this⟩
def jA {h:Rat}{w:Int × Int}(J:w∈WL):C0 p h w∈TW p h:=Tg.mpr ⟨w,J,rfl⟩
def Qd {p d a b:Pt}{h:Rat}(hh:0<h) (T:K3 p h d a b) (nd:¬ (d.1=0/\d.2=0)):3<=(cu (TW p h) a b).length:=by
 obtain⟨q,R⟩:=Ge (p:=p) hh;obtain⟨c,M,T⟩:=T;have ln:=aN p h;have U:∃z∈TW p h,0<c7 a b z:=by
  have Y:Rat.divInt 5 5=1:=by decide +kernel
  have J:Rat.divInt 0 5=0:=by decide +kernel
  have Z:Rat.divInt (-5) 5 = -1:=by decide +kernel
  by_cases y0:d.2=0
  .have x0:d.1≠0:=fun z=>nd ⟨z,y0⟩
   by_cases xp:0<d.1
   .refine⟨C0 p h (0,5),jA (by decide),?_⟩;rw[gQ,T];refine Q8 M ?_;show 0<d.1*Rat.divInt 5 5 - d.2*Rat.divInt 0 5;rw[Y,J];grind
   .refine⟨C0 p h (0,-5),jA (by decide),?_⟩;rw[gQ,T];refine Q8 M ?_;show 0<d.1*Rat.divInt (-5) 5 - d.2*Rat.divInt 0 5;rw[Z,J];grind
  .by_cases yp:0<d.2
   .refine⟨C0 p h (-5,0),jA (by decide),?_⟩;rw[gQ,T];refine Q8 M ?_;show 0<d.1*Rat.divInt 0 5 - d.2*Rat.divInt (-5) 5;rw[Z,J];grind
   .refine⟨C0 p h (5,0),jA (by decide),?_⟩;rw[gQ,T];refine Q8 M ?_;show 0<d.1*Rat.divInt 0 5 - d.2*Rat.divInt 5 5;rw[Y,J];grind
 obtain⟨z,hz,W⟩:=U;obtain⟨m,_,em⟩:=mQ R hz 0;rw[Ur] at em;subst em;have l1:=eS a b (p8 true (TW p h));have l2:=aU true (TW p h);exact(NC R (by omega) (by omega) (fun q=>ie (by omega) a b q) W (Te W)).1
inductive Sd | both | left | right
inductive En | cut | square | round
inductive Jn | cut | pointed | round
def G9:Sd->D
 |.both=>.str "both"
 |.left=>.str "left"
 |.right=>.str "right"
def J5:En->D
 |.cut=>.str "cut"
 |.square=>.str "square"
 |.round=>.str "round"
def ae:Jn->D
 |.cut=>.str "cut"
 |.pointed=>.str "pointed"
 |.round=>.str "round"
def j4 (h:Rat) (s:Sd) (e:En) (j:Jn) (m:Rat):D:=.tup [fr h,G9 s,J5 e,ae j,fr m]
def C5 (s:Sd) (h:Rat):Rat:=match s with | .right=>0 | _=>h
def C8 (s:Sd) (h:Rat):Rat:=match s with | .left=>0 | _=>-h
def E9 (p u:Pt) (h:Rat) (s:Sd):List Pt:=[d9 p u (C5 s h),d9 p u (C8 s h)]
def DZ (p u:Pt):d9 p u 0=p:=by unfold d9;exact SU (by grind) (by grind)
def cQ {h:Rat}(hh:Sz 4 h):Sz 4 (C5 s h):=by cases s <;> first | exact hh | exact(Sz.lit (by decide):Sz 4 (0:Rat))
def cI {h:Rat}(hh:Sz 4 h):Sz 4 (C8 s h):=by cases s <;> first | exact hh.neg | exact(Sz.lit (by decide):Sz 4 (0:Rat))
def Hg (p u:Pt) (h:Rat):(p.1+(lfW (m7 h u)).1,p.2+(lfW (m7 h u)).2)=d9 p u h:=by unfold d9 lfW m7;exact SU (by grind) (by grind)
def Kn (p u:Pt) (h:Rat):(p.1+(abW (lfW (m7 h u))).1,p.2+(abW (lfW (m7 h u))).2)=d9 p u (-h):=by unfold d9 lfW m7 abW;exact SU (by grind) (by grind)
def Z0 {h:Rat}(hh:Sz 4 h) (hu:Hb 5 u):PtS 9 (m7 h u):=⟨hh.mul hu.pts.x,hh.mul hu.pts.y⟩
def Am {k:Nat}{w:Pt}(h:PtS k w):PtS k (lfW w):=⟨h.y.neg,h.x⟩
def HD {k:Nat}{w:Pt}(h:PtS k w):PtS k (rtW w):=⟨h.y,h.x.neg⟩
def sO {k:Nat}{w:Pt}(h:PtS k w):PtS k (abW w):=⟨h.x.neg,h.y.neg⟩
def dc {k j:Nat}{p w:Pt}(fs:vO_) (hp:PtS k p) (J:PtS j w) (hk:k<=900) (M:j<=900):K6 [pt p,pt w] fs=some (pt (p.1+w.1,p.2+w.2),fs):=
 JI p w fs ((hp.mono hk).ps) ((J.mono M).ps) (by decide)
section
variable {p u:Pt}{h:Rat}(hp:PtS 70 p) (hu:Hb 5 u) (hh:Sz 4 h) (fs:vO_)
include hp hu hh
theorem Aw:K6 [pt p,pt (lfW (m7 h u))] fs=some (pt (d9 p u h),fs):=by
 rw[<-Hg];exact dc fs hp (Am (Z0 hh hu)) (by decide) (by decide)
theorem wJ:K6 [pt p,pt (abW (lfW (m7 h u)))] fs=some (pt (d9 p u (-h)),fs):=by
 rw[<-Kn];exact dc fs hp (sO (Am (Z0 hh hu))) (by decide) (by decide)
end
abbrev eJ:a8:=Cu K6 af
def rY {p u a b:Pt}{h:Rat}(s:Sd) (hp:PtS 70 p) (hu:Hb 5 u) (hh:Sz 4 h) (fs:vO_):eJ [pt p,A6 a b (m7 h u),G9 s] fs=some (.lst ((E9 p u h s).map pt),fs):=by
 have Y:=Aw hp hu hh fs;have W:=wJ hp hu hh fs;have Z:=qi (lfW (m7 h u)) fs;have J:b0 (A6 a b (m7 h u)) (.int 3)=some (pt (lfW (m7 h u))):=rfl;refine n9 (s:=⟨[.v (pt p),.v (A6 a b (m7 h u)),.v (G9 s),.v (pt (d9 p u (C5 s h))),.v (pt (d9 p u (C8 s h)))],fs⟩) ?_;show nq K6 af ⟨[.v (pt p),.v (A6 a b (m7 h u)),.v (G9 s),.no,.no],fs⟩=_;generalize A6 a b (m7 h u)=S at *;unfold nq;have s1:u4 (dB (a7 w9 (dL 2) (dC (.str "right")))) (dV 0) (c8 K6 (a6 (dV 0) (a6 (Zg 1 3) a9))) ⟨[.v (pt p),.v S,.v (G9 s),.no,.no],fs⟩=some (pt (d9 p u (C5 s h)),⟨[.v (pt p),.v S,.v (G9 s),.no,.no],fs⟩):=by
  cases s with
  |right=>rw[show C5 .right h=0 from rfl,DZ];rfl
  |both=>exact(S5 (u6 (c6 rfl rfl rfl))).trans (i7 (j3 rfl (j3 (c6 rfl rfl J) rfl)) Y)
  |left=>exact(S5 (u6 (c6 rfl rfl rfl))).trans (i7 (j3 rfl (j3 (c6 rfl rfl J) rfl)) Y)
 rw[d8 (s1:=⟨[.v (pt p),.v S,.v (G9 s),.v (pt (d9 p u (C5 s h))),.no],fs⟩) (k6 s1 rfl)];have s2:∀U M,u4 (dB (a7 w9 (dL 2) (dC (.str "left")))) (dV 0) (c8 K6 (a6 (dV 0) (a6 (c8 af (a6 (Zg 1 3) a9)) a9))) ⟨[.v (pt p),.v S,.v (G9 s),U,M],fs⟩=some (pt (d9 p u (C8 s h)),⟨[.v (pt p),.v S,.v (G9 s),U,M],fs⟩):=fun U M=>by
  cases s with
  |left=>rw[show C8 .left h=0 from rfl,DZ];rfl
  |both=>exact(S5 (u6 (c6 rfl rfl rfl))).trans (i7 (j3 rfl (j3 (i7 (j3 (c6 rfl rfl J) rfl) Z) rfl)) W)
  |right=>exact(S5 (u6 (c6 rfl rfl rfl))).trans (i7 (j3 rfl (j3 (i7 (j3 (c6 rfl rfl J) rfl) Z) rfl)) W)
 rw[d8 (s1:=⟨[.v (pt p),.v S,.v (G9 s),.v (pt (d9 p u (C5 s h))),.v (pt (d9 p u (C8 s h)))],fs⟩) (k6 (s2 _ _) rfl)];exact p9 (U0 (mM rfl rfl))
def dG {h:Rat}(hp:PtS 70 p) (hu:Hb 5 u) (hh:Sz 4 h):∀q∈E9 p u h s,PtS 80 q:=fun q J=>by
 unfold E9 at J;rcases Sv.mp J with rfl | J
 .exact(P2 hp hu (cQ hh)).mono (by decide)
 .rw[SJ.mp J];exact(P2 hp hu (cI hh)).mono (by decide)
abbrev fk:a8:=Bv W6 eJ
def NL {l m:vT_}(h:l.length+m.length<=100):m9 (.lst (l.map pt)) (.lst (m.map pt))=some (.lst ((l++m).map pt)):=by
 show (if (l.map pt).length+(m.map pt).length<=sizeLine then some (D.lst (l.map pt++m.map pt)) else none)=_;rw[Ss,Ss,tx (SI h (by decide)),Tj]
def ot (l:vT_) (fs:vO_) (hl:∀z∈l,PtS 300 z) (M:l.length<=100):W6 [.lst (l.map pt)] fs=some (C3 l,fs):=
 qX (k:=600) (by decide) (.lst (l.map pt)) l fs rfl (fun z J=>(hl z J).ps) (by omega)
def EC {a b u:Pt}{h:Rat}(s:Sd) (ha:PtS 70 a) (hb:PtS 70 b) (hu:Hb 5 u) (hh:Sz 4 h) (fs:vO_):fk [A6 a b (m7 h u),G9 s] fs=some (C3 (E9 a u h s++E9 b u h s),fs):=by
 have J:=rY (a:=a) (b:=b) s ha hu hh fs;have U:=rY (a:=a) (b:=b) s hb hu hh fs;have z:=ot (E9 a u h s++E9 b u h s) fs (fun q M=>by
  rcases SM.mp M with w | w
  .exact(dG ha hu hh q w).mono (by decide)
  .exact(dG hb hu hh q w).mono (by decide)) (by show 4<=100;decide)
 have W:b0 (A6 a b (m7 h u)) (.int 0)=some (pt a):=rfl;have i1:b0 (A6 a b (m7 h u)) (.int 1)=some (pt b):=rfl;generalize A6 a b (m7 h u)=S at *;exact n9 (s:=⟨[.v S,.v (G9 s)],fs⟩) (p9 (i7 (j3 (c6 (i7 (j3 (c6 rfl rfl W) rfl) J) (i7 (j3 (c6 rfl rfl i1) rfl) U) (NL (by show 4<=100;decide))) rfl) z))
abbrev qQ:a8:=zK gF
def Ob (w v:Pt):aY (pX w*pY v - pY w*pX v)=i8 (i5 w v):=
 qK (c:=(pL w:Rat)*(pL v:Rat)) (Q8 (U7 w) (U7 v)) (by
  simp only[Ue,SQ];rw[N5,N8,N5,N8];unfold i5;grind)
def xK {c x:Rat}(J:0<c):i8 (c*x)=i8 x:=by
 unfold i8;by_cases h:0<x
 .rw[tx h,tx (Q8 J h)]
 .by_cases h2:x<0
  .have:0<c * -x:=Q8 J (by grind);rw[So h,tx h2,So (by grind),tx (by grind)]
  .have e:x=0:=by grind
   rw[e,UA]
def Ky {a b c d u v:Pt}{h:Rat}(hp:0<h) (hh:Sz 4 h) (hu:Hb 5 u) (hv:Hb 5 v) (fs:vO_):qQ [A6 a b (m7 h u),A6 c d (m7 h v)] fs=some (.int (i8 (i5 u v)),fs):=by
 have e:i8 (i5 (m7 h u) (m7 h v))=i8 (i5 u v):=by
  have:i5 (m7 h u) (m7 h v)=h*h*i5 u v:=by unfold i5 m7;grind
  rw[this,xK (Q8 hp hp)]
 have q:=tH (pX (m7 h u)*pY (m7 h v) - pY (m7 h u)*pX (m7 h v)) fs;rw[Ob,e] at q;have M:=(Z0 hh hu).ps;have U:=(Z0 hh hv).ps;have W:b0 (A6 a b (m7 h u)) (.int 2)=some (pt (m7 h u)):=rfl;have i1:b0 (A6 c d (m7 h v)) (.int 2)=some (pt (m7 h v)):=rfl;generalize A6 a b (m7 h u)=S at *;generalize A6 c d (m7 h v)=S2 at *;have J:∀{k:Nat}{i:Int},Bd k i->decide (k<=8000)=true->A9 i=true:=fun h1 h2=>h1.bits (TQ h2)
 exact n9 (s:=⟨[.v S,.v S2],fs⟩) (p9 (i7 (j3 (c6 (c6 (c6 (c6 rfl rfl W) rfl (T3 _)) (c6 (c6 rfl rfl i1) rfl (U4 _)) (n8 (J M.x rfl) (J U.y rfl))) (c6 (c6 (c6 rfl rfl W) rfl (U4 _)) (c6 (c6 rfl rfl i1) rfl (T3 _)) (n8 (J M.y rfl) (J U.x rfl))) rfl) rfl) q))
abbrev ee:a8:=vg K6 af
def j8 (k:Int) (h:Rat):Rat:=if k=1 then -h else h
def fq {p a b u:Pt}{h:Rat}(k:Int) (hp:PtS 70 p) (hu:Hb 5 u) (hh:Sz 4 h) (fs:vO_):ee [pt p,A6 a b (m7 h u),.int k] fs=some (pt (d9 p u (j8 k h)),fs):=by
 have U:=Aw hp hu hh fs;have M:=wJ hp hu hh fs;have W:=qi (lfW (m7 h u)) fs;have J:b0 (A6 a b (m7 h u)) (.int 3)=some (pt (lfW (m7 h u))):=rfl;generalize A6 a b (m7 h u)=S at *;have c:dB (a7 w9 (dL 2) (Zf 1)) ⟨[.v (pt p),.v S,.v (.int k)],fs⟩=some (decide (k=1),⟨[.v (pt p),.v S,.v (.int k)],fs⟩):=u6 (c6 rfl rfl (W3 k 1));refine n9 (s:=⟨[.v (pt p),.v S,.v (.int k)],fs⟩) ?_;show lh K6 af ⟨[.v (pt p),.v S,.v (.int k)],fs⟩=_;unfold lh j8;by_cases q:k=1
 .rw[SA q] at c;rw[tx q];exact p9 (i7 (j3 rfl (j3 ((aw c).trans (i7 (j3 (c6 rfl rfl J) rfl) W)) rfl)) M)
 .rw[SF q] at c;rw[So q];exact p9 (i7 (j3 rfl (j3 ((S5 c).trans (c6 rfl rfl J)) rfl)) U)
def cw {k:Int}{h:Rat}(hh:Sz 4 h):Sz 4 (j8 k h):=by unfold j8;split;exact hh.neg;exact hh
def BR {a b c d q:Pt}(M:i5 (C9 a b) (C9 c d)≠0) (h1:c7 a b q=0) (h2:c7 c d q=0):aM a b c d=q:=by
 have Y:Z4 a b c d=q.1*i5 (C9 a b) (C9 c d):=by
  unfold c7 at h1 h2;unfold Z4 i5 C9;have J:(d.1 - c.1)*((b.1 - a.1)*(q.2 - a.2) - (b.2 - a.2)*(q.1 - a.1))=0:=by rw[h1,UA]
  have U:(b.1 - a.1)*((d.1 - c.1)*(q.2 - c.2) - (d.2 - c.2)*(q.1 - c.1))=0:=by rw[h2,UA]
  show (b.1 - a.1)*(c.1*d.2 - c.2*d.1) - (a.1*b.2 - a.2*b.1)*(d.1 - c.1)=q.1*((b.1 - a.1)*(d.2 - c.2) - (b.2 - a.2)*(d.1 - c.1));grind
 have W:aa a b c d=q.2*i5 (C9 a b) (C9 c d):=by
  unfold c7 at h1 h2;unfold aa i5 C9;have J:(d.2 - c.2)*((b.1 - a.1)*(q.2 - a.2) - (b.2 - a.2)*(q.1 - a.1))=0:=by rw[h1,UA]
  have U:(b.2 - a.2)*((d.1 - c.1)*(q.2 - c.2) - (d.2 - c.2)*(q.1 - c.1))=0:=by rw[h2,UA]
  show (a.1*b.2 - a.2*b.1)*(c.2 - d.2) - (a.2 - b.2)*(c.1*d.2 - c.2*d.1)=q.2*((b.1 - a.1)*(d.2 - c.2) - (b.2 - a.2)*(d.1 - c.1));grind
 unfold aM;rw[Y,W,SD,SD,VG,VG,Vo _ M,Wj,Wj]
def dD (u v:Pt):Rat:=(u.1*v.1+u.2*v.2 - 1) / i5 u v
def G6 (p u v:Pt) (f:Rat):Pt:=(p.1+f*(dD u v*u.1 - u.2),p.2+f*(dD u v*u.2+u.1))
def wm (p u v:Pt) (f g:Rat):c7 (d9 p u f) (w4 (d9 p u f) u g) (G6 p u v f)=0:=by unfold c7 d9 w4 G6;grind
def xk {p u v:Pt}{f:Rat}(g:Rat) (hk:i5 u v≠0) (hv:v.1*v.1+v.2*v.2=1):c7 (d9 p v f) (w4 (d9 p v f) v g) (G6 p u v f)=0:=by
 have e:dD u v*i5 u v=u.1*v.1+u.2*v.2 - 1:=by
  unfold dD;rw[SD,VG,Rat.inv_mul_cancel _ hk,Wj]
 unfold i5 at e;unfold c7 d9 w4 G6;generalize dD u v=c at *;have key:(v.1*(c*u.2+u.1 - v.1) - v.2*(c*u.1 - u.2+v.2))=0:=by grind
 have:((p.1 - f*v.2+g*v.1 - (p.1 - f*v.2))*(p.2+f*(c*u.2+u.1) - (p.2+f*v.1)) - (p.2+f*v.1+g*v.2 - (p.2+f*v.1))*(p.1+f*(c*u.1 - u.2) - (p.1 - f*v.2)))=g*f*(v.1*(c*u.2+u.1 - v.1) - v.2*(c*u.1 - u.2+v.2)):=by grind
 show ((p.1 - f*v.2+g*v.1 - (p.1 - f*v.2))*(p.2+f*(c*u.2+u.1) - (p.2+f*v.1)) - (p.2+f*v.1+g*v.2 - (p.2+f*v.1))*(p.1+f*(c*u.1 - u.2) - (p.1 - f*v.2)))=0;rw[this,key,UA]
def QH {k:Nat}{x:Rat}(h:Sz k x) (M:x≠0):Sz k x⁻¹:=by
 have J:x.num≠0:=fun z=>M (Xo.mp z)
 have e:x⁻¹=Rat.divInt x.den x.num:=by
  rw[Tx,aI x,SD];have U:((x.den:Int):Rat)≠0:=fun z=>G7 x (Uq.mp z)
  grind
 rw[e];exact Sz.of_divInt J h.den h.num
def Mv {u v:Pt}(hu:Hb 5 u) (hv:Hb 5 v) (hk:i5 u v≠0):Sz 44 (dD u v):=by
 unfold dD;rw[SD];have a:=hu.pts;have b:=hv.pts
 exact((((a.x.mul b.x).add (a.y.mul b.y)).sub (Sz.lit (by decide):Sz 1 (1:Rat))).mul (QH (((a.x.mul b.y).sub (a.y.mul b.x)):Sz 21 (i5 u v)) hk)).mono (by decide)
def iJ {p u v:Pt}{f:Rat}(hp:PtS 70 p) (hu:Hb 5 u) (hv:Hb 5 v) (hf:Sz 4 f) (hk:i5 u v≠0):PtS 130 (G6 p u v f):=by
 have a:=hu.pts;have c:=Mv hu hv hk;exact⟨(hp.x.add (hf.mul ((c.mul a.x).sub a.y))).mono (by decide),(hp.y.add (hf.mul ((c.mul a.y).add a.x))).mono (by decide)⟩
abbrev kC:a8:=zM bG bL K6 ee
def HV {a b c d u v:Pt}{h:Rat}(k:Int) (hp:0<h) (hh:Sz 4 h) (J:PtS 70 b) (hu:Hb 5 u) (hv:Hb 5 v) (h1:v.1*v.1+v.2*v.2=1) (hk:i5 u v≠0) (fs:vO_):kC [A6 a b (m7 h u),A6 c d (m7 h v),.int k] fs=some (pt (G6 b u v (j8 k h)),fs):=by
 have o1:=fq (a:=a) (b:=b) k J hu hh fs;have o2:=fq (a:=c) (b:=d) k J hv hh fs;have M:PtS 80 (d9 b u (j8 k h)):=(P2 J hu (cw hh)).mono (by decide);have U:PtS 80 (d9 b v (j8 k h)):=(P2 J hv (cw hh)).mono (by decide);have m1:K6 [pt (d9 b u (j8 k h)),pt (m7 h u)] fs=some (pt (w4 (d9 b u (j8 k h)) u h),fs):=dc fs M (Z0 hh hu) (by decide) (by decide);have m2:K6 [pt (d9 b v (j8 k h)),pt (m7 h v)] fs=some (pt (w4 (d9 b v (j8 k h)) v h),fs):=dc fs U (Z0 hh hv) (by decide) (by decide);have Z:PtS 90 (w4 (d9 b u (j8 k h)) u h):=(ah M hu hh).mono (by decide);have Y:PtS 90 (w4 (d9 b v (j8 k h)) v h):=(ah U hv hh).mono (by decide);have W:i5 (C9 (d9 b u (j8 k h)) (w4 (d9 b u (j8 k h)) u h)) (C9 (d9 b v (j8 k h)) (w4 (d9 b v (j8 k h)) v h))≠0:=by
  have e:i5 (C9 (d9 b u (j8 k h)) (w4 (d9 b u (j8 k h)) u h)) (C9 (d9 b v (j8 k h)) (w4 (d9 b v (j8 k h)) v h))=h*h*i5 u v:=by unfold i5 C9 w4;grind
  rw[e];intro z;rcases Td.mp z with w | w
  .have:=Q8 hp hp;grind
  .exact hk w
 have s1:=mj fs (M.mono (by decide:80<=90)).ps Z.ps (by decide);have s2:=mj fs (U.mono (by decide:80<=90)).ps Y.ps (by decide);have x:=uR fs (M.mono (by decide:80<=90)).ps Z.ps (U.mono (by decide:80<=90)).ps Y.ps (by decide) W;rw[BR W (wm b u v (j8 k h) h) (xk h hk h1)] at x;have i1:b0 (A6 a b (m7 h u)) (.int 1)=some (pt b):=rfl;have i2:b0 (A6 a b (m7 h u)) (.int 2)=some (pt (m7 h u)):=rfl;have i3:b0 (A6 c d (m7 h v)) (.int 2)=some (pt (m7 h v)):=rfl;generalize A6 a b (m7 h u)=S at *;generalize A6 c d (m7 h v)=S2 at *;generalize G6 b u v (j8 k h)=tp at *;generalize d9 b u (j8 k h)=g1 at *;generalize d9 b v (j8 k h)=g2 at *;wtm_at "Z"
abbrev iV:a8:=wj ph (ju FF) FT
def Pe {a:DE}{s s1:DS}{b:Bool}(h1:a s=some (.bl b,s1)):D2 a s=some (.bl (!b),s1):=by
 unfold D2;rw[u6 h1];rfl
def JN {p t:Pt}{r:Rat}(fs:vO_) (hp:PtS 130 p) (M:PtS 130 t) (J:Sz 20 r):iV [pt p,pt t,fr r] fs=some (.bl (!decide (r*r<dsq p t)),fs):=by
 have a:=Cb r r fs J J (by decide);have b:=zJ p t fs hp.ps M.ps (by decide);have c:=Pj (r*r) (dsq p t) fs (J.mul J) (ke hp M) (by decide);exact n9 (s:=⟨[.v (pt p),.v (pt t),.v (fr r)],fs⟩) (p9 (Pe (i7 (j3 (i7 rfl a) (j3 (i7 rfl b) rfl)) c)))
def bf (p u v:Pt) (f h m:Rat):Bool:=!decide (m*h*(m*h)<dsq p (G6 p u v f))
def K5 (p u v:Pt) (f h m:Rat) (j:Jn):List Pt:=[p,d9 p u f,d9 p v f]++(match j with | .pointed=>if bf p u v f h m then [G6 p u v f] else [] | _=>[])
def qV (p u v:Pt) (f h m:Rat) (j:Jn):(K5 p u v f h m j).length<=4:=by
 unfold K5;rw[SG];cases j
 .exact(by decide:3<=4)
 .show 3+(if bf p u v f h m=true then [G6 p u v f] else []).length<=4;split <;> simp
 .exact(by decide:3<=4)
def oo {p u v:Pt}{f h m:Rat}(j:Jn) (hp:PtS 70 p) (hu:Hb 5 u) (hv:Hb 5 v) (hf:Sz 4 f) (hk:i5 u v≠0):∀q∈K5 p u v f h m j,PtS 300 q:=fun q J=>by
 unfold K5 at J;rcases SM.mp J with w | w
 .rcases Sv.mp w with rfl | w
  .exact hp.mono (by decide)
  .rcases Sv.mp w with rfl | w
   .exact(P2 hp hu hf).mono (by decide)
   .rw[SJ.mp w];exact(P2 hp hv hf).mono (by decide)
 .cases j with
  |pointed=>
   have w:q∈(if bf p u v f h m=true then [G6 p u v f] else []):=w;split at w
   .rw[SJ.mp w];exact(iJ hp hu hv hf hk).mono (by decide)
   .cases w
  |cut=>cases w
  |round=>cases w
abbrev jW:a8:=zo W6 iV FT kC ee
def IK {a b c d u v:Pt}{h m:Rat}(k:Int) (s:Sd) (e:En) (j:Jn) (hp:0<h) (hh:Sz 4 h) (hm:Sz 12 m) (W:PtS 70 b) (hu:Hb 5 u) (hv:Hb 5 v) (h1:v.1*v.1+v.2*v.2=1) (hk:i5 u v≠0) (fs:vO_) :
  jW [A6 a b (m7 h u),A6 c d (m7 h v),.int k,j4 h s e j m] fs=some (C3 (K5 b u v (j8 k h) h m j),fs):=by
 have o1:=fq (a:=a) (b:=b) k W hu hh fs;have o2:=fq (a:=c) (b:=d) k W hv hh fs;have t:=HV (a:=a) (c:=c) (d:=d) k hp hh W hu hv h1 hk fs;have tm:=Cb m h fs hm hh (by decide);have nr:=JN (r:=m*h) fs (W.mono (by decide)) (iJ W hu hv (cw (k:=k) hh) hk) ((hm.mul hh).mono (by decide));have z:=ot (K5 b u v (j8 k h) h m j) fs (oo j W hu hv (cw hh) hk) (SI (qV ..) (by decide));have i1:b0 (A6 a b (m7 h u)) (.int 1)=some (pt b):=rfl;have r0:b0 (j4 h s e j m) (.int 0)=some (fr h):=rfl;have Z:b0 (j4 h s e j m) (.int 3)=some (ae j):=rfl;have r4:b0 (j4 h s e j m) (.int 4)=some (fr m):=rfl;generalize A6 a b (m7 h u)=S at *;generalize A6 c d (m7 h v)=S2 at *;generalize j4 h s e j m=R at *;have Y:∀J l,l=K5 b u v (j8 k h) h m j->f9 (c8 W6 (a6 (dV 5) a9)) ⟨[.v S,.v S2,.v (.int k),.v R,.v (pt b),.own (l.map pt),J],fs⟩=some (.ret (C3 (K5 b u v (j8 k h) h m j)),⟨[.v S,.v S2,.v (.int k),.v R,.v (pt b),.v (.lst (l.map pt)),J],fs⟩):=fun J l hl=>by
  subst hl;exact p9 (fR (sl':=[.v S,.v S2,.v (.int k),.v R,.v (pt b),.v (.lst ((K5 b u v (j8 k h) h m j).map pt)),J]) rfl z)
 have U:∀J l,l=K5 b u v (j8 k h) h m j->j9 (dB (a7 w9 (Zg 3 3) (dC (.str "pointed")))) (c9 (d7 (c8 kC (a6 (dV 0) (a6 (dV 1) (a6 (dV 2) a9)))) (d6 6)) (j9 (w6 (c8 iV (a6 (dV 4) (a6 (dV 6) (a6 (c8 FT (a6 (Zg 3 4) (a6 (Zg 3 0) a9))) a9))))) (F0 5 (dV 6)) k9)) k9 ⟨[.v S,.v S2,.v (.int k),.v R,.v (pt b),.own ([b,d9 b u (j8 k h),d9 b v (j8 k h)].map pt),.no],fs⟩=some (.next,⟨[.v S,.v S2,.v (.int k),.v R,.v (pt b),.own (l.map pt),J],fs⟩)->jW [S,S2,.int k,R] fs=some (C3 (K5 b u v (j8 k h) h m j),fs):=fun J l hl q=>by
  refine n9 (s:=⟨[.v S,.v S2,.v (.int k),.v R,.v (pt b),.v (.lst (l.map pt)),J],fs⟩) ?_;show jF W6 iV FT kC ee ⟨[.v S,.v S2,.v (.int k),.v R,.no,.no,.no],fs⟩=_;unfold jF;rw[d8 (s1:=⟨[.v S,.v S2,.v (.int k),.v R,.v (pt b),.no,.no],fs⟩) (k6 (c6 rfl rfl i1) rfl)];rw[d8 (s1:=⟨[.v S,.v S2,.v (.int k),.v R,.v (pt b),.own ([b,d9 b u (j8 k h),d9 b v (j8 k h)].map pt),.no],fs⟩) (Q7 (i:=5) (s1:=⟨[.v S,.v S2,.v (.int k),.v R,.v (pt b),.no,.no],fs⟩) (ds:=[b,d9 b u (j8 k h),d9 b v (j8 k h)].map pt) (MQ (j3 rfl (j3 (i7 rfl o1) (j3 (i7 rfl o2) rfl))) (by show 3<=sizeLine;decide)) (by show 5<7;decide))];rw[d8 q];exact Y J l hl
 cases j with
 |cut=>exact U .no _ rfl (K0 (u6 (c6 (c6 rfl rfl Z) rfl rfl)))
 |round=>exact U .no _ rfl (K0 (u6 (c6 (c6 rfl rfl Z) rfl rfl)))
 |pointed=>
  have M:w6 (c8 iV (a6 (dV 4) (a6 (dV 6) (a6 (c8 FT (a6 (Zg 3 4) (a6 (Zg 3 0) a9))) a9)))) ⟨[.v S,.v S2,.v (.int k),.v R,.v (pt b),.own ([b,d9 b u (j8 k h),d9 b v (j8 k h)].map pt),.v (pt (G6 b u v (j8 k h)))],fs⟩=some (bf b u v (j8 k h) h m,⟨[.v S,.v S2,.v (.int k),.v R,.v (pt b),.own ([b,d9 b u (j8 k h),d9 b v (j8 k h)].map pt),.v (pt (G6 b u v (j8 k h)))],fs⟩):=
   V3 (i7 (j3 rfl (j3 rfl (j3 (i7 (j3 (c6 rfl rfl r4) (j3 (c6 rfl rfl r0) rfl)) tm) rfl))) nr)
  refine U (.v (pt (G6 b u v (j8 k h)))) _ rfl ?_;rw[E6 (s1:=⟨[.v S,.v S2,.v (.int k),.v R,.v (pt b),.own ([b,d9 b u (j8 k h),d9 b v (j8 k h)].map pt),.no],fs⟩) (u6 (c6 (c6 rfl rfl Z) rfl rfl))];rw[d8 (s1:=⟨[.v S,.v S2,.v (.int k),.v R,.v (pt b),.own ([b,d9 b u (j8 k h),d9 b v (j8 k h)].map pt),.v (pt (G6 b u v (j8 k h)))],fs⟩) (k6 (i7 rfl t) rfl)];unfold K5;cases q:bf b u v (j8 k h) h m with
  |true=>
   rw[q] at M;rw[E6 M];exact Q2 (i:=5) (s:=⟨[.v S,.v S2,.v (.int k),.v R,.v (pt b),.own ([b,d9 b u (j8 k h),d9 b v (j8 k h)].map pt),.v (pt (G6 b u v (j8 k h)))],fs⟩) (s1:=⟨[.v S,.v S2,.v (.int k),.v R,.v (pt b),.own ([b,d9 b u (j8 k h),d9 b v (j8 k h)].map pt),.v (pt (G6 b u v (j8 k h)))],fs⟩) (ds:=[b,d9 b u (j8 k h),d9 b v (j8 k h)].map pt) (ds0:=[b,d9 b u (j8 k h),d9 b v (j8 k h)].map pt) (d:=pt (G6 b u v (j8 k h))) (f:=dV 6) rfl rfl rfl (by show 3<sizeLine;decide)
  |false=>
   rw[q] at M;exact K0 M
def R9 (e:Bool) (h:Rat) (u:Pt):Pt:=if e then m7 h u else abW (m7 h u)
def gE (e:Bool) (h:Rat):Rat:=if e then -h else h
def dE (e:Bool) (u:Pt):Pt:=if e then rtW u else lfW u
def aq {h:Rat}(e:Bool) (hh:0<h):K3 p h (dE e u) p (d9 p u (gE e h)):=by
 cases e
 .exact Lm hh hh
 .exact LR hh hh
def df {k:Nat}(h:Hb k u):Hb k (dE e u):=by cases e;exact h.lfW;exact h.rtW
def yz {u:Pt}(h:u.1*u.1+u.2*u.2=1):¬ (u.1=0/\u.2=0):=fun ⟨a,b⟩=>by rw[a,b] at h;exact absurd h (by decide +kernel)
def ED (h:u.1*u.1+u.2*u.2=1):¬ ((lfW u).1=0/\(lfW u).2=0):=fun ⟨a,b⟩=>yz h ⟨b,by have a:-u.2=0:=a;grind⟩
def NY (h:u.1*u.1+u.2*u.2=1):¬ ((rtW u).1=0/\(rtW u).2=0):=fun ⟨a,b⟩=>yz h ⟨by have b:-u.1=0:=b;grind,a⟩
def IY (h:u.1*u.1+u.2*u.2=1):¬ ((dE e u).1=0/\(dE e u).2=0):=by cases e;exact ED h;exact NY h
def U9 {h:Rat}(hh:Sz 4 h):Sz 4 (gE e h):=by cases e;exact hh;exact hh.neg
def M9 {f:Rat}(hp:PtS 70 p) (hu:Hb 5 u) (hf:Sz 4 f):PtS 120 (d9 p u f):=(P2 hp hu hf).mono (by decide)
def kD {f:Rat}(hp:PtS 70 p) (hu:Hb 5 u) (hf:Sz 4 f):PtS 120 (w4 p u f):=(ah hp hu hf).mono (by decide)
def qY {p d a b:Pt}{h:Rat}(hp:PtS 70 p) (hh:Sz 4 h) (ha:PtS 120 a) (hb:PtS 120 b) (T:K3 p h d a b) (hd:Hb 5 d) (fs:vO_):P6 [.tup ((TW p h).map pt),pt a,pt b] fs=some (P4 (TW p h) a b,fs):=
 tJ hp hh ha hb (by rw[aN];decide) (by rw[aN];decide) (qt p h) (by decide) T hd fs
abbrev dj:a8:=xc P6 K6 qf ir
def C1 (p u:Pt) (h:Rat) (e:Bool):List Pt:=cu (TW p h) p (d9 p u (gE e h))
section
variable {p u:Pt}{h:Rat}(hp:PtS 70 p) (hu:Hb 5 u) (hh:Sz 4 h) (h0:0<h) (h1:u.1*u.1+u.2*u.2=1) (e:Bool) (fs:vO_)
include h0 h1
theorem bq:3<=(C1 p u h e).length:=Qd h0 (aq e h0) (IY h1)
theorem mn:(C1 p u h e).length<=24:=by
 have:=Lc (a:=p) (b:=d9 p u (gE e h)) (fd:=TW p h) (by rw[aN];decide);rw[aN] at this;exact this
include hu
theorem jT:Fr p h 13 (C1 p u h e):=HF (k:=3) (aq e h0) (df hu) (by rw[aN];decide) (qt p h)
include hp hh
theorem wq:dj [pt p,pt (R9 e h u),fr h] fs=some (.tup ((C1 p u h e).map pt),fs):=by
 have t:=uI hp (hh.mono (by decide)) h0 fs;have r:=Nb (R9 e h u) fs;have m:K6 [pt p,pt (rtW (R9 e h u))] fs=some (pt (d9 p u (gE e h)),fs):=by
  have q:=dc (w:=rtW (R9 e h u)) fs hp (HD (k:=9) (by unfold R9;cases e;exact sO (Z0 hh hu);exact Z0 hh hu)) (by decide) (by decide);rw[q];have:(p.1+(rtW (R9 e h u)).1,p.2+(rtW (R9 e h u)).2)=d9 p u (gE e h):=by
   cases e
   .show (p.1 + -(h*u.2),p.2 + - -(h*u.1))=(p.1 - h*u.2,p.2+h*u.1);exact SU (by grind) (by grind)
   .show (p.1+h*u.2,p.2 + -(h*u.1))=(p.1 - -h*u.2,p.2 + -h*u.1);exact SU (by grind) (by grind)
  rw[this]
 have c:=qY hp hh (hp.mono (by decide)) (M9 hp hu (U9 hh)) (aq e h0) (df hu) fs;rw[fA (bq h0 h1 e)] at c;exact n9 (s:=⟨[.v (pt p),.v (pt (R9 e h u)),.v (fr h)],fs⟩) (p9 (i7 (j3 (i7 rfl t) (j3 rfl (j3 (i7 (j3 rfl (j3 (i7 rfl r) rfl)) m) rfl))) c))
end
abbrev sN:a8:=xC dj
def yW (p u:Pt) (h:Rat) (j:Jn):D:=match j with | .round=>.tup ((C1 p u h true).map pt) | _=>.non
def JA {a b u:Pt}{h m:Rat}(s:Sd) (n:En) (j:Jn) (hp:PtS 70 b) (hu:Hb 5 u) (hh:Sz 4 h) (h0:0<h) (h1:u.1*u.1+u.2*u.2=1) (fs:vO_):sN [A6 a b (m7 h u),j4 h s n j m] fs=some (yW b u h j,fs):=by
 have q:=wq hp hu hh h0 h1 true fs;have i1:b0 (A6 a b (m7 h u)) (.int 1)=some (pt b):=rfl;have i2:b0 (A6 a b (m7 h u)) (.int 2)=some (pt (m7 h u)):=rfl;have M:b0 (j4 h s n j m) (.int 0)=some (fr h):=rfl;have J:b0 (j4 h s n j m) (.int 3)=some (ae j):=rfl;generalize A6 a b (m7 h u)=S at *;generalize j4 h s n j m=R at *;refine n9 (s:=⟨[.v S,.v R],fs⟩) ?_;show kB dj ⟨[.v S,.v R],fs⟩=_;unfold kB;cases j with
 |cut=>exact N4 ((E6 (s1:=⟨[.v S,.v R],fs⟩) (u6 (c6 (c6 rfl rfl J) rfl rfl))).trans (p9 rfl))
 |pointed=>exact N4 ((E6 (s1:=⟨[.v S,.v R],fs⟩) (u6 (c6 (c6 rfl rfl J) rfl rfl))).trans (p9 rfl))
 |round=>
  rw[d8 (s1:=⟨[.v S,.v R],fs⟩) (K0 (u6 (c6 (c6 rfl rfl J) rfl rfl)))];exact p9 (i7 (j3 (c6 rfl rfl i1) (j3 (c6 rfl rfl i2) (j3 (c6 rfl rfl M) rfl))) q)
abbrev oM:a8:=uD P6 ir ee
def O8 (p u v:Pt) (h:Rat) (k:Int):D:=if k=1 then P4 (C1 p u h true) (d9 p v (-h)) p else P4 (C1 p v h false) (d9 p u h) p
section
variable {p u v:Pt}{h:Rat}(hp:PtS 70 p) (hu:Hb 5 u) (hv:Hb 5 v) (hh:Sz 4 h) (h0:0<h) (fs:vO_)
include hp hu hv hh h0
theorem jP (h1:u.1*u.1+u.2*u.2=1) (e:Bool) {a b d:Pt}(ha:PtS 120 a) (hb:PtS 120 b) (T:K3 p h d a b) (hd:Hb 5 d):P6 [.tup ((C1 p u h e).map pt),pt a,pt b] fs=some (P4 (C1 p u h e) a b,fs):=
 tJ hp hh ha hb (by have:=bq (p:=p) h0 h1 e;omega) (by have:=mn (p:=p) h0 h1 e;omega) (jT hu h0 h1 e) (by decide) T hd fs
theorem Mi {m:Rat}(k:Int) (s:Sd) (n:En) (j:Jn) (h1:u.1*u.1+u.2*u.2=1) (h2:v.1*v.1+v.2*v.2=1):oM [A6 a p (m7 h u),A6 c d (m7 h v),.int k,j4 h s n j m] fs=some (O8 p u v h k,fs):=by
 have o1:=fq (a:=a) (b:=p) k hp hu hh fs;have Z:=fq (a:=c) (b:=d) k hp hv hh fs;have t:=uI hp (hh.mono (by decide)) h0 fs;have i1:b0 (A6 a p (m7 h u)) (.int 1)=some (pt p):=rfl;have r0:b0 (j4 h s n j m) (.int 0)=some (fr h):=rfl;have U:∀S S2 R x4 x5 x6 x7,dB (a7 w9 (dL 2) (Zf 1)) ⟨[.v S,.v S2,.v (.int k),.v R,x4,x5,x6,x7],fs⟩=some (decide (k=1),⟨[.v S,.v S2,.v (.int k),.v R,x4,x5,x6,x7],fs⟩):=fun _ _ _ _ _ _ _=>u6 (c6 rfl rfl (W3 k 1))
 have M:PtS 120 p:=hp.mono (by decide);have J:∃Y:List D,(if k=1 then P6 [.tup ((TW p h).map pt),pt p,pt (d9 p u (j8 k h))] fs=some (.tup Y,fs)/\P6 [.tup Y,pt (d9 p v (j8 k h)),pt p] fs=some (O8 p u v h k,fs) else P6 [.tup ((TW p h).map pt),pt p,pt (d9 p v (j8 k h))] fs=some (.tup Y,fs)/\P6 [.tup Y,pt (d9 p u (j8 k h)),pt p] fs=some (O8 p u v h k,fs)):=by
  by_cases q:k=1
  .refine⟨(C1 p u h true).map pt,?_⟩;rw[tx q];unfold O8 j8;rw[tx q,tx q];refine⟨?_,jP hp hu hv hh h0 fs h1 true (M9 hp hv hh.neg) M (js h0 h0) hv.lfW⟩;have c:=qY hp hh M (M9 hp hu (U9 (e:=true) hh)) (aq true h0) (df hu) fs;rw[fA (bq h0 h1 true)] at c;exact c
  .refine⟨(C1 p v h false).map pt,?_⟩;rw[So q];unfold O8 j8;rw[So q,So q];refine⟨?_,jP hp hv hu hh h0 fs h2 false (M9 hp hu hh) M (gA h0 h0) hu.rtW⟩;have c:=qY hp hh M (M9 hp hv (U9 (e:=false) hh)) (aq false h0) (df hv) fs;rw[fA (bq h0 h2 false)] at c;exact c
 obtain⟨Y,J⟩:=J;generalize A6 a p (m7 h u)=S at *;generalize A6 c d (m7 h v)=S2 at *;generalize j4 h s n j m=R at *;generalize O8 p u v h k=res at *;have t:ir [pt p,fr h] fs=some (.tup ((TW p h).map pt),fs):=t;generalize (TW p h).map pt=W at *;generalize d9 p u (j8 k h)=g1 at *;generalize d9 p v (j8 k h)=g2 at *;refine n9 (s:=⟨[.v S,.v S2,.v (.int k),.v R,.v (pt p),.v (pt g1),.v (pt g2),.v (.tup W)],fs⟩) ?_;show mY P6 ir ee ⟨[.v S,.v S2,.v (.int k),.v R,.no,.no,.no,.no],fs⟩=_;unfold mY;rw[d8 (s1:=⟨[.v S,.v S2,.v (.int k),.v R,.v (pt p),.no,.no,.no],fs⟩) (k6 (c6 rfl rfl i1) rfl)];rw[d8 (s1:=⟨[.v S,.v S2,.v (.int k),.v R,.v (pt p),.v (pt g1),.no,.no],fs⟩) (k6 (i7 rfl o1) rfl)];rw[d8 (s1:=⟨[.v S,.v S2,.v (.int k),.v R,.v (pt p),.v (pt g1),.v (pt g2),.no],fs⟩) (k6 (i7 rfl Z) rfl)];rw[d8 (s1:=⟨[.v S,.v S2,.v (.int k),.v R,.v (pt p),.v (pt g1),.v (pt g2),.v (.tup W)],fs⟩) (k6 (i7 (j3 rfl (j3 (c6 rfl rfl r0) rfl)) t) rfl)];have U:=U S S2 R (.v (pt p)) (.v (pt g1)) (.v (pt g2)) (.v (.tup W));by_cases q:k=1
 .rw[tx q] at J;rw[SA q] at U;exact N4 ((E6 U).trans (p9 (i7 (j3 (i7 rfl J.1) rfl) J.2)))
 .rw[So q] at J;rw[SF q] at U;rw[d8 (K0 U)];exact p9 (i7 (j3 (i7 rfl J.1) rfl) J.2)
end
abbrev jq:a8:=CU jW oM sN qQ
def V2 (s:Sd) (k:Int):Bool:=match s with | .both=>false | .left=>decide (k=1) | .right=>!decide (k=1)
def dS (p u v:Pt) (h m:Rat) (s:Sd) (j:Jn):D:=
 if i5 u v=0 then yW p u h j else if V2 s (i8 (i5 u v)) then .non else match j with | .round=>O8 p u v h (i8 (i5 u v)) | _=>C3 (K5 p u v (j8 (i8 (i5 u v)) h) h m j)
def Dm (s:Sd) (k:Int):w9 (G9 s) (if k=1 then .str "left" else .str "right")=some (.bl (V2 s k)):=by
 by_cases q:k=1
 .rw[tx q];cases s <;> simp only[V2,SA q] <;> rfl
 .rw[So q];cases s <;> simp only[V2,SF q] <;> rfl
def Qb {a p c d u v:Pt}{h m:Rat}(s:Sd) (n:En) (j:Jn) (hp:PtS 70 p) (hu:Hb 5 u) (hv:Hb 5 v) (hh:Sz 4 h) (h0:0<h) (hm:Sz 12 m) (h1:u.1*u.1+u.2*u.2=1) (h2:v.1*v.1+v.2*v.2=1) (fs:vO_) :
  jq [A6 a p (m7 h u),A6 c d (m7 h v),j4 h s n j m] fs=some (dS p u v h m s j,fs):=by
 have e1:=Ky (a:=a) (b:=p) (c:=c) (d:=d) h0 hh hu hv fs;have e2:=JA (a:=a) (m:=m) s n j hp hu hh h0 h1 fs;have e3:=Mi hp hu hv hh h0 fs (a:=a) (c:=c) (d:=d) (m:=m) (i8 (i5 u v)) s n j h1 h2;have Y:=fun hk=>IK (a:=a) (c:=c) (d:=d) (m:=m) (i8 (i5 u v)) s n j h0 hh hm hp hu hv h2 hk fs
 have Z:b0 (j4 h s n j m) (.int 1)=some (G9 s):=rfl;have U:b0 (j4 h s n j m) (.int 3)=some (ae j):=rfl;have W:i8 (i5 u v)=0↔i5 u v=0:=kM _;have sd:=Dm s (i8 (i5 u v));unfold dS;generalize A6 a p (m7 h u)=S at *;generalize A6 c d (m7 h v)=S2 at *;generalize j4 h s n j m=R at *;generalize i8 (i5 u v)=k at *;refine n9 (s:=⟨[.v S,.v S2,.v R,.v (.int k)],fs⟩) ?_;show nO jW oM sN qQ ⟨[.v S,.v S2,.v R,.no],fs⟩=_;unfold nO;rw[d8 (s1:=⟨[.v S,.v S2,.v R,.v (.int k)],fs⟩) (k6 (i7 rfl e1) rfl)];have M:dB (a7 w9 (dL 3) (Zf 0)) ⟨[.v S,.v S2,.v R,.v (.int k)],fs⟩=some (decide (k=0),⟨[.v S,.v S2,.v R,.v (.int k)],fs⟩):=u6 (c6 rfl rfl (W3 k 0));by_cases q:i5 u v=0
 .rw[SA (W.mpr q)] at M;rw[tx q];exact N4 ((E6 M).trans (p9 (i7 rfl e2)))
 .rw[SF (fun w=>q (W.mp w))] at M;rw[So q,d8 (K0 M)];have c1:u4 (dB (a7 w9 (dL 3) (Zf 1))) (dC (.str "left")) (dC (.str "right")) ⟨[.v S,.v S2,.v R,.v (.int k)],fs⟩=some ((if k=1 then .str "left" else .str "right"),⟨[.v S,.v S2,.v R,.v (.int k)],fs⟩):=by
   have c:dB (a7 w9 (dL 3) (Zf 1)) ⟨[.v S,.v S2,.v R,.v (.int k)],fs⟩=some (decide (k=1),⟨[.v S,.v S2,.v R,.v (.int k)],fs⟩):=u6 (c6 rfl rfl (W3 k 1));by_cases w:k=1
   .rw[SA w] at c;rw[aw c,tx w];rfl
   .rw[SF w] at c;rw[S5 c,So w];rfl
  have J:=u6 (c6 (s:=⟨[.v S,.v S2,.v R,.v (.int k)],fs⟩) (c6 (a:=dL 2) (b:=Zf 1) (s:=⟨[.v S,.v S2,.v R,.v (.int k)],fs⟩) rfl rfl Z) c1 sd);cases w:V2 s k with
  |true=>
   rw[w] at J;rw[tx rfl];exact N4 ((E6 J).trans (p9 rfl))
  |false=>
   rw[w] at J;rw[So Sy,d8 (K0 J)];cases j with
   |round=>exact N4 ((E6 (s1:=⟨[.v S,.v S2,.v R,.v (.int k)],fs⟩) (u6 (c6 (c6 rfl rfl U) rfl rfl))).trans (p9 (i7 rfl e3)))
   |cut=>
    rw[d8 (s1:=⟨[.v S,.v S2,.v R,.v (.int k)],fs⟩) (K0 (u6 (c6 (c6 rfl rfl U) rfl rfl)))];exact p9 (i7 rfl (Y q))
   |pointed=>
    rw[d8 (s1:=⟨[.v S,.v S2,.v R,.v (.int k)],fs⟩) (K0 (u6 (c6 (c6 rfl rfl U) rfl rfl)))];exact p9 (i7 rfl (Y q))
def JB (q u:Pt) (h:Rat) (e:Bool):(q.1+(R9 e h u).1,q.2+(R9 e h u).2)=w4 q u (gE (!e) h):=by
 cases e
 .show (q.1 + -(h*u.1),q.2 + -(h*u.2))=(q.1 + -h*u.1,q.2 + -h*u.2);exact SU (by grind) (by grind)
 .rfl
def NH {h:Rat}(hh:Sz 4 h) (hu:Hb 5 u):PtS 9 (R9 e h u):=by
 cases e
 .exact sO (Z0 hh hu)
 .exact Z0 hh hu
def aS (p u:Pt) (h:Rat) (s:Sd) (e:Bool):List Pt:=E9 p u h s++(E9 p u h s).map fun q=>w4 q u (gE (!e) h)
def Au {h:Rat}(hp:PtS 70 p) (hu:Hb 5 u) (hh:Sz 4 h):∀q∈aS p u h s e,PtS 300 q:=fun q M=>by
 rcases SM.mp M with w | w
 .exact(dG hp hu hh q w).mono (by decide)
 .obtain⟨z,J,rfl⟩:=Tg.mp w;exact(ah (dG hp hu hh z J) hu (U9 hh)).mono (by decide)
def M5 (p u:Pt) (h:Rat) (s:Sd) (n:En) (e:Bool):D:=match n with
 |.cut=>.non
 |.square=>C3 (aS p u h s e)
 |.round=>match s with
  |.both=>.tup ((C1 p u h e).map pt)
  |.left=>P4 (C1 p u h e) p (w4 p u h)
  |.right=>P4 (C1 p u h e) (w4 p u h) p
abbrev eI:a8:=BF P6 K6 dj W6 eJ
def BP {p a b u:Pt}{h m:Rat}(s:Sd) (n:En) (j:Jn) (e:Bool) (hp:PtS 70 p) (hu:Hb 5 u) (hh:Sz 4 h) (h0:0<h) (h1:u.1*u.1+u.2*u.2=1) (fs:vO_) :
  eI [pt p,A6 a b (m7 h u),pt (R9 e h u),j4 h s n j m] fs=some (M5 p u h s n e,fs):=by
 have c1:=rY (a:=a) (b:=b) s hp hu hh fs;have z:=ot (aS p u h s e) fs (Au hp hu hh) (by show 4<=100;decide);have pa:=wq hp hu hh h0 h1 e fs;have bey:K6 [pt p,pt (m7 h u)] fs=some (pt (w4 p u h),fs):=dc fs hp (Z0 hh hu) (by decide) (by decide);have k1:=jP hp hu hu hh h0 fs h1 e (hp.mono (by decide)) (kD hp hu hh) (lK h0 h0) hu;have k2:=jP hp hu hu hh h0 fs h1 e (kD hp hu hh) (hp.mono (by decide)) (lQ h0 h0) hu.abW;have Y:=vG (idx:=[2]) (fe:=c8 K6 (a6 (dV 0) (a6 (dV 1) a9))) (g:=fun d=>pt (w4 (mZ d) u (gE (!e) h))) [.v (pt (R9 e h u))] fs ((E9 p u h s).map pt) (fun d hd=>by
  obtain⟨q,Z,rfl⟩:=Tg.mp hd;refine⟨_,i7 rfl ?_,rfl⟩;have m:=dc (w:=R9 e h u) fs (dG hp hu hh q Z) (NH hh hu) (by decide) (by decide);rw[JB] at m;rw[m,wu])
 have mm:((E9 p u h s).map pt).map (fun d=>pt (w4 (mZ d) u (gE (!e) h)))=((E9 p u h s).map fun q=>w4 q u (gE (!e) h)).map pt:=by
  rw[TN,TN];exact List.map_congr_left fun q _=>by show pt (w4 (mZ (pt q)) u (gE (!e) h))=_;rw[wu];rfl
 rw[mm] at Y;have ad:aX (.lst ((E9 p u h s).map pt)) (.lst (((E9 p u h s).map fun q=>w4 q u (gE (!e) h)).map pt))=some ((aS p u h s e).map pt):=by
  show (if ((E9 p u h s).map pt).length+(((E9 p u h s).map fun q=>w4 q u (gE (!e) h)).map pt).length<=sizeLine then some ((E9 p u h s).map pt++((E9 p u h s).map fun q=>w4 q u (gE (!e) h)).map pt) else none)=_;rw[tx (by show 2+2<=sizeLine;decide)];unfold aS;rw[Tj]
 have i2:b0 (A6 a b (m7 h u)) (.int 2)=some (pt (m7 h u)):=rfl;have r0:b0 (j4 h s n j m) (.int 0)=some (fr h):=rfl;have U:b0 (j4 h s n j m) (.int 1)=some (G9 s):=rfl;have M:b0 (j4 h s n j m) (.int 2)=some (J5 n):=rfl;have ls:((E9 p u h s).map pt).length<=sizeLine:=by show 2<=sizeLine;decide
 generalize A6 a b (m7 h u)=S at *;generalize j4 h s n j m=R at *;generalize pt (R9 e h u)=W at *;cases n with
 |cut=>
  refine n9 (s:=⟨[.v (pt p),.v S,.v W,.v R,.no,.no,.no],fs⟩) ?_;show fY P6 K6 dj W6 eJ ⟨[.v (pt p),.v S,.v W,.v R,.no,.no,.no],fs⟩=_;exact N4 ((E6 (s1:=⟨[.v (pt p),.v S,.v W,.v R,.no,.no,.no],fs⟩) (u6 (c6 (c6 rfl rfl M) rfl rfl))).trans (p9 rfl))
 |square=>
  refine n9 (s:=⟨[.v (pt p),.v S,.v W,.v R,.v (.lst ((E9 p u h s).map pt)),.no,.no],fs⟩) ?_;show fY P6 K6 dj W6 eJ ⟨[.v (pt p),.v S,.v W,.v R,.no,.no,.no],fs⟩=_;unfold fY;wtm_at "Y";refine N4 ?_;rw[E6 (s1:=⟨[.v (pt p),.v S,.v W,.v R,.no,.no,.no],fs⟩) (u6 (c6 (c6 rfl rfl M) rfl rfl))];wtm_at "Y";exact p9 (i7 (j3 (U0 (lZ (x:=.lst ((E9 p u h s).map pt)) rfl (U0 (aC (idx:=[2]) (fi:=G5 (dV 4)) (s:=⟨[.v (pt p),.v S,.v W,.v R,.v (.lst ((E9 p u h s).map pt)),.no,.no],fs⟩) (s1:=⟨[.v (pt p),.v S,.v W,.v R,.v (.lst ((E9 p u h s).map pt)),.no,.no],fs⟩) (ds:=(E9 p u h s).map pt) rfl ls Y)) ad)) rfl) z)
 |round=>
  have J:∀x,c9 (j9 (dB (a7 w9 (Zg 3 1) (dC (.str "left")))) (f9 (c8 P6 (a6 (dV 5) (a6 (dV 0) (a6 (dV 6) a9))))) k9) (c9 (j9 (dB (a7 w9 (Zg 3 1) (dC (.str "right")))) (f9 (c8 P6 (a6 (dV 5) (a6 (dV 6) (a6 (dV 0) a9))))) k9) (f9 (dV 5))) ⟨[.v (pt p),.v S,.v W,.v R,.no,.v (.tup ((C1 p u h e).map pt)),.v (pt (w4 p u h))],fs⟩=some (.ret x,⟨[.v (pt p),.v S,.v W,.v R,.no,.v (.tup ((C1 p u h e).map pt)),.v (pt (w4 p u h))],fs⟩)->eI [pt p,S,W,R] fs=some (x,fs):=fun x q=>by
   refine n9 (s:=⟨[.v (pt p),.v S,.v W,.v R,.no,.v (.tup ((C1 p u h e).map pt)),.v (pt (w4 p u h))],fs⟩) ?_;show fY P6 K6 dj W6 eJ ⟨[.v (pt p),.v S,.v W,.v R,.no,.no,.no],fs⟩=_;unfold fY;wtm_at "Y";wtm_at "Y";wtm_at "Y";wtm_at "Y";exact q
  refine J _ ?_;generalize hG:(D.tup ((C1 p u h e).map pt))=G at *;cases s with
  |both=>
   wtm_at "Y";wtm_at "Y";show _=some (Fl.ret (D.tup ((C1 p u h e).map pt)),_);rw[hG];exact p9 rfl
  |left=>exact N4 ((E6 (s1:=⟨[.v (pt p),.v S,.v W,.v R,.no,.v G,.v (pt (w4 p u h))],fs⟩) (u6 (c6 (c6 rfl rfl U) rfl rfl))).trans (p9 (i7 rfl k1)))
  |right=>
   wtm_at "Y";exact N4 ((E6 (s1:=⟨[.v (pt p),.v S,.v W,.v R,.no,.v G,.v (pt (w4 p u h))],fs⟩) (u6 (c6 (c6 rfl rfl U) rfl rfl))).trans (p9 (i7 rfl k2)))
structure Pce where
 a:Pt
 b:Pt
 u:Pt
 L:Rat
structure LnE (c:Bool) (ps:vT_) (es:List Pce):Prop where
 eq:p8 c ps=es.map fun x=>(x.a,x.b)
 pc:∀x∈es,Pc x.a x.b x.u x.L
 lo:1<=es.length
 hi:es.length<=12
 pl:ps.length<=12
 jn:∀q∈p8 c es,q.1.b=q.2.a
 sz:∀p∈ps,PtS 70 p
structure RuS (h m:Rat):Prop where
 pos:0<h
 sh:Sz 4 h
 sm:Sz 12 m
def D9 (h:Rat) (s:Sd) (x:Pce):D:=C3 (E9 x.a x.u h s++E9 x.b x.u h s)
def G4 (h m:Rat) (s:Sd) (j:Jn) (q:Pce × Pce):D:=dS q.1.b q.1.u q.2.u h m s j
def F3 (es:List Pce) (h1:1<=es.length):Pce:=es[0]
def G1 (es:List Pce) (h1:1<=es.length):Pce:=es[es.length - 1]
def Z9 (c:Bool) (es:List Pce) (h1:1<=es.length) (h:Rat) (s:Sd) (n:En):List D:=if c then [] else [M5 (F3 es h1).a (F3 es h1).u h s n false,M5 (G1 es h1).b (G1 es h1).u h s n true]
def B7 (c:Bool) (es:List Pce) (h1:1<=es.length) (h m:Rat) (s:Sd) (n:En) (j:Jn):List D:=es.map (D9 h s)++(p8 c es).map (G4 h m s j)++Z9 c es h1 h s n
def S3:D->Bool
 |.non=>false
 |_=>true
def bK (d:D):Prop:=d = .non\/∃ds,d = .tup ds
theorem pC (fs:vO_):∀ds:List D,(∀d∈ds,bK d)->C2 (fun d=>some (.v d::[])) (dB (a7 bE (dL 0) (dC .non))) (dV 0) ds fs=some (ds.filter S3,fs)
 |[],_=>rfl
 |d::r,h=>by
  have J:=pC fs r fun x M=>h x (SK _ M)
  rcases h d (SR ..) with rfl | ⟨ds,rfl⟩
  .rw[C2,SH,show dB (a7 bE (dL 0) (dC .non)) ⟨[.v .non],fs⟩=some (false,⟨[.v .non],fs⟩) from rfl,SH,So (show ¬ (false=true) by decide),J];rfl
  .rw[C2,SH,show dB (a7 bE (dL 0) (dC .non)) ⟨[.v (.tup ds)],fs⟩=some (true,⟨[.v (.tup ds)],fs⟩) from rfl,SH,tx rfl,show dV 0 ⟨[.v (.tup ds)],fs⟩=some (.tup ds,⟨[.v (.tup ds)],fs⟩) from rfl,SH,J];rfl
def cv (l:vT_):bK (C3 l):=by
 unfold C3;split
 .exact .inl rfl
 .exact .inr ⟨_,rfl⟩
def QF (p u v:Pt) (h m:Rat) (s:Sd) (j:Jn):bK (dS p u v h m s j):=by
 unfold dS;split
 .cases j
  .exact .inl rfl
  .exact .inl rfl
  .exact .inr ⟨_,rfl⟩
 .split
  .exact .inl rfl
  .cases j
   .exact cv (K5 p u v (j8 (i8 (i5 u v)) h) h m .cut)
   .exact cv (K5 p u v (j8 (i8 (i5 u v)) h) h m .pointed)
   .show bK (O8 p u v h (i8 (i5 u v)));unfold O8 P4;by_cases q:i8 (i5 u v)=1
    .rw[tx q];exact cv _
    .rw[So q];exact cv _
def wg (p u:Pt) (h:Rat) (s:Sd) (n:En) (e:Bool):bK (M5 p u h s n e):=by
 cases n
 .exact .inl rfl
 .exact cv (aS p u h s e)
 .cases s
  .exact .inr ⟨(C1 p u h e).map pt,rfl⟩
  .exact cv (Q0 p (w4 p u h) (p8 true (C1 p u h e)))
  .exact cv (Q0 (w4 p u h) p (p8 true (C1 p u h e)))
def oh (c:Bool) (es:List Pce) (h1:1<=es.length) (h m:Rat) (s:Sd) (n:En) (j:Jn):∀d∈B7 c es h1 h m s n j,bK d:=fun d hd=>by
 unfold B7 Z9 at hd;rcases SM.mp hd with w | w
 .rcases SM.mp w with w | w
  .obtain⟨x,_,rfl⟩:=Tg.mp w;exact cv _
  .obtain⟨x,_,rfl⟩:=Tg.mp w;exact QF _ _ _ _ _ _ _
 .cases c
  .rw[So Sy] at w;rcases Sv.mp w with rfl | w
   .exact wg _ _ _ _ _ _
   .rw[SJ.mp w];exact wg _ _ _ _ _ _
  .rw[tx rfl] at w;cases w
def OI (ds:vD_) (c:Bool) (fs:vO_) (hl:ds.length+1<=sizeLine):az [.lst ds,.bl c] fs=some (.lst ((p8 c ds).map eV),fs):=by
 refine n9 (s:=⟨[.v (.lst ds),.v (.bl c)],fs⟩) ?_;show cU ⟨[.v (.lst ds),.v (.bl c)],fs⟩=_;have h1:ds.length - 1+min 1 ds.length<=sizeLine:=by omega
 cases c
 .simp[cU,c9,B8,d7,a7,m8,dC,Zf,Zg,dL,dV,d6,j9,dB,f9,c8,a6,a9,i9,k9,j7,one,m6,l7,u4,m9,w6,D0,J6,K9,L6,V7,cn,aO,nj,p8,gM]
 .simp[cU,c9,B8,d7,a7,m8,dC,Zf,Zg,dL,dV,d6,j9,dB,f9,c8,a6,a9,i9,k9,j7,one,m6,l7,u4,m9,w6,D0,J6,K9,L6,V7,cn,aO,nj,pV,p8,gM,h1]
theorem bX {α:Type}{mk:D->Option (List Sl)}{fe:DE}{f g:α->D}(fs:vO_):∀(l:List α),(∀x∈l,∃sl s,mk (f x)=some sl/\fe ⟨sl,fs⟩=some (g x,s)/\s.fs=fs)->C2 mk E3 fe (l.map f) fs=some (l.map g,fs)
 |[],_=>rfl
 |x::r,h=>by
  obtain⟨sl,s,J,e,q⟩:=h x (SR ..);have U:=bX fs r fun y M=>h y (SK _ M)
  simp[C2,E3,J,e,q,U]
def o8 (c:Bool) (ps:vT_):D:=.tup [.bl c,.tup (ps.map pt)]
def t7 (h:Rat) (x:Pce):D:=A6 x.a x.b (m7 h x.u)
abbrev fu:a8:=yP eI af jq az fk gj fJ
abbrev wS (ln R:D) (h:Rat) (st told:vD_) (x5 x6 x7 x8:Sl) (fs:vO_):DS:=⟨[.v ln,.v R,.v (fr h),.v (.lst st),.own told,x5,x6,x7,x8],fs⟩
def Cp {α:Type}{β:Type}(f:α->β) {es:List α}(h1:1<=es.length):v8 (es.map f) 0=some (f es[0]):=by
 unfold v8 S6;rw[tx (by decide),tx (by rw[Ss];omega)];show (es.map f)[0]? = _;rw[TM,Tf (by omega)];rfl
def vM {α:Type}{β:Type}(f:α->β) {es:List α}(h1:1<=es.length):v8 (es.map f) (-1)=some (f es[es.length - 1]):=by
 unfold v8 S6;rw[So (by decide),tx (by rw[Ss];omega)];show (es.map f)[((-1:Int)+((es.map f).length:Int)).toNat]? = _;rw[Ss,show ((-1:Int)+(es.length:Int)).toNat=es.length - 1 by omega,TM,Tf (by omega)];rfl
section
variable {c:Bool}{ps:vT_}{es:List Pce}{h m:Rat}(s:Sd) (n:En) (j:Jn) (L:LnE c ps es) (R:RuS h m) (fs:vO_)
include R
theorem yu (J:D) (st:vD_):∀(qs:List (Pce × Pce)) (told:vD_) (x5 x6 x7 x8:Sl),(∀q∈qs,Pc q.1.a q.1.b q.1.u q.1.L/\Pc q.2.a q.2.b q.2.u q.2.L)->told.length+qs.length<=100->∃y5 y6,C4 (y9 2 (t9 (d6 5) (t9 (d6 6) A3))) (sL eI af jq az fk gj fJ) (qs.map fun q=>.tup [t7 h q.1,t7 h q.2]) (wS J (j4 h s n j m) h st told x5 x6 x7 x8 fs)=some (.next,wS J (j4 h s n j m) h st (told++qs.map (G4 h m s j)) y5 y6 x7 x8 fs)
 |[],told,x5,x6,x7,x8,_,_=>⟨x5,x6,by rw[TU,TU,Tt];rfl⟩
 |q::r,told,x5,x6,x7,x8,hq,hl=>by
  obtain⟨p1,p2⟩:=hq q (SR ..);rw[SW] at hl;have e:=Qb (a:=q.1.a) (c:=q.2.a) (d:=q.2.b) (m:=m) s n j p1.sb p1.su p2.su R.sh R.pos R.sm p1.one p2.one fs;obtain⟨y5,y6,U⟩:=yu J st r (told++[G4 h m s j q]) (.v (t7 h q.1)) (.v (t7 h q.2)) x7 x8 (fun z M=>hq z (SK _ M)) (by rw[SG,Vu];omega);refine⟨y5,y6,?_⟩;have B:sL eI af jq az fk gj fJ (wS J (j4 h s n j m) h st told (.v (t7 h q.1)) (.v (t7 h q.2)) x7 x8 fs)=some (.next,wS J (j4 h s n j m) h st (told++[G4 h m s j q]) (.v (t7 h q.1)) (.v (t7 h q.2)) x7 x8 fs):=
   Q2 (i:=4) (s:=wS J (j4 h s n j m) h st told (.v (t7 h q.1)) (.v (t7 h q.2)) x7 x8 fs) (s1:=wS J (j4 h s n j m) h st told (.v (t7 h q.1)) (.v (t7 h q.2)) x7 x8 fs) (ds:=told) (ds0:=told) (d:=G4 h m s j q) rfl (i7 rfl e) rfl (TC (by omega:told.length<=100) (by decide))
  rw[SN,W9 (s1:=wS J (j4 h s n j m) h st told (.v (t7 h q.1)) (.v (t7 h q.2)) x7 x8 fs) rfl B,U,SN,Ul];rfl
include L
theorem zN:fu [o8 c ps,j4 h s n j m] fs=some (.tup ((B7 c es L.lo h m s n j).filter S3),fs):=by
 have sl:100<=sizeLine:=by decide
 have pcs:=Lx (ps.map pt) c fs (by rw[Ss];have:=L.pl;omega);have en:(p8 c (ps.map pt)).map eV=es.map fun x=>.tup [pt x.a,pt x.b]:=by
  rw[iH,L.eq,TN,TN];rfl
 rw[en] at pcs;have c1:C2 (dM [2] [.v (o8 c ps),.v (j4 h s n j m),.v (fr h),.no,.no,.no,.no,.no,.no]) E3 (c8 fJ (a6 (dV 0) (a6 (dV 1) (a6 (dV 2) a9)))) (es.map fun x=>.tup [pt x.a,pt x.b]) fs=some (es.map (t7 h),fs):=
  bX fs es fun x Z=>⟨[.v (pt x.a),.v (pt x.b),.v (fr h)],_,rfl,i7 rfl (Gz (L.pc x Z) R.sh fs),rfl⟩
 have c2:C2 (fun d=>some (.v d::Y6 [1] [.v (o8 c ps),.v (j4 h s n j m),.v (fr h),.v (.lst (es.map (t7 h))),.no,.no,.no,.no,.no])) E3 (c8 fk (a6 (dV 0) (a6 (Zg 1 1) a9))) (es.map (t7 h)) fs=some (es.map (D9 h s),fs):=
  bX fs es fun x Z=>⟨[.v (t7 h x),.v (j4 h s n j m)],_,rfl,i7 (j3 rfl (j3 (c6 rfl rfl rfl) rfl)) (EC s (L.pc x Z).sa (L.pc x Z).sb (L.pc x Z).su R.sh fs),rfl⟩
 have nb:=OI (es.map (t7 h)) c fs (by rw[Ss];have:=L.hi;omega);have en2:(p8 c (es.map (t7 h))).map eV=(p8 c es).map fun q=>.tup [t7 h q.1,t7 h q.2]:=by
  rw[iH,TN];rfl
 rw[en2] at nb;have hi:=L.hi;have nl:=aU c es;have lst:=yu s n j R fs (o8 c ps) (es.map (t7 h)) (p8 c es) (es.map (D9 h s)) .no .no .no .no (fun q hq=>⟨L.pc _ (eB hq).1,L.pc _ (eB hq).2⟩) (by rw[Ss];omega);obtain⟨M,J,lp⟩:=lst;have r0:b0 (j4 h s n j m) (.int 0)=some (fr h):=rfl;have Nn:=oh c es L.lo h m s n j;have ff:=pC fs (B7 c es L.lo h m s n j) Nn;have wl:(B7 c es L.lo h m s n j).length<=100:=by
  unfold B7 Z9;rw[SG,SG,Ss,Ss];cases c
  .rw[So Sy];show _+_+2<=100;omega
  .rw[tx rfl];show _+_+0<=100;omega
 have fin:∀x5 x6 W Y,f9 (j7 (one S8) (a6 (m6 (N0 [] (G5 (dV 4)) (dB (a7 bE (dL 0) (dC .non))) (dV 0))) a9)) (wS (o8 c ps) (j4 h s n j m) h (es.map (t7 h)) (B7 c es L.lo h m s n j) x5 x6 W Y fs)=some (.ret (.tup ((B7 c es L.lo h m s n j).filter S3)),⟨[.v (o8 c ps),.v (j4 h s n j m),.v (fr h),.v (.lst (es.map (t7 h))),.v (.lst (B7 c es L.lo h m s n j)),x5,x6,W,Y],fs⟩):=fun x5 x6 W Y=>
  p9 (F8 (x:=.lst ((B7 c es L.lo h m s n j).filter S3)) (U0 (aC (idx:=[]) (fi:=G5 (dV 4)) (s1:=⟨[.v (o8 c ps),.v (j4 h s n j m),.v (fr h),.v (.lst (es.map (t7 h))),.v (.lst (B7 c es L.lo h m s n j)),x5,x6,W,Y],fs⟩) (ds:=B7 c es L.lo h m s n j) rfl (by omega) ff)) rfl)
 have U:∃W Y,pQ eI af jq az fk gj fJ ⟨[.v (o8 c ps),.v (j4 h s n j m),.no,.no,.no,.no,.no,.no,.no],fs⟩=some (.ret (.tup ((B7 c es L.lo h m s n j).filter S3)),⟨[.v (o8 c ps),.v (j4 h s n j m),.v (fr h),.v (.lst (es.map (t7 h))),.v (.lst (B7 c es L.lo h m s n j)),M,J,W,Y],fs⟩):=by
  unfold pQ;rw[d8 (s1:=⟨[.v (o8 c ps),.v (j4 h s n j m),.v (fr h),.no,.no,.no,.no,.no,.no],fs⟩) (k6 (c6 rfl rfl r0) rfl)];rw[d8 (s1:=⟨[.v (o8 c ps),.v (j4 h s n j m),.v (fr h),.own (es.map (t7 h)),.no,.no,.no,.no,.no],fs⟩) (Q7 (i:=3) (s1:=⟨[.v (o8 c ps),.v (j4 h s n j m),.v (fr h),.no,.no,.no,.no,.no,.no],fs⟩) (ds:=es.map (t7 h)) (CM (uk (i7 rfl pcs)) (by rw[Ss];omega) c1) (by show 3<9;decide))];rw[d8 (s1:=wS (o8 c ps) (j4 h s n j m) h (es.map (t7 h)) (es.map (D9 h s)) .no .no .no .no fs) (Q7 (i:=4) (s1:=⟨[.v (o8 c ps),.v (j4 h s n j m),.v (fr h),.v (.lst (es.map (t7 h))),.no,.no,.no,.no,.no],fs⟩) (ds:=es.map (D9 h s)) (aC (idx:=[1]) (fi:=G5 (dV 3)) (s1:=⟨[.v (o8 c ps),.v (j4 h s n j m),.v (fr h),.v (.lst (es.map (t7 h))),.no,.no,.no,.no,.no],fs⟩) (ds:=es.map (t7 h)) rfl (by rw[Ss];omega) c2) (by show 4<9;decide))];rw[d8 ((cy (s1:=wS (o8 c ps) (j4 h s n j m) h (es.map (t7 h)) (es.map (D9 h s)) .no .no .no .no fs) (ds:=(p8 c es).map fun q=>.tup [t7 h q.1,t7 h q.2]) (i7 (j3 rfl (j3 (c6 (x:=o8 c ps) rfl rfl rfl) rfl)) nb)).trans lp)];cases c with
  |true=>
   refine⟨.no,.no,?_⟩;rw[d8 (s1:=wS (o8 true ps) (j4 h s n j m) h (es.map (t7 h)) (B7 true es L.lo h m s n j) M J .no .no fs) ?_]
   .exact fin M J .no .no
   .have:B7 true es L.lo h m s n j=es.map (D9 h s)++(p8 true es).map (G4 h m s j):=by
     unfold B7 Z9;rw[tx rfl,Tt]
    rw[this];exact K0 (jo (b:=true) (V3 (c6 rfl rfl rfl)))
  |false=>
   have hf:F3 es L.lo∈es:=Vp _;have hl:G1 es L.lo∈es:=Vp _;have a0:b0 (.lst (es.map (t7 h))) (.int 0)=some (t7 h (F3 es L.lo)):=(U6 _ _).trans (Cp (t7 h) L.lo);have a1:b0 (.lst (es.map (t7 h))) (.int (-1))=some (t7 h (G1 es L.lo)):=(U6 _ _).trans (vM (t7 h) L.lo);have f:=L.pc _ hf;have l:=L.pc _ hl;have e1:=BP (a:=(F3 es L.lo).a) (b:=(F3 es L.lo).b) (m:=m) s n j false f.sa f.su R.sh R.pos f.one fs;have e2:=BP (a:=(G1 es L.lo).a) (b:=(G1 es L.lo).b) (m:=m) s n j true l.sb l.su R.sh R.pos l.one fs;have tb:=qi (m7 h (F3 es L.lo).u) fs;refine⟨.v (t7 h (F3 es L.lo)),.v (t7 h (G1 es L.lo)),?_⟩;have wd:B7 false es L.lo h m s n j=es.map (D9 h s)++(p8 false es).map (G4 h m s j)++[M5 (F3 es L.lo).a (F3 es L.lo).u h s n false]++[M5 (G1 es L.lo).b (G1 es L.lo).u h s n true]:=by
    unfold B7 Z9;rw[So Sy,Ul _ [_] [_]];rfl
   rw[d8 (s1:=wS (o8 false ps) (j4 h s n j m) h (es.map (t7 h)) (B7 false es L.lo h m s n j) M J (.v (t7 h (F3 es L.lo))) (.v (t7 h (G1 es L.lo))) fs) ?_]
   .exact fin M J _ _
   .rw[wd];have tl:(es.map (D9 h s)++(p8 false es).map (G4 h m s j)).length<=90:=by rw[SG,Ss,Ss];omega
    generalize es.map (D9 h s)++(p8 false es).map (G4 h m s j)=told at *;generalize M5 (F3 es L.lo).a (F3 es L.lo).u h s n false=E1 at *;generalize M5 (G1 es L.lo).b (G1 es L.lo).u h s n true=E2 at *;rw[E6 (s1:=wS (o8 false ps) (j4 h s n j m) h (es.map (t7 h)) told M J .no .no fs) (jo (b:=false) (V3 (c6 rfl rfl rfl)))];rw[d8 (s1:=wS (o8 false ps) (j4 h s n j m) h (es.map (t7 h)) told M J (.v (t7 h (F3 es L.lo))) .no fs) (k6 (c6 rfl rfl a0) rfl)];rw[d8 (s1:=wS (o8 false ps) (j4 h s n j m) h (es.map (t7 h)) told M J (.v (t7 h (F3 es L.lo))) (.v (t7 h (G1 es L.lo))) fs) (k6 (c6 rfl (dZ (p:=o7) (x:=.int 1) rfl rfl) a1) rfl)];rw[d8 (s1:=wS (o8 false ps) (j4 h s n j m) h (es.map (t7 h)) (told++[E1]) M J (.v (t7 h (F3 es L.lo))) (.v (t7 h (G1 es L.lo))) fs) (Q2 (i:=4) (s:=wS (o8 false ps) (j4 h s n j m) h (es.map (t7 h)) told M J (.v (t7 h (F3 es L.lo))) (.v (t7 h (G1 es L.lo))) fs) (s1:=wS (o8 false ps) (j4 h s n j m) h (es.map (t7 h)) told M J (.v (t7 h (F3 es L.lo))) (.v (t7 h (G1 es L.lo))) fs) (ds:=told) (ds0:=told) (d:=E1) rfl (i7 (j3 (c6 rfl rfl rfl) (j3 rfl (j3 (i7 (j3 (c6 rfl rfl rfl) rfl) tb) rfl))) e1) rfl (by omega))];exact Q2 (i:=4) (s:=wS (o8 false ps) (j4 h s n j m) h (es.map (t7 h)) (told++[E1]) M J (.v (t7 h (F3 es L.lo))) (.v (t7 h (G1 es L.lo))) fs) (s1:=wS (o8 false ps) (j4 h s n j m) h (es.map (t7 h)) (told++[E1]) M J (.v (t7 h (F3 es L.lo))) (.v (t7 h (G1 es L.lo))) fs) (ds:=told++[E1]) (ds0:=told++[E1]) (d:=E2) rfl (i7 (j3 (c6 rfl rfl rfl) (j3 rfl (j3 (c6 rfl rfl rfl) rfl))) e2) rfl (by rw[SG,Vu];omega)
 obtain⟨W,Y,U⟩:=U;exact n9 (s:=⟨[.v (o8 c ps),.v (j4 h s n j m),.v (fr h),.v (.lst (es.map (t7 h))),.v (.lst (B7 c es L.lo h m s n j)),M,J,W,Y],fs⟩) U
end
def o9 (x:Pce):D:=.tup [pt x.a,pt x.b,fr (x.L*x.u.1),fr (x.L*x.u.2),fr x.L]
abbrev ox:a8:=Ao LF
def BV {f L:Rat}{k:Nat}(fs:vO_) (hf:Sz k f) (J:Sz 20 L) (M:L≠0) (hk:k<=1000):ox [fr f,fr L] fs=some (fr (f / L),fs)/\Sz (k+20) (f / L):=by
 have W:L.num≠0:=fun z=>M (Xo.mp z)
 have U:(f.den:Int)*L.num≠0:=TV (G7 f) W;have q:=T8 (f.num*L.den) (f.den*L.num) fs U (hf.den.mul J.num) (by omega);have s:Sz (k+20) (f / L):=by
  rw[<-kr M];exact Sz.of_divInt U (hf.num.mul J.den) (hf.den.mul J.num)
 rw[kr M] at q;refine⟨?_,s⟩;exact n9 (s:=⟨[.v (fr f),.v (fr L)],fs⟩) (p9 (i7 (j3 (c6 (c6 rfl rfl (T7 f)) (c6 rfl rfl (O6 L)) (n8 (hf.num.bits (by omega)) (J.den.bits (by decide)))) (j3 (c6 (c6 rfl rfl (O6 f)) (c6 rfl rfl (T7 L)) (n8 (hf.den.bits (by omega)) (J.num.bits (by decide)))) rfl)) q))
def Pc.l0 {a b u:Pt}{L:Rat}(P:Pc a b u L):L≠0:=fun z=>by have:=P.pos;rw[z] at this;exact absurd this (by decide +kernel)
def Pc.lu {a b u:Pt}{L:Rat}(P:Pc a b u L):Sz 25 (L*u.1)/\Sz 25 (L*u.2):=⟨P.sl.mul P.su.pts.x,P.sl.mul P.su.pts.y⟩
abbrev R4:a8:=BN LG LP F4 ox
abbrev cY:a8:=DY LG LP ox
def jR {f L x:Rat}(h:L≠0):f / L*(L*x)=f*x:=by rw[SD];grind
section
variable {x:Pce}(P:Pc x.a x.b x.u x.L) {p:Pt}{f:Rat}(hp:PtS 120 p) (hf:Sz 5 f) (fs:vO_)
include P hp hf
theorem bg:R4 [pt p,o9 x,fr f] fs=some (pt (d9 p x.u f),fs):=by
 obtain⟨o,J⟩:=BV fs hf P.sl P.l0 (by decide);obtain⟨s1,s2⟩:=P.lu;have p1:=P9 (f / x.L) (x.L*x.u.2) fs J s2 (by decide);have p2:=P9 (f / x.L) (x.L*x.u.1) fs J s1 (by decide);have m:=X7 (f / x.L*(x.L*x.u.2)) fs;have g:=gm p (-(f / x.L*(x.L*x.u.2))) (f / x.L*(x.L*x.u.1)) fs hp.x hp.y (J.mul s2).neg (J.mul s1) (by decide);have e:(p.1 + -(f / x.L*(x.L*x.u.2)),p.2+f / x.L*(x.L*x.u.1))=d9 p x.u f:=by
  rw[jR P.l0,jR P.l0];unfold d9;exact SU (WX _ _).symm rfl
 rw[e] at g;have i2:b0 (o9 x) (.int 2)=some (fr (x.L*x.u.1)):=rfl;have M:b0 (o9 x) (.int 3)=some (fr (x.L*x.u.2)):=rfl;have U:b0 (o9 x) (.int 4)=some (fr x.L):=rfl;generalize o9 x=W at *;wtm_at "Z"
theorem kY:cY [pt p,o9 x,fr f] fs=some (pt (w4 p x.u f),fs):=by
 obtain⟨o,J⟩:=BV fs hf P.sl P.l0 (by decide);obtain⟨s1,s2⟩:=P.lu;have p1:=P9 (f / x.L) (x.L*x.u.2) fs J s2 (by decide);have p2:=P9 (f / x.L) (x.L*x.u.1) fs J s1 (by decide);have g:=gm p (f / x.L*(x.L*x.u.1)) (f / x.L*(x.L*x.u.2)) fs hp.x hp.y (J.mul s1) (J.mul s2) (by decide);have e:(p.1+f / x.L*(x.L*x.u.1),p.2+f / x.L*(x.L*x.u.2))=w4 p x.u f:=by
  rw[jR P.l0,jR P.l0];rfl
 rw[e] at g;have i2:b0 (o9 x) (.int 2)=some (fr (x.L*x.u.1)):=rfl;have M:b0 (o9 x) (.int 3)=some (fr (x.L*x.u.2)):=rfl;have U:b0 (o9 x) (.int 4)=some (fr x.L):=rfl;generalize o9 x=W at *;wtm_at "Z"
end
abbrev cc:a8:=Dt F4
def uE (h m:Rat) (s:Sd) (n:En) (j:Jn) (fs:vO_):cc [j4 h s n j m] fs=some (.tup [fr (C8 s h),fr (C5 s h)],fs):=by
 have U:=X7 h fs;have M:b0 (j4 h s n j m) (.int 0)=some (fr h):=rfl;have J:b0 (j4 h s n j m) (.int 1)=some (G9 s):=rfl;generalize j4 h s n j m=R at *;refine n9 (s:=⟨[.v R,.v (fr (C8 s h))],fs⟩) ?_;show mH F4 ⟨[.v R,.no],fs⟩=_;unfold mH;cases s with
 |both=>
  wtm_at "Y";exact p9 (X4 rfl ((S5 (u6 (c6 (c6 rfl rfl J) rfl rfl))).trans (c6 rfl rfl M)))
 |left=>
  wtm_at "Y";exact p9 (X4 rfl ((S5 (u6 (c6 (c6 rfl rfl J) rfl rfl))).trans (c6 rfl rfl M)))
 |right=>
  wtm_at "Y";exact p9 (X4 rfl ((aw (u6 (c6 (c6 rfl rfl J) rfl rfl))).trans rfl))
abbrev ig:a8:=wW cG LS LP F4 LX
def L9 (c:Bool) (ps:vT_):List Pt:=ps++ps.take (if c then 1 else 0)
def GZ {ps:vT_}{k:Nat}(h:(p8 c ps)[k]? = some q):(L9 c ps)[k]? = some q.1/\(L9 c ps)[k+1]? = some q.2:=by
 unfold p8 at h;rw[VA] at h;obtain⟨h1,h2⟩:=h;have J:=(Tn.mp h1).1;unfold L9;refine⟨by rw[Us J];exact h1,?_⟩;cases c with
 |false=>
  rw[So Sy] at h2 ⊢;rw[Xm] at h2;rw[XI,Tt,UM];exact h2
 |true=>
  rw[tx rfl] at h2 ⊢;rw[<-h2];cases ps with
  |nil=>cases J
  |cons p r=>simp
def Fe {ps:vT_}{es:List Pce}(L:LnE c ps es):(L9 c ps).length=es.length+1:=by
 have e:=congrArg List.length L.eq;rw[tj,Ss] at e;have lo:=L.lo;unfold L9;rw[SG,Tp];cases c <;> simp at e ⊢ <;> omega
abbrev bM (ln:D) (S:vT_) (fd:vD_) (x3 x4 x5 x6 x7 x8:Sl) (fs:vO_):DS:=⟨[.v ln,.v (.tup (S.map pt)),.own fd,x3,x4,x5,x6,x7,x8],fs⟩
def Ov {x:Pce}(P:Pc x.a x.b x.u x.L) (J:D) (S:vT_) (fd:vD_) (k:Nat) (Y Z W U M:Sl) (fs:vO_) (h1:S[k]? = some x.a) (h2:S[k+1]? = some x.b) (hl:fd.length<=100) :
  ∃y4 y5 y6 y7 y8,lM cG LS LP F4 LX (bM J S fd (.v (.int (k:Int))) Y Z W U M fs)=some (.next,bM J S (fd++[o9 x]) (.v (.int (k:Int))) y4 y5 y6 y7 y8 fs):=by
 have X1:=dJ x.a fs P.sa.ps (by decide);have X2:=dJ x.b fs P.sb.ps (by decide);obtain⟨z1,z2⟩:=P.lu;have m1:=X7 x.a.1 fs;have m2:=X7 x.a.2 fs;have s1:=V5 x.b.1 (-x.a.1) fs P.sb.x P.sa.x.neg (by decide);have s2:=V5 x.b.2 (-x.a.2) fs P.sb.y P.sa.y.neg (by decide);have e1:x.b.1 + -x.a.1=x.L*x.u.1:=by have:=congrArg Prod.fst P.eq;simp only at this;grind
 have e2:x.b.2 + -x.a.2=x.L*x.u.2:=by have:=congrArg Prod.snd P.eq;simp only at this;grind
 rw[e1] at s1;rw[e2] at s2;have p1:=P9 (x.L*x.u.1) (x.L*x.u.1) fs z1 z1 (by decide);have p2:=P9 (x.L*x.u.2) (x.L*x.u.2) fs z2 z2 (by decide);have s3:=V5 (x.L*x.u.1*(x.L*x.u.1)) (x.L*x.u.2*(x.L*x.u.2)) fs (z1.mul z1) (z2.mul z2) (by decide);have e3:x.L*x.u.1*(x.L*x.u.1)+x.L*x.u.2*(x.L*x.u.2)=x.L*x.L:=by have:=P.one;grind
 rw[e3] at s3;have n0:0<=x.L.num:=Yu.mpr (Te P.pos);obtain⟨q1,q2⟩:=zf x.L;obtain⟨b1,b2⟩:=rq (q:=x.L*x.L) ((P.sl.mul P.sl).mono (by decide));have r1:=DF (n:=(x.L*x.L).num) (by rw[q1];exact Ud n0 n0) b1 fs;have r2:=DF (n:=((x.L*x.L).den:Int)) (by omega) b2 fs;have v1:bR (x.L*x.L).num=x.L.num:=by rw[q1];exact kc n0
 have v2:bR ((x.L*x.L).den:Int)=(x.L.den:Int):=by rw[q2];exact kc (Xp (cV x.L))
 rw[v1] at r1;rw[v2] at r2;have i1:b0 (.tup (S.map pt)) (.int (k:Int))=some (pt x.a):=(bF _ _).trans (cx (by rw[TM,h1];rfl));have i2:b0 (.tup (S.map pt)) (.int ((k:Int)+1))=some (pt x.b):=(bF _ _).trans (by rw[show (k:Int)+1=((k+1:Nat):Int) by omega];exact cx (by rw[TM,h2];rfl));refine⟨.v (fr (x.L*x.u.1)),.v (fr (x.L*x.u.2)),.v (fr x.b.1),.v (fr x.b.2),.v (fr (x.L*x.L)),?_⟩;generalize hT:D.tup (S.map pt)=T at *;unfold bM;rw[hT];unfold lM;have kp:∀Y Z W U M,a7 b0 (dL 1) (a7 m9 (dL 3) (Zf 1)) ⟨[.v J,.v T,.own fd,.v (.int (k:Int)),Y,Z,W,U,M],fs⟩=some (pt x.b,⟨[.v J,.v T,.own fd,.v (.int (k:Int)),Y,Z,W,U,M],fs⟩):=fun _ _ _ _ _=>c6 rfl (c6 rfl rfl rfl) i2
 rw[d8 (s1:=⟨[.v J,.v T,.own fd,.v (.int (k:Int)),.v (fr x.a.1),.v (fr x.a.2),W,U,M],fs⟩) (k6 (i7 (j3 (c6 rfl rfl i1) rfl) X1) rfl)];rw[d8 (s1:=⟨[.v J,.v T,.own fd,.v (.int (k:Int)),.v (fr x.a.1),.v (fr x.a.2),.v (fr x.b.1),.v (fr x.b.2),M],fs⟩) (k6 (i7 (j3 (kp _ _ _ _ _) rfl) X2) rfl)];rw[d8 (s1:=⟨[.v J,.v T,.own fd,.v (.int (k:Int)),.v (fr (x.L*x.u.1)),.v (fr (x.L*x.u.2)),.v (fr x.b.1),.v (fr x.b.2),M],fs⟩) (qg (j3 (i7 (j3 rfl (j3 (i7 rfl m1) rfl)) s1) (j3 (i7 (j3 rfl (j3 (i7 rfl m2) rfl)) s2) rfl)) rfl)];rw[d8 (s1:=⟨[.v J,.v T,.own fd,.v (.int (k:Int)),.v (fr (x.L*x.u.1)),.v (fr (x.L*x.u.2)),.v (fr x.b.1),.v (fr x.b.2),.v (fr (x.L*x.L))],fs⟩) (k6 (i7 (j3 (i7 rfl p1) (j3 (i7 rfl p2) rfl)) s3) rfl)];exact Q2 (i:=2) (s:=⟨[.v J,.v T,.own fd,.v (.int (k:Int)),.v (fr (x.L*x.u.1)),.v (fr (x.L*x.u.2)),.v (fr x.b.1),.v (fr x.b.2),.v (fr (x.L*x.L))],fs⟩) (s1:=⟨[.v J,.v T,.own fd,.v (.int (k:Int)),.v (fr (x.L*x.u.1)),.v (fr (x.L*x.u.2)),.v (fr x.b.1),.v (fr x.b.2),.v (fr (x.L*x.L))],fs⟩) (ds:=fd) (ds0:=fd) (d:=o9 x) rfl
  (Ca (j3 (c6 rfl rfl i1) (j3 (kp _ _ _ _ _) (j3 rfl (j3 rfl (j3 (X4 (i7 (j3 (c6 rfl rfl (T7 _)) rfl) r1) (i7 (j3 (c6 rfl rfl (O6 _)) rfl) r2)) rfl))))) (by show 5<=sizeLine;decide)) rfl (TC hl (by decide))
def OQ {ps:vT_}{es:List Pce}(L:LnE c ps es) (fs:vO_):ig [o8 c ps] fs=some (.lst (es.map o9),fs):=by
 have sl:=Fe L;have hi:=L.hi;obtain⟨s',e,Z,U,W,Y,J,M,rfl⟩:=jh (t:=d6 3) (b:=lM cG LS LP F4 LX) (fun i s=>∃Z U W Y J M,s=bM (o8 c ps) (L9 c ps) ((es.take i).map o9) Z U W Y J M fs) (P7 0 es.length) 0 (bM (o8 c ps) (L9 c ps) [] .no .no .no .no .no .no fs) ⟨_,_,_,_,_,_,rfl⟩ (by
  rintro i d s hd ⟨Z,U,W,Y,J,M,rfl⟩;obtain⟨rfl,hi2⟩:=jZ hd;rw[Ur,Yt];have g:es[i]? = some es[i]:=Tf hi2;have q:(p8 c ps)[i]? = some (es[i].a,es[i].b):=by rw[L.eq,TM,g];rfl
  obtain⟨q1,q2⟩:=GZ q;obtain⟨y4,y5,y6,y7,y8,T⟩:=Ov (L.pc es[i] (Vp _)) (o8 c ps) (L9 c ps) ((es.take i).map o9) i U W Y J M fs q1 q2 (by rw[Ss,Tp];omega);refine⟨_,_,rfl,.inl T,.v (.int (i:Int)),y4,y5,y6,y7,y8,?_⟩;rw[List.take_add_one,g,Tj];rfl)
 rw[Ur,gG,Vw] at e;refine n9 (s:=⟨[.v (o8 c ps),.v (.tup ((L9 c ps).map pt)),.v (.lst (es.map o9)),Z,U,W,Y,J,M],fs⟩) ?_;show mP cG LS LP F4 LX ⟨[.v (o8 c ps),.no,.no,.no,.no,.no,.no,.no,.no],fs⟩=_;unfold mP;have pl:=L.pl;have a:a7 m9 (Zg 0 1) (J6 (Zg 0 1) L6 (K9 (j7 (one ai) (a6 (Zg 0 0) a9)))) ⟨[.v (o8 c ps),.no,.no,.no,.no,.no,.no,.no,.no],fs⟩=some (.tup ((L9 c ps).map pt),⟨[.v (o8 c ps),.no,.no,.no,.no,.no,.no,.no,.no],fs⟩):=by
  have sz:∀l:List D,l.length<=100->l.length<=sizeLine:=fun l h=>SI h (by decide)
  have c0:E5 (ps.map pt) none (some 0)=[]:=by unfold E5;simp[HT.sIx]
  have c1:=pV (ps.map pt);have i1:b0 (o8 c ps) (.int 1)=some (.tup (ps.map pt)):=rfl;refine c6 (c6 rfl rfl i1) (x:=.tup (ps.map pt)) (y:=.tup ((ps.map pt).take (if c then 1 else 0))) (s2:=⟨[.v (o8 c ps),.no,.no,.no,.no,.no,.no,.no,.no],fs⟩) ?_ ?_
  .cases c
   .show some (D.tup (E5 (ps.map pt) none (some 0)),_)=_;rw[c0];rfl
   .show some (D.tup (E5 (ps.map pt) none (some 1)),_)=_;rw[c1];rfl
  .show (if (ps.map pt).length+((ps.map pt).take (if c then 1 else 0)).length<=sizeLine then some (D.tup (ps.map pt++(ps.map pt).take (if c then 1 else 0))) else none)=_;rw[tx (SI (by rw[Tp,Ss];omega:_<=100) (by decide))];unfold L9;rw[Tj,Wb]
 rw[d8 (s1:=⟨[.v (o8 c ps),.v (.tup ((L9 c ps).map pt)),.no,.no,.no,.no,.no,.no,.no],fs⟩) (k6 a rfl)];rw[d8 (s1:=bM (o8 c ps) (L9 c ps) [] .no .no .no .no .no .no fs) (Q7 (i:=2) (s1:=⟨[.v (o8 c ps),.v (.tup ((L9 c ps).map pt)),.no,.no,.no,.no,.no,.no,.no],fs⟩) (ds:=[]) rfl (by show 2<9;decide))];have len:a7 u7 (j7 (one r8) (a6 (dL 1) a9)) (Zf 1) (bM (o8 c ps) (L9 c ps) [] .no .no .no .no .no .no fs)=some (.int (es.length:Int),bM (o8 c ps) (L9 c ps) [] .no .no .no .no .no .no fs):=by
  refine c6 (F8 (x:=.tup ((L9 c ps).map pt)) rfl (d:=.int ((L9 c ps).length:Int)) (by show some (D.int (((L9 c ps).map pt).length:Nat))=_;rw[Ss])) rfl ?_;show some (D.int (((L9 c ps).length:Int) - 1))=_;rw[sl];congr 2;omega
 rw[d8 ((jv (j3 len rfl) (gH (by omega))).trans e)];exact p9 rfl
def oX {h:Rat}(hh:Sz 4 h):Sz 5 (C5 s h):=(cQ hh).mono (by decide)
def rN {h:Rat}(hh:Sz 4 h):Sz 5 (C8 s h):=(cI hh).mono (by decide)
abbrev fK:a8:=BW S0 R4 cc
def we {l m:vT_}(h:l.length+m.length<=100):aX (.lst (l.map pt)) (.lst (m.map pt))=some ((l++m).map pt):=by
 show (if (l.map pt).length+(m.map pt).length<=sizeLine then some (l.map pt++m.map pt) else none)=_;rw[Ss,Ss,tx (SI h (by decide)),Tj]
def sI (l:vT_) (fs:vO_) (hl:∀z∈l,PtS 300 z) (h1:1<=l.length) (J:l.length<=90):S0 [.lst (l.map pt)] fs=some (C3 l,fs):=Bx fs hl h1 J
def Jy {x:Pce}(P:Pc x.a x.b x.u x.L) {h m:Rat}(s:Sd) (n:En) (j:Jn) (hh:Sz 4 h) (fs:vO_):fK [o9 x,j4 h s n j m] fs=some (D9 h s x,fs):=by
 have Z:=uE h m s n j fs;have a1:=bg P (P.sa.mono (by decide)) (rN (s:=s) hh) fs;have U:=bg P (P.sb.mono (by decide)) (rN (s:=s) hh) fs;have a3:=bg P (P.sa.mono (by decide)) (oX (s:=s) hh) fs;have a4:=bg P (P.sb.mono (by decide)) (oX (s:=s) hh) fs;have z:D9 h s x=C3 ([d9 x.a x.u (C8 s h),d9 x.b x.u (C8 s h)]++[d9 x.a x.u (C5 s h),d9 x.b x.u (C5 s h)]):=by
  unfold D9 E9;refine pM (by show 4<2 ^ 20;decide) (by show 4<2 ^ 20;decide) fun q=>?_
  simp only[SM,Sv,Um,Uo];constructor
  .rintro((w | w) | (w | w)) <;> simp[w]
  .rintro((w | w) | (w | w)) <;> simp[w]
 have hu:=sI ([d9 x.a x.u (C8 s h),d9 x.b x.u (C8 s h)]++[d9 x.a x.u (C5 s h),d9 x.b x.u (C5 s h)]) fs (fun q J=>by
  simp only[SM,Sv,Um,Uo] at J;rcases J with (rfl | rfl) | (rfl | rfl)
  .exact(P2 P.sa P.su (cI hh)).mono (by decide)
  .exact(P2 P.sb P.su (cI hh)).mono (by decide)
  .exact(P2 P.sa P.su (cQ hh)).mono (by decide)
  .exact(P2 P.sb P.su (cQ hh)).mono (by decide)) (by show 1<=4;decide) (by show 4<=90;decide)
 rw[<-z] at hu;have i0:b0 (o9 x) (.int 0)=some (pt x.a):=rfl;have i1:b0 (o9 x) (.int 1)=some (pt x.b):=rfl;generalize o9 x=W at *;generalize j4 h s n j m=R at *;generalize D9 h s x=res at *;have T:∀(l:vT_) (q1 q2:Pt) (f:Rat),l.length<=10->R4 [pt x.a,W,fr f] fs=some (pt q1,fs)->R4 [pt x.b,W,fr f] fs=some (pt q2,fs)->qo S0 R4 cc ⟨[.v W,.v R,.own (l.map pt),.v (fr f)],fs⟩=some (.next,⟨[.v W,.v R,.own ((l++[q1,q2]).map pt),.v (fr f)],fs⟩):=fun l q1 q2 f hl e1 Y=>by
  refine Q7 (i:=2) (s:=⟨[.v W,.v R,.own (l.map pt),.v (fr f)],fs⟩) (s1:=⟨[.v W,.v R,.own (l.map pt),.v (fr f)],fs⟩) (ds:=(l++[q1,q2]).map pt) ?_ (by show 2<4;decide);exact lZ (x:=.lst (l.map pt)) (y:=.lst ([q1,q2].map pt)) rfl (U0 (mM (i7 (j3 (c6 rfl rfl i0) rfl) e1) (i7 (j3 (c6 rfl rfl i1) rfl) Y))) (we (by show l.length+2<=100;omega))
 generalize d9 x.a x.u (C8 s h)=q1 at *;generalize d9 x.b x.u (C8 s h)=q2 at *;generalize d9 x.a x.u (C5 s h)=q3 at *;generalize d9 x.b x.u (C5 s h)=q4 at *;generalize C8 s h=f1 at *;generalize C5 s h=f2 at *;have M:=T [] q1 q2 f1 (by decide) a1 U;rw[Uv] at M;have T2:=T [q1,q2] q3 q4 f2 (by show 2<=10;decide) a3 a4;refine n9 (s:=⟨[.v W,.v R,.v (.lst (([q1,q2]++[q3,q4]).map pt)),.v (fr f2)],fs⟩) ?_;show jJ S0 R4 cc ⟨[.v W,.v R,.no,.no],fs⟩=_;unfold jJ;rw[d8 (s1:=⟨[.v W,.v R,.own ([].map pt),.no],fs⟩) (Q7 (i:=2) (s1:=⟨[.v W,.v R,.no,.no],fs⟩) (ds:=[]) rfl (by show 2<4;decide))];have lp:C4 (d6 3) (qo S0 R4 cc) [fr f1,fr f2] ⟨[.v W,.v R,.own ([].map pt),.no],fs⟩=some (.next,⟨[.v W,.v R,.own (([q1,q2]++[q3,q4]).map pt),.v (fr f2)],fs⟩):=by
  rw[W9 (s1:=⟨[.v W,.v R,.own ([].map pt),.v (fr f1)],fs⟩) rfl M];rw[W9 (s1:=⟨[.v W,.v R,.own ([q1,q2].map pt),.v (fr f2)],fs⟩) rfl T2];rfl
 rw[d8 ((nv (s1:=⟨[.v W,.v R,.own ([].map pt),.no],fs⟩) (ds:=[fr f1,fr f2]) (i7 rfl Z)).trans lp)];exact p9 (fR (sl':=[.v W,.v R,.v (.lst (([q1,q2]++[q3,q4]).map pt)),.v (fr f2)]) rfl hu)
abbrev Ck:a8:=tI R4 F4 S7
def JX {x y:Pce}(P:Pc x.a x.b x.u x.L) (Q:Pc y.a y.b y.u y.L) (j:x.b=y.a):i8 (c7 x.a x.b y.b)=i8 (i5 x.u y.u):=by
 have e:c7 x.a x.b y.b=x.L*y.L*i5 x.u y.u:=by
  rw[Q.eq,<-j,P.eq];unfold c7 i5;grind
 rw[e,xK (Q8 P.pos Q.pos)]
def zm (r:Rat):decide (0<i8 r)=decide (i8 r=1):=by
 unfold i8;split
 .rfl
 .split <;> rfl
def KC {x y:Pce}(P:Pc x.a x.b x.u x.L) (Q:Pc y.a y.b y.u y.L) (j:x.b=y.a) {h:Rat}(hh:Sz 4 h) (fs:vO_):Ck [o9 x,o9 y,fr h] fs=some (.tup [pt (d9 x.b x.u (j8 (i8 (i5 x.u y.u)) h)),pt (d9 x.b y.u (j8 (i8 (i5 x.u y.u)) h)),.int (i8 (i5 x.u y.u))],fs):=by
 have t:=gp x.a x.b y.b fs P.sa.ps P.sb.ps Q.sb.ps (by decide);rw[JX P Q j] at t;have sp:=zm (i5 x.u y.u);generalize i8 (i5 x.u y.u)=k at *;have U:=bg P (P.sb.mono (by decide)) ((cw (k:=k) hh).mono (by decide)) fs;have J:=bg Q (P.sb.mono (by decide)) ((cw (k:=k) hh).mono (by decide)) fs;have M:=X7 h fs;have Y:b0 (o9 x) (.int 0)=some (pt x.a):=rfl;have i1:b0 (o9 x) (.int 1)=some (pt x.b):=rfl;have i2:b0 (o9 y) (.int 1)=some (pt y.b):=rfl;generalize o9 x=W at *;generalize o9 y=V at *;refine n9 (s:=⟨[.v W,.v V,.v (fr h),.v (.int k),.v (fr (j8 k h))],fs⟩) ?_;show kW R4 F4 S7 ⟨[.v W,.v V,.v (fr h),.no,.no],fs⟩=_;unfold kW;rw[d8 (s1:=⟨[.v W,.v V,.v (fr h),.v (.int k),.no],fs⟩) (k6 (i7 (j3 (c6 rfl rfl Y) (j3 (c6 rfl rfl i1) (j3 (c6 rfl rfl i2) rfl))) t) rfl)];have c:dB (a7 (j6 (fun i j=>decide (j<i))) (dL 3) (Zf 0)) ⟨[.v W,.v V,.v (fr h),.v (.int k),.no],fs⟩=some (decide (k=1),⟨[.v W,.v V,.v (fr h),.v (.int k),.no],fs⟩):=u6 (c6 rfl rfl (by rw[<-sp];rfl));have f:u4 (dB (a7 (j6 (fun i j=>decide (j<i))) (dL 3) (Zf 0))) (c8 F4 (a6 (dV 2) a9)) (dV 2) ⟨[.v W,.v V,.v (fr h),.v (.int k),.no],fs⟩=some (fr (j8 k h),⟨[.v W,.v V,.v (fr h),.v (.int k),.no],fs⟩):=by
  unfold j8;by_cases q:k=1
  .rw[SA q] at c;rw[tx q];exact(aw c).trans (i7 rfl M)
  .rw[SF q] at c;rw[So q];exact(S5 c).trans rfl
 rw[d8 (s1:=⟨[.v W,.v V,.v (fr h),.v (.int k),.v (fr (j8 k h))],fs⟩) (k6 f rfl)];exact p9 (Z2 (i7 (j3 (c6 rfl rfl i1) rfl) U) (i7 (j3 (c6 rfl rfl i1) rfl) J) rfl)
abbrev dP:a8:=rT U2 cY R4 bH S0 cc F4
def qe {p d a b W U:Pt}{h:Rat}(hp:PtS 70 p) (hh:Sz 4 h) (ha:PtS 120 a) (hb:PtS 120 b) (T:K3 p h d a b) (hd:Hb 5 d) (J:PtS 120 W) (M:PtS 120 U) (Y:K3 p h d W U) (fs:vO_):U2 [.tup ((TW p h).map pt),pt W,pt U] fs=some (P4 (TW p h) a b,fs):=
 wA hp hh ha hb (by rw[aN];decide) (by rw[aN];decide) (qt p h) (by decide) T hd fs J M Y
def uC {h:Rat}(e:Bool) (hp:PtS 70 p) (hu:Hb 5 u) (hh:Sz 4 h) (h0:0<h) (h1:u.1*u.1+u.2*u.2=1) (fs:vO_):U2 [.tup ((TW p h).map pt),pt (d9 p u (gE (!e) h)),pt p] fs=some (.tup ((C1 p u h e).map pt),fs):=by
 have J:K3 p h (dE e u) (d9 p u (gE (!e) h)) p:=by
  cases e
  .exact js h0 h0
  .exact gA h0 h0
 have c:=qe hp hh (hp.mono (by decide)) (M9 hp hu (U9 hh)) (aq e h0) (df hu) (M9 hp hu (U9 hh)) (hp.mono (by decide)) J fs;rw[fA (bq h0 h1 e)] at c;exact c
def ni {h:Rat}(hp:PtS 70 p) (hu:Hb 5 u) (hh:Sz 4 h) (h0:0<h) (h1:u.1*u.1+u.2*u.2=1) (e:Bool) {a b W U d:Pt}(ha:PtS 120 a) (hb:PtS 120 b) (T:K3 p h d a b) (hd:Hb 5 d) (J:PtS 120 W) (M:PtS 120 U) (Y:K3 p h d W U) (fs:vO_):U2 [.tup ((C1 p u h e).map pt),pt W,pt U] fs=some (P4 (C1 p u h e) a b,fs):=
 wA hp hh ha hb (by have:=bq (p:=p) h0 h1 e;omega) (by have:=mn (p:=p) h0 h1 e;omega) (jT hu h0 h1 e) (by decide) T hd fs J M Y
def E4 (x:Pce) (e:Bool):Pt:=if e then x.b else x.a
def Bn:(0:Rat)<1:=by decide +kernel
def xD {x:Pce}(P:Pc x.a x.b x.u x.L) {h m:Rat}(R:RuS h m) (s:Sd) (n:En) (j:Jn) (e:Bool) (hn:n ≠ .cut) (fs:vO_):dP [o9 x,.bl e,j4 h s n j m] fs=some (M5 (E4 x e) x.u h s n e,fs):=by
 have hp:PtS 70 (E4 x e):=by unfold E4;cases e;exact P.sa;exact P.sb
 have J:PtS 120 (E4 x e):=hp.mono (by decide);have U:b0 (o9 x) (.int (if e then 1 else 0))=some (pt (E4 x e)):=by cases e <;> rfl
 have hh:=R.sh;have Y:Sz 5 (1:Rat):=Sz.lit (by decide);have g5:Sz 5 (gE (!e) h):=(U9 hh).mono (by decide);have mi:=X7 h fs;have en:=uE h m s n j fs;have b1:=bg P J g5 fs;have a1:=kY P J Y fs;have tw:=ud (a:=E4 x e) (h:=h) hp (hh.mono (by decide)) fs;have tw:bH [pt (E4 x e),fr h] fs=some (.tup ((TW (E4 x e) h).map pt),fs):=tw;have lp:=uC e hp P.su hh R.pos P.one fs;have k1:=ni hp P.su hh R.pos P.one e J (kD hp P.su hh) (lK R.pos R.pos) P.su J ((ah hp P.su Y).mono (by decide)) (lK R.pos Bn) fs;have k2:=ni hp P.su hh R.pos P.one e (kD hp P.su hh) J (lQ R.pos R.pos) P.su.abW ((ah hp P.su Y).mono (by decide)) J (lQ R.pos Bn) fs;have r0:b0 (j4 h s n j m) (.int 0)=some (fr h):=rfl;have r1:b0 (j4 h s n j m) (.int 1)=some (G9 s):=rfl;have r2:b0 (j4 h s n j m) (.int 2)=some (J5 n):=rfl;have Z:C2 (fun d=>some (.v d::[.v (pt (E4 x e)),.v (o9 x)])) E3 (c8 R4 (a6 (dV 1) (a6 (dV 2) (a6 (dV 0) a9)))) ([C8 s h,C5 s h].map fr) fs=some ([C8 s h,C5 s h].map (fun f=>pt (d9 (E4 x e) x.u f)),fs):=
  bX fs [C8 s h,C5 s h] fun f hf=>⟨_,_,rfl,i7 rfl (bg P J (by
   rcases Sv.mp hf with rfl | hf
   .exact rN hh
   .rw[SJ.mp hf];exact oX hh) fs),rfl⟩
 have cB:C2 (fun d=>some (.v d::[.v (o9 x),.v (fr (gE (!e) h))])) E3 (c8 cY (a6 (dV 0) (a6 (dV 1) (a6 (dV 2) a9)))) ([d9 (E4 x e) x.u (C8 s h),d9 (E4 x e) x.u (C5 s h)].map pt) fs=some ([d9 (E4 x e) x.u (C8 s h),d9 (E4 x e) x.u (C5 s h)].map (fun q=>pt (w4 q x.u (gE (!e) h))),fs):=
  bX fs [d9 (E4 x e) x.u (C8 s h),d9 (E4 x e) x.u (C5 s h)] fun q M=>⟨_,_,rfl,i7 rfl (kY P (by
   rcases Sv.mp M with rfl | M
   .exact M9 hp P.su (cI hh)
   .rw[SJ.mp M];exact M9 hp P.su (cQ hh)) g5 fs),rfl⟩
 have zq:C3 (aS (E4 x e) x.u h s e)=C3 ([d9 (E4 x e) x.u (C8 s h),d9 (E4 x e) x.u (C5 s h)]++[w4 (d9 (E4 x e) x.u (C8 s h)) x.u (gE (!e) h),w4 (d9 (E4 x e) x.u (C5 s h)) x.u (gE (!e) h)]):=by
  unfold aS E9;refine pM (by show 4<2 ^ 20;decide) (by show 4<2 ^ 20;decide) fun q=>?_
  simp only[SN,TU,SM,Sv,Um,Uo];constructor
  .rintro((w | w) | (w | w)) <;> simp[w]
  .rintro((w | w) | (w | w)) <;> simp[w]
 have hu:=sI ([d9 (E4 x e) x.u (C8 s h),d9 (E4 x e) x.u (C5 s h)]++[w4 (d9 (E4 x e) x.u (C8 s h)) x.u (gE (!e) h),w4 (d9 (E4 x e) x.u (C5 s h)) x.u (gE (!e) h)]) fs (fun q M=>by
  simp only[SM,Sv,Um,Uo] at M;rcases M with (rfl | rfl) | (rfl | rfl)
  .exact(P2 hp P.su (cI hh)).mono (by decide)
  .exact(P2 hp P.su (cQ hh)).mono (by decide)
  .exact(ah (P2 hp P.su (cI hh)) P.su (U9 hh)).mono (by decide)
  .exact(ah (P2 hp P.su (cQ hh)) P.su (U9 hh)).mono (by decide)) (by show 1<=4;decide) (by show 4<=90;decide)
 rw[<-zq] at hu;generalize o9 x=W at *;generalize hR:j4 h s n j m=R' at *;generalize E4 x e=p at *;have A1:a7 b0 (dL 0) (j7 (one ai) (a6 (dL 1) a9)) ⟨[.v W,.v (.bl e),.v R',.no,.no,.no,.no,.no],fs⟩=some (pt p,⟨[.v W,.v (.bl e),.v R',.no,.no,.no,.no,.no],fs⟩):=c6 rfl (F8 (x:=.bl e) rfl rfl) U;have A2:u4 (w6 (dL 1)) (Zg 2 0) (c8 F4 (a6 (Zg 2 0) a9)) ⟨[.v W,.v (.bl e),.v R',.v (pt p),.no,.no,.no,.no],fs⟩=some (fr (gE (!e) h),⟨[.v W,.v (.bl e),.v R',.v (pt p),.no,.no,.no,.no],fs⟩):=by
  cases e
  .exact(S5 (V3 rfl)).trans (i7 (j3 (c6 rfl rfl r0) rfl) mi)
  .exact(aw (V3 rfl)).trans (c6 rfl rfl r0)
 cases n with
 |cut=>exact absurd rfl hn
 |square=>
  refine n9 (s:=⟨[.v W,.v (.bl e),.v R',.v (pt p),.v (fr (gE (!e) h)),.v (.lst ([d9 p x.u (C8 s h),d9 p x.u (C5 s h)].map pt)),.no,.no],fs⟩) ?_;show pD U2 cY R4 bH S0 cc F4 ⟨[.v W,.v (.bl e),.v R',.no,.no,.no,.no,.no],fs⟩=_;unfold pD;rw[d8 (s1:=⟨[.v W,.v (.bl e),.v R',.v (pt p),.no,.no,.no,.no],fs⟩) (k6 A1 rfl)];rw[d8 (s1:=⟨[.v W,.v (.bl e),.v R',.v (pt p),.v (fr (gE (!e) h)),.no,.no,.no],fs⟩) (k6 A2 rfl)];refine N4 ?_;rw[E6 (s1:=⟨[.v W,.v (.bl e),.v R',.v (pt p),.v (fr (gE (!e) h)),.no,.no,.no],fs⟩) (u6 (c6 (c6 rfl rfl r2) rfl rfl))];rw[d8 (s1:=⟨[.v W,.v (.bl e),.v R',.v (pt p),.v (fr (gE (!e) h)),.own ([d9 p x.u (C8 s h),d9 p x.u (C5 s h)].map pt),.no,.no],fs⟩) (Q7 (i:=5) (s1:=⟨[.v W,.v (.bl e),.v R',.v (pt p),.v (fr (gE (!e) h)),.no,.no,.no],fs⟩) (ds:=[d9 p x.u (C8 s h),d9 p x.u (C5 s h)].map pt) (aC (idx:=[3,0]) (s1:=⟨[.v W,.v (.bl e),.v R',.v (pt p),.v (fr (gE (!e) h)),.no,.no,.no],fs⟩) (ds:=[C8 s h,C5 s h].map fr) (uk (i7 rfl en)) (by show 2<=sizeLine;decide) Z) (by show 5<8;decide))];exact p9 (fR (sl':=[.v W,.v (.bl e),.v R',.v (pt p),.v (fr (gE (!e) h)),.v (.lst ([d9 p x.u (C8 s h),d9 p x.u (C5 s h)].map pt)),.no,.no]) (A0 (U0 (lZ (x:=.lst ([d9 p x.u (C8 s h),d9 p x.u (C5 s h)].map pt)) (y:=.lst ([w4 (d9 p x.u (C8 s h)) x.u (gE (!e) h),w4 (d9 p x.u (C5 s h)) x.u (gE (!e) h)].map pt)) rfl (U0 (aC (idx:=[0,4]) (fi:=G5 (dV 5)) (s:=⟨[.v W,.v (.bl e),.v R',.v (pt p),.v (fr (gE (!e) h)),.own ([d9 p x.u (C8 s h),d9 p x.u (C5 s h)].map pt),.no,.no],fs⟩) (s1:=⟨[.v W,.v (.bl e),.v R',.v (pt p),.v (fr (gE (!e) h)),.v (.lst ([d9 p x.u (C8 s h),d9 p x.u (C5 s h)].map pt)),.no,.no],fs⟩) (ds:=[d9 p x.u (C8 s h),d9 p x.u (C5 s h)].map pt) rfl (by show 2<=sizeLine;decide) cB)) (we (by show 4<=100;decide)))) rfl) hu)
 |round=>
  show rT U2 cY R4 bH S0 cc F4 _ _=_;clear A1 A2 Z cB hu zq en;generalize U2=m1 at *;generalize cY=m2 at *;generalize R4=m3 at *;generalize bH=m4 at *;generalize F4=m5 at *;cases e
  .have U:b0 W (.int 0)=some (pt p):=U;rw[show gE (!false) h = -h from rfl] at *;cases s <;> wtm_at "Z"
  .have U:b0 W (.int 1)=some (pt p):=U;rw[show gE (!true) h=h from rfl] at *;cases s <;> wtm_at "Z"
def Md {a b u w:Pt}(h:i5 (C9 a b) (C9 u w)≠0):aM a b u w=xq a b u w:=by
 rw[gO] at h;have J:c7 a b u - c7 a b w≠0:=by grind
 unfold aM xq u9;rw[gO];have s:c7 a b u / (c7 a b u - c7 a b w) = -c7 a b u / (c7 a b w - c7 a b u):=by
  rw[SD,SD];grind
 rw[s];refine SU ?_ ?_
 .show Z4 a b u w / (c7 a b w - c7 a b u)=u.1 + -c7 a b u / (c7 a b w - c7 a b u)*(w.1 - u.1);have e:Z4 a b u w=u.1*(c7 a b w - c7 a b u) - c7 a b u*(w.1 - u.1):=by unfold Z4 c7;grind
  rw[e,SD,SD];generalize c7 a b w - c7 a b u=W at *;grind
 .show aa a b u w / (c7 a b w - c7 a b u)=u.2 + -c7 a b u / (c7 a b w - c7 a b u)*(w.2 - u.2);have e:aa a b u w=u.2*(c7 a b w - c7 a b u) - c7 a b u*(w.2 - u.2):=by unfold aa c7;grind
  rw[e,SD,SD];generalize c7 a b w - c7 a b u=W at *;grind
def Lg {p u v:Pt}{f:Rat}(hp:PtS 70 p) (hu:Hb 5 u) (hv:Hb 5 v) (hf:Sz 4 f) (hk:i5 u v≠0) (h1:v.1*v.1+v.2*v.2=1) (fs:vO_):bQ [pt (d9 p u f),pt (w4 (d9 p u f) u 1),pt (d9 p v f),pt (w4 (d9 p v f) v 1)] fs=some (pt (G6 p u v f),fs):=by
 have U:Sz 5 (1:Rat):=Sz.lit (by decide);have M:PtS 80 (d9 p u f):=(P2 hp hu hf).mono (by decide);have Y:PtS 80 (d9 p v f):=(P2 hp hv hf).mono (by decide);have W:i5 (C9 (d9 p v f) (w4 (d9 p v f) v 1)) (C9 (d9 p u f) (w4 (d9 p u f) u 1))≠0:=by
  have e:i5 (C9 (d9 p v f) (w4 (d9 p v f) v 1)) (C9 (d9 p u f) (w4 (d9 p u f) u 1)) = -i5 u v:=by unfold i5 C9 w4;grind
  rw[e];intro z;exact hk (by grind)
 have J:=W;rw[gO] at J;have e:=Bo fs (Y.mono (by decide)) ((ah Y hv U).mono (by decide)) (M.mono (by decide)) ((ah M hu U).mono (by decide)) (fun z=>J (by grind));rw[<-Md W,BR W (xk 1 hk h1) (wm p u v f 1)] at e;exact e
def Gw (x y:Rat):decide (0<=(x + -y).num) = !decide (x<y):=by
 have:=wD x y;by_cases q:(x + -y).num<0
 .rw[SA q] at this;rw[<-this,SF (by omega)];rfl
 .rw[SF q] at this;rw[<-this,SA (by omega)];rfl
abbrev eE:a8:=wO S0 LS F4 pA LP bQ cY U2 bH R4 Ck
def aP (j:Jn) (a b:D):D:=match j with | .round=>a | _=>b
def AN (a b:D):aP .cut a b=b:=rfl
def Dx (a b:D):aP .pointed a b=b:=rfl
def mw (a b:D):aP .round a b=a:=rfl
def yL (p u v:Pt) (h m:Rat) (s:Sd) (j:Jn):dS p u v h m s j=if i5 u v=0 then aP j (.tup ((C1 p u h true).map pt)) .non else if V2 s (i8 (i5 u v)) then .non else aP j (O8 p u v h (i8 (i5 u v))) (C3 (K5 p u v (j8 (i8 (i5 u v)) h) h m j)):=rfl
def Ja {x y:Pce}(P:Pc x.a x.b x.u x.L) (Q:Pc y.a y.b y.u y.L) (jn:x.b=y.a) {h m:Rat}(R:RuS h m) (s:Sd) (n:En) (j:Jn) (fs:vO_):eE [o9 x,o9 y,j4 h s n j m] fs=some (G4 h m s j (x,y),fs):=by
 have o:=KC P Q jn R.sh fs;have hp:=P.sb;have J:PtS 120 x.b:=hp.mono (by decide);have hh:=R.sh;have h0:=R.pos;have tw:bH [pt x.b,fr h] fs=some (.tup ((TW x.b h).map pt),fs):=ud (a:=x.b) (h:=h) hp (hh.mono (by decide)) fs;have bh:=bg P J (hh.mono (by decide:4<=5)) fs;have lp:=uC true hp P.su hh h0 P.one fs;have sv:=eM (i5 x.u y.u);have z0:i8 (i5 x.u y.u)=0↔i5 x.u y.u=0:=kM _;have sp:=zm (i5 x.u y.u);have sd:=Dm s (i8 (i5 x.u y.u));have i1:b0 (o9 x) (.int 1)=some (pt x.b):=rfl;have r0:b0 (j4 h s n j m) (.int 0)=some (fr h):=rfl;have r1:b0 (j4 h s n j m) (.int 1)=some (G9 s):=rfl;have r3:b0 (j4 h s n j m) (.int 3)=some (ae j):=rfl;have r4:b0 (j4 h s n j m) (.int 4)=some (fr m):=rfl;have F:=cw (k:=i8 (i5 x.u y.u)) hh;have o1:Sz 5 (1:Rat):=Sz.lit (by decide);have ah1:=kY P (M9 hp P.su F) o1 fs;have ah2:=kY Q (M9 hp Q.su F) o1 fs;have tp:=fun hk=>Lg hp P.su Q.su F hk Q.one fs
 have ms:=P9 h m fs hh R.sm (by decide);have ms2:=P9 (h*m) (h*m) fs (hh.mul R.sm) (hh.mul R.sm) (by decide);have sq:=fun hk:i5 x.u y.u≠0=>pR x.b (G6 x.b x.u y.u (j8 (i8 (i5 x.u y.u)) h)) fs J.x J.y (iJ hp P.su Q.su F hk).x (iJ hp P.su Q.su F hk).y (by decide)
 have mi:=X7 (dsq x.b (G6 x.b x.u y.u (j8 (i8 (i5 x.u y.u)) h))) fs;have su:=fun hk:i5 x.u y.u≠0=>V5 (h*m*(h*m)) (-dsq x.b (G6 x.b x.u y.u (j8 (i8 (i5 x.u y.u)) h))) fs ((hh.mul R.sm).mul (hh.mul R.sm)) (ke (hp.mono (by decide:70<=130)) (iJ hp P.su Q.su F hk)).neg (by decide)
 have nb:decide (0<=(h*m*(h*m) + -dsq x.b (G6 x.b x.u y.u (j8 (i8 (i5 x.u y.u)) h))).num)=bf x.b x.u y.u (j8 (i8 (i5 x.u y.u)) h) h m:=by
  rw[Gw];unfold bf;rw[Rat.mul_comm h m]
 have U:=fun hk:i5 x.u y.u≠0=>sI (K5 x.b x.u y.u (j8 (i8 (i5 x.u y.u)) h) h m j) fs (oo j hp P.su Q.su F hk) (by unfold K5;rw[SG];show 1<=3+_;omega) (SI (qV ..) (by decide))
 have Y:i5 x.u y.u≠0->∃Z:List D,(if i8 (i5 x.u y.u)=1 then U2 [.tup ((TW x.b h).map pt),pt x.b,pt (d9 x.b x.u (j8 (i8 (i5 x.u y.u)) h))] fs=some (.tup Z,fs)/\U2 [.tup Z,pt (d9 x.b y.u (j8 (i8 (i5 x.u y.u)) h)),pt x.b] fs=some (O8 x.b x.u y.u h (i8 (i5 x.u y.u)),fs) else U2 [.tup ((TW x.b h).map pt),pt x.b,pt (d9 x.b y.u (j8 (i8 (i5 x.u y.u)) h))] fs=some (.tup Z,fs)/\U2 [.tup Z,pt (d9 x.b x.u (j8 (i8 (i5 x.u y.u)) h)),pt x.b] fs=some (O8 x.b x.u y.u h (i8 (i5 x.u y.u)),fs)):=fun hk=>by
  by_cases q:i8 (i5 x.u y.u)=1
  .refine⟨(C1 x.b x.u h true).map pt,?_⟩;rw[tx q];unfold O8 j8;rw[tx q,tx q];refine⟨?_,ni hp P.su hh h0 P.one true (M9 hp Q.su hh.neg) J (js h0 h0) Q.su.lfW (M9 hp Q.su hh.neg) J (js h0 h0) fs⟩;have c:=qe hp hh J (M9 hp P.su (U9 (e:=true) hh)) (aq true h0) (df P.su) J (M9 hp P.su (U9 (e:=true) hh)) (aq true h0) fs;rw[fA (bq h0 P.one true)] at c;exact c
  .refine⟨(C1 x.b y.u h false).map pt,?_⟩;rw[So q];unfold O8 j8;rw[So q,So q];refine⟨?_,ni hp Q.su hh h0 Q.one false (M9 hp P.su hh) J (gA h0 h0) P.su.rtW (M9 hp P.su hh) J (gA h0 h0) fs⟩;have c:=qe hp hh J (M9 hp Q.su (U9 (e:=false) hh)) (aq false h0) (df Q.su) J (M9 hp Q.su (U9 (e:=false) hh)) (aq false h0) fs;rw[fA (bq h0 Q.one false)] at c;exact c
 have tq:∀k:Int,K5 x.b x.u y.u (j8 k h) h m .pointed=[x.b,d9 x.b x.u (j8 k h),d9 x.b y.u (j8 k h)]++(if bf x.b x.u y.u (j8 k h) h m then [G6 x.b x.u y.u (j8 k h)] else []):=fun _=>rfl
 have M:∀k:Int,K5 x.b x.u y.u (j8 k h) h m .cut=[x.b,d9 x.b x.u (j8 k h),d9 x.b y.u (j8 k h)]:=fun _=>rfl
 have tq:=tq (i8 (i5 x.u y.u));have M:=M (i8 (i5 x.u y.u));unfold G4;rw[yL];show eE [o9 x,o9 y,j4 h s n j m] fs=some (if i5 x.u y.u=0 then aP j (.tup ((C1 x.b x.u h true).map pt)) .non else if V2 s (i8 (i5 x.u y.u)) then .non else aP j (O8 x.b x.u y.u h (i8 (i5 x.u y.u))) (C3 (K5 x.b x.u y.u (j8 (i8 (i5 x.u y.u)) h) h m j)),fs);generalize o9 x=W at *;generalize o9 y=V at *;generalize j4 h s n j m=R' at *;generalize O8 x.b x.u y.u h (i8 (i5 x.u y.u))=RJ at *;generalize bf x.b x.u y.u (j8 (i8 (i5 x.u y.u)) h) h m=NB at *;generalize hk:i8 (i5 x.u y.u)=k at *;generalize hc:i5 x.u y.u=cr at *;generalize G6 x.b x.u y.u (j8 k h)=TP at *;have gb:d9 x.b x.u (gE (!true) h)=d9 x.b x.u h:=rfl;rw[gb] at lp;generalize hg0:d9 x.b x.u h=g0 at *;generalize hg1:d9 x.b x.u (j8 k h)=g1 at *;generalize hg2:d9 x.b y.u (j8 k h)=g2 at *;have c0:=W3 k 0;by_cases q:cr=0
 .rw[SA (z0.mpr q)] at c0;rw[tx q];cases j with
  |round=>rw[mw];wtm_at "Z"
  |cut=>wtm_at "Z"
  |pointed=>wtm_at "Z"
 .rw[SF (fun w=>q (z0.mp w))] at c0;rw[So q];have k2:k=1\/k = -1:=by
   rcases sv with ⟨_,w⟩ | ⟨_,w⟩ | ⟨w,_⟩
   .exact .inl w
   .exact .inr w
   .exact absurd w q
  have ixk:b0 (.lst [.str "right",.str "",.str "left"]) (.int (1+k))=some (if k=1 then .str "left" else .str "right"):=by
   rcases k2 with w | w <;> subst w <;> rfl
  cases w:V2 s k with
  |true=>
   rw[w] at sd;rw[tx rfl];wtm_at "Z"
  |false=>
   rw[w] at sd;rw[So Sy];cases j with
   |round=>
    obtain⟨Z,Y⟩:=Y q;rw[mw];have c3:j6 (fun i j=>decide (j<i)) (.int k) (.int 0)=some (.bl (decide (k=1))):=by rw[<-sp];rfl
    by_cases k1:k=1
    .rw[tx k1] at Y;rw[SA k1] at c3;obtain⟨ra,rb⟩:=Y;wtm_at "Z"
    .rw[So k1] at Y;rw[SF k1] at c3;obtain⟨ra,rb⟩:=Y;wtm_at "Z"
   |cut=>
    have U:=U q;rw[M] at U;rw[AN,M];wtm_at "Z"
   |pointed=>
    have U:=U q;have tp:=tp q;have sq:=sq q;have su:=su q;rw[Dx];have ix:=T7 (h*m*(h*m) + -dsq x.b TP);have c5:j6 (fun i j=>decide (j<=i)) (.int (h*m*(h*m) + -dsq x.b TP).num) (.int 0)=some (.bl NB):=by rw[<-nb];rfl
    rw[tq] at U ⊢;cases NB with
    |true=>
     rw[tx rfl] at U ⊢;wtm_at "Z"
    |false=>
     rw[So Sy,Tt] at U ⊢;wtm_at "Z"
abbrev cP:a8:=Ai dP eE fK ig
def Qe {es:List Pce}{k:Nat}(h:(p8 c es)[k]? = some q):es[k]? = some q.1/\es[(k+1) % es.length]? = some q.2:=by
 unfold p8 at h;rw[VA] at h;obtain⟨h1,h2⟩:=h;have M:=(Tn.mp h1).1;refine⟨h1,?_⟩;cases c with
 |false=>
  rw[So Sy,Xm] at h2;have J:=(Tn.mp h2).1;rw[Vn (by omega),UM];exact h2
 |true=>
  rw[tx rfl] at h2;by_cases w:k+1<es.length
  .rw[Us (by rw[Tq];omega),Xm] at h2;rw[Vn w,UM];exact h2
  .have e:k+1=es.length:=by omega
   rw[Uk (by rw[Tq];omega),Tq,show k - (es.length - 1)=0 by omega,Xv (by decide)] at h2;rw[e,Yq];exact h2
abbrev vS (ln R:D) (W fd:vD_) (x4:Sl) (fs:vO_):DS:=⟨[.v ln,.v R,.v (.lst W),.own fd,x4],fs⟩
section
variable {c:Bool}{ps:vT_}{es:List Pce}{h m:Rat}(s:Sd) (n:En) (j:Jn) (L:LnE c ps es) (R:RuS h m) (fs:vO_)
include L R
theorem Qg (J:D) (k:Nat) (q:Pce × Pce) (M:(p8 c es)[k]? = some q) (fd:vD_) (hl:fd.length<=100):og dP eE fK ig (vS J (j4 h s n j m) (es.map o9) fd (.v (.int (k:Int))) fs)=some (.next,vS J (j4 h s n j m) (es.map o9) (fd++[G4 h m s j q]) (.v (.int (k:Int))) fs):=by
 obtain⟨q1,q2⟩:=Qe M;have W:=TX M;have lo:=L.lo;have e:=Ja (L.pc _ (TX q1)) (L.pc _ (TX q2)) (L.jn q W) R s n j fs;have i1:b0 (.lst (es.map o9)) (.int (k:Int))=some (o9 q.1):=(U6 _ _).trans (cx (by rw[TM,q1];rfl));have i2:b0 (.lst (es.map o9)) (.int (((k+1) % es.length:Nat):Int))=some (o9 q.2):=(U6 _ _).trans (cx (by rw[TM,q2];rfl));have U:J3 (.int ((k:Int)+1)) (.int (es.length:Int))=some (.int (((k+1) % es.length:Nat):Int)):=by
  rw[dA _ (by omega),WS _ (by omega),show (k:Int)+1=((k+1:Nat):Int) by omega,<-Int.natCast_emod]
 refine Q2 (i:=3) (s:=vS J (j4 h s n j m) (es.map o9) fd (.v (.int (k:Int))) fs) (s1:=vS J (j4 h s n j m) (es.map o9) fd (.v (.int (k:Int))) fs) (ds:=fd) (ds0:=fd) (d:=G4 h m s j q) rfl ?_ rfl (TC hl (by decide));exact i7 (j3 (c6 (x:=.lst (es.map o9)) rfl rfl i1) (j3 (c6 (x:=.lst (es.map o9)) rfl (c6 (c6 rfl rfl rfl) (F8 (x:=.lst (es.map o9)) (d:=.int (es.length:Int)) rfl (by show some (D.int ((es.map o9).length:Nat))=_;rw[Ss])) U) i2) (j3 rfl rfl))) e
theorem Bk:cP [o8 c ps,j4 h s n j m] fs=some (.tup ((B7 c es L.lo h m s n j).filter S3),fs):=by
 have lo:=L.lo;have hi:=L.hi;have ws:=OQ L fs;have cs:C2 (fun d=>some (.v d::[.v (j4 h s n j m)])) E3 (c8 fK (a6 (dV 0) (a6 (dV 1) a9))) (es.map o9) fs=some (es.map (D9 h s),fs):=
  bX fs es fun x hx=>⟨_,_,rfl,i7 rfl (Jy (L.pc x hx) s n j R.sh fs),rfl⟩
 have M:=tj c es;have nl:=aU c es;obtain⟨s',e,J,rfl⟩:=jh (t:=d6 4) (b:=og dP eE fK ig) (fun i st=>∃J,st=vS (o8 c ps) (j4 h s n j m) (es.map o9) (es.map (D9 h s)++((p8 c es).take i).map (G4 h m s j)) J fs) (P7 0 (p8 c es).length) 0 (vS (o8 c ps) (j4 h s n j m) (es.map o9) (es.map (D9 h s)) .no fs) ⟨_,by rw[XI,TU,Tt]⟩ (by
  rintro i d st hd ⟨J,rfl⟩;obtain⟨rfl,W⟩:=jZ hd;rw[Ur,Yt];have g:(p8 c es)[i]? = some (p8 c es)[i]:=Tf W;have T:=Qg s n j L R fs (o8 c ps) i _ g (es.map (D9 h s)++((p8 c es).take i).map (G4 h m s j)) (by rw[SG,Ss,Ss,Tp];omega);refine⟨_,_,rfl,.inl T,.v (.int (i:Int)),?_⟩;rw[List.take_add_one,g,Tj,Ul];rfl)
 rw[Ur,gG,Vw] at e;have r2:b0 (j4 h s n j m) (.int 2)=some (J5 n):=rfl;have key:∀fd:List D,(∀d∈fd,bK d)->fd.length<=100->fd.filter S3=(B7 c es L.lo h m s n j).filter S3->j9 (w8 (B0 (w6 (Zg 0 0))) (dB (a7 B4 (Zg 1 2) (dC (.str "cut"))))) (F5 3 (aR aX (dL 3) (m6 (l7 (a6 (c8 dP (a6 (Zg 2 0) (a6 (dC (.bl false)) (a6 (dV 1) a9)))) (a6 (c8 dP (a6 (a7 b0 (dL 2) (m8 o7 (Zf 1))) (a6 (dC (.bl true)) (a6 (dV 1) a9)))) a9)))))) k9 (vS (o8 c ps) (j4 h s n j m) (es.map o9) (es.map (D9 h s)++(p8 c es).map (G4 h m s j)) J fs)=some (.next,vS (o8 c ps) (j4 h s n j m) (es.map o9) fd J fs)->cP [o8 c ps,j4 h s n j m] fs=some (.tup ((B7 c es L.lo h m s n j).filter S3),fs):=fun fd hN hl hf q=>by
  have Z:=pC fs fd hN;rw[hf] at Z;refine n9 (s:=⟨[.v (o8 c ps),.v (j4 h s n j m),.v (.lst (es.map o9)),.v (.lst fd),J],fs⟩) ?_;show rL dP eE fK ig ⟨[.v (o8 c ps),.v (j4 h s n j m),.no,.no,.no],fs⟩=_;unfold rL;rw[d8 (s1:=⟨[.v (o8 c ps),.v (j4 h s n j m),.v (.lst (es.map o9)),.no,.no],fs⟩) (k6 (i7 rfl ws) rfl)];rw[d8 (s1:=vS (o8 c ps) (j4 h s n j m) (es.map o9) (es.map (D9 h s)) .no fs) (Q7 (i:=3) (s1:=⟨[.v (o8 c ps),.v (j4 h s n j m),.v (.lst (es.map o9)),.no,.no],fs⟩) (ds:=es.map (D9 h s)) (aC (idx:=[1]) (fi:=G5 (dV 2)) (s1:=⟨[.v (o8 c ps),.v (j4 h s n j m),.v (.lst (es.map o9)),.no,.no],fs⟩) (ds:=es.map o9) rfl (by rw[Ss];exact SI (by omega:es.length<=100) (by decide)) cs) (by show 3<5;decide))];have rg:a7 m9 (a7 u7 (j7 (one r8) (a6 (dL 2) a9)) (Zf 1)) (j7 (one ai) (a6 (Zg 0 0) a9)) (vS (o8 c ps) (j4 h s n j m) (es.map o9) (es.map (D9 h s)) .no fs)=some (.int ((p8 c es).length:Int),vS (o8 c ps) (j4 h s n j m) (es.map o9) (es.map (D9 h s)) .no fs):=by
   refine c6 (c6 (F8 (x:=.lst (es.map o9)) (d:=.int (es.length:Int)) rfl (by show some (D.int ((es.map o9).length:Nat))=_;rw[Ss])) rfl rfl) (F8 (x:=.bl c) (c6 (x:=o8 c ps) rfl rfl rfl) rfl) ?_;show some (D.int ((es.length:Int) - 1+(if c then 1 else 0)))=some (D.int ((p8 c es).length:Int));rw[M];congr 2;cases c
   .rw[So Sy,So Sy];omega
   .rw[tx rfl,tx rfl,Vg (by omega)];omega
  rw[d8 ((jv (j3 rg rfl) (gH (by omega))).trans e)];rw[d8 q];exact p9 (F8 (x:=.lst ((B7 c es L.lo h m s n j).filter S3)) (U0 (aC (idx:=[]) (fi:=G5 (dV 3)) (s1:=⟨[.v (o8 c ps),.v (j4 h s n j m),.v (.lst (es.map o9)),.v (.lst fd),J],fs⟩) (ds:=fd) rfl (SI hl (by decide)) Z)) rfl)
 have Y:∀d∈es.map (D9 h s)++(p8 c es).map (G4 h m s j),bK d:=fun d hd=>oh c es L.lo h m s n j d (by unfold B7;exact Ui _ hd)
 have bl:(es.map (D9 h s)++(p8 c es).map (G4 h m s j)).length<=90:=by rw[SG,Ss,Ss];omega
 cases c with
 |true=>
  refine key (es.map (D9 h s)++(p8 true es).map (G4 h m s j)) Y (by omega) ?_ (K0 (dW (jo (b:=true) (V3 (c6 rfl rfl rfl)))));unfold B7 Z9;rw[tx rfl,Tt]
 |false=>
  by_cases U:n = .cut
  .subst U;refine key (es.map (D9 h s)++(p8 false es).map (G4 h m s j)) Y (by omega) ?_ (K0 (cW (s1:=vS (o8 false ps) (j4 h s .cut j m) (es.map o9) (es.map (D9 h s)++(p8 false es).map (G4 h m s j)) J fs) (jo (b:=false) (V3 (c6 rfl rfl rfl))) (u6 (c6 (c6 rfl rfl r2) rfl rfl))));unfold B7 Z9;rw[So Sy,List.filter_append (p:=S3) (es.map (D9 h s)++(p8 false es).map (G4 h m s j)) [M5 (F3 es L.lo).a (F3 es L.lo).u h s .cut false,M5 (G1 es L.lo).b (G1 es L.lo).u h s .cut true]];show _=_++[];rw[Tt]
  .have hf:F3 es L.lo∈es:=Vp _;have hl:G1 es L.lo∈es:=Vp _;have a0:b0 (.lst (es.map o9)) (.int 0)=some (o9 (F3 es L.lo)):=(U6 _ _).trans (Cp o9 L.lo);have a1:b0 (.lst (es.map o9)) (.int (-1))=some (o9 (G1 es L.lo)):=(U6 _ _).trans (vM o9 L.lo);have e1:=xD (L.pc _ hf) R s n j false U fs;have e2:=xD (L.pc _ hl) R s n j true U fs;have nc:B4 (J5 n) (.str "cut")=some (.bl true):=by
    cases n
    .exact absurd rfl U
    .rfl
    .rfl
   refine key (B7 false es L.lo h m s n j) (oh false es L.lo h m s n j) ?_ rfl ?_
   .unfold B7 Z9;rw[So Sy,SG];show _+2<=100;omega
   .have wd:B7 false es L.lo h m s n j=es.map (D9 h s)++(p8 false es).map (G4 h m s j)++[M5 (E4 (F3 es L.lo) false) (F3 es L.lo).u h s n false,M5 (E4 (G1 es L.lo) true) (G1 es L.lo).u h s n true]:=by
     unfold B7 Z9;rw[So Sy];rfl
    rw[wd];generalize es.map (D9 h s)++(p8 false es).map (G4 h m s j)=told at *;generalize M5 (E4 (F3 es L.lo) false) (F3 es L.lo).u h s n false=E1 at *;generalize M5 (E4 (G1 es L.lo) true) (G1 es L.lo).u h s n true=E2 at *;rw[E6 (s1:=vS (o8 false ps) (j4 h s n j m) (es.map o9) told J fs) (cW (s1:=vS (o8 false ps) (j4 h s n j m) (es.map o9) told J fs) (jo (b:=false) (V3 (c6 rfl rfl rfl))) (u6 (c6 (c6 rfl rfl r2) rfl nc)))];refine Q7 (i:=3) (s:=vS (o8 false ps) (j4 h s n j m) (es.map o9) told J fs) (s1:=vS (o8 false ps) (j4 h s n j m) (es.map o9) told J fs) (ds:=told++[E1,E2]) ?_ (by show 3<5;decide);refine lZ (x:=.lst told) (y:=.lst [E1,E2]) rfl (U0 (mM (i7 (j3 (c6 rfl rfl a0) (j3 rfl (j3 rfl rfl))) e1) (i7 (j3 (c6 rfl (dZ (p:=o7) (x:=.int 1) rfl rfl) a1) (j3 rfl (j3 rfl rfl))) e2))) ?_;show (if told.length+2<=sizeLine then some (told++[E1,E2]) else none)=_;rw[tx (SI (by omega:told.length+2<=100) (by decide))]
end
def de (d:D):Prop:=d = .non\/∃l:List Pt,d = .tup (l.map pt)/\l.length<=48/\∀z∈l,PtS 300 z
def kn {l:vT_}(h:∀z∈l,PtS 300 z) (hl:l.length<=48):de (C3 l):=by
 unfold C3;by_cases q:(v5 l).length<3
 .rw[tx q];exact .inl rfl
 .rw[So q];exact .inr ⟨v5 l,rfl,SI (wU (by omega)) hl,fun z J=>h z (pE J)⟩
section
variable {p u:Pt}{h:Rat}(hp:PtS 70 p) (hu:Hb 5 u) (hh:Sz 4 h) (h0:0<h) (h1:u.1*u.1+u.2*u.2=1)
include hp hu hh h0 h1
theorem zT (e:Bool):de (.tup ((C1 p u h e).map pt)):=.inr ⟨C1 p u h e,rfl,by have:=mn (p:=p) h0 h1 e;omega,fun z J=>by
 obtain⟨t,rfl,M⟩:=jT (p:=p) hu h0 h1 e z J;exact(mr hp hh M).mono (by decide)⟩
theorem jO (e:Bool) {a b d:Pt}(T:K3 p h d a b) (hd:Hb 5 d):de (P4 (C1 p u h e) a b):=by
 have U:=bq (p:=p) h0 h1 e;have M:=mn (p:=p) h0 h1 e;have l1:=eS a b (p8 true (C1 p u h e));have l2:=aU true (C1 p u h e);exact kn (fun z J=>ro hp hh (by omega) (by omega) (jT hu h0 h1 e) (by decide) T hd z ((ie (by omega) a b z).mp J)) (by omega)
end
def Mq {x y:Pce}(P:Pc x.a x.b x.u x.L) (Q:Pc y.a y.b y.u y.L) {h m:Rat}(R:RuS h m) (s:Sd) (j:Jn):de (G4 h m s j (x,y)):=by
 unfold G4;rw[yL];show de (if i5 x.u y.u=0 then aP j (.tup ((C1 x.b x.u h true).map pt)) .non else if V2 s (i8 (i5 x.u y.u)) then .non else aP j (O8 x.b x.u y.u h (i8 (i5 x.u y.u))) (C3 (K5 x.b x.u y.u (j8 (i8 (i5 x.u y.u)) h) h m j)));by_cases q:i5 x.u y.u=0
 .rw[tx q];cases j
  .exact .inl rfl
  .exact .inl rfl
  .rw[mw];exact zT P.sb P.su R.sh R.pos P.one true
 .rw[So q];by_cases w:V2 s (i8 (i5 x.u y.u))=true
  .rw[tx w];exact .inl rfl
  .rw[So w];have J:=fun j=>kn (oo (m:=m) (h:=h) j P.sb P.su Q.su (cw (k:=i8 (i5 x.u y.u)) R.sh) q) (SI (qV ..) (by decide))
   cases j
   .rw[AN];exact J _
   .rw[Dx];exact J _
   .rw[mw];unfold O8;by_cases k:i8 (i5 x.u y.u)=1
    .rw[tx k];exact jO P.sb P.su R.sh R.pos P.one true (js R.pos R.pos) Q.su.lfW
    .rw[So k];exact jO P.sb Q.su R.sh R.pos Q.one false (gA R.pos R.pos) P.su.rtW
def uH {h:Rat}(hp:PtS 70 p) (hu:Hb 5 u) (hh:Sz 4 h) (h0:0<h) (h1:u.1*u.1+u.2*u.2=1) (s:Sd) (n:En) (e:Bool):de (M5 p u h s n e):=by
 cases n
 .exact .inl rfl
 .have:M5 p u h s .square e=C3 (aS p u h s e):=rfl;rw[this];exact kn (Au hp hu hh) (by show 4<=48;decide)
 .cases s
  .have:M5 p u h .both .round e = .tup ((C1 p u h e).map pt):=rfl;rw[this];exact zT hp hu hh h0 h1 e
  .have:M5 p u h .left .round e=P4 (C1 p u h e) p (w4 p u h):=rfl;rw[this];exact jO hp hu hh h0 h1 e (lK h0 h0) hu
  .have:M5 p u h .right .round e=P4 (C1 p u h e) (w4 p u h) p:=rfl;rw[this];exact jO hp hu hh h0 h1 e (lQ h0 h0) hu.abW
def Px {ps:vT_}{h m:Rat}(s:Sd) (n:En) (j:Jn) (L:LnE c ps es) (R:RuS h m):∀d∈B7 c es L.lo h m s n j,de d:=fun d hd=>by
 unfold B7 Z9 at hd;rcases SM.mp hd with w | w
 .rcases SM.mp w with w | w
  .obtain⟨x,J,rfl⟩:=Tg.mp w;have P:=L.pc x J;exact kn (l:=E9 x.a x.u h s++E9 x.b x.u h s) (fun q M=>by
    rcases SM.mp M with w | w
    .exact(dG P.sa P.su R.sh q w).mono (by decide)
    .exact(dG P.sb P.su R.sh q w).mono (by decide)) (by show 4<=48;decide)
  .obtain⟨x,J,rfl⟩:=Tg.mp w;exact Mq (L.pc _ (eB J).1) (L.pc _ (eB J).2) R s j
 .cases c
  .rw[So Sy] at w;have f:=L.pc (F3 es L.lo) (Vp _);have l:=L.pc (G1 es L.lo) (Vp _);rcases Sv.mp w with rfl | w
   .exact uH f.sa f.su R.sh R.pos f.one s n false
   .rw[SJ.mp w];exact uH l.sb l.su R.sh R.pos l.one s n true
  .rw[tx rfl] at w;cases w
def Jj {ps:vT_}(h m:Rat) (s:Sd) (n:En) (j:Jn) (L:LnE c ps es):(B7 c es L.lo h m s n j).length<=26:=by
 have:=L.hi;have:=aU c es;unfold B7 Z9;rw[SG,SG,Ss,Ss];cases c
 .rw[So Sy];show _+_+2<=26;omega
 .rw[tx rfl];show _+_+0<=26;omega
def DJ {ps:vT_}{h m:Rat}(s:Sd) (n:En) (j:Jn) (L:LnE c ps es) (R:RuS h m):Ok 3 5018 (.tup ((B7 c es L.lo h m s n j).filter S3)):=by
 have l1:=Ys S3 (B7 c es L.lo h m s n j);have l2:=Jj h m s n j L;have:=OkL.all (k:=2) (n:=192) (ds:=(B7 c es L.lo h m s n j).filter S3) (fun d hd=>by
  rcases Px s n j L R d (Wl.mp hd).1 with rfl | ⟨l,rfl,hl,hz⟩
  .exact Ok.non.mono (by decide) (by decide)
  .exact(uc (k:=600) (fun z J=>(hz z J).ps)).mono (by decide) (by omega))
 exact(Ok.tup this).mono (by decide) (by
  have:((B7 c es L.lo h m s n j).filter S3).length*193<=26*193:=Nat.mul_le_mul_right _ (by omega);omega)
def BL {a l L:Rat}{X:Int}(h:a*l=(X:Rat)*L) (hl:l≠0) (J:L≠0):a / L=(X:Rat) / l:=by
 rw[SD,SD];have e:a=(X:Rat)*L*l⁻¹:=by rw[<-h,VG,Vo _ hl,Wj]
 rw[e];have:L*L⁻¹=1:=Vo _ J;grind
def uW (w:Rat × Rat × Rat):Pt:=(w.1 / w.2.2,w.2.1 / w.2.2)
def Pp {w:Rat × Rat × Rat}(h:WyS 20 w):Hb 5 (uW w)/\(uW w).1*(uW w).1+(uW w).2*(uW w).2=1/\w.1=w.2.2*(uW w).1/\w.2.1=w.2.2*(uW w).2:=by
 obtain⟨X,Y,l,x1,y1,l1,l2,W,U⟩:=h.dr;have Z:(0:Rat)<(l:Rat):=TF.mpr l1;have M:(l:Rat)≠0:=by grind
 have J:w.2.2≠0:=by have:=h.lp;grind
 have ex:=h.ex;have ic:w.2.2*w.2.2⁻¹=1:=Vo _ J;refine⟨⟨X,Y,l,l1,by show X.natAbs<32;omega,by show Y.natAbs<32;omega,by show l.natAbs<32;omega,SU (BL W M J) (BL U M J)⟩,?_,?_,?_⟩
 .show w.1 / w.2.2*(w.1 / w.2.2)+w.2.1 / w.2.2*(w.2.1 / w.2.2)=1;rw[SD,SD];have:w.1*w.2.2⁻¹*(w.1*w.2.2⁻¹)+w.2.1*w.2.2⁻¹*(w.2.1*w.2.2⁻¹)=(w.1*w.1+w.2.1*w.2.1)*(w.2.2⁻¹*w.2.2⁻¹):=by grind
  rw[this,ex];grind
 .show w.1=w.2.2*(w.1 / w.2.2);rw[SD];grind
 .show w.2.1=w.2.2*(w.2.1 / w.2.2);rw[SD];grind
def KP {w:Rat × Rat × Rat}(h:WyS 20 w) {a b:Pt}(U:PtS 70 a) (J:PtS 70 b) (e:b=(a.1+w.1,a.2+w.2.1)):Pc a b (uW w) w.2.2:=by
 obtain⟨h1,h2,h3,M⟩:=Pp h;exact⟨U,J,h1,h2,h.lp,h.l,by rw[e];exact SU (congrArg (a.1 + ·) h3) (congrArg (a.2 + ·) M)⟩
abbrev dk:a8:=DN P5 LF
def zZ {n:Nat}(h:Fd n f) (hn:n<2 ^ 28):∃hf s e j m f',dk [.feed] (some f)=some (j4 hf s e j m,some f')/\RuS hf m/\Fd (n+6) f':=by
 obtain⟨U,f1,e1,a1,a2,h1⟩:=K8 7 h;obtain⟨Y,f2,e2,b1,b2,h2⟩:=K8 4 h1;obtain⟨Z,f3,e3,c1,c2,h3⟩:=K8 4 h2;obtain⟨r4,f4,e4,d1,d2,h4⟩:=K8 3 h3;obtain⟨r5,f5,e5,g1,g2,h5⟩:=K8 4 h4;obtain⟨W,f6,e6,i1,i2,h6⟩:=K8 5 h5;obtain⟨t,ht,t1,t2⟩:∃t:Int,v8 [D.int 1,D.int 1,D.int 1,D.int 5,D.int 2,D.int 3,D.int 13] U=some (.int t)/\1<=t/\t<=13:=by
  have:U=0\/U=1\/U=2\/U=3\/U=4\/U=5\/U=6:=by omega
  rcases this with rfl | rfl | rfl | rfl | rfl | rfl | rfl <;> exact⟨_,rfl,by decide,by decide⟩
 obtain⟨m,hm,m1,m2⟩:∃m:Int,v8 [D.int 1,D.int 2,D.int 5,D.int 4] Y=some (.int m)/\1<=m/\m<=5:=by
  have:Y=0\/Y=1\/Y=2\/Y=3:=by omega
  rcases this with rfl | rfl | rfl | rfl <;> exact⟨_,rfl,by decide,by decide⟩
 obtain⟨s,hs⟩:∃s:Sd,v8 [D.str "both",D.str "both",D.str "left",D.str "right"] Z=some (G9 s):=by
  have:Z=0\/Z=1\/Z=2\/Z=3:=by omega
  rcases this with rfl | rfl | rfl | rfl
  .exact⟨.both,rfl⟩
  .exact⟨.both,rfl⟩
  .exact⟨.left,rfl⟩
  .exact⟨.right,rfl⟩
 obtain⟨e,he⟩:∃s:En,v8 [D.str "cut",D.str "square",D.str "round"] r4=some (J5 s):=by
  have:r4=0\/r4=1\/r4=2:=by omega
  rcases this with rfl | rfl | rfl
  .exact⟨.cut,rfl⟩
  .exact⟨.square,rfl⟩
  .exact⟨.round,rfl⟩
 obtain⟨j,hj⟩:∃s:Jn,v8 [D.str "cut",D.str "pointed",D.str "pointed",D.str "round"] r5=some (ae s):=by
  have:r5=0\/r5=1\/r5=2\/r5=3:=by omega
  rcases this with rfl | rfl | rfl | rfl
  .exact⟨.cut,rfl⟩
  .exact⟨.pointed,rfl⟩
  .exact⟨.pointed,rfl⟩
  .exact⟨.round,rfl⟩
 obtain⟨q,hq,sq⟩:∃q:Rat,v8 [D.tup [.int 1,.int 1],D.tup [.int 2,.int 1],D.tup [.int 4,.int 1],D.tup [.int 3,.int 2],D.tup [.int 20,.int 1]] W=some (fr q)/\Sz 5 q:=by
  have fl:∀a b:Int,(Rat.divInt a b).num=a->((Rat.divInt a b).den:Int)=b->D.tup [.int a,.int b]=fr (Rat.divInt a b):=fun a b h1 h2=>by unfold fr;rw[h1,h2]
  have:W=0\/W=1\/W=2\/W=3\/W=4:=by omega
  rcases this with rfl | rfl | rfl | rfl | rfl
  .exact⟨Rat.divInt 1 1,congrArg some (fl 1 1 (by decide +kernel) (by decide +kernel)),Sz.lit (by decide +kernel)⟩
  .exact⟨Rat.divInt 2 1,congrArg some (fl 2 1 (by decide +kernel) (by decide +kernel)),Sz.lit (by decide +kernel)⟩
  .exact⟨Rat.divInt 4 1,congrArg some (fl 4 1 (by decide +kernel) (by decide +kernel)),Sz.lit (by decide +kernel)⟩
  .exact⟨Rat.divInt 3 2,congrArg some (fl 3 2 (by decide +kernel) (by decide +kernel)),Sz.lit (by decide +kernel)⟩
  .exact⟨Rat.divInt 20 1,congrArg some (fl 20 1 (by decide +kernel) (by decide +kernel)),Sz.lit (by decide +kernel)⟩
 have bt:Bd 4 t:=ji (by omega);have bm:Bd 4 m:=ji (by omega);have lf:=T8 t m (some f2) (by omega) bm (by decide);have hsz:Sz 4 (Rat.divInt t m):=Sz.of_divInt (by omega) bt bm;have hp:0<Rat.divInt t m:=by
  rw[Tx,SD];exact SE (TF.mpr (by omega)) (UX.mpr (TF.mpr (by omega)))
 generalize Rat.divInt t m=hf at *;refine⟨hf,s,e,j,q,f6,n9 (s:=⟨[.v .feed,.v (fr hf),.v (G9 s),.v (J5 e),.v (ae j)],some f6⟩) ?_,⟨hp,hsz,sq.mono (by decide)⟩,h6⟩;show nG P5 LF ⟨[.v .feed,.no,.no,.no,.no],some f⟩=_;unfold j4;generalize G9 s=S at *;generalize J5 e=EE at *;generalize ae j=J at *;generalize fr q=M at *;have q2:(2:Nat)<=sizeLine:=by decide
 have q3:(3:Nat)<=sizeLine:=by decide
 have q4:(4:Nat)<=sizeLine:=by decide
 have q5:(5:Nat)<=sizeLine:=by decide
 have q7:(7:Nat)<=sizeLine:=by decide
 simp[nG,c9,B8,d7,a7,m8,dC,Zf,Zg,dL,dV,d6,j9,dB,f9,c8,a6,a9,i9,k9,j7,one,m6,l7,u4,w8,A5,B0,D4,D6,D2,m9,u7,o7,j6,r8,y9,t9,A3,B5,w6,D0,bF,U6,iL,lW,T3,U4,K4,q2,q3,q4,q5,q7,e1,ht,e2,hm,lf,e3,hs,e4,he,e5,hj,e6,hq]
abbrev IP:=Int × Int
def W8 (z:IP):Pt:=((z.1:Rat),(z.2:Rat))
def Cm (x:Int):Int:=if 0<x then 1 else -1
def B3 (q:IP × IP):Int × Int × Int × Int:=
 let dx:=q.2.1 - q.1.1
 let dy:=q.2.2 - q.1.2
 if dy=0 then (Cm dx,0,1,(dx.natAbs:Int)) else if dx=0 then (0,Cm dy,1,(dy.natAbs:Int)) else (dx,dy,5,5)
def pG (q:IP × IP):Bool:=decide (0<(B3 q).2.2.1/\(B3 q).2.2.1.natAbs<32/\(B3 q).1.natAbs<32/\(B3 q).2.1.natAbs<32/\(B3 q).1*(B3 q).1+(B3 q).2.1*(B3 q).2.1=(B3 q).2.2.1*(B3 q).2.2.1/\0<(B3 q).2.2.2/\(B3 q).2.2.2.natAbs<32/\(q.2.1 - q.1.1)*(B3 q).2.2.1=(B3 q).2.2.2*(B3 q).1/\(q.2.2 - q.1.2)*(B3 q).2.2.1=(B3 q).2.2.2*(B3 q).2.1/\q.1.1.natAbs<32/\q.1.2.natAbs<32/\q.2.1.natAbs<32/\q.2.2.natAbs<32)
def fv (q:IP × IP):Pce:=⟨W8 q.1,W8 q.2,(((B3 q).1:Rat) / ((B3 q).2.2.1:Rat),((B3 q).2.1:Rat) / ((B3 q).2.2.1:Rat)),((B3 q).2.2.2:Rat)⟩
def Dp {p q l L X:Int}(hl:(l:Rat)≠0) (h:(q - p)*l=L*X):(q:Rat)=(p:Rat)+(L:Rat)*((X:Rat) / (l:Rat)):=by
 have e:((q:Rat) - (p:Rat))*(l:Rat)=(L:Rat)*(X:Rat):=by
  have:=congrArg (fun i:Int=>(i:Rat)) h;simp only[SQ,Ue] at this;exact this
 rw[SD];have J:(l:Rat)*(l:Rat)⁻¹=1:=Vo _ hl;have:(L:Rat)*((X:Rat)*(l:Rat)⁻¹)=((q:Rat) - (p:Rat))*((l:Rat)*(l:Rat)⁻¹):=by
  rw[<-VG,<-e];grind
 rw[this,J];grind
def Ay (h:pG q=true):Pc (fv q).a (fv q).b (fv q).u (fv q).L:=by
 unfold pG at h;have h:=TQ h;obtain⟨W,l1,Y,y1,py,L0,L1,e1,Z,p1,p2,p3,p4⟩:=h;have lR:(0:Rat)<((B3 q).2.2.1:Rat):=TF.mpr W;have M:((B3 q).2.2.1:Rat)≠0:=by grind
 have J:∀{i:Int},i.natAbs<32->Sz 70 (i:Rat):=fun {i} hi=>(Sz.int (k:=5) hi (by decide)).mono (by decide)
 refine⟨⟨J p1,J p2⟩,⟨J p3,J p4⟩,⟨_,_,_,W,Y,y1,l1,rfl⟩,?_,TF.mpr L0,(Sz.int (k:=5) L1 (by decide)).mono (by decide),?_⟩
 .have U:((B3 q).1:Rat)*((B3 q).1:Rat)+((B3 q).2.1:Rat)*((B3 q).2.1:Rat)=((B3 q).2.2.1:Rat)*((B3 q).2.2.1:Rat):=by
   have:=congrArg (fun i:Int=>(i:Rat)) py;simp only[SQ,Vm] at this;exact this
  show ((B3 q).1:Rat) / ((B3 q).2.2.1:Rat)*(((B3 q).1:Rat) / ((B3 q).2.2.1:Rat))+((B3 q).2.1:Rat) / ((B3 q).2.2.1:Rat)*(((B3 q).2.1:Rat) / ((B3 q).2.2.1:Rat))=1;generalize ((B3 q).1:Rat)=x at *;generalize ((B3 q).2.1:Rat)=y at *;generalize ((B3 q).2.2.1:Rat)=l at *;rw[SD,SD];have ic:l*l⁻¹=1:=Vo _ M;have:x*l⁻¹*(x*l⁻¹)+y*l⁻¹*(y*l⁻¹)=(x*x+y*y)*(l⁻¹*l⁻¹):=by grind
  rw[this,U];grind
 .exact SU (Dp M e1) (Dp M Z)
def hZ (l:List IP):Bool:=decide (1<=l.length/\l.length<=12)&&(p8 true l).all pG&&(p8 true (p8 true l)).all fun q=>decide (q.1.2=q.2.1)
def Hw {l:List IP}(h:hZ l=true):LnE true (l.map W8) ((p8 true l).map fv):=by
 unfold hZ at h;rw[TK,TK,XN,XN,TH] at h;obtain⟨⟨⟨h1,h2⟩,h3⟩,W⟩:=h;have Z:=tj true l;rw[tx rfl,Vg h1] at Z;refine⟨?_,?_,by rw[Ss];omega,by rw[Ss];omega,by rw[Ss];omega,?_,?_⟩
 .rw[iH,TN];rfl
 .intro x Y;obtain⟨q,J,rfl⟩:=Tg.mp Y;exact Ay (h3 q J)
 .intro q J;rw[iH] at J;obtain⟨z,M,rfl⟩:=Tg.mp J;have:=TQ (W z M);show W8 z.1.2=W8 z.2.1;rw[this]
 .intro p hp;obtain⟨z,M,rfl⟩:=Tg.mp hp;obtain⟨k,hk⟩:=Xi M;have kl:=(Tn.mp hk).1;obtain⟨q,J⟩:∃q,(p8 true l)[k]? = some q:=⟨_,Tf (by omega)⟩
  have U:l[k]? = some q.1:=by
   unfold p8 at J;exact(VA.mp J).1
  rw[hk] at U;cases Tb U;exact(Ay (h3 q (TX J))).sa
abbrev M1:List IP:=[(0,0),(4,0),(8,3),(4,6),(0,6)]
abbrev M2:List IP:=[(0,0),(2,0),(2,1),(1,1),(1,2),(0,2)]
abbrev M3:List IP:=[(0,0),(3,0),(3,1),(2,1),(2,2),(1,2),(1,3),(0,3)]
def Fs:∀M∈[M1,M2,M3],∀r∈List.range M.length,hZ (M.drop r++M.take r)=true/\hZ (M.drop r++M.take r).reverse=true:=by decide +kernel
def Rh:∀M∈[M1,M2,M3],5<=M.length/\M.length<=8:=by decide
def tD (z:IP):D:=.tup [.int z.1,.int z.2]
abbrev cT:a8:=zk P5
def IS {n:Nat}(h:Fd n f) (hn:n<2 ^ 28):∃ps es f',cT [.feed] (some f)=some (o8 true ps,some f')/\LnE true ps es/\Fd (n+3) f':=by
 obtain⟨W,f1,e1,a1,a2,h1⟩:=K8 3 h;obtain⟨M,hM,iM⟩:∃M∈[M1,M2,M3],v8 [D.lst (M1.map tD),D.lst (M2.map tD),D.lst (M3.map tD)] W=some (.lst (M.map tD)):=by
  have:W=0\/W=1\/W=2:=by omega
  rcases this with rfl | rfl | rfl
  .exact⟨M1,by simp,rfl⟩
  .exact⟨M2,by simp,rfl⟩
  .exact⟨M3,by simp,rfl⟩
 obtain⟨ml,mh⟩:=Rh M hM;obtain⟨r2,U,e2,b1,b2,h2⟩:=K8 (M.length:Int) h1 (by omega) (by omega) (by omega);obtain⟨k,rfl⟩:∃k:Nat,r2=(k:Int):=⟨r2.toNat,by omega⟩
 have kl:k<M.length:=by omega
 obtain⟨o1,o2⟩:=Fs M hM k (Wm.mpr kl);have hl:(M.drop k++M.take k).length=M.length:=by rw[SG,Tq,Tp];omega
 obtain⟨r3,J,e3,c1,c2,h3⟩:=K8 2 h2 (by decide) (by omega) (by decide);obtain⟨N,oN,lN,iN⟩:∃N:List IP,hZ N=true/\N.length=M.length/\v8 [D.lst ((M.drop k++M.take k).map tD),D.lst ((M.drop k++M.take k).map tD).reverse] r3=some (.lst (N.map tD)):=by
  have:r3=0\/r3=1:=by omega
  rcases this with rfl | rfl
  .exact⟨_,o1,hl,rfl⟩
  .exact⟨_,o2,by rw[UQ];exact hl,by rw[Xe];rfl⟩
 refine⟨N.map W8,(p8 true N).map fv,J,?_,Hw oN,h3⟩;have cm:C2 (dM [] [.v .feed,.v (.lst [D.lst (M1.map tD),D.lst (M2.map tD),D.lst (M3.map tD)]),.v (.lst ((M.drop k++M.take k).map tD)),.v (.int (k:Int))]) E3 (i9 (a6 (dV 0) (a6 (dV 1) (a6 (Zf 1) a9)))) (N.map tD) (some J)=some (N.map (fun z=>pt (W8 z)),some J):=
  bX (some J) N fun z _=>⟨_,_,rfl,(Z2 rfl rfl rfl).trans (by rw[show pt (W8 z) = .tup [.int z.1,.int z.2,.int 1] from yc z.1 z.2]),rfl⟩
 have Y:∀x1,C2 (dM [] [.v .feed,x1,.v (.lst ((M.drop k++M.take k).map tD)),.v (.int (k:Int))]) E3 (i9 (a6 (dV 0) (a6 (dV 1) (a6 (Zf 1) a9)))) (N.map tD) (some J)=some (N.map (fun z=>pt (W8 z)),some J):=fun x1=>
  bX (some J) N fun z _=>⟨_,_,rfl,(Z2 rfl rfl rfl).trans (by rw[show pt (W8 z) = .tup [.int z.1,.int z.2,.int 1] from yc z.1 z.2]),rfl⟩
 have mm:(N.map W8).map pt=N.map fun z=>pt (W8 z):=by rw[TN];rfl
 have Z:m9 (.lst (E5 (M.map tD) (some (k:Int)) none)) (.lst (E5 (M.map tD) none (some (k:Int))))=some (.lst ((M.drop k++M.take k).map tD)):=by
  rw[rB _ k (by rw[Ss];omega),sW _ k (by rw[Ss];omega)];show (if ((M.map tD).drop k).length+((M.map tD).take k).length<=sizeLine then some (D.lst ((M.map tD).drop k++(M.map tD).take k)) else none)=_;rw[tx (SI (by rw[Tq,Tp,Ss];omega:_<=100) (by decide)),Tj,VD,Wb]
 generalize hR:(M.drop k++M.take k).map tD=RT at *;have ml':(M.map tD).length=M.length:=Ss ..;generalize hMD:M.map tD=MD at *;unfold o8;rw[mm];refine n9 (s:=⟨[.v .feed,.own [D.lst (M1.map tD),D.lst (M2.map tD),D.lst (M3.map tD)],.v (.lst RT),.v (.int (k:Int))],some J⟩) ?_;show rA P5 ⟨[.v .feed,.no,.no,.no],some f⟩=_;unfold rA;rw[d8 (s1:=⟨[.v .feed,.own [D.lst (M1.map tD),D.lst (M2.map tD)],.no,.no],some f⟩) rfl];rw[d8 (s1:=⟨[.v .feed,.own [D.lst (M1.map tD),D.lst (M2.map tD),D.lst (M3.map tD)],.no,.no],some f⟩) rfl];generalize [D.lst (M1.map tD),D.lst (M2.map tD),D.lst (M3.map tD)]=MM at *;rw[d8 (s1:=⟨[.v .feed,.own MM,.v (.lst MD),.no],some f1⟩) (k6 (c6 (x:=.lst MM) rfl (U3 rfl e1) ((U6 _ _).trans iM)) rfl)];have len:j7 (one r8) (a6 (dL 2) a9) ⟨[.v .feed,.own MM,.v (.lst MD),.no],some f1⟩=some (.int (M.length:Int),⟨[.v .feed,.own MM,.v (.lst MD),.no],some f1⟩):=
  F8 (x:=.lst MD) rfl (by show some (D.int (MD.length:Nat))=_;rw[ml'])
 rw[d8 (s1:=⟨[.v .feed,.own MM,.v (.lst MD),.v (.int (k:Int))],some U⟩) (k6 (U3 (j3 rfl (j3 len rfl)) e2) rfl)];rw[d8 (s1:=⟨[.v .feed,.own MM,.v (.lst RT),.v (.int (k:Int))],some U⟩) (k6 (c6 (x:=.lst (E5 MD (some (k:Int)) none)) (y:=.lst (E5 MD none (some (k:Int)))) (s1:=⟨[.v .feed,.own MM,.v (.lst MD),.v (.int (k:Int))],some U⟩) (s2:=⟨[.v .feed,.own MM,.v (.lst MD),.v (.int (k:Int))],some U⟩) rfl rfl Z) rfl)];have itm:G5 (a7 b0 (m6 (l7 (a6 (dV 2) (a6 (lS (dL 2) (m8 o7 (Zf 1))) a9)))) (c8 P5 (a6 (dV 0) (a6 (Zf 2) a9)))) ⟨[.v .feed,.own MM,.v (.lst RT),.v (.int (k:Int))],some U⟩=some (N.map tD,⟨[.v .feed,.own MM,.v (.lst RT),.v (.int (k:Int))],some J⟩):=by
  have q:=c6 (p:=b0) (s:=⟨[.v .feed,.own MM,.v (.lst RT),.v (.int (k:Int))],some U⟩) (a:=m6 (l7 (a6 (dV 2) (a6 (lS (dL 2) (m8 o7 (Zf 1))) a9)))) (b:=c8 P5 (a6 (dV 0) (a6 (Zf 2) a9))) (U0 (mM (x:=.lst RT) (y:=.lst RT.reverse) rfl rfl)) (U3 (sl:=[.v .feed,.own MM,.v (.lst RT),.v (.int (k:Int))]) rfl e3) ((U6 _ _).trans iN);unfold G5;rw[q];rfl
 exact p9 (X4 (s1:=⟨[.v .feed,.own MM,.v (.lst RT),.v (.int (k:Int))],some U⟩) rfl (F8 (U0 (CM itm (by rw[Ss];exact SI (by omega:N.length<=100) (by decide)) (Y _))) rfl))
def JK (s:Sd):Ok 0 10 (G9 s):=by
 cases s
 .exact(Ok.str (x := "both") (by decide +kernel)).mono (by decide) (by decide)
 .exact(Ok.str (x := "left") (by decide +kernel)).mono (by decide) (by decide)
 .exact(Ok.str (x := "right") (by decide +kernel)).mono (by decide) (by decide)
def Qf (s:En):Ok 0 10 (J5 s):=by
 cases s
 .exact(Ok.str (x := "cut") (by decide +kernel)).mono (by decide) (by decide)
 .exact(Ok.str (x := "square") (by decide +kernel)).mono (by decide) (by decide)
 .exact(Ok.str (x := "round") (by decide +kernel)).mono (by decide) (by decide)
def Es (s:Jn):Ok 0 10 (ae s):=by
 cases s
 .exact(Ok.str (x := "cut") (by decide +kernel)).mono (by decide) (by decide)
 .exact(Ok.str (x := "pointed") (by decide +kernel)).mono (by decide) (by decide)
 .exact(Ok.str (x := "round") (by decide +kernel)).mono (by decide) (by decide)
def PF {h m:Rat}(R:RuS h m) (s:Sd) (n:En) (j:Jn):Ok 2 60 (j4 h s n j m):=
 (Ok.tup (OkL.cons (Ok.fr R.sh) (OkL.cons (JK s) (OkL.cons (Qf n) (OkL.cons (Es j) (OkL.cons (Ok.fr R.sm) OkL.nil)))))).mono (by decide) (by decide)
def QX {ps:vT_}(L:LnE c ps es):Ok 3 60 (o8 c ps):=by
 have p:=uc (k:=140) (fun z J=>(L.sz z J).ps);have:=L.pl;exact(Ok.tup (OkL.cons (Ok.bl c) (OkL.cons p OkL.nil))).mono (by decide) (by omega)
def QI {ps:vT_}(L:LnE c ps es) {h m:Rat}(R:RuS h m) (s:Sd) (n:En) (j:Jn):Ok 4 200 (.tup [o8 c ps,j4 h s n j m]):=
 (Ok.tup (OkL.cons (QX L) (OkL.cons (PF R s n j) OkL.nil))).mono (by decide) (by decide)
def Qw (h m:Rat) (s:Sd) (n J:En) (j:Jn):(m9 (.tup (E5 [fr h,G9 s,J5 n,ae j,fr m] none (some 2))) (.tup [J5 J])).bind (fun x=>m9 x (.tup (E5 [fr h,G9 s,J5 n,ae j,fr m] (some 3) none)))=some (j4 h s J j m):=by
 rw[show (2:Int)=((2:Nat):Int) from rfl,show (3:Int)=((3:Nat):Int) from rfl,sW _ 2 (by show 2<=5;decide),rB _ 3 (by show 3<=5;decide)];rfl
section
variable {mW mL mR mO mG mF:a8}
abbrev kS (x0 ln rl x4 x5 x6 x7:Sl) (fs:vO_):DS:=⟨[x0,.v .feed,ln,rl,x4,x5,x6,x7],fs⟩
def Lp {J res:D}{h m:Rat}{fs:vO_}(U M Y W:Sl) (eW:mW [J,j4 h s n' j m] fs=some (res,fs)) (eL:mL [J,j4 h s n' j m] fs=some (res,fs)) (o1:T6 res=some (.str z1)) (Z:T6 (.tup [J,j4 h s n' j m])=some (.str z2)) :
  jG mW mL mR mO mG mF (kS U (.v J) (.v (j4 h s n j m)) M (.v (J5 n')) Y W fs)=some (.next,kS U (.v J) (.v (j4 h s n j m)) M (.v (J5 n')) (.v (j4 h s n' j m)) (.v (.str z2)) fs):=by
 have he:=Qw h m s n n' j;obtain⟨y,y1,y2⟩:=UN.mp he;unfold jG;rw[d8 (s1:=kS U (.v J) (.v (j4 h s n j m)) M (.v (J5 n')) (.v (j4 h s n' j m)) W fs) (k6 (c6 (s1:=kS U (.v J) (.v (j4 h s n j m)) M (.v (J5 n')) Y W fs) (c6 (s1:=kS U (.v J) (.v (j4 h s n j m)) M (.v (J5 n')) Y W fs) rfl rfl y1) rfl y2) rfl)];generalize j4 h s n' j m=R2 at *;rw[d8 (s1:=kS U (.v J) (.v (j4 h s n j m)) M (.v (J5 n')) (.v R2) (.v (.str z2)) fs) (k6 (F8 (X4 rfl rfl) Z) rfl)];exact K0 (cz (u6 (c6 (F8 (i7 rfl eW) o1) (F8 (i7 rfl eL) o1) (oP z1))) (u6 (c6 (F8 (X4 rfl rfl) Z) rfl (oP z2))))
end
abbrev ym:DM:=gn fu cP dk cO cT bD
abbrev zB:DM:=jG fu cP dk cO cT bD
def Rx {ps:vT_}(L:LnE c ps es) {h m:Rat}(R:RuS h m) (s:Sd) (n J:En) (j:Jn) (fs:vO_) (U M Y W:Sl):∃y6 y7,zB (kS U (.v (o8 c ps)) (.v (j4 h s n j m)) M (.v (J5 J)) Y W fs)=some (.next,kS U (.v (o8 c ps)) (.v (j4 h s n j m)) M (.v (J5 J)) y6 y7 fs):=
 ⟨_,_,Lp (mR:=dk) (mO:=cO) (mG:=cT) (mF:=bD) U M Y W (zN s J j L R fs) (Bk s J j L R fs) ((DJ s J j L R).repr (by decide) (by decide)) ((QI L R s J j).repr (by decide) (by decide))⟩
theorem BQ {ps:vT_}(L:LnE c ps es) {h m:Rat}(R:RuS h m) (s:Sd) (n:En) (j:Jn) (fs:vO_) (M J:Sl):∀(ns:List En) (x5 x6 x7:Sl),∃y5 y6 y7,C4 (d6 5) zB (ns.map J5) (kS M (.v (o8 c ps)) (.v (j4 h s n j m)) J x5 x6 x7 fs)=some (.next,kS M (.v (o8 c ps)) (.v (j4 h s n j m)) J y5 y6 y7 fs)
 |[],x5,x6,x7=>⟨x5,x6,x7,rfl⟩
 |n'::r,x5,x6,x7=>by
  obtain⟨Y,U,e⟩:=Rx L R s n n' j fs M J x6 x7;obtain⟨y5,y6,y7,W⟩:=BQ L R s n j fs M J r (.v (J5 n')) Y U;refine⟨y5,y6,y7,?_⟩;rw[SN,W9 (s1:=kS M (.v (o8 c ps)) (.v (j4 h s n j m)) J (.v (J5 n')) x6 x7 fs) rfl e,W]
def Kg {n:Nat}(h:Fd n f) (hn:n<2 ^ 26):∃ps es f',cO [.feed,.int 2] (some f)=some (o8 false ps,some f')/\LnE false ps es/\Fd (n+100) f':=by
 obtain⟨p,M,e0,Y,h0⟩:=Jw h (by omega);obtain⟨r,f1,e1,r1,r2,h1⟩:=K8 1 h0;have r0:r=0:=by omega
 subst r0;obtain⟨w,J,e2,W,h2⟩:=KN h1 (by omega);have g:=gm p w.1 w.2.1 (some J) Y.x Y.y W.x W.y (by decide);have Z:PtS 70 (p.1+w.1,p.2+w.2.1):=⟨(Y.x.add W.x).mono (by decide),(Y.y.add W.y).mono (by decide)⟩
 have z0:PtS 70 p:=Y.mono (by decide);have P:=KP W z0 Z rfl;refine⟨[p,(p.1+w.1,p.2+w.2.1)],[⟨p,(p.1+w.1,p.2+w.2.1),uW w,w.2.2⟩],J,?_,⟨rfl,fun x hx=>by rw[SJ.mp hx];exact P,by show 1<=1;decide,by show 1<=12;decide,by show 2<=12;decide,fun q U=>(by cases U),fun q U=>?_⟩,h2.mono (by omega)⟩
 .refine n9 (s:=⟨[.v .feed,.v (.int 2),.own [pt p,pt (p.1+w.1,p.2+w.2.1)],.own [L4 w],.v (.int 0),.v (L4 w)],some J⟩) ?_;show jy km LG P5 F4 gW iW ⟨[.v .feed,.v (.int 2),.no,.no,.no,.no],some f⟩=_;unfold jy;rw[d8 (s1:=⟨[.v .feed,.v (.int 2),.own [pt p],.no,.no,.no],some M⟩) (Q7 (s1:=⟨[.v .feed,.v (.int 2),.no,.no,.no,.no],some M⟩) (Ec (U3 rfl e0)) (show 2<6 by decide))];rw[d8 (s1:=⟨[.v .feed,.v (.int 2),.own [pt p],.own [],.no,.no],some M⟩) (Q7 (s1:=⟨[.v .feed,.v (.int 2),.own [pt p],.no,.no,.no],some M⟩) rfl (show 3<6 by decide))];have rg:(a6 (a7 m9 (Zf 1) (c8 P5 (a6 (dV 0) (a6 (a7 u7 (dL 1) (Zf 1)) a9)))) a9) ⟨[.v .feed,.v (.int 2),.own [pt p],.own [],.no,.no],some M⟩=some ([.int ((1:Nat):Int)],⟨[.v .feed,.v (.int 2),.own [pt p],.own [],.no,.no],some f1⟩):=
   A0 (c6 rfl (U3 (A0 rfl (A0 (c6 rfl rfl rfl) rfl)) e1) rfl) rfl
  have B:nu km LG P5 F4 gW iW ⟨[.v .feed,.v (.int 2),.own [pt p],.own [],.v (.int 0),.no],some f1⟩=some (.next,⟨[.v .feed,.v (.int 2),.own [pt p,pt (p.1+w.1,p.2+w.2.1)],.own [L4 w],.v (.int 0),.v (L4 w)],some J⟩):=by
   unfold nu;rw[d8 (s1:=⟨[.v .feed,.v (.int 2),.own [pt p],.own [],.v (.int 0),.v (L4 w)],some J⟩) (k6 (U3 rfl e2) rfl)];rw[d8 (s1:=⟨[.v .feed,.v (.int 2),.own [pt p],.own [],.v (.int 0),.v (L4 w)],some J⟩) (K0 (dW (u6 (c6 (x:=.lst []) (y:=.lst []) rfl rfl rfl))))];rw[E6 (s1:=⟨[.v .feed,.v (.int 2),.own [pt p],.own [],.v (.int 0),.v (L4 w)],some J⟩) (iE (u6 (c6 (x:=.lst []) (y:=.lst []) rfl rfl rfl)))];rw[d8 (s1:=⟨[.v .feed,.v (.int 2),.own [pt p],.own [L4 w],.v (.int 0),.v (L4 w)],some J⟩) (Q2 (i:=3) (s:=⟨[.v .feed,.v (.int 2),.own [pt p],.own [],.v (.int 0),.v (L4 w)],some J⟩) (s1:=⟨[.v .feed,.v (.int 2),.own [pt p],.own [],.v (.int 0),.v (L4 w)],some J⟩) (ds:=[]) (ds0:=[]) (d:=L4 w) (f:=dV 5) rfl rfl rfl (by decide))];exact Q2 (i:=2) (s:=⟨[.v .feed,.v (.int 2),.own [pt p],.own [L4 w],.v (.int 0),.v (L4 w)],some J⟩) (s1:=⟨[.v .feed,.v (.int 2),.own [pt p],.own [L4 w],.v (.int 0),.v (L4 w)],some J⟩) (ds:=[pt p]) (ds0:=[pt p]) (d:=pt (p.1+w.1,p.2+w.2.1)) rfl (i7 (j3 (c6 (x:=.lst [pt p]) (y:=.int (-1)) rfl rfl rfl) (j3 (c6 (x:=L4 w) rfl rfl rfl) (j3 (c6 (x:=L4 w) rfl rfl rfl) rfl))) g) rfl (by show 1<sizeLine;decide)
  have lp:C4 (d6 4) (nu km LG P5 F4 gW iW) (P7 0 1) ⟨[.v .feed,.v (.int 2),.own [pt p],.own [],.no,.no],some f1⟩=some (.next,⟨[.v .feed,.v (.int 2),.own [pt p,pt (p.1+w.1,p.2+w.2.1)],.own [L4 w],.v (.int 0),.v (L4 w)],some J⟩):=by
   show C4 (d6 4) _ [.int 0] _=_;rw[W9 (s1:=⟨[.v .feed,.v (.int 2),.own [pt p],.own [],.v (.int 0),.no],some f1⟩) rfl B];rfl
  rw[d8 ((jv rg (gH (n:=1) (by decide))).trans lp)];exact p9 (X4 rfl (F8 rfl rfl))
 .rcases Sv.mp U with rfl | U
  .exact z0
  .rw[SJ.mp U];exact Z
def Mg {n:Nat}(h:Fd n f) (hn:n<2 ^ 20) (M x2 x3 J Y W U:Sl):∃y2 y3 y5 y6 y7 f',ym (kS M x2 x3 J Y W U (some f))=some (.next,kS M y2 y3 J y5 y6 y7 (some f'))/\Fd (n+106) f':=by
 obtain⟨ps,es,f1,e1,L,h1⟩:=Kg h (by omega);obtain⟨hf,s,nn,j,m,Z,e2,R,h2⟩:=zZ h1 (by omega);obtain⟨y5,y6,y7,lp⟩:=BQ L R s nn j (some Z) M J [.cut,.square,.round] Y W U;refine⟨.v (o8 false ps),.v (j4 hf s nn j m),y5,y6,y7,Z,?_,h2⟩;show gn fu cP dk cO cT bD _=_;unfold gn;rw[d8 (s1:=kS M (.v (o8 false ps)) x3 J Y W U (some f1)) (k6 (U3 rfl e1) rfl)];rw[d8 (s1:=kS M (.v (o8 false ps)) (.v (j4 hf s nn j m)) J Y W U (some Z)) (k6 (U3 rfl e2) rfl)];exact(cy (s1:=kS M (.v (o8 false ps)) (.v (j4 hf s nn j m)) J Y W U (some Z)) (ds:=[En.cut,.square,.round].map J5) rfl).trans lp
def Kr {mW mL mR mO mG mF:a8}{J:List Int}{Y f1 M Z:FS}{W U res:D}(e0:mF [.scr J] none=some (.feed,some Y)) (e1:mG [.feed] (some Y)=some (W,some f1)) (e2:mR [.feed] (some f1)=some (U,some M))
  (eW:mW [W,U] (some M)=some (res,some M)) (eL:mL [W,U] (some M)=some (res,some M)) (o:T6 res=some (.str z))
  (e:C4 (d6 4) (gn mW mL mR mO mG mF) (P7 0 4) (kS (.v (.scr J)) (.v W) (.v U) .no .no .no .no (some M))=some (.next,kS (.v (.scr J)) y2 y3 y4 y5 y6 y7 (some Z))):me mW mL mR mO mG mF [.scr J] none=some (.bl true,some Z):=by
 refine n9 (s:=kS (.v (.scr J)) y2 y3 y4 y5 y6 y7 (some Z)) ?_;show kb mW mL mR mO mG mF ⟨[.v (.scr J),.no,.no,.no,.no,.no,.no,.no],none⟩=_;unfold kb;rw[d8 (s1:=kS (.v (.scr J)) .no .no .no .no .no .no (some Y)) (k6 (U3 rfl e0) rfl)];rw[d8 (s1:=kS (.v (.scr J)) (.v W) (.v U) .no .no .no .no (some M)) (qg (A0 (U3 rfl e1) (A0 (U3 rfl e2) rfl)) rfl)];rw[d8 (s1:=kS (.v (.scr J)) (.v W) (.v U) .no .no .no .no (some M)) (K0 (u6 (c6 (s1:=kS (.v (.scr J)) (.v W) (.v U) .no .no .no .no (some M)) (F8 (i7 rfl eW) o) (F8 (i7 rfl eL) o) (oP z))))];rw[d8 ((jv rfl (gH (n:=4) (by decide))).trans e)];exact p9 rfl
def math (J:List Int) (hl:J.length<=63):∃fs',me fu cP dk cO cT bD [.scr J] none=some (.bl true,fs'):=by
 obtain⟨ps,es,f1,e1,L,h1⟩:=IS (Fd.zero J) (by decide);obtain⟨hf,s,nn,j,m,f2,e2,R,h2⟩:=zZ h1 (by decide);obtain⟨s',e,U,Z,x4,Y,W,M,f',rfl,hf'⟩:=jh (t:=d6 4) (b:=ym) (fun i st=>∃U Z x4 Y W M f,st=kS (.v (.scr J)) U Z x4 Y W M (some f)/\Fd (9+106*i) f) (P7 0 4) 0
  (kS (.v (.scr J)) (.v (o8 true ps)) (.v (j4 hf s nn j m)) .no .no .no .no (some f2)) ⟨_,_,_,_,_,_,f2,rfl,h2⟩ (by
   rintro i d st hd ⟨U,Z,x4,Y,W,M,f,rfl,hf⟩;obtain⟨rfl,hi⟩:=jZ hd;rw[Ur] at hf;obtain⟨y2,y3,y5,y6,y7,f',e,h'⟩:=Mg hf (by omega) (.v (.scr J)) U Z (.v (.int (0+(i:Int)))) Y W M;exact⟨_,_,rfl,.inl e,_,_,_,_,_,_,f',rfl,h'.mono (by omega)⟩)
 exact⟨_,Kr (Fm J hl) e1 e2 (zN s nn j L R (some f2)) (Bk s nn j L R (some f2)) ((DJ s nn j L R).repr (by decide) (by decide)) e⟩
end T
namespace T
open PySem PySem.Spec L2 DL
local macro_rules | `(tactic| wtm_at "c")=>`(tactic| first | with_reducible exact ND | with_reducible exact Ju | with_reducible exact JT | with_reducible exact Qr | with_reducible exact Pk | with_reducible exact PY | (with_reducible apply Li);exact zi (by assumption) | (with_reducible apply EX);exact zi (by assumption))
local macro_rules | `(tactic| wtm_at "o")=>`(tactic| first | with_reducible exact uf | with_reducible exact Ke | with_reducible exact Nk | with_reducible exact Ql | with_reducible exact RZ | with_reducible exact HW | with_reducible exact mJ)
local macro_rules | `(tactic| wtm_at "q")=>`(tactic| first | with_reducible exact yS | with_reducible exact QC | with_reducible exact Rm | with_reducible exact Ng | with_reducible exact OS | with_reducible exact KG | with_reducible exact oz)
local macro_rules | `(tactic| wtm_at "r")=>`(tactic| first | with_reducible exact Gb _ | with_reducible exact FV | with_reducible exact KA | with_reducible exact Rb | with_reducible exact LJ)
local macro_rules | `(tactic| wtm_at "k")=>`(tactic| first | with_reducible exact Ie | with_reducible exact HE | with_reducible exact HS | with_reducible exact iw | (focus (with_reducible apply FZ);exact Lk (by assumption);exact(by assumption:Room _ _).gd))
local macro_rules | `(tactic| wtm_at "m")=>`(tactic| first | with_reducible exact LO | with_reducible exact HH | with_reducible exact JJ | with_reducible exact gq | with_reducible exact Pr)
local macro_rules | `(tactic| wtm_at "b")=>`(tactic| first | exact Blt.abs (by assumption) | exact Blt.int (by assumption) | exact Blt.len (by assumption) | exact Blt.list (by assumption) | exact Blt.range (by assumption) | exact Blt.repr (by assumption) | exact Blt.reversed (by assumption) | exact Blt.tuple (by assumption) | exact Blt.zip (by assumption))
local macro_rules | `(tactic| wtm_at "t")=>`(tactic| first | exact FE | exact NS | exact MP | exact tK | exact GL | exact ij)
local macro_rules | `(tactic| wtm_at "n")=>`(tactic| first | exact fT | (refine cK ?_);wtm_at "n")
local macro_rules | `(tactic| wtm_at "l")=>`(tactic| first | exact Or.inl rfl | exact Or.inr rfl)
local macro_rules | `(tactic| wtm_at "x")=>`(tactic| first | exact rfl | exact Or.inl rfl | exact Or.inr rfl | decide | (intro _;rfl))
local macro_rules | `(tactic| wtm_at "S")=>`(tactic| first | (focus (with_reducible apply gU);all_goals wtm_at "x") | (focus (with_reducible apply U1);wtm_at "s";all_goals wtm_at "x") | (focus (with_reducible apply B9);wtm_at "s";wtm_at "S";all_goals wtm_at "x"))
local macro_rules | `(tactic| wtm_at "s")=>`(tactic| first | (focus (with_reducible apply CT);assumption;exact rfl;wtm_at "l";wtm_at "E";all_goals wtm_at "x") | (focus (with_reducible apply W4);wtm_at "E";all_goals wtm_at "x") | (focus (with_reducible apply gx);wtm_at "T";wtm_at "S";wtm_at "S";all_goals wtm_at "x") | (focus (with_reducible apply OC);wtm_at "E";wtm_at "G";all_goals wtm_at "x") | (focus (with_reducible apply IE);exact pv _;wtm_at "E";all_goals wtm_at "x") | (focus (with_reducible apply Et);assumption;exact rfl;wtm_at "l";wtm_at "F";all_goals wtm_at "x") | (focus (with_reducible apply Cz);exact VH;exact rfl;wtm_at "E";wtm_at "G";wtm_at "S";all_goals wtm_at "x") | (focus (with_reducible apply xn);exact VH;wtm_at "T";wtm_at "S";all_goals wtm_at "x") | (focus (with_reducible apply Gp);exact VH;exact rfl;exact rfl;exact Blt.range (by assumption);wtm_at "E";wtm_at "G";wtm_at "S";all_goals wtm_at "x") | (focus (with_reducible apply KS);exact tf (by assumption);exact pv _;wtm_at "E";all_goals wtm_at "x") | (focus (with_reducible apply Ms);exact rfl;assumption;exact rfl;exact rfl;decide;exact rfl;exact rfl;wtm_at "A";exact rfl;all_goals wtm_at "x") | (focus (with_reducible apply GB);exact pv _;all_goals wtm_at "x"))
local macro_rules | `(tactic| wtm_at "B")=>`(tactic| first | (focus (with_reducible apply mK);exact pv _;all_goals wtm_at "x") | (focus (with_reducible apply EO.b);wtm_at "E";all_goals wtm_at "x"))
local macro_rules | `(tactic| wtm_at "E")=>`(tactic| first | (focus (with_reducible apply U5);exact pv _;all_goals wtm_at "x") | (focus (with_reducible apply RP);all_goals wtm_at "x") | (focus (with_reducible apply uh);exact ve;exact vw;wtm_at "B";wtm_at "B";exact fun _ _=>rfl;all_goals wtm_at "x") | (focus (with_reducible apply Ds);rotate_left;wtm_at "q";rotate_right;wtm_at "o";wtm_at "B";wtm_at "B";all_goals wtm_at "x") | (focus (with_reducible apply gv);assumption;assumption;(first | decide | exact Su _ | exact SI (by decide) (Nat.le_add_right _ _));exact rfl;wtm_at "A";wtm_at "n";all_goals wtm_at "x") | (focus (with_reducible apply xU);wtm_at "A";all_goals wtm_at "x") | (focus (with_reducible apply OX);decide +kernel;all_goals wtm_at "x") | (focus (with_reducible apply PD);all_goals wtm_at "x") | (focus (with_reducible apply tZ);all_goals wtm_at "x") | (focus (with_reducible apply Oh);exact Nd;exact Jf;wtm_at "B";all_goals wtm_at "x") | (focus (with_reducible apply FO.v);wtm_at "F";all_goals wtm_at "x") | (focus (with_reducible apply PU);rotate_left;wtm_at "r";rotate_right;wtm_at "c";wtm_at "B";wtm_at "B";(first | exact BB _ | exact rfl);all_goals wtm_at "x") | (focus (with_reducible apply Qu);wtm_at "T";wtm_at "E";wtm_at "E";all_goals wtm_at "x") | (focus (with_reducible apply Cv);wtm_at "B";wtm_at "O";wtm_at "O";all_goals wtm_at "x") | (focus (with_reducible apply LY);wtm_at "E";all_goals wtm_at "x") | (focus (with_reducible apply Ek);assumption;exact rfl;all_goals wtm_at "x") | (focus (with_reducible apply GG);rotate_left;wtm_at "m";rotate_right;wtm_at "k";exact rfl;wtm_at "b";wtm_at "t";wtm_at "a";all_goals wtm_at "x") | (focus (with_reducible apply gy);rotate_left;wtm_at "m";rotate_right;wtm_at "k";exact rfl;wtm_at "b";wtm_at "t";wtm_at "a";all_goals wtm_at "x") | (focus (with_reducible apply Ki);exact tf (by assumption);exact pv _;all_goals wtm_at "x") | (focus (with_reducible apply HM);wtm_at "E";all_goals wtm_at "x") | (focus (with_reducible apply Gf);wtm_at "E";wtm_at "E";all_goals wtm_at "x") | (focus (with_reducible apply Fn);wtm_at "E";wtm_at "E";all_goals wtm_at "x"))
local macro_rules | `(tactic| wtm_at "A")=>`(tactic| first | (focus (with_reducible apply ac);wtm_at "E";wtm_at "A";all_goals wtm_at "x") | (focus (with_reducible apply cD);all_goals wtm_at "x"))
local macro_rules | `(tactic| wtm_at "a")=>`(tactic| first | (focus (with_reducible apply bc);wtm_at "B";wtm_at "a";all_goals wtm_at "x") | (focus (with_reducible apply iG);all_goals wtm_at "x"))
local macro_rules | `(tactic| wtm_at "T")=>`(tactic| first | (focus (with_reducible apply QV);rotate_left;wtm_at "r";rotate_right;wtm_at "c";wtm_at "B";wtm_at "B";(first | exact BB _ | exact rfl);all_goals wtm_at "x") | (focus (with_reducible apply WO.t);wtm_at "W";all_goals wtm_at "x") | (focus (with_reducible apply FA);wtm_at "T";all_goals wtm_at "x") | (focus (with_reducible apply Ab);wtm_at "B";all_goals wtm_at "x"))
local macro_rules | `(tactic| wtm_at "W")=>`(tactic| first | (focus (with_reducible apply wV);wtm_at "T";wtm_at "W";all_goals wtm_at "x") | (focus (with_reducible apply CF);wtm_at "T";all_goals wtm_at "x") | (focus (with_reducible apply QE);wtm_at "T";wtm_at "W";all_goals wtm_at "x") | (focus (with_reducible apply IL);wtm_at "T";all_goals wtm_at "x"))
local macro_rules | `(tactic| wtm_at "O")=>`(tactic| first | (focus (with_reducible apply AX);all_goals wtm_at "x") | (focus (with_reducible apply Ra);wtm_at "B";all_goals wtm_at "x"))
local macro_rules | `(tactic| wtm_at "F")=>`(tactic| first | (focus (with_reducible apply vf);wtm_at "A";all_goals wtm_at "x") | (focus (with_reducible apply oF);rotate_left;wtm_at "q";rotate_right;wtm_at "o";wtm_at "B";wtm_at "B";all_goals wtm_at "x"))
local macro_rules | `(tactic| wtm_at "G")=>`(tactic| first | (focus (with_reducible apply MK);wtm_at "h";all_goals wtm_at "x") | (focus (with_reducible apply Si);exact rfl;wtm_at "g";all_goals wtm_at "x"))
local macro_rules | `(tactic| wtm_at "h")=>`(tactic| first | (focus (with_reducible apply O5);assumption;exact rfl;wtm_at "l";all_goals wtm_at "x"))
local macro_rules | `(tactic| wtm_at "g")=>`(tactic| first | (focus (with_reducible apply Nw);wtm_at "G";wtm_at "g";all_goals wtm_at "x") | (focus (with_reducible apply Kk);all_goals wtm_at "x"))
local macro_rules | `(tactic| wtm_at "R")=>`(tactic| first | (refine U1 ?_;wtm_at "s") | (refine B9 ?_ ?_;wtm_at "s";wtm_at "S"))
local macro_rules | `(tactic| wtm_at "p")=>`(tactic| first | exact fun _ _ _ _ _ _=>EI fun _=>rfl | exact fun _ _ _ _ _ _=>nR fun _ _=>rfl | exact fun _ _ _ _ _ _=>MF fun _ _ _=>rfl | exact fun _ _ _ _ _ _=>MJ fun _ _ _ _=>rfl | exact fun _ _ _ _ _ _=>on5 fun _ _ _ _ _=>rfl | exact fun _ _ _ _ _ _=>on0 rfl)
local macro_rules | `(tactic| wtm_at "f")=>`(tactic| exact⟨rfl,rfl,rfl,by decide +kernel,rfl,by decide +kernel,by decide +kernel⟩)
local macro_rules | `(tactic| wtm_at "M")=>`(tactic| (intro nd _ _ _ _ _ _ _ hr;wtm_at "R"))
def top (i:Nat):Stmt:=PySem.Challenge.pw_widelines_k13_strips_and_ends.main.body.getD i (.Pass ⟨0,0,0,0⟩)
section
variable (P:Program) (w:World) (K:vF_) (mg:vG_) (base:Heap)
abbrev tB:=Cal P w K mg base 1 "_law_feed" ["_law_script"]
abbrev fG:=Cal P w K mg base 1 "_law_draw" ["_law_feed_here", "_law_many"]
abbrev Av:=Cal P w K mg base 2 "_law_long_round" ["_law_feed_here"]
abbrev Z7:=Cal P w K mg base 1 "_law_fraction" ["_law_top", "_law_bottom"]
abbrev BA:=Cal P w K mg base 2 "_law_rule" ["_law_feed_here"]
abbrev se:=Cal P w K mg base 2 "_law_at" ["_law_x", "_law_y"]
abbrev zE:=Cal P w K mg base 2 "_law_number" ["_law_feed_here"]
abbrev zC:=Cal P w K mg base 3 "_law_place" ["_law_feed_here"]
abbrev Z6:=Cal P w K mg base 2 "_law_product" ["_law_one", "_law_other"]
abbrev DP:=Cal P w K mg base 3 "_law_way" ["_law_feed_here"]
abbrev X6:=Cal P w K mg base 1 "_law_minus" ["_law_one"]
abbrev bA:=Cal P w K mg base 2 "_law_sum" ["_law_one", "_law_other"]
abbrev Ci:=Cal P w K mg base 3 "_law_goes_on" ["_law_first", "_law_second"]
abbrev jj:=Cal P w K mg base 2 "_law_xy" ["_law_one"]
abbrev eF:=Cal P w K mg base 3 "_law_gone" ["_law_one", "_law_x", "_law_y"]
abbrev CD:=Cal P w K mg base 4 "_law_open_line" ["_law_feed_here", "_law_most"]
abbrev lC:=Cal P w K mg base 1 "neighbours" ["row", "closed"]
abbrev zH:=Cal P w K mg base 1 "above_root" ["number"]
abbrev yv:=Cal P w K mg base 2 "root_below" ["number"]
abbrev vc:=Cal P w K mg base 3 "root" ["one"]
abbrev vh:=Cal P w K mg base 1 "divisor_of_two" ["one", "other"]
abbrev wk:=Cal P w K mg base 2 "divisor" ["parts"]
abbrev fE:=Cal P w K mg base 3 "lowest" ["parts"]
abbrev rH:=Cal P w K mg base 4 "fraction" ["top", "bottom"]
abbrev pw:=Cal P w K mg base 5 "squared" ["one", "other"]
abbrev uN:=Cal P w K mg base 1 "turned_left" ["way"]
abbrev xS:=Cal P w K mg base 6 "stroke" ["a", "b", "half"]
abbrev xT:=Cal P w K mg base 1 "is_lesser" ["one", "other"]
abbrev CW:=Cal P w K mg base 2 "merged" ["ones", "others", "goes_ahead"]
abbrev nZ:=Cal P w K mg base 1 "sign" ["number"]
abbrev rC:=Cal P w K mg base 2 "turn" ["a", "b", "c"]
abbrev vT:=Cal P w K mg base 3 "bow" ["row"]
abbrev Hu:=Cal P w K mg base 66 "in_order" ["some", "goes_ahead"]
abbrev fI:=Cal P w K mg base 67 "shape_of" ["some"]
abbrev eZ:=Cal P w K mg base 4 "moved" ["one", "way"]
abbrev kf:=Cal P w K mg base 1 "turned_about" ["way"]
abbrev rV:=Cal P w K mg base 5 "strip_corners" ["spot", "one", "side"]
abbrev AF:=Cal P w K mg base 68 "strip" ["one", "side"]
abbrev Bm:=Cal P w K mg base 2 "pieces" ["line"]
abbrev Cn:=Cal P w K mg base 2 "bend_of" ["one", "other"]
abbrev kE:=Cal P w K mg base 5 "outer_corner" ["spot", "one", "bend"]
abbrev om:=Cal P w K mg base 1 "upright" ["one", "other"]
abbrev rf:=Cal P w K mg base 4 "crossing" ["line", "other"]
abbrev rz:=Cal P w K mg base 2 "straight" ["a", "b"]
abbrev Dl:=Cal P w K mg base 6 "tip_at" ["one", "other", "bend"]
abbrev DQ:=Cal P w K mg base 1 "is_below" ["one", "other"]
abbrev oD:=Cal P w K mg base 5 "times" ["one", "other"]
abbrev vY:=Cal P w K mg base 6 "is_near" ["one", "other", "distance"]
abbrev Ae:=Cal P w K mg base 68 "cornered_join" ["one", "other", "bend", "rule"]
abbrev yF:=Cal P w K mg base 2 "edges" ["corners"]
abbrev Ce:=Cal P w K mg base 5 "clipped" ["corners", "a", "b"]
abbrev lG:=Cal P w K mg base 68 "cut_off" ["shape", "a", "b"]
abbrev Dq:=Cal P w K mg base 4 "beside" ["one", "half", "way"]
abbrev sR:=Cal P w K mg base 68 "twelve" ["one", "half"]
abbrev uA:=Cal P w K mg base 1 "turned_right" ["way"]
abbrev rm:=Cal P w K mg base 69 "part_ahead" ["spot", "way", "half"]
abbrev AJ:=Cal P w K mg base 70 "turning_back" ["one", "rule"]
abbrev uQ:=Cal P w K mg base 69 "round_join" ["one", "other", "bend", "rule"]
abbrev yZ:=Cal P w K mg base 71 "join_at" ["one", "other", "rule"]
abbrev xx:=Cal P w K mg base 70 "end_at" ["spot", "one", "way", "rule"]
abbrev BI:=Cal P w K mg base 72 "widened" ["line", "rule"]
abbrev xt:=Cal P w K mg base 1 "_law_root" ["_law_number_here"]
abbrev AZ:=Cal P w K mg base 3 "_law_ways" ["_law_line_here"]
abbrev sD:=Cal P w K mg base 2 "_law_ends_of_strip" ["_law_rule_here"]
abbrev CC:=Cal P w K mg base 1 "_law_lesser" ["_law_one", "_law_other"]
abbrev ly:=Cal P w K mg base 1 "_law_turn" ["_law_a", "_law_b", "_law_c"]
abbrev pd:=Cal P w K mg base 3 "_law_squared" ["_law_a", "_law_b"]
abbrev uq:=Cal P w K mg base 4 "_law_farther" ["_law_here", "_law_best", "_law_one"]
abbrev iK:=Cal P w K mg base 5 "_law_hull" ["_law_some"]
abbrev oV:=Cal P w K mg base 2 "_law_over" ["_law_one", "_law_other"]
abbrev iC:=Cal P w K mg base 4 "_law_beside" ["_law_one", "_law_piece", "_law_far"]
abbrev zu:=Cal P w K mg base 6 "_law_strip" ["_law_piece", "_law_rule_here"]
abbrev Eb:=Cal P w K mg base 5 "_law_outer" ["_law_first", "_law_second", "_law_half"]
abbrev xw:=Cal P w K mg base 3 "_law_apart" ["_law_a", "_law_b"]
abbrev BS:=Cal P w K mg base 3 "_law_athwart" ["_law_one", "_law_other"]
abbrev pH:=Cal P w K mg base 4 "_law_line_place" ["_law_a", "_law_b", "_law_c", "_law_d"]
abbrev rK:=Cal P w K mg base 6 "_law_cut" ["_law_shape", "_law_a", "_law_b"]
abbrev oC:=Cal P w K mg base 4 "_law_along" ["_law_one", "_law_piece", "_law_far"]
abbrev sU:=Cal P w K mg base 4 "_law_twelve" ["_law_one", "_law_half"]
abbrev BD:=Cal P w K mg base 7 "_law_join" ["_law_first", "_law_second", "_law_rule_here"]
abbrev Al:=Cal P w K mg base 7 "_law_end" ["_law_piece", "_law_at_last", "_law_rule_here"]
abbrev xG:=Cal P w K mg base 8 "_law_widened" ["_law_line_here", "_law_rule_here"]
end
variable {f:Addr}{fd:FuncData}
section
variable {P:Program}{w:World}{K:vF_}{mg:vG_}{base:Heap}
def Pu (B:Blt mg) (F:GF K mg "_law_feed" (top 53) f fd):tB P w K mg base (bD):=
 o6 [] F (by wtm_at "p") (by wtm_at "f") fun M _ _ _ _ _ _ g J=>
 (U1 (W4 (LM (pv 0))))
def HB (B:Blt mg) (F:GF K mg "_law_draw" (top 54) f fd):fG P w K mg base (P5):=
 o6 ["_law_count", "_law_digit", "_law_cells", "_law_cell", "_law_mixed"] F (by wtm_at "p") (by wtm_at "f") (by unfold cf;wtm_at "M")
def MU (J:fG P w K mg base m02) (B:Blt mg) (F:GF K mg "_law_long_round" (top 91) f fd):Av P w K mg base (zk m02):=
 o6 ["_law_menu", "_law_some", "_law_at_here"] F (by wtm_at "p") (by wtm_at "f") fun U _ _ _ _ _ _ g M=>
 (B9 (by wtm_at "s") (B9 (by wtm_at "s") (B9 (by wtm_at "s") (B9 (by wtm_at "s") (B9 (by wtm_at "s") (U1 (W4 (xU (ac tZ (ac (gy iw gq (by rfl) B.tuple ij (bc (EO.b (FO.v (HU (caps:=[]) (idx:=[]) rfl (Af (by rfl) .nil (by decide +kernel) rfl (by decide +kernel) (by rfl) .nil) (V1 (uh ve vw (EO.b (FO.v (vf (ac (U5 (pv 2)) (ac (Ol (mK (pv 2)) (by wtm_at "B")) cD))))) (by wtm_at "B") (fun _ _=>rfl))) (show List.Nodup (["_law_x", "_law_y"]:List Str) by decide +kernel) (fun _ _ _ _=>rfl) (fun _ _ _ _=>rfl) (fun _ _ _ _ _=>aH) (fun _ _ _ _ _=>(by wtm_at "E"))))) iG)) cD))))))))))
def Kt (B:Blt mg) (F:GF K mg "_law_fraction" (top 55) f fd):Z7 P w K mg base (uj):=
 o6 ["_law_one", "_law_other"] F (by wtm_at "p") (by wtm_at "f") (by unfold ki;wtm_at "M")
def JF (M:fG P w K mg base m02) (J:Z7 P w K mg base m00) (B:Blt mg) (F:GF K mg "_law_rule" (top 71) f fd):BA P w K mg base (DN m02 m00):=
 o6 ["_law_half", "_law_side", "_law_ending", "_law_joining"] F (by wtm_at "p") (by wtm_at "f") (by unfold nG;wtm_at "M")
def Ml (J:Z7 P w K mg base m00) (B:Blt mg) (F:GF K mg "_law_at" (top 59) f fd):se P w K mg base (Dy m00):=
 o6 ["_law_bottom", "_law_top", "_law_other", "_law_part_of_both"] F (by wtm_at "p") (by wtm_at "f") (by unfold jY;wtm_at "M")
def GJ (J:Z7 P w K mg base m00) (M:fG P w K mg base m02) (B:Blt mg) (F:GF K mg "_law_number" (top 64) f fd):zE P w K mg base (vO m00 m02):=
 o6 ["_law_top", "_law_bottom"] F (by wtm_at "p") (by wtm_at "f") (by unfold kX;wtm_at "M")
def Sb (M:se P w K mg base m0q) (J:zE P w K mg base m0Z) (B:Blt mg) (F:GF K mg "_law_place" (top 65) f fd):zC P w K mg base (yr m0q m0Z):=
 o6 [] F (by wtm_at "p") (by wtm_at "f") (by unfold nC;wtm_at "M")
def Mn (J:Z7 P w K mg base m00) (B:Blt mg) (F:GF K mg "_law_product" (top 57) f fd):Z6 P w K mg base (DU m00):=
 o6 [] F (by wtm_at "p") (by wtm_at "f") (by unfold my;wtm_at "M")
def Js {J:a8}(U:Z6 P w K mg base J) (M:Z7 P w K mg base m00) (W:fG P w K mg base m02) (B:Blt mg) (F:GF K mg "_law_way" (top 66) f fd):DP P w K mg base (qJ J m00 m02):=
 o6 ["_law_p", "_law_q", "_law_h", "_law_share"] F (by wtm_at "p") (by wtm_at "f") fun Z _ _ _ _ _ _ g Y=>
 (B9 (by wtm_at "s") (B9 (by wtm_at "s") (B9 (by wtm_at "s") (B9 (by wtm_at "s") (B9 (by wtm_at "s") (B9 (by wtm_at "s") (U1 (W4 (FO.v (dt (N':=["_law_one", "_law_share"]) (idx:=[4]) rfl (Y5 (by rfl) (.cons rfl .nil) (by decide +kernel) rfl (by decide +kernel) (by rfl) (.cons rfl (by first | exact Or.inl rfl | exact Or.inr rfl) (by first | exact Or.inl rfl | exact Or.inr rfl) .nil)) (V1 (by wtm_at "E")) (fun _ _ _ _=>O5 (i:=0) (show List.Nodup (["_law_one", "_law_share"]:List Str) by decide +kernel) rfl (Or.inl rfl)) (fun _ _ _ _ _=>aH) (fun _ _ _ _ _=>(by wtm_at "E"))))))))))))
def Kw (B:Blt mg) (F:GF K mg "_law_minus" (top 58) f fd):X6 P w K mg base (F4):=
 o6 [] F (by wtm_at "p") (by wtm_at "f") (by unfold mX;wtm_at "M")
def OZ (J:Z7 P w K mg base m00) (B:Blt mg) (F:GF K mg "_law_sum" (top 56) f fd):bA P w K mg base (xE m00):=
 o6 ["_law_top"] F (by wtm_at "p") (by wtm_at "f") (by unfold mD;wtm_at "M")
def LU {J:a8}(M:bA P w K mg base m01) (U:Z6 P w K mg base J) (B:Blt mg) (F:GF K mg "_law_goes_on" (top 67) f fd):Ci P w K mg base (xY m01 J):=
 o6 ["_law_one", "_law_other", "_law_with_it"] F (by wtm_at "p") (by wtm_at "f") (by unfold wR;wtm_at "M")
def Oi (J:Z7 P w K mg base m00) (B:Blt mg) (F:GF K mg "_law_xy" (top 60) f fd):jj P w K mg base (vK m00):=
 o6 [] F (by wtm_at "p") (by wtm_at "f") (by unfold kH;wtm_at "M")
def Ih (U:se P w K mg base m0q) (M:bA P w K mg base m01) (J:jj P w K mg base m06) (B:Blt mg) (F:GF K mg "_law_gone" (top 61) f fd):eF P w K mg base (yX m0q m01 m06):=
 o6 ["_law_first", "_law_second"] F (by wtm_at "p") (by wtm_at "f") (by unfold lY;wtm_at "M")
def Nc {J:a8}(M:Ci P w K mg base m0M) (W:eF P w K mg base m03) (Z:fG P w K mg base m02) (C00:X6 P w K mg base J) (Y:DP P w K mg base m0N) (U:zC P w K mg base m0O) (B:Blt mg) (F:GF K mg "_law_open_line" (top 68) f fd):CD P w K mg base (zV m0M m03 m02 J m0N m0O):=
 o6 ["_law_found", "_law_ways_here", "_law_k", "_law_way_here"] F (by wtm_at "p") (by wtm_at "f") (by unfold jy;wtm_at "M")
def Oq (B:Blt mg) (F:GF K mg "neighbours" (top 16) f fd):lC P w K mg base (az):=
 o6 [] F (by wtm_at "p") (by wtm_at "f") fun M _ _ _ _ _ _ g J=>
 (B9 (gx (by wtm_at "T") (U1 (W4 (FO.v (xi rfl (by rfl) B.list (by rfl) B.zip (by wtm_at "a"))))) gU) (U1 (W4 (FO.v (xi rfl (by rfl) B.list (by rfl) B.zip (by wtm_at "a"))))))
def NI (B:Blt mg) (F:GF K mg "above_root" (top 7) f fd):zH P w K mg base (cq):=
 o6 ["guess", "rest"] F (by wtm_at "p") (by wtm_at "f") (by unfold kL;wtm_at "M")
def NW (J:zH P w K mg base m0R) (B:Blt mg) (F:GF K mg "root_below" (top 8) f fd):yv P w K mg base (gL m0R):=
 o6 ["guess", "better"] F (by wtm_at "p") (by wtm_at "f") (by unfold fV;wtm_at "M")
def Kj (J:yv P w K mg base m13) (B:Blt mg) (F:GF K mg "root" (top 9) f fd):vc P w K mg base (rM m13):=
 o6 ["top", "bottom"] F (by wtm_at "p") (by wtm_at "f") (by unfold jx;wtm_at "M")
def Oz (B:Blt mg) (F:GF K mg "divisor_of_two" (top 1) f fd):vh P w K mg base (V6):=
 o6 ["greater", "rest", "left_over"] F (by wtm_at "p") (by wtm_at "f") (by unfold nA;wtm_at "M")
def Ot (J:vh P w K mg base m0L) (B:Blt mg) (F:GF K mg "divisor" (top 2) f fd):wk P w K mg base (dF m0L):=
 o6 ["shared", "part"] F (by wtm_at "p") (by wtm_at "f") (by unfold kI;wtm_at "M")
def Gx (J:wk P w K mg base m14) (B:Blt mg) (F:GF K mg "lowest" (top 3) f fd):fE P w K mg base (DC m14):=
 o6 ["shared"] F (by wtm_at "p") (by wtm_at "f") fun U _ _ _ _ _ _ g M=>
 (B9 (by wtm_at "s") (B9 (by wtm_at "s") (U1 (W4 (gy iw gq (by rfl) B.tuple ij (bc (EO.b (FO.v (dt (N':=["part", "shared"]) (idx:=[1]) rfl (Y5 (by rfl) (.cons rfl .nil) (by decide +kernel) rfl (by decide +kernel) (by rfl) (.cons rfl (by first | exact Or.inl rfl | exact Or.inr rfl) (by first | exact Or.inl rfl | exact Or.inr rfl) .nil)) (V1 (U5 (pv 0))) (fun _ _ _ _=>O5 (i:=0) (show List.Nodup (["part", "shared"]:List Str) by decide +kernel) rfl (Or.inl rfl)) (fun _ _ _ _ _=>aH) (fun _ _ _ _ _=>(by wtm_at "E"))))) iG))))))
def Sh (J:fE P w K mg base m05) (B:Blt mg) (F:GF K mg "fraction" (top 4) f fd):rH P w K mg base (tU m05):=
 o6 [] F (by wtm_at "p") (by wtm_at "f") (by unfold qp;wtm_at "M")
def ON (J:rH P w K mg base m0p) (B:Blt mg) (F:GF K mg "squared" (top 14) f fd):pw P w K mg base (ju m0p):=
 o6 ["wide", "high", "bottom"] F (by wtm_at "p") (by wtm_at "f") (by unfold lA;wtm_at "M")
def Mz (B:Blt mg) (F:GF K mg "turned_left" (top 36) f fd):uN P w K mg base (nK):=
 o6 [] F (by wtm_at "p") (by wtm_at "f") (by unfold Cc;wtm_at "M")
def MW (W:uN P w K mg base m17) (M:fE P w K mg base m05) (U:vc P w K mg base m18) (J:pw P w K mg base m0t) (B:Blt mg) (F:GF K mg "stroke" (top 35) f fd):xS P w K mg base (xX m17 m05 m18 m0t):=
 o6 ["length", "share", "x", "y", "along"] F (by wtm_at "p") (by wtm_at "f") (by unfold lP;wtm_at "M")
def Nr (B:Blt mg) (F:GF K mg "is_lesser" (top 11) f fd):xT P w K mg base (V0):=
 o6 ["here", "there"] F (by wtm_at "p") (by wtm_at "f") (by unfold iP;wtm_at "M")
def Ee (J:xT P w K mg base m0D) (B:Blt mg) (F:GF K mg "merged" (top 19) f fd):CW P w K mg base (fS m0D):=
 o6 ["told", "taken", "one"] F (by wtm_at "p") (by wtm_at "f") fun U _ _ _ _ _ _ g M=>
 (B9 (by wtm_at "s") (B9 (by wtm_at "s") (B9 (Cz VH rfl (U5 (pv 0)) (by wtm_at "G") (B9 (xn VH (WO.t (wV (by wtm_at "T") (CF (Ab (EO.b (Ig (RN J (by decide) rfl JR) M (pv 2) (by wtm_at "A") (cK (cK fT)))))))) (by wtm_at "S")) (by wtm_at "S"))) (by wtm_at "S"))))
def u8:FnScope ["some", "goes_ahead", "middle"] ["some", "goes_ahead"] (G2 (top 18)):=by wtm_at "f"
theorem tS (M:CW P w K mg base m10) (B:Blt mg) (F:GF K mg "in_order" (top 18) f fd):∀n:Nat,Cal P w K mg base (2+n) "in_order" ["some", "goes_ahead"] (jf m10 n)
 |0=>⟨f,fd,LV,F.m,F.F.kp,F.F.binds (fun _ _ _ _ _ _=>nR fun _ _=>rfl)⟩
 |n+1=>
  have U:=tS M B F n
  AB F (fun _ _ _ _ _ _=>nR fun _ _=>rfl) u8 fun W A J s H E g Y=>
  have nd:=u8.nd
  (B9 (gx (by wtm_at "T") (U1 (W4 (FO.v (Ro KY Nj (by rfl) B.list tK (by wtm_at "a"))))) gU) (by wtm_at "S"))
def QL (B:Blt mg) (F:GF K mg "sign" (top 12) f fd):nZ P w K mg base (gF):=
 o6 [] F (by wtm_at "p") (by wtm_at "f") (by unfold fZ;wtm_at "M")
def NX (J:nZ P w K mg base m0r) (B:Blt mg) (F:GF K mg "turn" (top 13) f fd):rC P w K mg base (tW m0r):=
 o6 ["spread"] F (by wtm_at "p") (by wtm_at "f") (by unfold lE;wtm_at "M")
def Rv (J:rC P w K mg base m0f) (B:Blt mg) (F:GF K mg "bow" (top 28) f fd):vT P w K mg base (eP m0f):=
 o6 ["kept", "one"] F (by wtm_at "p") (by wtm_at "f") (by unfold nJ;wtm_at "M")
def RS (M:Hu P w K mg base m0H) (U:vT P w K mg base m11) (J:FnV K mg "is_lesser") (B:Blt mg) (F:GF K mg "shape_of" (top 27) f fd):fI P w K mg base (xQ m0H m11):=
 o6 ["unlike", "one", "row", "corners"] F (by wtm_at "p") (by wtm_at "f") fun Y _ _ _ _ _ _ g W=>
 (Ow (iS:=0) (iU:=1) (iO:=2) (iR:=3) VH rfl W Y (by decide) (by decide) M (by decide) rfl (by rfl) J (by rfl) (by rfl) B.list (fun _=>pv 1) (fun _=>pv 2) (pv 0) xh rfl (by first | exact Or.inl rfl | exact Or.inr rfl) rfl (by first | exact Or.inl rfl | exact Or.inr rfl) rfl (by first | exact Or.inl rfl | exact Or.inr rfl) (B9 (CT (i:=4) Y rfl (by first | exact Or.inl rfl | exact Or.inr rfl) (Ds uf yS (by wtm_at "B") (EO.b (Cv (EO.b (gv U _ W (by decide) (by rfl) (ac (FO.v (OL rfl (by rfl) B.list (by rfl) B.reversed (by wtm_at "a"))) cD) (cK fT))) AX (by wtm_at "O"))))) (by wtm_at "S")))
def Qn (J:fE P w K mg base m05) (B:Blt mg) (F:GF K mg "moved" (top 39) f fd):eZ P w K mg base (vz m05):=
 o6 ["x", "y"] F (by wtm_at "p") (by wtm_at "f") (by unfold jz;wtm_at "M")
def Gg (B:Blt mg) (F:GF K mg "turned_about" (top 38) f fd):kf P w K mg base (af):=
 o6 [] F (by wtm_at "p") (by wtm_at "f") (by unfold tV;wtm_at "M")
def Pg (J:eZ P w K mg base m04) (M:kf P w K mg base m0e) (B:Blt mg) (F:GF K mg "strip_corners" (top 41) f fd):rV P w K mg base (Cu m04 m0e):=
 o6 ["left", "right"] F (by wtm_at "p") (by wtm_at "f") (by unfold nq;wtm_at "M")
def Jr (M:fI P w K mg base m07) (J:rV P w K mg base m0n) (B:Blt mg) (F:GF K mg "strip" (top 40) f fd):AF P w K mg base (Bv m07 m0n):=
 o6 [] F (by wtm_at "p") (by wtm_at "f") (by unfold uZ;wtm_at "M")
def Np (J:lC P w K mg base m0d) (B:Blt mg) (F:GF K mg "pieces" (top 24) f fd):Bm P w K mg base (vR m0d):=
 o6 [] F (by wtm_at "p") (by wtm_at "f") (by unfold kT;wtm_at "M")
def QR (J:nZ P w K mg base m0r) (B:Blt mg) (F:GF K mg "bend_of" (top 42) f fd):Cn P w K mg base (zK m0r):=
 o6 [] F (by wtm_at "p") (by wtm_at "f") (by unfold uV;wtm_at "M")
def IV (J:eZ P w K mg base m04) (M:kf P w K mg base m0e) (B:Blt mg) (F:GF K mg "outer_corner" (top 45) f fd):kE P w K mg base (vg m04 m0e):=
 o6 [] F (by wtm_at "p") (by wtm_at "f") (by unfold lh;wtm_at "M")
def Lq (B:Blt mg) (F:GF K mg "upright" (top 20) f fd):om P w K mg base (mU):=
 o6 [] F (by wtm_at "p") (by wtm_at "f") (by unfold vq;wtm_at "M")
def Kq (M:fE P w K mg base m05) (J:om P w K mg base m0s) (B:Blt mg) (F:GF K mg "crossing" (top 22) f fd):rf P w K mg base (Aj m05 m0s):=
 o6 [] F (by wtm_at "p") (by wtm_at "f") (by unfold BC;wtm_at "M")
def Ib (J:om P w K mg base m0s) (B:Blt mg) (F:GF K mg "straight" (top 21) f fd):rz P w K mg base (BJ m0s):=
 o6 [] F (by wtm_at "p") (by wtm_at "f") (by unfold Bi;wtm_at "M")
def QD (M:rf P w K mg base m0i) (U:rz P w K mg base m0g) (W:eZ P w K mg base m04) (J:kE P w K mg base m0c) (B:Blt mg) (F:GF K mg "tip_at" (top 46) f fd):Dl P w K mg base (zM m0i m0g m04 m0c):=
 o6 ["begin", "end"] F (by wtm_at "p") (by wtm_at "f") (by unfold xF;wtm_at "M")
def Hz (B:Blt mg) (F:GF K mg "is_below" (top 6) f fd):DQ P w K mg base (ph):=
 o6 [] F (by wtm_at "p") (by wtm_at "f") (by unfold kz;wtm_at "M")
def FI (J:rH P w K mg base m0p) (B:Blt mg) (F:GF K mg "times" (top 5) f fd):oD P w K mg base (AQ m0p):=
 o6 [] F (by wtm_at "p") (by wtm_at "f") (by unfold jX;wtm_at "M")
def Fv (J:DQ P w K mg base m19) (U:pw P w K mg base m0t) (M:oD P w K mg base m0u) (B:Blt mg) (F:GF K mg "is_near" (top 49) f fd):vY P w K mg base (wj m19 m0t m0u):=
 o6 [] F (by wtm_at "p") (by wtm_at "f") (by unfold yJ;wtm_at "M")
def IA (M:fI P w K mg base m07) (Y:vY P w K mg base m1a) (W:oD P w K mg base m0u) (U:Dl P w K mg base m1b) (J:kE P w K mg base m0c) (B:Blt mg) (F:GF K mg "cornered_join" (top 48) f fd):Ae P w K mg base (zo m07 m1a m0u m1b m0c):=
 o6 ["spot", "corners", "tip"] F (by wtm_at "p") (by wtm_at "f") (by unfold jF;wtm_at "M")
def IW (J:lC P w K mg base m0d) (B:Blt mg) (F:GF K mg "edges" (top 17) f fd):yF P w K mg base (Aq m0d):=
 o6 [] F (by wtm_at "p") (by wtm_at "f") (by unfold vA;wtm_at "M")
def GA (J:rC P w K mg base m0f) (U:rf P w K mg base m0i) (W:rz P w K mg base m0g) (M:yF P w K mg base m0P) (B:Blt mg) (F:GF K mg "clipped" (top 30) f fd):Ce P w K mg base (Aa m0f m0i m0g m0P):=
 o6 ["line", "kept", "one", "other", "here"] F (by wtm_at "p") (by wtm_at "f") (by unfold mI;wtm_at "M")
def GR (M:fI P w K mg base m07) (J:Ce P w K mg base m16) (B:Blt mg) (F:GF K mg "cut_off" (top 29) f fd):lG P w K mg base (BM m07 m16):=
 o6 [] F (by wtm_at "p") (by wtm_at "f") (by unfold vv;wtm_at "M")
def GW (J:fE P w K mg base m05) (B:Blt mg) (F:GF K mg "beside" (top 32) f fd):Dq P w K mg base (CJ m05):=
 o6 ["bottom", "x", "y"] F (by wtm_at "p") (by wtm_at "f") (by unfold kP;wtm_at "M")
def NG (J:fI P w K mg base m07) (W:Dq P w K mg base m15) (U:Con K mg "TWELVE_WAYS" (.tup [(.tup [(.int 5),(.int 0)]),(.tup [(.int 4),(.int 3)]),(.tup [(.int 3),(.int 4)]),(.tup [(.int 0),(.int 5)]),(.tup [(.int (-3)),(.int 4)]),(.tup [(.int (-4)),(.int 3)]),(.tup [(.int (-5)),(.int 0)]),(.tup [(.int (-4)),(.int (-3))]),(.tup [(.int (-3)),(.int (-4))]),(.tup [(.int 0),(.int (-5))]),(.tup [(.int 3),(.int (-4))]),(.tup [(.int 4),(.int (-3))])])) (B:Blt mg) (F:GF K mg "twelve" (top 31) f fd):sR P w K mg base (vP m07 m15):=
 o6 [] F (by wtm_at "p") (by wtm_at "f") fun Y _ _ _ _ _ _ g M=>
 (U1 (W4 (gv J _ M (by decide) (by rfl) (ac (FO.v (dt (N':=["way", "one", "half"]) (idx:=[0,1]) rfl (Y5 (by rfl) (.cons rfl (.cons rfl .nil)) (by decide +kernel) rfl (by decide +kernel) (by rfl) (.cons rfl (by first | exact Or.inl rfl | exact Or.inr rfl) (by first | exact Or.inl rfl | exact Or.inr rfl) (.cons rfl (by first | exact Or.inl rfl | exact Or.inr rfl) (by first | exact Or.inl rfl | exact Or.inr rfl) .nil))) (V1 (by wtm_at "E")) (fun _ _ _ _=>O5 (i:=0) (show List.Nodup (["way", "one", "half"]:List Str) by decide +kernel) rfl (Or.inl rfl)) (fun _ _ _ _ _=>aH) (fun _ _ _ _ _=>(by wtm_at "E")))) cD) (cK fT))))
def MX (B:Blt mg) (F:GF K mg "turned_right" (top 37) f fd):uA P w K mg base (qf):=
 o6 [] F (by wtm_at "p") (by wtm_at "f") (by unfold xI;wtm_at "M")
def Ri (U:lG P w K mg base m0b) (M:eZ P w K mg base m04) (J:uA P w K mg base m1c) (W:sR P w K mg base m0v) (B:Blt mg) (F:GF K mg "part_ahead" (top 51) f fd):rm P w K mg base (xc m0b m04 m1c m0v):=
 o6 [] F (by wtm_at "p") (by wtm_at "f") (by unfold vX;wtm_at "M")
def NP (J:rm P w K mg base m0w) (B:Blt mg) (F:GF K mg "turning_back" (top 44) f fd):AJ P w K mg base (xC m0w):=
 o6 [] F (by wtm_at "p") (by wtm_at "f") (by unfold kB;wtm_at "M")
def Gm (U:lG P w K mg base m0b) (J:sR P w K mg base m0v) (M:kE P w K mg base m0c) (B:Blt mg) (F:GF K mg "round_join" (top 47) f fd):uQ P w K mg base (uD m0b m0v m0c):=
 o6 ["spot", "begin", "end", "whole"] F (by wtm_at "p") (by wtm_at "f") (by unfold mY;wtm_at "M")
def FQ (M:Ae P w K mg base m1d) (W:uQ P w K mg base m1e) (J:AJ P w K mg base m1f) (U:Cn P w K mg base m1g) (B:Blt mg) (F:GF K mg "join_at" (top 43) f fd):yZ P w K mg base (CU m1d m1e m1f m1g):=
 o6 ["bend"] F (by wtm_at "p") (by wtm_at "f") (by unfold nO;wtm_at "M")
def Of (Z:lG P w K mg base m0b) (Y:eZ P w K mg base m04) (W:rm P w K mg base m0w) (J:fI P w K mg base m07) (U:rV P w K mg base m0n) (B:Blt mg) (F:GF K mg "end_at" (top 50) f fd):xx P w K mg base (BF m0b m04 m0w m07 m0n):=
 o6 ["corners", "part", "beyond"] F (by wtm_at "p") (by wtm_at "f") fun nd _ _ _ _ _ _ g M=>
 (B9 (by wtm_at "s") (B9 (gx (by wtm_at "T") (B9 (by wtm_at "s") (U1 (W4 (gv J _ M (by decide) (by rfl) (ac (FO.v (oF mJ oz (mK (pv 4)) (EO.b (FO.v (dt (N':=["corner", "way"]) (idx:=[2]) rfl (Y5 (by rfl) (.cons rfl .nil) (by decide +kernel) rfl (by decide +kernel) (by rfl) (.cons rfl (by first | exact Or.inl rfl | exact Or.inr rfl) (by first | exact Or.inl rfl | exact Or.inr rfl) .nil)) (V1 (U5 (pv 4))) (fun _ _ _ _=>O5 (i:=0) (show List.Nodup (["corner", "way"]:List Str) by decide +kernel) rfl (Or.inl rfl)) (fun _ _ _ _ _=>aH) (fun _ _ _ _ _=>(by wtm_at "E"))))))) cD) (cK fT))))) gU) (by wtm_at "S")))
def JH (C10:xx P w K mg base m0I) (Z:kf P w K mg base m0e) (M:yZ P w K mg base m0S) (W:lC P w K mg base m0d) (U:AF P w K mg base m0T) (Y:Bm P w K mg base m0U) (C14:xS P w K mg base m0V) (B:Blt mg) (F:GF K mg "widened" (top 34) f fd):BI P w K mg base (yP m0I m0e m0S m0d m0T m0U m0V):=
 o6 ["half", "strokes", "told", "one", "other", "first", "last"] F (by wtm_at "p") (by wtm_at "f") fun J _ _ _ _ _ _ g hr=>
 (B9 (by wtm_at "s") (B9 (iZ (i:=3) J rfl (by first | exact Or.inl rfl | exact Or.inr rfl) (Fo (caps:=["half"]) (idx:=[2]) rfl (Af (by rfl) (.cons rfl .nil) (by decide +kernel) rfl (by decide +kernel) (by rfl) (.cons rfl (by first | exact Or.inl rfl | exact Or.inr rfl) (by first | exact Or.inl rfl | exact Or.inr rfl) .nil)) (V1 (by wtm_at "E")) (show List.Nodup (["a", "b", "half"]:List Str) by decide +kernel) (fun _ _ _ _=>rfl) (fun _ _ _ _=>rfl) (fun _ _ _ _ _=>aH) (fun _ _ _ _ _=>(by wtm_at "E")))) (B9 (iZ (i:=4) J rfl (by first | exact Or.inl rfl | exact Or.inr rfl) (lD (N':=["one", "rule"]) (idx:=[1]) rfl (Y5 (by rfl) (.cons rfl .nil) (by decide +kernel) rfl (by decide +kernel) (by rfl) (.cons rfl (by first | exact Or.inl rfl | exact Or.inr rfl) (by first | exact Or.inl rfl | exact Or.inr rfl) .nil)) (V1 (U5 (pv 3))) (fun _ _ _ _=>O5 (i:=0) (show List.Nodup (["one", "rule"]:List Str) by decide +kernel) rfl (Or.inl rfl)) (fun _ _ _ _ _=>aH) (fun _ _ _ _ _=>(by wtm_at "E")))) (B9 (by wtm_at "s") (B9 (by wtm_at "s") (U1 (W4 (gy iw gq (by rfl) B.tuple ij (bc (EO.b (FO.v (dt (N':=["shape"]) (idx:=[]) rfl (Y5 (by rfl) .nil (by decide +kernel) rfl (by decide +kernel) (by rfl) .nil) (V1 (U5 (pv 4))) (fun _ _ _ _=>O5 (i:=0) (show List.Nodup (["shape"]:List Str) by decide +kernel) rfl (Or.inl rfl)) (fun _ _ _ _ _=>(ri (by wtm_at "T"))) (fun _ _ _ _ _=>(U5 (pv 0)))))) iG)))))))))
def FD (B:Blt mg) (F:GF K mg "_law_root" (top 80) f fd):xt P w K mg base (cG):=
 o6 ["_law_low", "_law_high", "_law_half"] F (by wtm_at "p") (by wtm_at "f") (by unfold nI;wtm_at "M")
def Fx {M:a8}{J:a8}(Y:xt P w K mg base m0J) (C03:bA P w K mg base m01) (W:Z6 P w K mg base M) (Z:X6 P w K mg base J) (U:jj P w K mg base m06) (B:Blt mg) (F:GF K mg "_law_ways" (top 79) f fd):AZ P w K mg base (wW m0J m01 M J m06):=
 o6 ["_law_some", "_law_found", "_law_k", "_law_x", "_law_y", "_law_far_x", "_law_far_y", "_law_square"] F (by wtm_at "p") (by wtm_at "f") (by unfold mP;wtm_at "M")
def Ez {J:a8}(M:X6 P w K mg base J) (B:Blt mg) (F:GF K mg "_law_ends_of_strip" (top 84) f fd):sD P w K mg base (Dt J):=
 o6 ["_law_right"] F (by wtm_at "p") (by wtm_at "f") (by unfold mH;wtm_at "M")
def MR (B:Blt mg) (F:GF K mg "_law_lesser" (top 63) f fd):CC P w K mg base (X3):=
 o6 ["_law_first"] F (by wtm_at "p") (by wtm_at "f") (by unfold dR;wtm_at "M")
def RC (B:Blt mg) (F:GF K mg "_law_turn" (top 62) f fd):ly P w K mg base (S7):=
 o6 ["_law_first", "_law_second"] F (by wtm_at "p") (by wtm_at "f") (by unfold kJ;wtm_at "M")
def Jk {M:a8}{J:a8}(Y:bA P w K mg base m01) (W:Z6 P w K mg base M) (Z:X6 P w K mg base J) (U:jj P w K mg base m06) (B:Blt mg) (F:GF K mg "_law_squared" (top 72) f fd):pd P w K mg base (sP m01 M J m06):=
 o6 ["_law_x", "_law_y"] F (by wtm_at "p") (by wtm_at "f") (by unfold mE;wtm_at "M")
def GS {J:a8}(W:bA P w K mg base m01) (Y:X6 P w K mg base J) (M:pd P w K mg base m0m) (U:ly P w K mg base m0a) (B:Blt mg) (F:GF K mg "_law_farther" (top 73) f fd):uq P w K mg base (xv m01 J m0m m0a):=
 o6 ["_law_side"] F (by wtm_at "p") (by wtm_at "f") (by unfold lH;wtm_at "M")
def QB (J:uq P w K mg base m0y) (M:CC P w K mg base m0z) (B:Blt mg) (F:GF K mg "_law_hull" (top 74) f fd):iK P w K mg base (Bf m0y m0z):=
 o6 ["_law_first", "_law_one", "_law_found", "_law_here", "_law_best"] F (by wtm_at "p") (by wtm_at "f") (by unfold nF;wtm_at "M")
def Lu (J:Z7 P w K mg base m00) (B:Blt mg) (F:GF K mg "_law_over" (top 81) f fd):oV P w K mg base (Ao m00):=
 o6 [] F (by wtm_at "p") (by wtm_at "f") (by unfold wG;wtm_at "M")
def Lz {M:a8}{J:a8}(W:eF P w K mg base m03) (U:Z6 P w K mg base M) (Z:X6 P w K mg base J) (Y:oV P w K mg base m0x) (B:Blt mg) (F:GF K mg "_law_beside" (top 82) f fd):iC P w K mg base (BN m03 M J m0x):=
 o6 ["_law_share"] F (by wtm_at "p") (by wtm_at "f") (by unfold zX;wtm_at "M")
def FW (U:iK P w K mg base m09) (J:iC P w K mg base m08) (M:sD P w K mg base m0k) (B:Blt mg) (F:GF K mg "_law_strip" (top 87) f fd):zu P w K mg base (BW m09 m08 m0k):=
 o6 ["_law_some", "_law_far"] F (by wtm_at "p") (by wtm_at "f") (by unfold jJ;wtm_at "M")
def HL {J:a8}(W:iC P w K mg base m08) (U:X6 P w K mg base J) (M:ly P w K mg base m0a) (B:Blt mg) (F:GF K mg "_law_outer" (top 86) f fd):Eb P w K mg base (tI m08 J m0a):=
 o6 ["_law_side", "_law_far"] F (by wtm_at "p") (by wtm_at "f") (by unfold kW;wtm_at "M")
def Gq {J:a8}(W:bA P w K mg base m01) (U:X6 P w K mg base J) (M:jj P w K mg base m06) (B:Blt mg) (F:GF K mg "_law_apart" (top 76) f fd):xw P w K mg base (wo m01 J m06):=
 o6 ["_law_x", "_law_y", "_law_far_x", "_law_far_y"] F (by wtm_at "p") (by wtm_at "f") (by unfold xg;wtm_at "M")
def LL {J:a8}{M:a8}(W:bA P w K mg base m01) (Y:X6 P w K mg base J) (U:Z6 P w K mg base M) (B:Blt mg) (F:GF K mg "_law_athwart" (top 77) f fd):BS P w K mg base (vn m01 J M):=
 o6 [] F (by wtm_at "p") (by wtm_at "f") (by unfold uK;wtm_at "M")
def HC {J:a8}(W:eF P w K mg base m03) (U:Z6 P w K mg base J) (M:Z7 P w K mg base m00) (Z:BS P w K mg base m12) (Y:xw P w K mg base m0Q) (B:Blt mg) (F:GF K mg "_law_line_place" (top 75) f fd):pH P w K mg base (qk m03 J m00 m12 m0Q):=
 o6 ["_law_first", "_law_second", "_law_third", "_law_top", "_law_bottom", "_law_share"] F (by wtm_at "p") (by wtm_at "f") (by unfold lT;wtm_at "M")
def HI (J:iK P w K mg base m09) (M:ly P w K mg base m0a) (U:pH P w K mg base m0j) (B:Blt mg) (F:GF K mg "_law_cut" (top 78) f fd):rK P w K mg base (vt m09 m0a m0j):=
 o6 ["_law_kept", "_law_k", "_law_one", "_law_other"] F (by wtm_at "p") (by wtm_at "f") fun W _ _ _ _ _ _ g Y=>
 (B9 (iZ (i:=3) W rfl (by first | exact Or.inl rfl | exact Or.inr rfl) (lD (N':=["_law_one", "_law_a", "_law_b"]) (idx:=[1,2]) rfl (Y5 (by rfl) (.cons rfl (.cons rfl .nil)) (by decide +kernel) rfl (by decide +kernel) (by rfl) (.cons rfl (by first | exact Or.inl rfl | exact Or.inr rfl) (by first | exact Or.inl rfl | exact Or.inr rfl) (.cons rfl (by first | exact Or.inl rfl | exact Or.inr rfl) (by first | exact Or.inl rfl | exact Or.inr rfl) .nil))) (V1 (U5 (pv 0))) (fun _ _ _ _=>O5 (i:=0) (show List.Nodup (["_law_one", "_law_a", "_law_b"]:List Str) by decide +kernel) rfl (Or.inl rfl)) (fun _ _ _ _ _=>(ri (by wtm_at "T"))) (fun _ _ _ _ _=>(U5 (pv 0))))) (by wtm_at "S"))
def Fp {J:a8}(U:eF P w K mg base m03) (M:Z6 P w K mg base J) (W:oV P w K mg base m0x) (B:Blt mg) (F:GF K mg "_law_along" (top 83) f fd):oC P w K mg base (DY m03 J m0x):=
 o6 ["_law_share"] F (by wtm_at "p") (by wtm_at "f") (by unfold zD;wtm_at "M")
def Qq {J:a8}(W:eF P w K mg base m03) (U:Z6 P w K mg base J) (M:Z7 P w K mg base m00) (B:Blt mg) (F:GF K mg "_law_twelve" (top 85) f fd):sU P w K mg base (AM m03 J m00):=
 o6 ["_law_pairs", "_law_found", "_law_x", "_law_y"] F (by wtm_at "p") (by wtm_at "f") (by unfold kZ;wtm_at "M")
def Fw {J:a8}{M:a8}(C09:iK P w K mg base m09) (C03:bA P w K mg base m01) (C00:X6 P w K mg base J) (Y:pd P w K mg base m0m) (W:Z6 P w K mg base M) (C0x:pH P w K mg base m0j) (C0y:oC P w K mg base m0l) (U:rK P w K mg base m0h) (Z:sU P w K mg base m0o) (C0b:iC P w K mg base m08) (C1a:Eb P w K mg base m1h) (B:Blt mg) (F:GF K mg "_law_join" (top 88) f fd):BD P w K mg base (wO m09 m01 J m0m M m0j m0l m0h m0o m08 m1h):=
 o6 ["_law_p", "_law_one", "_law_other", "_law_side", "_law_low", "_law_high", "_law_some", "_law_ahead", "_law_tip", "_law_most"] F (by wtm_at "p") (by wtm_at "f") (by unfold yO;wtm_at "M")
def Kv {M:a8}(W:rK P w K mg base m0h) (C0y:oC P w K mg base m0l) (C0b:iC P w K mg base m08) (Y:sU P w K mg base m0o) (J:iK P w K mg base m09) (Z:sD P w K mg base m0k) (C00:X6 P w K mg base M) (B:Blt mg) (F:GF K mg "_law_end" (top 89) f fd):Al P w K mg base (rT m0h m0l m08 m0o m09 m0k M):=
 o6 ["_law_p", "_law_out", "_law_corners", "_law_found", "_law_ahead"] F (by wtm_at "p") (by wtm_at "f") fun nd _ _ _ _ _ _ g U=>
 (B9 (by wtm_at "s") (B9 (by wtm_at "s") (B9 (gx (by wtm_at "T") (B9 (iZ (i:=5) nd rfl (by first | exact Or.inl rfl | exact Or.inr rfl) (lD (N':=["_law_far", "_law_p", "_law_piece"]) (idx:=[3,0]) rfl (Y5 (by rfl) (.cons rfl (.cons rfl .nil)) (by decide +kernel) rfl (by decide +kernel) (by rfl) (.cons rfl (by first | exact Or.inl rfl | exact Or.inr rfl) (by first | exact Or.inl rfl | exact Or.inr rfl) (.cons rfl (by first | exact Or.inl rfl | exact Or.inr rfl) (by first | exact Or.inl rfl | exact Or.inr rfl) .nil))) (V1 (by wtm_at "E")) (fun _ _ _ _=>O5 (i:=0) (show List.Nodup (["_law_far", "_law_p", "_law_piece"]:List Str) by decide +kernel) rfl (Or.inl rfl)) (fun _ _ _ _ _=>aH) (fun _ _ _ _ _=>(by wtm_at "E")))) (U1 (W4 (gv J _ U (by decide) (by rfl) (ac (FO.v (oF mJ oz (mK (pv 5)) (EO.b (FO.v (dt (N':=["_law_one", "_law_piece", "_law_out"]) (idx:=[0,4]) rfl (Y5 (by rfl) (.cons rfl (.cons rfl .nil)) (by decide +kernel) rfl (by decide +kernel) (by rfl) (.cons rfl (by first | exact Or.inl rfl | exact Or.inr rfl) (by first | exact Or.inl rfl | exact Or.inr rfl) (.cons rfl (by first | exact Or.inl rfl | exact Or.inr rfl) (by first | exact Or.inl rfl | exact Or.inr rfl) .nil))) (V1 (U5 (pv 5))) (fun _ _ _ _=>O5 (i:=0) (show List.Nodup (["_law_one", "_law_piece", "_law_out"]:List Str) by decide +kernel) rfl (Or.inl rfl)) (fun _ _ _ _ _=>aH) (fun _ _ _ _ _=>(by wtm_at "E"))))))) cD) (cK fT))))) gU) (by wtm_at "S"))))
def Eo (J:Al P w K mg base m0K) (U:BD P w K mg base m0W) (W:zu P w K mg base m0X) (M:AZ P w K mg base m0Y) (B:Blt mg) (F:GF K mg "_law_widened" (top 90) f fd):xG P w K mg base (Ai m0K m0W m0X m0Y):=
 o6 ["_law_ways_here", "_law_found", "_law_k"] F (by wtm_at "p") (by wtm_at "f") fun Y _ _ _ _ _ _ g Z=>
 (B9 (by wtm_at "s") (B9 (iZ (i:=3) Y rfl (by first | exact Or.inl rfl | exact Or.inr rfl) (lD (N':=["_law_piece", "_law_rule_here"]) (idx:=[1]) rfl (Y5 (by rfl) (.cons rfl .nil) (by decide +kernel) rfl (by decide +kernel) (by rfl) (.cons rfl (by first | exact Or.inl rfl | exact Or.inr rfl) (by first | exact Or.inl rfl | exact Or.inr rfl) .nil)) (V1 (U5 (pv 2))) (fun _ _ _ _=>O5 (i:=0) (show List.Nodup (["_law_piece", "_law_rule_here"]:List Str) by decide +kernel) rfl (Or.inl rfl)) (fun _ _ _ _ _=>aH) (fun _ _ _ _ _=>(by wtm_at "E")))) (B9 (by wtm_at "s") (B9 (by wtm_at "s") (U1 (W4 (gy iw gq (by rfl) B.tuple ij (bc (EO.b (FO.v (dt (N':=["_law_one"]) (idx:=[]) rfl (Y5 (by rfl) .nil (by decide +kernel) rfl (by decide +kernel) (by rfl) .nil) (V1 (U5 (pv 3))) (fun _ _ _ _=>O5 (i:=0) (show List.Nodup (["_law_one"]:List Str) by decide +kernel) rfl (Or.inl rfl)) (fun _ _ _ _ _=>(ri (by wtm_at "T"))) (fun _ _ _ _ _=>(U5 (pv 0)))))) iG))))))))
def ul:FnScope ["_law_script", "_law_feed_here", "_law_line_here", "_law_rule_here", "_law_k", "_law_ending", "_law_here", "_law_kept"] ["_law_script"] (G2 (top 92)):=by wtm_at "f"
def Qt (M:BI P w K mg base m0A) (C1g:xG P w K mg base m0B) (W:BA P w K mg base m0C) (C1i:CD P w K mg base m0E) (U:Av P w K mg base m0F) (Y:tB P w K mg base m0G) {f:Addr}{fd:FuncData}(B:Blt mg) (F:Fun K "law" "law" (top 92) f fd):jm P w K mg base 73 f fd ["_law_script"] (me m0A m0B m0C m0E m0F m0G):=
 Bb F ul fun Z A J s H E g hr=>
  have nd:=ul.nd
  by unfold kb;wtm_at "R"
end
end T
namespace T
open PySem PySem.Spec L2 DL
abbrev whole:a8:=me fu cP dk cO cT bD
set_option autoImplicit true in
set_option relaxedAutoImplicit true in
def all_mk {l:PySem.W.OpenLaw}{w:World}{K:vF_}{h:Heap}{mg:vG_}(X:K.In h) (G:h.Ns mainGlobals mg) (hfa:mg "law" = some (.ref fa))
  (g1:GF K mg "_law_feed" (top 53) jf1 jd1)
  (g2:GF K mg "_law_draw" (top 54) jf2 jd2)
  (g3:GF K mg "_law_long_round" (top 91) jf3 jd3)
  (g4:GF K mg "_law_fraction" (top 55) jf4 jd4)
  (g5:GF K mg "_law_rule" (top 71) jf5 jd5)
  (g6:GF K mg "_law_at" (top 59) jf6 jd6)
  (g7:GF K mg "_law_number" (top 64) jf7 jd7)
  (g8:GF K mg "_law_place" (top 65) jf8 jd8)
  (g9:GF K mg "_law_product" (top 57) jf9 jd9)
  (g10:GF K mg "_law_way" (top 66) jf10 jd10)
  (g11:GF K mg "_law_minus" (top 58) jf11 jd11)
  (g12:GF K mg "_law_sum" (top 56) jf12 jd12)
  (g13:GF K mg "_law_goes_on" (top 67) jf13 jd13)
  (g14:GF K mg "_law_xy" (top 60) jf14 jd14)
  (g15:GF K mg "_law_gone" (top 61) jf15 jd15)
  (g16:GF K mg "_law_open_line" (top 68) jf16 jd16)
  (g17:GF K mg "neighbours" (top 16) jf17 jd17)
  (g18:GF K mg "above_root" (top 7) jf18 jd18)
  (g19:GF K mg "root_below" (top 8) jf19 jd19)
  (g20:GF K mg "root" (top 9) jf20 jd20)
  (g21:GF K mg "divisor_of_two" (top 1) jf21 jd21)
  (g22:GF K mg "divisor" (top 2) jf22 jd22)
  (g23:GF K mg "lowest" (top 3) jf23 jd23)
  (g24:GF K mg "fraction" (top 4) jf24 jd24)
  (g25:GF K mg "squared" (top 14) jf25 jd25)
  (g26:GF K mg "turned_left" (top 36) jf26 jd26)
  (g27:GF K mg "stroke" (top 35) jf27 jd27)
  (g28:GF K mg "is_lesser" (top 11) jf28 jd28)
  (g29:GF K mg "merged" (top 19) jf29 jd29)
  (g30:GF K mg "in_order" (top 18) jf30 jd30)
  (g31:GF K mg "sign" (top 12) jf31 jd31)
  (g32:GF K mg "turn" (top 13) jf32 jd32)
  (g33:GF K mg "bow" (top 28) jf33 jd33)
  (g34:GF K mg "shape_of" (top 27) jf34 jd34)
  (g35:GF K mg "moved" (top 39) jf35 jd35)
  (g36:GF K mg "turned_about" (top 38) jf36 jd36)
  (g37:GF K mg "strip_corners" (top 41) jf37 jd37)
  (g38:GF K mg "strip" (top 40) jf38 jd38)
  (g39:GF K mg "pieces" (top 24) jf39 jd39)
  (g40:GF K mg "bend_of" (top 42) jf40 jd40)
  (g41:GF K mg "outer_corner" (top 45) jf41 jd41)
  (g42:GF K mg "upright" (top 20) jf42 jd42)
  (g43:GF K mg "crossing" (top 22) jf43 jd43)
  (g44:GF K mg "straight" (top 21) jf44 jd44)
  (g45:GF K mg "tip_at" (top 46) jf45 jd45)
  (g46:GF K mg "is_below" (top 6) jf46 jd46)
  (g47:GF K mg "times" (top 5) jf47 jd47)
  (g48:GF K mg "is_near" (top 49) jf48 jd48)
  (g49:GF K mg "cornered_join" (top 48) jf49 jd49)
  (g50:GF K mg "edges" (top 17) jf50 jd50)
  (g51:GF K mg "clipped" (top 30) jf51 jd51)
  (g52:GF K mg "cut_off" (top 29) jf52 jd52)
  (g53:GF K mg "beside" (top 32) jf53 jd53)
  (g54:GF K mg "twelve" (top 31) jf54 jd54)
  (g55:GF K mg "turned_right" (top 37) jf55 jd55)
  (g56:GF K mg "part_ahead" (top 51) jf56 jd56)
  (g57:GF K mg "turning_back" (top 44) jf57 jd57)
  (g58:GF K mg "round_join" (top 47) jf58 jd58)
  (g59:GF K mg "join_at" (top 43) jf59 jd59)
  (g60:GF K mg "end_at" (top 50) jf60 jd60)
  (g61:GF K mg "widened" (top 34) jf61 jd61)
  (g62:GF K mg "_law_root" (top 80) jf62 jd62)
  (g63:GF K mg "_law_ways" (top 79) jf63 jd63)
  (g64:GF K mg "_law_ends_of_strip" (top 84) jf64 jd64)
  (g65:GF K mg "_law_lesser" (top 63) jf65 jd65)
  (g66:GF K mg "_law_turn" (top 62) jf66 jd66)
  (g67:GF K mg "_law_squared" (top 72) jf67 jd67)
  (g68:GF K mg "_law_farther" (top 73) jf68 jd68)
  (g69:GF K mg "_law_hull" (top 74) jf69 jd69)
  (g70:GF K mg "_law_over" (top 81) jf70 jd70)
  (g71:GF K mg "_law_beside" (top 82) jf71 jd71)
  (g72:GF K mg "_law_strip" (top 87) jf72 jd72)
  (g73:GF K mg "_law_outer" (top 86) jf73 jd73)
  (g74:GF K mg "_law_apart" (top 76) jf74 jd74)
  (g75:GF K mg "_law_athwart" (top 77) jf75 jd75)
  (g76:GF K mg "_law_line_place" (top 75) jf76 jd76)
  (g77:GF K mg "_law_cut" (top 78) jf77 jd77)
  (g78:GF K mg "_law_along" (top 83) jf78 jd78)
  (g79:GF K mg "_law_twelve" (top 85) jf79 jd79)
  (g80:GF K mg "_law_join" (top 88) jf80 jd80)
  (g81:GF K mg "_law_end" (top 89) jf81 jd81)
  (g82:GF K mg "_law_widened" (top 90) jf82 jd82)
  (g83:GF K mg "law" (top 92) jf83 jd83)
  (g_TWELVE_WAYS:PySem.W.nsIn K mainGlobals "TWELVE_WAYS" = some (some (.ref p_TWELVE_WAYS_1)))
  (L_TWELVE_WAYS_1:K.lookup p_TWELVE_WAYS_1=some ⟨.type "tuple",od_TWELVE_WAYS_1,.seq (List.toArray [(.ref p_TWELVE_WAYS_2),(.ref p_TWELVE_WAYS_5),(.ref p_TWELVE_WAYS_8),(.ref p_TWELVE_WAYS_11),(.ref p_TWELVE_WAYS_14),(.ref p_TWELVE_WAYS_17),(.ref p_TWELVE_WAYS_20),(.ref p_TWELVE_WAYS_23),(.ref p_TWELVE_WAYS_26),(.ref p_TWELVE_WAYS_29),(.ref p_TWELVE_WAYS_32),(.ref p_TWELVE_WAYS_35)]) n_TWELVE_WAYS_1,sl_TWELVE_WAYS_1⟩)
  (L_TWELVE_WAYS_2:K.lookup p_TWELVE_WAYS_2=some ⟨.type "tuple",od_TWELVE_WAYS_2,.seq (List.toArray [(.int 5 t_TWELVE_WAYS_3),(.int 0 t_TWELVE_WAYS_4)]) n_TWELVE_WAYS_2,sl_TWELVE_WAYS_2⟩)
  (L_TWELVE_WAYS_5:K.lookup p_TWELVE_WAYS_5=some ⟨.type "tuple",od_TWELVE_WAYS_5,.seq (List.toArray [(.int 4 t_TWELVE_WAYS_6),(.int 3 t_TWELVE_WAYS_7)]) n_TWELVE_WAYS_5,sl_TWELVE_WAYS_5⟩)
  (L_TWELVE_WAYS_8:K.lookup p_TWELVE_WAYS_8=some ⟨.type "tuple",od_TWELVE_WAYS_8,.seq (List.toArray [(.int 3 t_TWELVE_WAYS_9),(.int 4 t_TWELVE_WAYS_10)]) n_TWELVE_WAYS_8,sl_TWELVE_WAYS_8⟩)
  (M:K.lookup p_TWELVE_WAYS_11=some ⟨.type "tuple",od_TWELVE_WAYS_11,.seq (List.toArray [(.int 0 t_TWELVE_WAYS_12),(.int 5 t_TWELVE_WAYS_13)]) n_TWELVE_WAYS_11,sl_TWELVE_WAYS_11⟩)
  (Z:K.lookup p_TWELVE_WAYS_14=some ⟨.type "tuple",od_TWELVE_WAYS_14,.seq (List.toArray [(.int (-3) t_TWELVE_WAYS_15),(.int 4 t_TWELVE_WAYS_16)]) n_TWELVE_WAYS_14,sl_TWELVE_WAYS_14⟩)
  (L_TWELVE_WAYS_17:K.lookup p_TWELVE_WAYS_17=some ⟨.type "tuple",od_TWELVE_WAYS_17,.seq (List.toArray [(.int (-4) t_TWELVE_WAYS_18),(.int 3 t_TWELVE_WAYS_19)]) n_TWELVE_WAYS_17,sl_TWELVE_WAYS_17⟩)
  (L_TWELVE_WAYS_20:K.lookup p_TWELVE_WAYS_20=some ⟨.type "tuple",od_TWELVE_WAYS_20,.seq (List.toArray [(.int (-5) t_TWELVE_WAYS_21),(.int 0 t_TWELVE_WAYS_22)]) n_TWELVE_WAYS_20,sl_TWELVE_WAYS_20⟩)
  (L_TWELVE_WAYS_23:K.lookup p_TWELVE_WAYS_23=some ⟨.type "tuple",od_TWELVE_WAYS_23,.seq (List.toArray [(.int (-4) t_TWELVE_WAYS_24),(.int (-3) t_TWELVE_WAYS_25)]) n_TWELVE_WAYS_23,sl_TWELVE_WAYS_23⟩)
  (L_TWELVE_WAYS_26:K.lookup p_TWELVE_WAYS_26=some ⟨.type "tuple",od_TWELVE_WAYS_26,.seq (List.toArray [(.int (-3) t_TWELVE_WAYS_27),(.int (-4) t_TWELVE_WAYS_28)]) n_TWELVE_WAYS_26,sl_TWELVE_WAYS_26⟩)
  (U:K.lookup p_TWELVE_WAYS_29=some ⟨.type "tuple",od_TWELVE_WAYS_29,.seq (List.toArray [(.int 0 t_TWELVE_WAYS_30),(.int (-5) t_TWELVE_WAYS_31)]) n_TWELVE_WAYS_29,sl_TWELVE_WAYS_29⟩)
  (Y:K.lookup p_TWELVE_WAYS_32=some ⟨.type "tuple",od_TWELVE_WAYS_32,.seq (List.toArray [(.int 3 t_TWELVE_WAYS_33),(.int (-4) t_TWELVE_WAYS_34)]) n_TWELVE_WAYS_32,sl_TWELVE_WAYS_32⟩)
  (L_TWELVE_WAYS_35:K.lookup p_TWELVE_WAYS_35=some ⟨.type "tuple",od_TWELVE_WAYS_35,.seq (List.toArray [(.int 4 t_TWELVE_WAYS_36),(.int (-3) t_TWELVE_WAYS_37)]) n_TWELVE_WAYS_35,sl_TWELVE_WAYS_35⟩)
  (J:PySem.W.nsIn K mainGlobals "is_lesser" = some (some (.ref pf_is_lesser)))
  (B:Blt mg) :
  ∃fd:FuncData,(∀(s:Shared) (v:Value),BindsTo s fd ⟨[v],[]⟩ [("_law_script",v)])/\∀base:Heap,K.In base->base.Ns mainGlobals mg->FnOk l.prog w K mg base Z8 73 fa fd ["_law_script"] (cZ K 1 whole):=by
 have e:=hfa.symm.trans g83.m;cases e;refine⟨jd83,QJ g83.F fun _ _ _ _ _ _ _ _=>.of_eq rfl,fun base _ _=>?_⟩;have V_is_lesser:FnV K mg "is_lesser" := ⟨_,WM X G J,J⟩
 have C0U:Con K mg "TWELVE_WAYS" (.tup [(.tup [(.int 5),(.int 0)]),(.tup [(.int 4),(.int 3)]),(.tup [(.int 3),(.int 4)]),(.tup [(.int 0),(.int 5)]),(.tup [(.int (-3)),(.int 4)]),(.tup [(.int (-4)),(.int 3)]),(.tup [(.int (-5)),(.int 0)]),(.tup [(.int (-4)),(.int (-3))]),(.tup [(.int (-3)),(.int (-4))]),(.tup [(.int 0),(.int (-5))]),(.tup [(.int 3),(.int (-4))]),(.tup [(.int 4),(.int (-3))])]):=⟨_,WM X G g_TWELVE_WAYS,(V8 L_TWELVE_WAYS_1 (C6 (V8 L_TWELVE_WAYS_2 (C6 (G8 _ _) (C6 (G8 _ _) V4)) (show 2<=sizeLine by decide)) (C6 (V8 L_TWELVE_WAYS_5 (C6 (G8 _ _) (C6 (G8 _ _) V4)) (show 2<=sizeLine by decide)) (C6 (V8 L_TWELVE_WAYS_8 (C6 (G8 _ _) (C6 (G8 _ _) V4)) (show 2<=sizeLine by decide)) (C6 (V8 M (C6 (G8 _ _) (C6 (G8 _ _) V4)) (show 2<=sizeLine by decide)) (C6 (V8 Z (C6 (G8 _ _) (C6 (G8 _ _) V4)) (show 2<=sizeLine by decide)) (C6 (V8 L_TWELVE_WAYS_17 (C6 (G8 _ _) (C6 (G8 _ _) V4)) (show 2<=sizeLine by decide)) (C6 (V8 L_TWELVE_WAYS_20 (C6 (G8 _ _) (C6 (G8 _ _) V4)) (show 2<=sizeLine by decide)) (C6 (V8 L_TWELVE_WAYS_23 (C6 (G8 _ _) (C6 (G8 _ _) V4)) (show 2<=sizeLine by decide)) (C6 (V8 L_TWELVE_WAYS_26 (C6 (G8 _ _) (C6 (G8 _ _) V4)) (show 2<=sizeLine by decide)) (C6 (V8 U (C6 (G8 _ _) (C6 (G8 _ _) V4)) (show 2<=sizeLine by decide)) (C6 (V8 Y (C6 (G8 _ _) (C6 (G8 _ _) V4)) (show 2<=sizeLine by decide)) (C6 (V8 L_TWELVE_WAYS_35 (C6 (G8 _ _) (C6 (G8 _ _) V4)) (show 2<=sizeLine by decide)) V4)))))))))))) (show 12<=sizeLine by decide))⟩
 have C1k:=Pu (P:=l.prog) (w:=w) (base:=base) B g1;have C05:=HB (P:=l.prog) (w:=w) (base:=base) B g2;have C1j:=MU C05 B g3;have C01:=Kt (P:=l.prog) (w:=w) (base:=base) B g4;have C1h:=JF C05 C01 B g5;have C0h:=Ml C01 B g6;have C0E:=GJ C01 C05 B g7;have C0H:=Sb C0h C0E B g8;have C02:=Mn C01 B g9;have C0G:=Js C02 C01 C05 B g10;have C00:=Kw (P:=l.prog) (w:=w) (base:=base) B g11;have C03:=OZ C01 B g12;have C0F:=LU C03 C02 B g13;have C0a:=Oi C01 B g14;have C06:=Ih C0h C03 C0a B g15;have C1i:=Nc C0F C06 C05 C00 C0G C0H B g16;have C0d:=Oq (P:=l.prog) (w:=w) (base:=base) B g17;have C0I:=NI (P:=l.prog) (w:=w) (base:=base) B g18;have C0J:=NW C0I B g19;have C0N:=Kj C0J B g20;have C0K:=Oz (P:=l.prog) (w:=w) (base:=base) B g21;have C0L:=Ot C0K B g22;have C07:=Gx C0L B g23;have C0i:=Sh C07 B g24;have C0j:=ON C0i B g25;have C0M:=Mz (P:=l.prog) (w:=w) (base:=base) B g26;have C14:=MW C0M C07 C0N C0j B g27;have C0B:=Nr (P:=l.prog) (w:=w) (base:=base) B g28;have C0C:=Ee C0B B g29;have C0k:=tS C0C B g30 64;have C0l:=QL (P:=l.prog) (w:=w) (base:=base) B g31;have C0m:=NX C0l B g32;have C0D:=Rv C0m B g33;have C04:=RS C0k C0D V_is_lesser B g34;have C08:=Qn C07 B g35;have C0c:=Gg (P:=l.prog) (w:=w) (base:=base) B g36;have C0n:=Pg C08 C0c B g37;have C12:=Jr C04 C0n B g38;have C13:=Np C0d B g39;have C0Z:=QR C0l B g40;have C0e:=IV C08 C0c B g41;have C0o:=Lq (P:=l.prog) (w:=w) (base:=base) B g42;have C0p:=Kq C07 C0o B g43;have C0q:=Ib C0o B g44;have C0Q:=QD C0p C0q C08 C0e B g45;have C0O:=Hz (P:=l.prog) (w:=w) (base:=base) B g46;have C0r:=FI C0i B g47;have C0P:=Fv C0O C0j C0r B g48;have C0W:=IA C04 C0P C0r C0Q C0e B g49;have C0R:=IW C0d B g50;have C0S:=GA C0m C0p C0q C0R B g51;have C0f:=GR C04 C0S B g52;have C0T:=GW C07 B g53;have C0s:=NG C04 C0T C0U B g54;have C0V:=MX (P:=l.prog) (w:=w) (base:=base) B g55;have C0t:=Ri C0f C08 C0V C0s B g56;have C0Y:=NP C0t B g57;have C0X:=Gm C0f C0s C0e B g58;have C11:=FQ C0W C0X C0Y C0Z B g59;have C10:=Of C0f C08 C0t C04 C0n B g60;have C1f:=JH C10 C0c C11 C0d C12 C13 C14 B g61;have C15:=FD (P:=l.prog) (w:=w) (base:=base) B g62;have C1e:=Fx C15 C03 C02 C00 C0a B g63;have C0w:=Ez C00 B g64;have C17:=MR (P:=l.prog) (w:=w) (base:=base) B g65;have C0g:=RC (P:=l.prog) (w:=w) (base:=base) B g66;have C0u:=Jk C03 C02 C00 C0a B g67;have C16:=GS C03 C00 C0u C0g B g68;have C09:=QB C16 C17 B g69;have C0v:=Lu C01 B g70;have C0b:=Lz C06 C02 C00 C0v B g71;have C1d:=FW C09 C0b C0w B g72;have C1a:=HL C0b C00 C0g B g73;have C19:=Gq C03 C00 C0a B g74;have C18:=LL C03 C00 C02 B g75;have C0x:=HC C06 C02 C01 C18 C19 B g76;have C0z:=HI C09 C0g C0x B g77;have C0y:=Fp C06 C02 C0v B g78;have C0A:=Qq C06 C02 C01 B g79;have C1c:=Fw C09 C03 C00 C0u C02 C0x C0y C0z C0A C0b C1a B g80;have C1b:=Kv C0z C0y C0b C0A C09 C0w C00 B g81;have C1g:=Eo C1b C1c C1d C1e B g82;exact Qt C1f C1g C1h C1i C1j C1k B g83.F
end T
abbrev GK:=@DL.gf_mk

open PySem PySem.W PyProof.Rows
set_option maxRecDepth 100000 in
set_option maxHeartbeats 0 in
theorem PySem.Challenge.cw_widelines_k13_strips_and_ends_holds : PySem.Challenge.rw_widelines_k13_strips_and_ends.Holds := by
 w_on; o_law; k_head; (case hw=>w_witness2)
 k_fill
 refine DL.walkD (l:=PySem.Challenge.rw_widelines_k13_strips_and_ends) (m:=T.whole) (k:=73) rfl rfl ⟨rfl,by decide,by decide,rfl⟩ (fun w h Y=>PySem.W.kIn_of Y) ?F T.math
 case F=>
  intro w mg fa h KX G hmg
  refine' T.all_mk KX G hmg (GK KX G ?_ ?_ ?_ ?_) (GK KX G ?_ ?_ ?_ ?_) (GK KX G ?_ ?_ ?_ ?_) (GK KX G ?_ ?_ ?_ ?_) (GK KX G ?_ ?_ ?_ ?_) (GK KX G ?_ ?_ ?_ ?_) (GK KX G ?_ ?_ ?_ ?_) (GK KX G ?_ ?_ ?_ ?_) (GK KX G ?_ ?_ ?_ ?_) (GK KX G ?_ ?_ ?_ ?_) (GK KX G ?_ ?_ ?_ ?_) (GK KX G ?_ ?_ ?_ ?_) (GK KX G ?_ ?_ ?_ ?_) (GK KX G ?_ ?_ ?_ ?_) (GK KX G ?_ ?_ ?_ ?_) (GK KX G ?_ ?_ ?_ ?_) (GK KX G ?_ ?_ ?_ ?_) (GK KX G ?_ ?_ ?_ ?_) (GK KX G ?_ ?_ ?_ ?_) (GK KX G ?_ ?_ ?_ ?_) (GK KX G ?_ ?_ ?_ ?_) (GK KX G ?_ ?_ ?_ ?_) (GK KX G ?_ ?_ ?_ ?_) (GK KX G ?_ ?_ ?_ ?_) (GK KX G ?_ ?_ ?_ ?_) (GK KX G ?_ ?_ ?_ ?_) (GK KX G ?_ ?_ ?_ ?_) (GK KX G ?_ ?_ ?_ ?_) (GK KX G ?_ ?_ ?_ ?_) (GK KX G ?_ ?_ ?_ ?_) (GK KX G ?_ ?_ ?_ ?_) (GK KX G ?_ ?_ ?_ ?_) (GK KX G ?_ ?_ ?_ ?_) (GK KX G ?_ ?_ ?_ ?_) (GK KX G ?_ ?_ ?_ ?_) (GK KX G ?_ ?_ ?_ ?_) (GK KX G ?_ ?_ ?_ ?_) (GK KX G ?_ ?_ ?_ ?_) (GK KX G ?_ ?_ ?_ ?_) (GK KX G ?_ ?_ ?_ ?_) (GK KX G ?_ ?_ ?_ ?_) (GK KX G ?_ ?_ ?_ ?_) (GK KX G ?_ ?_ ?_ ?_) (GK KX G ?_ ?_ ?_ ?_) (GK KX G ?_ ?_ ?_ ?_) (GK KX G ?_ ?_ ?_ ?_) (GK KX G ?_ ?_ ?_ ?_) (GK KX G ?_ ?_ ?_ ?_) (GK KX G ?_ ?_ ?_ ?_) (GK KX G ?_ ?_ ?_ ?_) (GK KX G ?_ ?_ ?_ ?_) (GK KX G ?_ ?_ ?_ ?_) (GK KX G ?_ ?_ ?_ ?_) (GK KX G ?_ ?_ ?_ ?_) (GK KX G ?_ ?_ ?_ ?_) (GK KX G ?_ ?_ ?_ ?_) (GK KX G ?_ ?_ ?_ ?_) (GK KX G ?_ ?_ ?_ ?_) (GK KX G ?_ ?_ ?_ ?_) (GK KX G ?_ ?_ ?_ ?_) (GK KX G ?_ ?_ ?_ ?_) (GK KX G ?_ ?_ ?_ ?_) (GK KX G ?_ ?_ ?_ ?_) (GK KX G ?_ ?_ ?_ ?_) (GK KX G ?_ ?_ ?_ ?_) (GK KX G ?_ ?_ ?_ ?_) (GK KX G ?_ ?_ ?_ ?_) (GK KX G ?_ ?_ ?_ ?_) (GK KX G ?_ ?_ ?_ ?_) (GK KX G ?_ ?_ ?_ ?_) (GK KX G ?_ ?_ ?_ ?_) (GK KX G ?_ ?_ ?_ ?_) (GK KX G ?_ ?_ ?_ ?_) (GK KX G ?_ ?_ ?_ ?_) (GK KX G ?_ ?_ ?_ ?_) (GK KX G ?_ ?_ ?_ ?_) (GK KX G ?_ ?_ ?_ ?_) (GK KX G ?_ ?_ ?_ ?_) (GK KX G ?_ ?_ ?_ ?_) (GK KX G ?_ ?_ ?_ ?_) (GK KX G ?_ ?_ ?_ ?_) (GK KX G ?_ ?_ ?_ ?_) (GK KX G ?_ ?_ ?_ ?_) ?_ ?_ ?_ ?_ ?_ ?_ ?_ ?_ ?_ ?_ ?_ ?_ ?_ ?_ ?_ (DL.blt_mk KX G ?_ ?_ ?_ ?_ ?_ ?_ ?_ ?_ ?_ ?_ ?_ ?_ ?_ ?_ ?_ ?_ ?_ ?_ ?_)
  all_goals try k_is
