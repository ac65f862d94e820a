import PyProof.Rows.All
import Wide.All
import OpenK.AllK
import Wide.FinOn
import Lean
import PyProof.EqAt
import PyProof.EqKinds
import PyProof.TupleCall
import PySem.Challenge.RW_widelines_k23_bare_parts
inductive PySem.W.Fast|tw835737912992996246|tw6392582196312498316|tw1878999428935511611|tw17413816606945618410|tw6432127688157080275|tw5400227168684900339|tw11835018076187555808|tw8662185647768305325|tw16796901690324766597|tw320355287468966950|tw2670755608543954391|tw8287150592545139973|tw6239135194572151614|tw18365216218899495270|tw12115947136199271749|tw9514040358204857980|tw4482778877830861281|tw2063650610383032018|tw12729415155510223472|tw13244917222426304076|tw15104373344461197323|tw5279574861980285017|tw10708039301692895878|tw9239773078617124421|tw17707603333467600535|tw6527972205544436506|tw283482887898194034|tw6647146607526804951|tw8276880983708670577|tw3215688547934019704|tw6695859932300102397|tw1303893374896715459|tw17768601937762917488|tw9236967346909575333|tw3835847540090607117|tw10303288087723457419|tw14526257970814127054|tw9319236548974329890|tw345204972221146769|tw1850701539680406138|tw1684386289789483317|tw6596709690131024585|tw16000491546964267768|tw11975125456884744457|tw13479118873062188881|tw2723057024401742622|tw14322154136118793762|tw1558064318118499538|tw11096803622831939114|tw5759915646138509102|tw14768856945978227356|tw9834258477844094855|tw12289715483948811476|tw9103805138444510510|tw7944547661379372243|tw1494898466824331729|tw1458337707068844922|tw15043219760389427497|tw6573906452396232800|tw1608673642788877612|tw4560756206808246076|tw9849475867346165030|tw16537074190015576141|tw15329895052101056610|tw11425154474633478955|tw17560949333512304498|tw1019324164161499635|tw17452605123911245897|tw17272200595790113917|tw10837204018655894960|tw8009661793916773058|tw14441719680403886072|tw3172863537462151921|tw11154653477842109239|tw13369554812458683015|tw8859693443947383243|tw13216332144618711066|tw6086238132357679925|tw3174071731573311308|tw11504569158278701303|tw4465046875515075435|tw15373202379417006109|tw7787188275539860120|tw14442816091629979932|tw15423703826941987319|tw15384201068150569798|tw13601735867482293578|tw1645408907665351550|tw8373515669037654083|tw86516581132922468|tw14849468926946846714|tw2444054893612726314|tw7876894974992632139|tw6076885159025522766|tw9996452127452441183|tw2782204000437488461|tw8436591351454953004|tw10933435501295386033|tw13995972692843659288|tw3434992154749446292|tw388193976364508819|tw3394375503439884474|tw7211588353534122424|tw10395292427279543908|tw2524429770857220723|tw4101538856546582344|tw2509444139694104152|tw1997396338182988244|tw5452742966570232433|tw4753210578899439760|tw976020187905770132|tw6017477893274108509|tw17288801139995856304|tw13522535443093428162|tw3800763609413226217|tw7750457200099450333|tw16158677808390652392|tw3229406493294843452|tw10327325354518959856|tw9432284909114597966|tw6349213472077965177|tw1910925623225879378|tw16802664294240326356|tw15347158036752204582|tw4059654730694175966|tw16854150384879263519|tw1557983262196499585|tw15104632159829887721|tw386293446141225128|tw1724097794613397244|tw15421553076279969261|tw11353627776846588919|tw7818406434375670150|tw7379445429898071005|tw6715164824071990267|tw3097608954470864633|tw9910896816966222068|tw9296779940026287068|tw9159818897988361891|tw8033936311144818137|tw7927370989489560218|tw7610171115230065165|tw7452705351432907827|tw7315712732430613632|tw6935351064373635351|tw6918768297268178199|tw6150822467205458786|tw4436698580152358154|tw3413897836899743318|tw18400482720173145177|tw18021946499901614899|tw16642987830241115072|tw16622826987085225271|tw15792536619185754614|tw15438955853626107549|tw15354045687420632702|tw15105351013434141844|tw14509511775259994149|tw13729557647567063642|tw13611780649537503274|tw13523054066990785455|tw13398643198297286148|tw12686695653497090293|tw12421448888405107125|tw11923251484749445514|tw11282384501968531705|tw10339863218256022453|tw10025146852028787654|tw16859381530302170064|tw427124102923302028|tw14320891011849735337|tw9875465946753315672|tw3854724611870707044|tw2750272407980304523|tw17760883770678551042|tw16679738692727204411|tw15284173862897717685|tw15086346088903085462|tw12064778009190867543|tw6866422858989168098|tw2445479921409496477|tw2324312313543941715|tw5892987310106095532|tw14133093687743502658|tw8449974572336877514|tw6130421208382258699|tw6079284918990452639|tw5595480582973743523|tw4336893441869989667|tw4026912764435889453|tw2161166538243314404|tw18171562133460703786|tw1795677513279567064|tw17784996192629197357|tw15020843839025431118|tw12533723956524968723|tw11902453290045791765|tw11884983542551047562|tw11288968294868404363|tw9475530750048133981|tw8942995020782421082|tw87350599921805990|tw843652714477999363|tw8091462609493206176|tw7928215479189719902|tw7589439185068101614|tw732998994782201515|tw7270617660940776595|tw711082022606428715|tw68826916615365936|tw6703697281348483725|tw6686135441519861688|tw6093963439874757546|tw5873096937591725983|tw5666807250909615108|tw5458358502419251222|tw5384707033600763103|tw4841526382048322429|tw428678538579523019|tw3744115753675943841
local macro_rules | `(tactic| omega) => `(tactic| first | with_reducible assumption | decide | omega +splitMinMax)
theorem PySem.W.Fast.te835737912992996246 : True := True.intro
set_option Elab.async false
set_option linter.all false
set_option maxRecDepth 100000
set_option bootstrap.genMatcherCode false
set_option genSizeOf false
set_option autoImplicit true
set_option relaxedAutoImplicit true
set_option maxHeartbeats 4000000
noncomputable section
section
set_option compiler.extract_closed false
set_option hygiene false in
local macro_rules | `(tactic|simp! [$a,*])=>`(tactic|simp[A3,A5,A8,C2,C5,C9,D1,Qn,a0,a7,b9,d4,d5,d6,dB,dC,dL,dV,f7,f9,i8,j4,j7,j8,k0,k6,l5,l7,n8,n9,o7,one,r0,r8,t6,t7,t9,u3,u5,u9,w5,$a,*])
set_option hygiene false in
local macro_rules | `(tactic|simp! [])=>`(tactic|simp[A3,A5,A8,C2,C5,C9,D1,Qn,a0,a7,b9,d4,d5,d6,dB,dC,dL,dV,f7,f9,i8,j4,j7,j8,k0,k6,l5,l7,n8,n9,o7,one,r0,r8,t6,t7,t9,u3,u5,u9,w5])
set_option hygiene false in
local macro_rules | `(tactic|simp! only [$a,*])=>`(tactic|simp[A5,A8,C2,D8,K0,K1,P9,Qn,W9,a0,a7,aM,b9,bx,d4,d5,d6,d9,dB,dC,dL,dV,f7,f9,fM,i8,iQ,j4,j7,j8,k0,l5,n9,o7,one,r8,t9,$a,*])
set_option hygiene false in
local macro_rules | `(tactic|simp! only [])=>`(tactic|simp[A5,A8,C2,D8,K0,K1,P9,Qn,W9,a0,a7,aM,b9,bx,d4,d5,d6,d9,dB,dC,dL,dV,f7,f9,fM,i8,iQ,j4,j7,j8,k0,l5,n9,o7,one,r8,t9])
local macro_rules | `(∅)=>`(by omega)
local macro_rules | `(#v[$a,*])=>`(List.toArray [$a,*])
local macro_rules | `(#[])=>`(by decide) | `(#[$a,*])=>`(⟨$a,*⟩)
def fx:=@PySem.wpAny_bind
def fI:=@if_neg
def gV:=@if_pos
def iO:=@PySem.wpAny_pure
def iR:=@List.mem_cons_self
def iU:=@Nat.le_refl
def td:=@List.mem_cons_of_mem
def tx:=@List.mem_cons
def xo:=@List.length_map
def xr:=@Option.bind_some
def xu:=@PySem.Heap.lt_size
def Kf:=@Nat.le_trans
def Kg:=@PySem.Heap.get?_push_of_some
def Kh:=@List.length_cons
def Ki:=@Ne.symm
def Kj:=@Rat.mul_pos
def Kk:=@Rat.intCast_mul
def Kl:=@List.size_toArray
def Km:=@List.length_append
def Kn:=@Bool.false_ne_true
def Ko:=@Bool.and_eq_true
def Kp:=@decide_eq_true
def Kq:=@Prod.mk.injEq
def Kr:=@Nat.ne_of_lt
def Ks:=@Nat.lt_of_lt_of_le
def Kt:=@List.length_drop
def Ku:=@List.map_cons
def Kv:=@if_false
def Kw:=@List.mem_map
def Kx:=@Rat.mul_nonneg
def Ky:=@PySem.Heap.get?_push_size
def Kz:=@List.nodup_cons
def KA:=@Prod.ext
def KC:=@decide_eq_false
def KD:=@List.mem_append
def KG:=@if_true
def KH:=@List.getElem?_eq_some_iff
def KI:=@List.mem_singleton
def KJ:=@PySem.wpAny_field
def KL:=@PySem.PassesOwn.never
def KN:=@Option.some.inj
def KO:=@List.getElem?_map
def KP:=@Option.some.injEq
def KQ:=@Bool.false_eq_true
def KR:=@List.not_mem_nil
def KS:=@PySem.W.mg_none_of
def KU:=@Nat.lt_of_le_of_lt
def KW:=@PySem.wpAny_mono
def KY:=@PySem.wpAny_call_entry
def KZ:=@or_false
def La:=@Rat.mul_eq_zero
def Lb:=@Rat.div_def
def Lc:=@Rat.not_lt
def Ld:=@List.length_take
def Le:=@List.getElem?_eq_getElem
def Lf:=@PySem.F.slot_zip_next
def Lg:=@List.length_nil
def Lh:=@List.map_append
def Li:=@Nat.mod_lt
def Lj:=@Nat.ne_of_gt
def Lk:=@PySem.wpAny_holding
def Ll:=@PySem.wpAny_seqItems
def Lm:=@decide_eq_true_iff
def Ln:=@Rat.intCast_sub
def Lo:=@Rat.le_of_lt
def Lp:=@PySem.wpAny_rule
def Lq:=@List.mem_append_right
def Lr:=@Nat.zero_le
def Ls:=@List.append_nil
def Lu:=@PySem.wpAny_callSpecial?_slot
def Lv:=@List.set_cons_succ
def Lw:=@Bool.and_self
def Lx:=@Bool.not_eq_true'
def Ly:=@List.pairwise_cons
def Lz:=@List.mem_flatMap
def LA:=@PySem.wpAny_newObj_type
def LB:=@Bool.eq_iff_iff
def LC:=@Int.toNat_natCast
def LD:=@Rat.not_le
def LF:=@List.mem_range
def LG:=@PySem.Heap.get?_update_self
def LH:=@List.all_eq_true
def LI:=@List.map_drop
def LJ:=@List.flatMap_cons
def LK:=@Nat.lt_irrefl
def LL:=@List.of_mem_zip
def LM:=@List.mem_of_getElem?
def LN:=@PySem.Heap.get?_update_other
def LO:=@Nat.add_comm
def LP:=@of_decide_eq_true
def LQ:=@Bool.eq_false_iff
def LR:=@List.mem_filter
def LS:=@PySem.wpAny_Call_Name_kw
def LU:=@decide_eq_true_eq
def LV:=@PySem.wpAny_setField_rec
def LX:=@PySem.wpAny_attempt
def LY:=@Array.getElem?_eq_getElem
def Ma:=@Nat.min_eq_left
def Mb:=@Rat.zero_mul
def Mc:=@List.length_zip
def Md:=@Nat.add_mod_right
def Me:=@Nat.zero_add
def Mf:=@List.filterMap_cons
def Mg:=@List.getElem?_set_ne
def Mh:=@PySem.wpAny_passesOwn
def Mi:=@PyProof.Rows.callWith_type1
def Mj:=@List.replicate_succ
def Mk:=@Option.bind_eq_some_iff
def Ml:=@Nat.sub_zero
def Mm:=@PySem.wpAny_updateSeq
def Mn:=@List.getElem?_of_mem
def Mo:=@List.mem_of_mem_drop
def Mp:=@List.getElem?_drop
def Mq:=@Nat.mod_eq_of_lt
def Mr:=@Rat.intCast_add
def Ms:=@PySem.wpAny_truthy_bool
def Mt:=@List.getElem?_append_right
def Mu:=@PyProof.Rows.slot_tuple_getitem
def Mv:=@List.append_assoc
def Mw:=@PySem.call_meets
def Mx:=@List.map_nil
def My:=@PySem.Heap.size_push
def Mz:=@List.nodup_nil
def MA:=@PySem.W.kia_one
def MB:=@Nat.min_le_left
def MC:=@PySem.SeqAt.canLay_of_shaped
def MD:=@List.forIn_cons
def ME:=@PySem.F.entry_zip_next
def MF:=@PySem.F.args_zip_next_1
def MG:=@PySem.wpAny_isInstance
def MH:=@PySem.F.slot_zip_iter
def MI:=@Int.mul_comm
def MJ:=@List.take_of_length_le
def MK:=@Classical.byContradiction
def ML:=@List.map_map
def MM:=@Bool.true_and
def MN:=@Rat.divInt_eq_div
def MO:=@List.takeWhile_append_dropWhile
def MP:=@List.map_take
def MQ:=@Rat.mul_zero
def MR:=@Rat.mul_assoc
def MS:=@decide_eq_decide
def MT:=@List.any_cons
def MU:=@List.any_eq_true
def MV:=@PySem.mem_of_lookup
def MW:=@List.getElem?_append_left
def MX:=@PySem.wpAny_typeOf
def MY:=@List.flatten_cons
def MZ:=@List.drop_zero
def Na:=@Bool.not_true
def Nb:=@List.forIn_nil
def Nc:=@PySem.wpAny_letGo
def Nd:=@PySem.F.plain_extend_loop
def Nf:=@List.nodup_append
def Ng:=@PySem.wpAny_specialOf
def Nh:=@Array.getElem?_eq_none
def Ni:=@Nat.min_eq_right
def Nj:=@List.getElem?_zip_eq_some
def Nk:=@PySem.F.slot_dict_keyiterator_next
def Nl:=@Bool.beq_eq_decide_eq
def Nm:=@Rat.intCast_eq_zero_iff
def Nn:=@Int.natCast_mul
def Np:=@Rat.lt_irrefl
def Nq:=@List.mem_of_mem_take
def Nr:=@List.take_append_drop
def Nu:=@Bool.and_true
def Nv:=@Rat.mul_one
def Nw:=@List.length_range
def Nx:=@Rat.inv_pos
def Ny:=@List.length_filter_le
def Nz:=@Nat.le_of_lt
def NA:=@List.getElem?_set_self
def NB:=@PySem.wpAny_execs_nil
def NC:=@PySem.wpAny_standAt
def ND:=@PySem.sizeLine_eq
def NF:=@List.getElem?_take_of_lt
def NG:=@List.nil_append
def NH:=@Nat.le_of_not_lt
def NI:=@Nat.le_of_eq
def NJ:=@List.set_cons_zero
def NK:=@PySem.F.plainAttrs_list
def NL:=@PySem.F.slot_tuple_iterator_next
def NM:=@PySem.wpAny_setField
def NO:=@PySem.Heap.SameBut.update
def NP:=@PySem.Obj.data_mapFields
def NQ:=@PySem.wpAny_onRaise
def NR:=@PySem.isSubtype_stop
def NS:=@List.mem_iff_getElem?
def NT:=@Bool.or_false
def NU:=@PySem.wpAny_pyIter_slot
def NV:=@PySem.W.mg_of
def NW:=@PySem.wpAny_typeNameOfWhole_keyiter
def NX:=@PySem.wpAny_typeNameOf_keyiter
def NY:=@PySem.F.slot_tuple_hash
def NZ:=@Nat.add_assoc
def Oa:=@List.cons.injEq
def Ob:=@Int.fmod_eq_emod_of_nonneg
def Oc:=@Nat.gcd_comm
def Od:=@List.getElem_mem
def Oe:=@Rat.div_mul_cancel
def Of:=@Int.ofNat_dvd
def Og:=@Int.mul_nonneg
def Oh:=@Rat.intCast_neg
def Oi:=@Int.mul_le_mul_of_nonneg_left
def Oj:=@Rat.mul_inv_cancel
def Ol:=@Int.fdiv_eq_ediv_of_nonneg
def Om:=@Nat.mod_add_mod
def Oo:=@Nat.div_add_mod
def Oq:=@Nat.mul_le_mul_left
def Ot:=@Nat.add_mod
def Ou:=@Int.mul_pos
def Ov:=@beq_eq_false_iff_ne
def Ow:=@Array.length_toList
def Ox:=@List.mem_filterMap
def Oy:=@PySem.noFill_tuple_add
def Oz:=@PySem.F.slot_tuple_add
def OA:=@PySem.F.entry_tuple_add
def OB:=@PySem.F.args_tuple_add_2
def OC:=@List.filterMap_map
def OD:=@PySem.slot_list_getitem
def OE:=@List.reverse_cons
def OF:=@List.length_singleton
def OG:=@Option.map_some
def OH:=@Nat.lt_succ_of_lt
def OI:=@Nat.lt_succ_self
def OJ:=@Option.map_eq_some_iff
def OK:=@List.cons_append
def OL:=@List.Sublist.refl
def OM:=@List.ext_getElem?
def OP:=@PySem.wpAny_updateSeq_pair
def OQ:=@PySem.F.entry_zip_iter
def OS:=@PySem.F.args_zip_iter_1
def OT:=@List.length_zipWith
def OU:=@List.length_reverse
def OV:=@PySem.wpAny_dictEntries
def OW:=@PySem.wpAny_dictEpoch
def OX:=@PySem.wpAny_tupleItemsOf
def OY:=@PySem.wpAny_forIn_list
def OZ:=@PySem.F.slot_tuple_eq
def Pa:=@PySem.tupleKind_room_in1
def Pb:=@Nat.pow_le_pow_right
def Pc:=@Int.gcd_dvd_right
def Pd:=@Int.natAbs_mul
def Pe:=@Nat.pow_succ
def Pf:=@Rat.intCast_inj
def Pg:=@Rat.mul_pos_iff_of_pos_left
def Ph:=@Bool.or_eq_true
def Pj:=@List.dropWhile_subset
def Pk:=@List.takeWhile_cons
def Pl:=@List.zip_map
def Pm:=@Int.zero_add
def Pn:=@List.getElem?_eq_none
def Po:=@List.Pairwise.map
def Pp:=@List.flatMap_nil
def Pq:=@PySem.W.cellsFrom_some
def Pr:=@Option.isSome_iff_exists
def Pu:=@List.length_replicate
def Pw:=@List.sublist_cons_self
def Px:=@List.getElem?_cons_succ
def Py:=@List.drop_eq_nil_of_le
def Pz:=@List.eq_nil_iff_forall_not_mem
def PB:=@PyProof.Rows.eq_dataH
def PD:=@List.getElem?_reverse
def PF:=@PySem.F.entry_tuple_iterator_next
def PH:=@PySem.F.args_tuple_iterator_next_1
def PJ:=@PySem.F.entry_extend_loop
def PK:=@PySem.F.typeCall_list_1
def PL:=@PySem.F.entry_list_init
def PM:=@PySem.F.args_list_init_2
def PN:=@PyProof.Rows.zipApart_new
def PQ:=@List.getElem?_zipWith
def PR:=@List.zipWith_nil_left
def PU:=@List.eq_nil_of_length_eq_zero
def PV:=@List.zipWith_nil_right
def PX:=@List.zipWith_cons_cons
def PY:=@PySem.F.slot_dict_iter
def PZ:=@PySem.F.entry_dict_keyiterator_next
def Qa:=@PySem.F.args_dict_keyiterator_next_1
def Qb:=@Int.gcd_pos_of_ne_zero_right
def Qc:=@Nat.div_eq_of_eq_mul_right
def Qd:=@Int.eq_ofNat_of_zero_le
def Qe:=@Nat.div_le_iff_le_mul_add_pred
def Qf:=@List.drop_of_length_le
def Qg:=@Int.natAbs_ediv_le_natAbs
def Qh:=@Int.mul_le_mul_of_nonneg_right
def Qi:=@List.length_filterMap_le
def Qj:=@List.filter_cons_of_pos
def Qk:=@List.filter_cons_of_neg
def Ql:=@List.takeWhile_cons_of_pos
def Qm:=@List.takeWhile_cons_of_neg
abbrev vQ_:=PySem.Value→PySem.Shared→Prop
abbrev vF_:=PySem.W.Frag
abbrev vP_:=List (PySem.Addr × PySem.Obj)
abbrev vA_:=Option PySem.Addr
abbrev vL_:=List PySem.Addr
abbrev vV_:=List PySem.Value
abbrev vG_:=PySem.Str→Option PySem.Value
abbrev vR_:=Array PySem.Value
abbrev vB_:=PySem.Addr→Prop
abbrev vS_:=Array (Option PySem.Value)
variable {k i n j t':Nat}{s:PySem.Shared}{x qual:PySem.Str}{es ifs elts rest:List PySem.Expr}{pins:vP_}{a p l S:PySem.Addr}{A:PySem.Around}{fa fa':vA_}{e tg iter c elt:PySem.Expr}{cl:List (PySem.Str × PySem.Addr)}{h base h':PySem.Heap}{N:vB_}{idx:List Nat}{E:vQ_}{fd:PySem.FuncData}{scope:PySem.Scope}{prog q:PySem.Program}{Q:Option PySem.Value->PySem.Shared->Prop}{u:PySem.Value}{XP:(PySem.Str->Option PySem.Value)->PySem.Heap->Prop}{mg:vG_}{O ch fp:vL_}{body:List PySem.Stmt}{pos' p2 p1:PySem.Pos}{us its:vV_}{G:Prop}{N' caps loose:List PySem.Str}{YP:PySem.World->PySem.Heap->Prop}{items:vR_}{is:List Int}{g':Array PySem.GenState}{y:Int}{osl:vS_}
namespace L2
open PySem PySem.Spec PyProof.Rows
abbrev A6:=Sum Int Str
def cQ:A6->Value->Bool
 |.inl k,v=>Value.isInt k v
 |.inr x,v=>Value.isStrOf x v
def Gb (w:World):A6->Int
 |.inl k=>hashInt k
 |.inr x=>hashStr w x
def Z3:∀{k:A6}{v:Value},cQ k v=true->(∃i t,k=Sum.inl i/\v=Value.int i t)\/(∃x t,k=Sum.inr x/\v=Value.str x t)
 |.inl i,v,h=>by
  obtain⟨t,e⟩:=Value.isInt_shape (k:=i) (v:=v) h;exact .inl #[i,t,rfl,e]
 |.inr x,v,h=>by
  obtain⟨t,e⟩:=Value.isStrOf_shape (x:=x) (v:=v) h;exact .inr #[x,t,rfl,e]
def FE (i:Int) (t:Tok):cQ (.inl i) (.int i t)=true:=by simp[cQ,Value.isInt]
def Bx (x:Str) (t:Tok):cQ (.inr x) (.str x t)=true:=by simp[cQ,Value.isStrOf]
def yG (a b:Int):decide ((Sum.inl a:A6)=Sum.inl b)=(a == b):=by
 by_cases e:a=b
 .subst e;simp
 .have h:¬ (Sum.inl a:A6)=Sum.inl b:=fun q=>e (Sum.inl.inj q)
  rw[KC h];exact(Ov.mpr e).symm
def JJ (a b:Str):decide ((Sum.inr a:A6)=Sum.inr b)=decide (a=b):=by
 by_cases e:a=b
 .subst e;simp
 .have h:¬ (Sum.inr a:A6)=Sum.inr b:=fun q=>e (Sum.inr.inj q)
  rw[KC h,KC e]
def Hs (a:Int) (b:Str):decide ((Sum.inl a:A6)=Sum.inr b)=false:=KC (fun q=>nomatch q)
def IU (a:Str) (b:Int):decide ((Sum.inr a:A6)=Sum.inl b)=false:=KC (fun q=>nomatch q)
def P1 (prog:Program) (w:World):PySem.KeyKind prog w A6 where
 is:=cQ
 hash:=Gb w
 inj:=fun v a b ha hb=>by
  rcases Z3 ha with ⟨i,t,rfl,rfl⟩ | ⟨x,t,rfl,rfl⟩
  .rcases Z3 hb with ⟨j,u,rfl,e⟩ | ⟨y,u,rfl,e⟩
   .injection e with e1 _;rw[e1]
   .exact nomatch e
  .rcases Z3 hb with ⟨j,u,rfl,e⟩ | ⟨y,u,rfl,e⟩
   .exact nomatch e
   .injection e with e1 _;rw[e1]
 byValue:=fun k v h=>by
  rcases Z3 h with ⟨i,t,rfl,rfl⟩ | ⟨x,t,rfl,rfl⟩ <;> rfl
 pyHash:=fun B h=>by
  rcases Z3 B with ⟨i,t,rfl,rfl⟩ | ⟨x,t,rfl,rfl⟩
  .exact wpAny_pyHash_int h
  .exact wpAny_pyHash_str h
 eqBool:=fun J B h=>by
  rcases Z3 J with ⟨i,t,rfl,rfl⟩ | ⟨x,t,rfl,rfl⟩
  .rcases Z3 B with ⟨j,u,rfl,rfl⟩ | ⟨y,u,rfl,rfl⟩
   .rw[yG] at h;exact wpAny_eqBool_int h
   .rw[Hs] at h;exact SeqAt.EqAt.int_str i t y u _ _ _ _ h
  .rcases Z3 B with ⟨j,u,rfl,rfl⟩ | ⟨y,u,rfl,rfl⟩
   .rw[IU] at h;exact SeqAt.EqAt.str_int x t j u _ _ _ _ h
   .rw[JJ] at h;exact wpAny_eqBool_str h
 «strs»:=fun k x t v h=>by
  rcases Z3 h with ⟨i,u,rfl,e⟩ | ⟨y,u,rfl,e⟩
  .exact nomatch e
  .injection e with e1 _;subst e1;cases v <;> rfl
def AL (prog:Program) (w:World) (i:Int) (t:Tok):(P1 prog w).is (.inl i) (.int i t)=true:=FE i t
def GW (prog:Program) (w:World) (x:Str) (t:Tok):(P1 prog w).is (.inr x) (.str x t)=true:=Bx x t
inductive V where
 | non | bl (b:Bool) | int (i:Int) | str (x:Str) | byt (b:Array UInt8) | flt (b:UInt64) | ref (a:Addr) | ty (n:String)
 deriving DecidableEq
variable {xs ys:List V}{f':Int->Int->V}
def RelV:V->Value->Prop
 |.non,u=>u=Value.none
 |.bl b,u=>u=Value.bool b
 |.int i,u=>∃t,u=Value.int i t
 |.str x,u=>∃t,u=Value.str x t
 |.byt b,u=>∃t,u=Value.bytes b t
 |.flt b,u=>∃t,u=Value.float b t
 |.ref a,u=>u=Value.ref a
 |.ty n,u=>u=Value.type n
abbrev Vals:List V->List Value->Prop:=Paired RelV
theorem Vals.length (r:Vals xs us):xs.length=us.length:=Paired.length r
theorem Vals.get:∀{xs:List V}{us:vV_}{i:Nat}{x:V},Vals xs us->xs[i]? = some x->∃u,us[i]? = some u/\RelV x u
 |_,_,_,_,.nil,e=>by simp at e
 |_,_,0,_,.cons r _,e=>by simp at e;subst e;exact#[_,rfl,r]
 |_,_,i+1,x,.cons _ t,e=>by
  obtain⟨u,h1,h2⟩:=Vals.get (i:=i) (x:=x) t (by simpa using e);exact#[u,by simpa using h1,h2]
theorem Vals.set {x:V}(r:RelV x u):∀{xs:List V}{us:vV_}(i:Nat),Vals xs us->Vals (xs.set i x) (us.set i u)
 |_,_,_,.nil=>.nil
 |_,_,0,.cons _ t=>.cons r t
 |_,_,i+1,.cons q t=>.cons q (Vals.set r i t)
def Vals.append:∀{xs ys:List V}{us ws:vV_},Vals xs us->Vals ys ws->Vals (xs++ys) (us++ws):=by
 intro xs ys us ws h s;induction h with
 |nil=>exact s
 |cons r t B=>exact .cons r B
theorem Vals.take:∀{xs:List V}{us:vV_}(n:Nat),Vals xs us->Vals (xs.take n) (us.take n)
 |_,_,0,_=>.nil
 |_,_,_+1,.nil=>.nil
 |_,_,n+1,.cons r t=>.cons r (Vals.take n t)
theorem Vals.drop:∀{xs:List V}{us:vV_}(n:Nat),Vals xs us->Vals (xs.drop n) (us.drop n)
 |_,_,0,r=>r
 |_,_,_+1,.nil=>.nil
 |_,_,n+1,.cons _ t=>Vals.drop n t
def rB:Option V->Option Value->Prop
 |some v,some u=>RelV v u
 |none,none=>True
 |_,_=>False
def KV {κ:Type}:List (κ × V)->List (κ × Value)->Prop:=Paired fun (p:κ × V) (q:κ × Value)=>p.1=q.1/\RelV p.2 q.2
def kV:A6->V
 |.inl i=>.int i
 |.inr x=>.str x
inductive HO where
 | lst (xs:List V)
 | tup (xs:List V)
 | dK (kvs:List (A6 × V)) | dT (kvs:List (List A6 × V))
 | set (S:Int->Bool) (n:Nat)
 | ins (C dx:Addr) (fs:List (Str × V))
 | own (x:Addr)
 | xd (fs:List (Str × V))
 | met (f x:Addr)
 | rng (lo hi:Int)
 | frz (o:Obj) (u:HO)
 | tbl (ps:vR_)
 | ext (φ:Heap->Prop)
abbrev Hp:=Addr->Option HO
variable {H H':Hp}
def e7 (H:Hp) (a:Addr) (o:HO):Hp:=fun b=>if b=a then some o else H b
def w6 {o:HO}:e7 H a o a=some o:=by unfold e7;rw[gV rfl]
def k9 {b:Addr}{o:HO}(h:b≠a):e7 H a o b=H b:=by unfold e7;rw[fI h]
def uF {o u:HO}:e7 (e7 H a o) a u=e7 H a u:=by
 funext b;unfold e7;split <;> rfl
def S3 {b:Addr}{o:HO}(h:H a=some o) (h':H b=none):a≠b:=by
 intro e;subst e;rw[h] at h';cases h'
section
variable (P:Program) (w:World)
def ObjOk (H:Hp) (h:Heap) (a:Addr):HO->Prop
 |.lst xs=>xs.length<=sizeLine/\∃(its:vV_) (n:Nat),Vals xs its/\h.get? a=some { cls:=.type "list",data:=.seq its.toArray n }
 |.tup xs=>xs.length<=sizeLine/\∃its:List Value,Vals xs its/\IsTup h a its.toArray
 |.dK kvs=>kvs.length<=sizeLine/\(a == sysModules)=false/\∃vs,KV kvs vs/\h.DictOf (P1 P w) a vs
 |.dT kvs=>kvs.length<=sizeLine/\(a == sysModules)=false/\∃xs:List (List A6 × Addr × Value),
   Paired (fun (p:List A6 × V) (q:List A6 × Addr × Value)=>p.1=q.1/\H q.2.1=some (.tup (p.1.map kV))/\RelV p.2 q.2.2) kvs xs /\
   ∃o es ep,h.get? a=some o/\o.ExactDict/\o.data = .dict es ep/\es.toList=xs.map (entryOfKey (tupleKind (P1 P w)))/\(xs.map (·.1)).Nodup
 |.set S n=>h.SetOf (intKind P w) a S n
 |.ins C dx fs=>H dx=some (.own a)/\fs.length<=1000/\dx≠a/\h.get? a=some (PySem.W.instObj C dx) /\
   ∃mA,h.Ns1 dx mA/\(∀f,rB (fs.lookup f) (mA f))/\PySem.Within mA (fs.map (·.1))
 |.own _=>∃o,h.get? a=some o
 |.xd fs=>∃mA,h.Ns1 a mA/\∀f,rB (fs.lookup f) (mA f)
 |.rng lo hi=>∃t u v,h.get? a=some { cls:=.type "range",data:=.fields #v[.int lo t,.int hi u,.int 1 v] }
 |.frz o u=>h.get? a=some o/\ObjOk H h a u
 |.tbl ps=>h.get? a=some { cls:=.none,data:=.fields ps }
 |.met f x=>h.get? a=some (PySem.W.methodObj (.ref f) (.ref x))
 |.ext φ=>φ h/\(∃o,h.get? a=some o)/\∀h1 h2:Heap,φ h1->(∀o,h1.get? a=some o->h2.get? a=some o)->φ h2
def HOk (H:Hp) (h:Heap):Prop:=∀a o,H a=some o->ObjOk P w H h a o
end
section
variable {P:Program}{w:World}{o:HO}
theorem ObjOk.lt (x:ObjOk P w H h a o):a<h.objs.size:=by
 cases o with
 |lst xs=>obtain⟨_,_,_,_,e⟩:=x;exact xu e
 |tup xs=>obtain⟨_,_,_,p⟩:=x;exact p.lt
 |dK B=>obtain⟨_,_,_,_,o,_,_,e,_⟩:=x;exact xu e
 |dT B=>obtain⟨_,_,_,_,o,_,_,e,_⟩:=x;exact xu e
 |set S n=>obtain⟨o,_,_,_,e,_⟩:=x;exact xu e
 |ins C J fs=>obtain⟨_,_,_,e,_⟩:=x;exact xu e
 |own y=>obtain⟨_,e⟩:=x;exact xu e
 |xd fs=>obtain⟨_,⟨_,_,_,e,_⟩,_⟩:=x;exact xu e
 |rng lo hi=>obtain⟨_,_,_,e⟩:=x;exact xu e
 |frz M u=>obtain⟨e,_⟩:=x;exact xu e
 |tbl ps=>exact xu (show h.get? a=some _ from x)
 |met f y=>exact xu (show h.get? a=some _ from x)
 |ext φ=>obtain⟨_,⟨_,e⟩,_⟩:=x;exact xu e
def Paired.mapP {α β:Type}{F G:α->β->Prop}:∀{l₁:List α}{l₂:List β},Paired F l₁ l₂->(∀a b,F a b->G a b)->Paired G l₁ l₂:=by
 intro l₁ l₂ h f;induction h with
 |nil=>exact .nil
 |cons r t B=>exact .cons (f _ _ r) B
def ObjOk.stay (x:ObjOk P w H h a o) (k:∀b u,(b=a\/H b=some (.own a))->h.get? b=some u->h'.get? b=some u)
  (ho:∀b,H b=some (.own a)->H' b=some (.own a)) (ht:∀b xs,H b=some (.tup xs)->H' b=some (.tup xs)):ObjOk P w H' h' a o:=by
 induction o with
 |lst xs=>obtain⟨z,its,n,r,e⟩:=x;exact#[z,its,n,r,k _ _ (.inl rfl) e]
 |tup xs=>obtain⟨z,its,r,B,e,c⟩:=x;exact#[z,its,r,B,k _ _ (.inl rfl) e,c]
 |dK U=>obtain⟨z,y,Z,r,B,es,ep,e,c⟩:=x;exact#[z,y,Z,r,B,es,ep,k _ _ (.inl rfl) e,c]
 |dT U=>
  obtain⟨z,y,xs,r,B,es,ep,e,c⟩:=x;exact#[z,y,xs,Paired.mapP r fun p q z=>#[z.1,ht _ _ z.2.1,z.2.2],B,es,ep,k _ _ (.inl rfl) e,c]
 |set S n=>obtain⟨B,es,ep,t,e,c⟩:=x;exact#[B,es,ep,t,k _ _ (.inl rfl) e,c]
 |ins C dx fs=>
  obtain⟨d,z,Y,e,M,⟨J,es,ep,e2,c⟩,r⟩:=x;exact#[ho _ d,z,Y,k _ _ (.inl rfl) e,M,#[J,es,ep,k _ _ (.inr d) e2,c],r]
 |own y=>obtain⟨B,e⟩:=x;exact#[B,k _ _ (.inl rfl) e]
 |xd fs=>obtain⟨M,⟨J,es,ep,e,c⟩,r⟩:=x;exact#[M,#[J,es,ep,k _ _ (.inl rfl) e,c],r]
 |rng lo hi=>obtain⟨t,u,v,e⟩:=x;exact#[t,u,v,k _ _ (.inl rfl) e]
 |frz B u ih=>obtain⟨e,q⟩:=x;exact#[k _ _ (.inl rfl) e,ih q]
 |tbl ps=>
  have e:h.get? a=some { cls:=.none,data:=.fields ps }:=x;show h'.get? a=some { cls:=.none,data:=.fields ps };exact k a _ (.inl rfl) e
 |met f y=>
  have e:h.get? a=some (PySem.W.methodObj (.ref f) (.ref y)):=x;show h'.get? a=some (PySem.W.methodObj (.ref f) (.ref y));exact k a _ (.inl rfl) e
 |ext φ=>obtain⟨p,⟨o,e⟩,st⟩:=x;exact#[st _ _ p fun o q=>k _ _ (.inl rfl) q,#[o,k _ _ (.inl rfl) e],st]
theorem HOk.lt (x:HOk P w H h) (e:H a=some o):a<h.objs.size:=(x a o e).lt
def HOk.fresh (x:HOk P w H h) (e:h.objs.size<=a):H a=none:=by
 cases q:H a with
 |none=>rfl
 |some u=>exact absurd (Ks (x.lt q) e) (LK _)
def HOk.kept (x:HOk P w H h) (k:∀b u,h.get? b=some u->h'.get? b=some u):HOk P w H h':=fun a o e=>
 (x a o e).stay (fun b u _ q=>k b u q) (fun _ q=>q) fun _ _ q=>q
def HOk.laid (x:HOk P w H h) (k:∀b u,h.get? b=some u->h'.get? b=some u) (hp:h.objs.size<=a) (B:ObjOk P w (e7 H a o) h' a o):HOk P w (e7 H a o) h':=fun b u e=>by
 have J:=x.fresh hp;by_cases hb:b=a
 .subst hb;rw[w6] at e;cases e;exact B
 .rw[k9 hb] at e;exact(x b u e).stay (fun c v _ q=>k c v q) (fun c q=>by rw[k9 (S3 q J)];exact q) fun c xs q=>by rw[k9 (S3 q J)];exact q
end
def Rd (H:Hp) (a:Addr) (u:HO):Prop:=H a=some u\/∃o,H a=some (.frz o u)
def Rd.ok {w:World}{u:HO}(r:Rd H a u) (x:HOk P w H h):ObjOk P w H h a u:=by
 rcases r with r | ⟨o,r⟩
 .exact x a u r
 .obtain⟨_,q⟩:=x a _ r;exact q
def dJ:Option HO->Prop
 |some (.lst _)=>True
 |some (.dK _)=>True
 |some (.dT _)=>True
 |some (.set _ _)=>True
 |some (.ins _ _ _)=>True
 |some (.ext _)=>True
 |_=>False
section
variable {P:Program}{w:World}{x e:Addr}{o':HO}
def HOk.write (ok:HOk P w H h) (U:dJ (H x)) (he:e=x\/H e=some (.own x)) (k:∀b u,b≠e->h.get? b=some u->h'.get? b=some u) (Y:∃u,h'.get? e=some u)
  (Z:ObjOk P w (e7 H x o') h' x o'):HOk P w (e7 H x o') h':=fun b u q=>by
 have J:∀c y,H c=some (.own y)->c≠x:=fun c y r z=>by subst z;rw[r] at U;exact U
 have M:∀c xs,H c=some (.tup xs)->c≠x:=fun c xs r z=>by subst z;rw[r] at U;exact U
 by_cases hb:b=x
 .subst hb;rw[w6] at q;cases q;exact Z
 .rw[k9 hb] at q;by_cases B:b=e
  .have q':H b=some (.own x):=by
    rcases he with z | z
    .exact absurd (B.trans z) hb
    .rw[B];exact z
   rw[q] at q';cases q';obtain⟨v,hv⟩:=Y;exact#[v,by rw[B];exact hv]
  .refine(ok b u q).stay (fun c v W r=>k c v ?_ r) (fun c r=>by rw[k9 (J c b r)];exact r) fun c xs r=>by rw[k9 (M c xs r)];exact r
   rcases W with rfl | W
   .exact B
   .rintro rfl;rcases he with z | z
    .exact J c b W z
    .rw[W] at z;cases z;exact hb rfl
end
structure Un (fs ex:vL_) (H H':Hp) (h h':Heap):Prop where
 keep:∀b o,h.get? b=some o->H b=none->b ∉ fs->b ∉ ex->h'.get? b=some o
 slot:∀b o,h.get? b=some o->H b=none->b∈fs->b ∉ ex->∃sl,h'.get? b=some { o with slots:=sl }
 free:∀b o,h.get? b=some o->H b=none->b ∉ ex->H' b=none
 there:∀b o,h.get? b=some o->b ∉ ex->∃o',h'.get? b=some o'
 tups:∀b xs,H b=some (.tup xs)->H' b=some (.tup xs)
 frzs:∀b o u,H b=some (.frz o u)->H' b=some (.frz o u)
 tbls:∀b ps,H b=some (.tbl ps)->∃more,H' b=some (.tbl (ps++more))
section
variable {fs fs' ex ex':vL_}{H1 H2:Hp}{h1 h2:Heap}{x e:Addr}{o:HO}
def Un.any (u:Un fs ex H H1 h h1) {b:Addr}{ob:Obj}(q:h.get? b=some ob) (n:H b=none) (B:b ∉ ex):∃sl,h1.get? b=some { ob with slots:=sl }:=by
 by_cases hb:b∈fs
 .exact u.slot b ob q n hb B
 .exact#[ob.slots,u.keep b ob q n hb B]
def Un.kept (k:∀b u,h.get? b=some u->h'.get? b=some u):Un fs ex H H h h':=
 #[fun b B q _ _ _=>k b B q,fun b B q _ _ _=>#[B.slots,k b B q],fun _ _ _ n _=>n,fun b B q _=>#[B,k b B q],fun _ _ q=>q,fun _ _ _ q=>q,fun _ ps q=>#[#v[],by rw[q];simp]]
def Un.refl:Un fs ex H H h h:=Un.kept fun _ _ q=>q
def Un.laid (k:∀b u,h.get? b=some u->h'.get? b=some u) (hp:h.objs.size<=a) (B:H a=none):Un fs ex H (e7 H a o) h h' where
 keep:=fun b u q _ _ _=>k b u q
 slot:=fun b u q _ _ _=>#[u.slots,k b u q]
 free:=fun b u q n _=>by rw[k9 (Kr (Ks (xu q) hp))];exact n
 there:=fun b u q _=>#[u,k b u q]
 tups:=fun b xs q=>by rw[k9 (S3 q B)];exact q
 frzs:=fun b u xs q=>by rw[k9 (S3 q B)];exact q
 tbls:=fun b ps q=>#[#v[],by rw[k9 (S3 q B),q];simp]
def Un.write (J:dJ (H x)) (W:e=x\/H e=some (.own x)) (k:∀b u,b≠e->h.get? b=some u->h'.get? b=some u) (M:∃u,h'.get? e=some u):Un fs ex H (e7 H x o) h h':=by
 have U:∀b,H b=none->b≠x:=fun b n z=>by subst z;rw[n] at J;exact J
 have hb:∀b,H b=none->b≠e:=fun b n z=>by
  subst z;rcases W with r | r
  .exact U b n r
  .rw[n] at r;cases r
 have hm:∀b u,H b=some u->¬ dJ (some u)->b≠x:=fun b u q nm z=>by subst z;rw[q] at J;exact nm J
 refine#[fun b u q n _ _=>k b u (hb b n) q,fun b u q n _ _=>#[u.slots,k b u (hb b n) q],fun b u q n _=>by rw[k9 (U b n)];exact n,fun b u q _=>?_,
  fun b xs q=>by rw[k9 (hm b _ q fun z=>z)];exact q,fun b u xs q=>by rw[k9 (hm b _ q fun z=>z)];exact q,fun b ps q=>#[#v[],by rw[k9 (hm b _ q fun z=>z),q];simp]]
 by_cases B:b=e
 .subst B;exact M
 .exact#[u,k b u B q]
end
def cP (h:Heap) (H:Hp):List Addr:=(List.range h.objs.size).filter fun a=>(H a).isSome
def Y3 (h:Heap) (H:Hp):Heap:=PySem.W.hideAll h (cP h H)
def HR (h:Heap) (H:Hp):(Y3 h H).objs.size=h.objs.size:=PySem.W.hideAll_size _ _
def IL {b:Addr}{o:Obj}(e:h.get? b=some o) (n:H b=none):(Y3 h H).get? b=some o:=
 PySem.W.hideAll_get _ e fun hm=>by
  have q:(H b).isSome=true:=(LR.mp hm).2;rw[n] at q;simp at q
def Hk {b:Addr}{o:Obj}(e:(Y3 h H).get? b=some o):h.get? b=some o/\H b=none:=by
 have B:h.get? b=some o:=PySem.W.of_hideAll (cP h H) e;refine#[B,?_];cases q:H b with
 |none=>rfl
 |some x=>
  have hm:b∈cP h H:=LR.mpr #[LF.mpr (xu B),by simp[q]];have z:(Y3 h H).get? b=none:=PySem.W.hideAll_none (cP h H) hm;rw[z] at e;cases e
structure Mod (K:vF_) (mg:vG_) (base:Heap):Prop where
 kin:K.In base
 glob:base.Ns mainGlobals mg
 blt:∃mb,base.Ns builtinsNs mb/\∀x:Str,x ≠ "__name__" -> mb x=bootBuiltins x
 nolimit:base.NoLimit
structure Cx where
 prog:Program
 w:World
 K:PySem.W.Frag
 mg:Str->Option Value
 base:Heap
 A:Around
 N:List Str
 s₀:Shared
 H₀:Hp
 env:Env
 outer:List Env
 stack:List Env
 ex:List Addr
 fn:Str->Bool
 calm:Bool
 pn:List (Addr × Obj)
 xe:Value->Shared->Prop
variable {X:Cx}
def V7 (l:List Env):List Addr:=l.filterMap (·.frame)
abbrev Cx.fs (X:Cx):List Addr:=V7 X.outer
def nB (B:Scope) (x:Str):Prop:=B.names.lookup x=some .local\/B.names.lookup x=some .cell\/B.names.lookup x=some .free
def Loc (B:Scope) (x:Str):Prop:=B.names.lookup x=some .local\/B.names.lookup x=some .cell
def Dd (B:Env) (h:Heap) (m:vG_) (x:Str) (u:Value):Prop:=
 (B.kindOf x=some .local/\m x=some u)\/((B.kindOf x=some .cell\/B.kindOf x=some .free)/\∃c,B.cells.lookup x=some c/\h.IsCell c (some u))
structure Cx.Ok (X:Cx):Prop where
 mod:Mod X.K X.mg X.base
 kind:X.env.scope.kind = .function
 glob:X.env.globals=mainGlobals
 blt:X.env.builtins=builtinsNs
 above:X.s₀.heap.objs.size<=X.env.locals
 inj:∀x y c,X.env.cells.lookup x=some c->X.env.cells.lookup y=some c->x=y
 has:∀x,(X.env.kindOf x=some .cell\/X.env.kindOf x=some .free)->∃c,X.env.cells.lookup x=some c
 cab:∀x c,X.fn x=true->X.env.cells.lookup x=some c->X.s₀.heap.objs.size<=c
 hd:X.calm=true->X.A.handled=none
 frames:X.A.frames=some X.stack
 stk:X.stack=X.outer\/(X.stack=X.env::X.outer/\X.env.frame=some X.env.locals)
 exf:∀b∈X.ex,b≠X.env.locals/\∀x c,X.env.cells.lookup x=some c->c≠b
 bs:∀b o,X.base.get? b=some o->X.s₀.heap.get? b=some o/\X.H₀ b=none
 bsz:X.base.objs.size<=X.s₀.heap.objs.size
 noex:∀b o,X.base.get? b=some o->b ∉ X.ex
 exfs:∀b∈X.ex,b ∉ X.fs
 funs:X.s₀.heap.FunFrames X.base X.outer
 frf:∀b∈X.fs,X.H₀ b=none
structure Inv (X:Cx) (pins:vP_) (σ:List (Option V)) (H:Hp) (s:Shared):Prop where
 ok:X.Ok
 os:s.os=X.s₀.os
 bare:AllBare s.gens
 base:Un X.fs X.ex X.H₀ H X.s₀.heap s.heap
 loc:∃m,s.heap.Ns X.env.locals m/\∀(i:Nat) (x:Str) (v:V),X.N[i]? = some x->σ[i]? = some (some v)->nB X.env.scope x->∃u,RelV v u/\Dd X.env s.heap m x u
 cell:∀x c,X.env.cells.lookup x=some c->∃v,s.heap.IsCell c v
 free:H X.env.locals=none
 freeC:∀x c,X.env.cells.lookup x=some c->H c=none
 pin:∀p∈X.pn++pins,s.heap.get? p.1=some p.2/\H p.1=none/\p.1≠X.env.locals/\p.1 ∉ X.fs/\∀v,p.2.data ≠ .cell v
 hok:HOk X.prog X.w H s.heap
 len:σ.length=X.N.length
section
variable {σ:List (Option V)}
def Cx.Ok.nofr (B:X.Ok) {b:Addr}{o:Obj}(e:X.base.get? b=some o):b ∉ X.fs:=fun hb=>by
 have:=(B.funs.mem hb).1;rw[e] at this;cases this
theorem Inv.bs (I:Inv X pins σ H s):∀b o,X.base.get? b=some o->s.heap.get? b=some o/\H b=none:=fun b o e=>
 #[I.base.keep b o (I.ok.bs b o e).1 (I.ok.bs b o e).2 (I.ok.nofr e) (I.ok.noex b o e),I.base.free b o (I.ok.bs b o e).1 (I.ok.bs b o e).2 (I.ok.noex b o e)]
def Inv.bk (I:Inv X pins σ H s):∀b o,X.base.get? b=some o->s.heap.get? b=some o:=fun b o e=>(I.bs b o e).1
theorem Inv.mod (I:Inv X pins σ H s):Mod X.K X.mg X.base:=I.ok.mod
def Inv.kIn (I:Inv X pins σ H s):X.K.In s.heap:=I.ok.mod.kin.keeps I.bk
theorem Inv.lt (I:Inv X pins σ H s):X.env.locals<s.heap.objs.size:=let ⟨_,hn,_⟩:=I.loc;hn.lt
def Inv.sz (I:Inv X pins σ H s):X.s₀.heap.objs.size<=s.heap.objs.size:=Kf I.ok.above (Nz I.lt)
def Inv.nofs (I:Inv X pins σ H s) (h:s.heap.objs.size<=a):a ∉ X.fs:=fun hb=>by
 obtain⟨_,o,B,_⟩:=I.ok.funs.mem hb;exact absurd (Ks (xu B) (Kf I.sz h)) (LK _)
def Inv.cne (I:Inv X pins σ H s):∀x c,X.env.cells.lookup x=some c->c≠X.env.locals:=fun x c e z=>by
 obtain⟨v,o,M,U⟩:=I.cell x c e;obtain⟨m,⟨o',es,ep,B,J,_⟩,_⟩:=I.loc;rw[z,B] at M;cases M;rw[J] at U;cases U
theorem Inv.funs (I:Inv X pins σ H s):s.heap.FunFrames X.base X.outer:=by
 have J:∀(l:List Env),(∀b∈V7 l,b∈X.fs)->X.s₀.heap.FunFrames X.base l->s.heap.FunFrames X.base l:=by
  intro l;induction l with
  |nil=>intro _ _;trivial
  |cons Y r W=>
   intro hs hl;obtain⟨hk,⟨L,o,M,hn,Z,hd⟩,U⟩:=hl;have B:L∈X.fs:=hs L (by unfold V7;rw[Mf,M];exact iR);obtain⟨sl,e⟩:=I.base.slot L o Z (I.ok.frf L B) B fun z=>I.ok.exfs L z B
   exact#[hk,#[L,_,M,hn,e,hd],W (fun b hb=>hs b (by unfold V7;rw[Mf,M];exact td _ hb)) U]
 exact J X.outer (fun _ hb=>hb) I.ok.funs
theorem Inv.stack (I:Inv X pins σ H s):s.heap.FunFrames X.base X.stack:=by
 rcases I.ok.stk with e | ⟨e,hf⟩
 .rw[e];exact I.funs
 .rw[e];obtain⟨m,B,_⟩:=I.loc;refine .cons (by rw[I.ok.kind];decide) hf B ?_ I.funs;exact Heap.get?_none_of_le (Kf I.ok.bsz I.ok.above)
def Inv.stkSub (I:Inv X pins σ H s):∀b∈V7 X.stack,b∈X.env.locals::X.fs:=fun b hb=>by
 rcases I.ok.stk with e | ⟨e,hf⟩
 .rw[e] at hb;exact td _ hb
 .rw[e] at hb;unfold V7 at hb;rw[Mf,hf] at hb;exact hb
def Inv.stkFree (I:Inv X pins σ H s):∀b∈V7 X.stack,H b=none:=fun b hb=>by
 rcases tx.mp (I.stkSub b hb) with e | hb
 .rw[e];exact I.free
 .obtain⟨_,o,B,_⟩:=I.ok.funs.mem hb;exact I.base.free b o B (I.ok.frf b hb) fun z=>I.ok.exfs b z hb
def Inv.step {g':Array GenState}{t':Nat}{ch:vL_}(I:Inv X pins σ H s)
  (U:∀b∈ch,(b∈X.ex\/X.s₀.heap.objs.size<=b)/\b≠X.env.locals/\(∀x c,X.env.cells.lookup x=some c->c≠b)/\∀p∈X.pn++pins,p.1≠b)
  (keep:∀b o,b≠X.env.locals->b ∉ X.fs->b ∉ ch->s.heap.get? b=some o->H b=none->h'.get? b=some o)
  (slot:∀b o,b≠X.env.locals->b∈X.fs->b ∉ ch->s.heap.get? b=some o->H b=none->∃sl,h'.get? b=some { o with slots:=sl }) (free:∀b o,b ∉ ch->s.heap.get? b=some o->H b=none->H' b=none)
  (there:∀b o,b ∉ ch->s.heap.get? b=some o->∃o',h'.get? b=some o')
  (tups:∀b xs,H b=some (.tup xs)->H' b=some (.tup xs)) (frzs:∀b o u,H b=some (.frz o u)->H' b=some (.frz o u)) (tbls:∀b ps,H b=some (.tbl ps)->∃more,H' b=some (.tbl (ps++more)))
  (ns:∀m,s.heap.Ns X.env.locals m->h'.Ns X.env.locals m) (hok:HOk X.prog X.w H' h') (hg:AllBare g') :
  Inv X pins σ H' { s with heap:=h',gens:=g',drawn:=d',toks:=t' }:=by
 have neL:∀b o,X.s₀.heap.get? b=some o->b≠X.env.locals:=fun b o e=>Kr (Ks (xu e) I.ok.above)
 have Y:∀b o,X.s₀.heap.get? b=some o->b ∉ X.ex->b ∉ ch:=fun b o e B hb=>by
  rcases(U b hb).1 with z | z
  .exact B z
  .exact absurd (Ks (xu e) z) (LK _)
 have M:∀x c,X.env.cells.lookup x=some c->∀v,s.heap.IsCell c v->h'.IsCell c v:=fun x c e v hQ__=>by
  obtain⟨o,Z,hd⟩:=hQ__;have J:c ∉ ch:=fun z=>(U c z).2.2.1 x c e rfl
  by_cases hc:c∈X.fs
  .obtain⟨sl,q⟩:=slot c o (I.cne x c e) hc J Z (I.freeC x c e);exact#[_,q,hd]
  .exact#[o,keep c o (I.cne x c e) hc J Z (I.freeC x c e),hd]
 refine#[I.ok,I.os,hg,#[fun b o e n hb B=>?_,fun b o e n hb B=>?_,fun b o e n B=>?_,fun b o e B=>?_,fun b xs e=>tups b xs (I.base.tups b xs e),fun b o xs e=>frzs b o xs (I.base.frzs b o xs e),fun b ps e=>?_],?_,fun x c e=>?_,?_,fun x c e=>?_,fun p hp=>?_,hok,I.len]
 .exact keep b o (neL b o e) hb (Y b o e B) (I.base.keep b o e n hb B) (I.base.free b o e n B)
 .obtain⟨sl,W⟩:=I.base.slot b o e n hb B;obtain⟨sl',e2⟩:=slot b _ (neL b o e) hb (Y b o e B) W (I.base.free b o e n B);exact#[sl',e2]
 .obtain⟨o',W⟩:=I.base.there b o e B;exact free b o' (Y b o e B) W (I.base.free b o e n B)
 .obtain⟨o',W⟩:=I.base.there b o e B;exact there b o' (Y b o e B) W
 .obtain⟨m1,W⟩:=I.base.tbls b ps e;obtain⟨m2,e2⟩:=tbls b _ W;exact#[m1++m2,by rw[e2,Array.append_assoc]]
 .obtain⟨m,hn,hl⟩:=I.loc;refine#[m,ns m hn,fun i x v W e2 e3=>?_];obtain⟨u,r,l⟩:=hl i x v W e2 e3;refine#[u,r,?_];rcases l with l | ⟨k,c,e,z⟩
  .exact .inl l
  .exact .inr #[k,c,e,M x c e _ z]
 .obtain⟨v,z⟩:=I.cell x c e;exact#[v,M x c e v z]
 .obtain⟨m,⟨o,_,_,Z,_⟩,_⟩:=I.loc;exact free _ o (fun z=>(U _ z).2.1 rfl) Z I.free
 .obtain⟨v,o,Z,hd⟩:=I.cell x c e;exact free c o (fun z=>(U c z).2.2.1 x c e rfl) Z (I.freeC x c e)
 .obtain⟨e,n,ne,nf,d⟩:=I.pin p hp;have J:p.1 ∉ ch:=fun z=>(U p.1 z).2.2.2 p hp rfl
  exact#[keep p.1 p.2 ne nf J e n,free p.1 p.2 J e n,ne,nf,d]
def Inv.un {t':Nat}(I:Inv X pins σ H s) (u:Un X.fs [] H H' s.heap h') (M:HOk X.prog X.w H' h'):Inv X pins σ H' { s with heap:=h',toks:=t' }:=by
 obtain⟨m,⟨o,es,ep,W,r⟩,_⟩:=id I.loc;obtain⟨sl,Z⟩:=u.any W I.free (by simp);exact I.step (g':=s.gens) (d':=s.drawn) (ch:=[]) (fun _ z=>nomatch z) (fun b o _ hb _ e n=>u.keep b o e n hb (by simp)) (fun b o _ hb _ e n=>u.slot b o e n hb (by simp)) (fun b o _ e n=>u.free b o e n (by simp)) (fun b o _ e=>u.there b o e (by simp)) u.tups u.frzs u.tbls (fun m' hm=>by
  obtain⟨o',J,U,B,Y⟩:=hm;rw[W] at B;cases B;exact#[_,J,U,Z,Y]) M I.bare
def Inv.call {t':Nat}(I:Inv X pins σ H s) (u:Un (V7 X.stack) ch H H' s.heap h') (W:HOk X.prog X.w H' h') (hg:AllBare g')
  (M:∀b∈ch,(b∈X.ex\/X.s₀.heap.objs.size<=b)/\b≠X.env.locals/\(∀x c,X.env.cells.lookup x=some c->c≠b)/\∀p∈X.pn++pins,p.1≠b) :
  Inv X pins σ H' { s with heap:=h',gens:=g',drawn:=d',toks:=t' }:=by
 obtain⟨m,⟨o,es,ep,ho,r⟩,_⟩:=id I.loc;obtain⟨sl,Z⟩:=u.any ho I.free fun z=>(M _ z).2.1 rfl
 exact I.step (ch:=ch) M (fun b o Z hb B e n=>u.keep b o e n (fun z=>(tx.mp (I.stkSub b z)).elim Z hb) B) (fun b o _ _ B e n=>u.any e n B) (fun b o B e n=>u.free b o e n B) (fun b o B e=>u.there b o e B) u.tups u.frzs u.tbls (fun m' hm=>by
  obtain⟨o',U,Y,J,r'⟩:=hm;rw[ho] at J;cases J;exact#[_,U,Y,Z,r']) W hg
def Inv.turned {t':Nat}{it:Addr}(I:Inv X pins σ H s) (k:∀b o,b≠it->s.heap.get? b=some o->h'.get? b=some o) (Y:H it=none) (M:it≠X.env.locals)
  (h1:it∈X.ex\/X.s₀.heap.objs.size<=it) (h2:∀x c,X.env.cells.lookup x=some c->c≠it) (U:∀p∈X.pn++pins,p.1≠it):Inv X pins σ H { s with heap:=h',toks:=t' }:=by
 have J:∀b u,H b=some u->b≠it:=fun b u e z=>by rw[z,Y] at e;cases e
 refine I.step (g':=s.gens) (d':=s.drawn) (ch:=[it]) (fun b hb=>?_) (fun b o _ _ B e _=>k b o (fun z=>B (by simp[z])) e) (fun b o _ _ B e _=>#[o.slots,k b o (fun z=>B (by simp[z])) e]) (fun _ _ _ _ n=>n)
  (fun b o B e=>#[o,k b o (fun z=>B (by simp[z])) e]) (fun _ _ e=>e) (fun _ _ _ e=>e) (fun b ps e=>#[#v[],by rw[e];simp]) (fun m hm=>?_) (fun b u e=>?_) I.bare
 .have e:b=it:=by simpa using hb
  subst e;exact#[h1,M,h2,U]
 .obtain⟨o,es,ep,W,r⟩:=hm;exact#[o,es,ep,k _ o (Ki M) W,r]
 .refine(I.hok b u e).stay (fun c v B q=>k c v ?_ q) (fun _ q=>q) fun _ _ q=>q
  rcases B with z | z
  .rw[z];exact J b u e
  .exact J c _ z
def Inv.tok (I:Inv X pins σ H s) (t:Nat):Inv X pins σ H { s with toks:=t }:=I.un (h':=s.heap) (t':=t) Un.refl I.hok
theorem Inv.kept {t':Nat}(I:Inv X pins σ H s) (k:∀b u,s.heap.get? b=some u->h'.get? b=some u):Inv X pins σ H { s with heap:=h',toks:=t' }:=I.un (Un.kept k) (I.hok.kept k)
theorem Inv.laid {o:HO}{t':Nat}(I:Inv X pins σ H s) (k:∀b u,s.heap.get? b=some u->h'.get? b=some u) (hp:s.heap.objs.size<=a) (B:ObjOk X.prog X.w (e7 H a o) h' a o) :
  Inv X pins σ (e7 H a o) { s with heap:=h',toks:=t' }:=I.un (Un.laid k hp (I.hok.fresh hp)) (I.hok.laid k hp B)
theorem Inv.write {x e:Addr}{o:HO}{t':Nat}(I:Inv X pins σ H s) (M:dJ (H x)) (U:e=x\/H e=some (.own x)) (k:∀b u,b≠e->s.heap.get? b=some u->h'.get? b=some u) (B:∃u,h'.get? e=some u)
  (J:ObjOk X.prog X.w (e7 H x o) h' x o):Inv X pins σ (e7 H x o) { s with heap:=h',toks:=t' }:=I.un (Un.write M U k B) (I.hok.write M U k B J)
def Inv.weak {U:List (Option V)}(I:Inv X pins σ H s) (hl:U.length=σ.length) (w:∀(i:Nat) v,U[i]? = some (some v)->σ[i]? = some (some v)):Inv X pins U H s:=
 #[I.ok,I.os,I.bare,I.base,let ⟨m,hn,hl'⟩:=I.loc;#[m,hn,fun i x v M J B=>hl' i x v M (w i v J) B],I.cell,I.free,I.freeC,I.pin,I.hok,hl.trans I.len]
def Inv.pins_of {B:vP_}(I:Inv X pins σ H s) (h:∀p∈B,s.heap.get? p.1=some p.2/\H p.1=none/\p.1≠X.env.locals/\p.1 ∉ X.fs/\∀v,p.2.data ≠ .cell v):Inv X B σ H s:=
 #[I.ok,I.os,I.bare,I.base,I.loc,I.cell,I.free,I.freeC,fun p hp=>(KD.mp hp).elim (fun z=>I.pin p (List.mem_append_left _ z)) (h p),I.hok,I.len]
def oz {N:List Str}(J:N.Nodup) (a:N[i]? = some x) (b:N[j]? = some x):i=j:=by
 obtain⟨h1,M⟩:=KH.mp a;obtain⟨h2,B⟩:=KH.mp b;exact(List.getElem_inj J).mp (M.trans B.symm)
def zm {A:Around}{E:vQ_}{i:Nat}{x:Str}{v:V}{u:Value}{Q:Unit->Shared->Prop}(I:Inv X pins σ H s) (hN:X.N.Nodup) (hi:X.N[i]? = some x) (W:Loc X.env.scope x) (r:RelV v u)
  (h:∀s',Inv X pins (σ.set i (some v)) H s'->(∃a,Heap.SameBut a s.heap s'.heap/\(a=X.env.locals\/X.env.cells.lookup x=some a))->Q () s') (hf:X.fn x=true\/X.env.scope.names.lookup x=some .local:=by first | exact .inl rfl | exact .inr rfl | assumption):wpAny M A (storeName X.env x u) Q E s:=by
 obtain⟨m,hn,hl⟩:=id I.loc;have hcls:(X.env.scope.kind == .class||(X.env.scope.kind == .module&&X.env.locals != X.env.globals))=false:=by rw[I.ok.kind];rfl
 have hiσ:i<σ.length:=by rw[I.len];exact(KH.mp hi).1
 have cne:=I.cne;have J:∀{a:Addr}{h':Heap},(∃o,s.heap.get? a=some o/\H a=none)->Heap.SameBut a s.heap h'->HOk X.prog X.w H h':=fun {a h'} ha hs b ob e=>by
  obtain⟨_,_,Y⟩:=ha;refine(I.hok b ob e).stay (fun c w' U q=>(hs.2 c ?_).trans q) (fun _ q=>q) fun _ _ q=>q
  rintro rfl;rcases U with rfl | U
  .rw[Y] at e;cases e
  .rw[Y] at U;cases U
 rcases W with hk | hk
 .refine wpAny_storeName_local hk hn (fun h' hn' hs=>?_) hcls;obtain⟨oL,_,_,hoL,_⟩:=id hn;refine h _ #[I.ok,I.os,I.bare,#[fun b o e n hb W=>?_,fun b o e n hb W=>?_,I.base.free,fun b o e W=>?_,I.base.tups,I.base.frzs,I.base.tbls],#[_,hn',fun j y v' B Z e3=>?_],fun y c e=>?_,I.free,I.freeC,fun p hp=>?_,J #[oL,hoL,I.free] hs,by simpa using I.len] #[_,hs,.inl rfl]
  .exact(hs.2 b (Kr (Ks (xu e) I.ok.above))).trans (I.base.keep b o e n hb W)
  .obtain⟨sl,B⟩:=I.base.slot b o e n hb W;exact#[sl,(hs.2 b (Kr (Ks (xu e) I.ok.above))).trans B]
  .obtain⟨o',B⟩:=I.base.there b o e W;exact#[o',(hs.2 b (Kr (Ks (xu e) I.ok.above))).trans B]
  .by_cases hj:j=i
   .subst hj;rw[hi] at B;cases B;rw[NA hiσ] at Z;cases Z;exact#[u,r,.inl #[hk,by simp]]
   .rw[Mg (Ki hj)] at Z;obtain⟨u',r',q⟩:=hl j y v' B Z e3;refine#[u',r',?_];rcases q with ⟨k,e⟩ | ⟨k,c,e,z⟩
    .refine .inl #[k,?_];have:y≠x:=fun e=>hj (oz hN B (e▸hi))
     simp[this,e]
    .exact .inr #[k,c,e,z.sameBut hs (cne y c e)]
  .obtain⟨w',z⟩:=I.cell y c e;exact#[w',z.sameBut hs (cne y c e)]
  .obtain⟨e,n,ne,nf,d⟩:=I.pin p hp;exact#[(hs.2 p.1 ne).trans e,n,ne,nf,d]
 .have hfn:X.fn x=true:=by
   rcases hf with z | z
   .exact z
   .rw[z] at hk;cases hk
  obtain⟨c,U⟩:=I.ok.has x (.inl hk);obtain⟨w',z⟩:=I.cell x c U;refine wpAny_storeName_cell I.ok.kind hk U z (fun h' hc' hs=>?_);obtain⟨oc,hoc,hocd⟩:=id z;refine h { s with heap:=h' } #[I.ok,I.os,I.bare,#[fun b o e n hb W=>?_,fun b o e n hb W=>?_,I.base.free,fun b o e W=>?_,I.base.tups,I.base.frzs,I.base.tbls],#[m,hn.sameBut hs (Ki (cne x c U)),fun j y v' B Z e3=>?_],fun y c' e=>?_,I.free,I.freeC,fun p hp=>?_,J #[oc,hoc,I.freeC x c U] hs,by simpa using I.len] #[c,hs,.inr U]
  .exact(hs.2 b (Kr (Ks (xu e) (I.ok.cab x c hfn U)))).trans (I.base.keep b o e n hb W)
  .obtain⟨sl,B⟩:=I.base.slot b o e n hb W;exact#[sl,(hs.2 b (Kr (Ks (xu e) (I.ok.cab x c hfn U)))).trans B]
  .obtain⟨o',B⟩:=I.base.there b o e W;exact#[o',(hs.2 b (Kr (Ks (xu e) (I.ok.cab x c hfn U)))).trans B]
  .by_cases hj:j=i
   .subst hj;rw[hi] at B;cases B;rw[NA hiσ] at Z;cases Z;exact#[u,r,.inr #[.inl hk,c,U,hc']]
   .rw[Mg (Ki hj)] at Z;obtain⟨u',r',q⟩:=hl j y v' B Z e3;refine#[u',r',?_];rcases q with q | ⟨k,c',e,z'⟩
    .exact .inl q
    .refine .inr #[k,c',e,z'.sameBut hs ?_];rintro rfl;exact hj (oz hN B (I.ok.inj _ _ _ e U▸hi))
  .by_cases hcc:c'=c
   .subst hcc;exact#[_,hc']
   .obtain⟨w2,z2⟩:=I.cell y c' e;exact#[w2,z2.sameBut hs hcc]
  .obtain⟨e,n,ne,nf,d⟩:=I.pin p hp;refine#[(hs.2 p.1 ?_).trans e,n,ne,nf,d];intro q;rw[q,hoc] at e;have q':oc=p.2:=KN e;exact d w' (by rw[<-q'];exact hocd)
def gH {A:Around}{E:vQ_}{i:Nat}{x:Str}{v:V}{u:Value}{Q:Unit->Shared->Prop}(I:Inv X pins σ H s) (U:X.N.Nodup) (hi:X.N[i]? = some x) (J:Loc X.env.scope x) (r:RelV v u)
  (h:∀s',Inv X pins (σ.set i (some v)) H s'->Q () s') (B:X.fn x=true\/X.env.scope.names.lookup x=some .local:=by first | exact .inl rfl | exact .inr rfl | assumption):wpAny M A (storeName X.env x u) Q E s:=
 zm I U hi J r (fun s' W _=>h s' W) B
def Inv.call' {s':Shared}(I:Inv X pins σ H s) (U:s'.os=s.os) (u:Un (V7 X.stack) ch H H' s.heap s'.heap) (J:HOk X.prog X.w H' s'.heap) (M:AllBare s'.gens)
  (B:∀b∈ch,(b∈X.ex\/X.s₀.heap.objs.size<=b)/\b≠X.env.locals/\(∀x c,X.env.cells.lookup x=some c->c≠b)/\∀p∈X.pn++pins,p.1≠b):Inv X pins σ H' s':=by
 obtain⟨h',g',d',t',o'⟩:=s';have e:o'=s.os:=U;subst e;exact I.call (g':=g') (t':=t') (d':=d') u J M B
end
abbrev XK:=Value->Option Addr->Hp->Prop
abbrev St:=List (Option V)
variable {σ:St}
abbrev VK:=V->Hp->Prop
abbrev TE:=St->Hp->VK->Prop
variable {te:TE}
abbrev TT:=St->Hp->(Bool->Hp->Prop)->Prop
variable {tc:TT}
abbrev TA:=St->Hp->(List V->Hp->Prop)->Prop
variable {ta:TA}
structure Ends where
 nx:St->Hp->Prop
 rt:VK
 bk:St->Hp->Prop:=fun _ _=>False
 ct:St->Hp->Prop:=fun _ _=>False
abbrev TS:=Ends->St->Hp->Prop
variable {tb:TS}
def EP (X:Cx) (pins:vP_) (σ:St) (Q:VK) (u:Value) (s':Shared):Prop:=∃v H',Inv X pins σ H' s'/\RelV v u/\Q v H'
def TP (X:Cx) (pins:vP_) (σ:St) (Q:Bool->Hp->Prop) (b:Bool) (s':Shared):Prop:=∃H',Inv X pins σ H' s'/\Q b H'
def AP (X:Cx) (pins:vP_) (σ:St) (Q:List V->Hp->Prop) (us:vV_) (s':Shared):Prop:=∃vs H',Inv X pins σ H' s'/\Vals vs us/\Q vs H'
def SP (X:Cx) (pins:vP_) (D:Ends) (f:Flow) (s':Shared):Prop:=
 match f with
 |.next=>∃σ' H',Inv X pins σ' H' s'/\D.nx σ' H'
 |.brk=>∃σ' H',Inv X pins σ' H' s'/\D.bk σ' H'
 |.cont=>∃σ' H',Inv X pins σ' H' s'/\D.ct σ' H'
 |.ret u=>∃v σ' H',Inv X pins σ' H' s'/\RelV v u/\D.rt v H'
def PE (X:Cx) (e:Expr) (t:TE):Prop:=
 ∀(pins:vP_) (s:Shared) (σ:St) (H:Hp) (Q:VK),Inv X pins σ H s->t σ H Q->wpAny (model X.prog X.w) X.A (eval e X.env) (EP X pins σ Q) X.xe s
def PT (X:Cx) (e:Expr) (t:TT):Prop:=
 ∀(pins:vP_) (s:Shared) (σ:St) (H:Hp) (Q:Bool->Hp->Prop),Inv X pins σ H s->t σ H Q->wpAny (model X.prog X.w) X.A (isTrue e X.env (eval e X.env)) (TP X pins σ Q) X.xe s
def PW (X:Cx) (e:Expr) (t:TT):Prop:=
 ∀(whole:Sem Value) (pins:vP_) (s:Shared) (σ:St) (H:Hp) (Q:Bool->Hp->Prop),Inv X pins σ H s->t σ H Q->wpAny (model X.prog X.w) X.A (isTrue e X.env whole) (TP X pins σ Q) X.xe s
def PW.pt {t:TT}(h:PW X e t):PT X e t:=h _
def PA (X:Cx) (es:List Expr) (t:TA):Prop:=
 ∀(pos:Pos) (pins:vP_) (s:Shared) (σ:St) (H:Hp) (Q:List V->Hp->Prop),Inv X pins σ H s->t σ H Q->wpAny (model X.prog X.w) X.A (spliced (backTo pos (starEach es X.env))) (AP X pins σ Q) X.xe s
def PS (X:Cx) (st:Stmt) (t:TS):Prop:=
 ∀(pins:vP_) (s:Shared) (σ:St) (H:Hp) (D:Ends),Inv X pins σ H s->t D σ H->wpAny (model X.prog X.w) X.A (exec st X.env) (SP X pins D) X.xe s
def PSs (X:Cx) (st:List Stmt) (t:TS):Prop:=
 ∀(pins:vP_) (s:Shared) (σ:St) (H:Hp) (D:Ends),Inv X pins σ H s->t D σ H->wpAny (model X.prog X.w) X.A (execs st X.env) (SP X pins D) X.xe s
def j9 {α:Type}{t:Sem α}{Q Q':α->Shared->Prop}(h:wpAny M A t Q E s) (B:∀a s,Q a s->Q' a s):wpAny M A t Q' E s:=KW h B fun _ _ x=>x
section
def J8 (i:Nat):TE:=fun σ H Q=>∃v,σ[i]? = some (some v)/\Q v H
def tC (v:V):TE:=fun _ H Q=>Q v H
def Aw {i:Nat}{x:Str}{pos:Pos}(Y:X.N[i]? = some x) (Z:nB X.env.scope x) (U:(x == ("__debug__" : Str))=false:=by decide) (M:(x == ("__classdict__" : Str))=false:=by decide):PE X (.Name x pos) (J8 i):=by
 intro pins s σ H Q I h;obtain⟨v,e,h⟩:=h;obtain⟨m,hn,hl⟩:=I.loc;obtain⟨u,r,l⟩:=hl i x v Y e Z;have J:EP X pins σ Q u s:=#[v,H,I,r,h]
 rcases l with ⟨hk,hm⟩ | ⟨hk,c,W,B⟩
 .exact wpAny_Name (wpAny_loadName_local I.ok.kind hk hn hm J) U
 .rcases hk with hk | hk
  .exact wpAny_Name (wpAny_loadName_cell I.ok.kind hk W B J) U
  .exact wpAny_Name (wpAny_loadName_free I.ok.kind hk W B J M) U
def aU {i j pos}:PE X (.Constant (.int i) j pos) (tC (.int i)):=fun _ _ _ H _ I h=>wpAny_Constant_int #[.int i,H,I.tok _,#[_,rfl],h]
def eT {b j pos}:PE X (.Constant (.bool b) j pos) (tC (.bl b)):=fun _ _ _ H _ I h=>Constant_bool #[.bl b,H,I,rfl,h]
def Gl (X:Cx) (x:Str):Prop:=X.env.kindOf x=some .globalImplicit
def sa {E:vQ_}{pins:vP_}{s:Shared}{H:Hp}{x:Str}{u:Value}{pos:Pos}{Q:vQ_}(I:Inv X pins σ H s) (B:Gl X x) (hm:X.mg x=some u) (h:Q u s)
  (J:(x == ("__debug__" : Str))=false:=by decide):wpAny (model X.prog X.w) X.A (eval (.Name x pos) X.env) Q E s:=
 Calls.Name_function_global I.ok.kind B (Calls.loadGlobal_global (by rw[I.ok.glob];exact I.mod.glob.keeps I.bk) hm h) J
def Y7 {E:vQ_}{pins:vP_}{s:Shared}{H:Hp}{x:Str}{u:Value}{pos:Pos}{Q:vQ_}(I:Inv X pins σ H s) (J:Gl X x) (hm:X.mg x=none) (U:bootBuiltins x=some u) (h:Q u s)
  (M:x ≠ "__name__" := by decide) (B:(x == ("__debug__" : Str))=false:=by decide):wpAny (model X.prog X.w) X.A (eval (.Name x pos) X.env) Q E s:=by
 obtain⟨W,h1,h2⟩:=I.mod.blt;exact Calls.Name_function_global I.ok.kind J (Calls.loadGlobal_builtin (by rw[I.ok.glob];exact I.mod.glob.keeps I.bk) hm (by rw[I.ok.blt];exact h1.keeps I.bk) ((h2 x M).trans U) h) B
def yH {x:Str}{v:V}{u:Value}{pos:Pos}(B:Gl X x) (hm:X.mg x=some u) (r:RelV v u) (J:(x == ("__debug__" : Str))=false:=by decide):PE X (.Name x pos) (tC v):=
 fun _ _ _ H _ I h=>sa I B hm #[v,H,I,r,h] J
def CD {x:Str}{v:V}{u:Value}{pos:Pos}(J:Gl X x) (hm:X.mg x=none) (U:bootBuiltins x=some u) (r:RelV v u) (M:x ≠ "__name__" := by decide) (B:(x == ("__debug__" : Str))=false:=by decide):PE X (.Name x pos) (tC v):=
 fun _ _ _ H _ I h=>Y7 I J hm U #[v,H,I,r,h] M B
variable {a b:Expr}{ta tb:TE}{pos:Pos}
variable {tA tB':TT}
def Fh (t u:TT):TT:=fun σ H Q=>t σ H fun c H1=>if c=true then u σ H1 Q else Q false H1
def Ac (t u:TT):TT:=fun σ H Q=>t σ H fun c H1=>if c=true then Q true H1 else u σ H1 Q
def CM (t:TT):TT:=fun σ H Q=>t σ H fun c H1=>Q (!c) H1
def Cc (ha:PT X a tA):PW X (.BoolOp .And [a] pos) tA:=by
 intro B pins s σ H Q I h;refine isTrue_and (j9 (ha pins s σ H Q I h) fun c s1 e=>?_);cases c with
 |true=>exact isTrue_and_nil e
 |false=>exact e
def JX (ha:PT X a tA):PW X (.BoolOp .Or [a] pos) tA:=by
 intro B pins s σ H Q I h;refine isTrue_or (j9 (ha pins s σ H Q I h) fun c s1 e=>?_);cases c with
 |false=>exact isTrue_or_nil e
 |true=>exact e
def Bz (ha:PT X a tA) (hb:PW X (.BoolOp .And (b::rest) pos) tB'):PW X (.BoolOp .And (a::b::rest) pos) (Fh tA tB'):=by
 intro M pins s σ H Q I h;refine isTrue_and (j9 (ha pins s σ H _ I h) fun c s1 ⟨H1,J,B⟩=>?_);cases c with
 |true=>exact hb M pins s1 σ H1 Q J B
 |false=>exact#[H1,J,B]
def Ea (ha:PT X a tA) (hb:PW X (.BoolOp .Or (b::rest) pos) tB'):PW X (.BoolOp .Or (a::b::rest) pos) (Ac tA tB'):=by
 intro M pins s σ H Q I h;refine isTrue_or (j9 (ha pins s σ H _ I h) fun c s1 ⟨H1,J,B⟩=>?_);cases c with
 |true=>exact#[H1,J,B]
 |false=>exact hb M pins s1 σ H1 Q J B
def Hj (ha:PT X a tA):PT X (.UnaryOp .Not a pos) (CM tA):=by
 intro pins s σ H Q I h;exact isTrue_not (ha pins s σ H (fun c H1=>Q (!c) H1) I h)
def yx (ta tb:TE):TE:=fun σ H Q=>ta σ H fun x H1=>∃c,x = .bl c/\if c=true then tb σ H1 Q else Q (.bl false) H1
def Co (ta tb:TE):TE:=fun σ H Q=>ta σ H fun x H1=>∃c,x = .bl c/\if c=true then Q (.bl true) H1 else tb σ H1 Q
def Hc (ta:TE):TE:=fun σ H Q=>ta σ H fun x H1=>∃c,x = .bl c/\Q (.bl (!c)) H1
def EV {op} {t:TE}(h:PE X a t):PE X (.BoolOp op [a] pos) t:=fun pins s σ H Q I B=>BoolOp_one (h pins s σ H Q I B)
def GY (ha:PE X a ta) (hb:PE X (.BoolOp .And (b::rest) pos) tb):PE X (.BoolOp .And (a::b::rest) pos) (yx ta tb):=by
 intro pins s σ H Q I h;refine BoolOp_and (j9 (ha pins s σ H _ I h) fun v s1 ⟨x,H1,J,M,B⟩=>?_);obtain⟨c,rfl,B⟩:=B;cases M;refine Ms ?_;cases c with
 |true=>exact hb pins s1 σ H1 Q J B
 |false=>exact#[.bl false,H1,J,rfl,B]
def zN (ha:PE X a ta) (hb:PE X (.BoolOp .Or (b::rest) pos) tb):PE X (.BoolOp .Or (a::b::rest) pos) (Co ta tb):=by
 intro pins s σ H Q I h;refine BoolOp_or (j9 (ha pins s σ H _ I h) fun v s1 ⟨x,H1,J,M,B⟩=>?_);obtain⟨c,rfl,B⟩:=B;cases M;refine Ms ?_;cases c with
 |false=>exact hb pins s1 σ H1 Q J B
 |true=>exact#[.bl true,H1,J,rfl,B]
def HF (ha:PE X a ta):PE X (.UnaryOp .Not a pos) (Hc ta):=by
 intro pins s σ H Q I h;refine UnaryOp_ (j9 (ha pins s σ H _ I h) fun v s1 ⟨x,H1,M,J,B⟩=>?_);obtain⟨c,rfl,B⟩:=B;cases J;exact not_of (Ms #[.bl (!c),H1,M,rfl,B])
def Gs (t:TT) (ta tb:TE):TE:=fun σ H Q=>t σ H fun c H1=>if c=true then ta σ H1 Q else tb σ H1 Q
def DN (M:PT X c tA) (ha:PE X a ta) (hb:PE X b tb):PE X (.IfExp c a b pos) (Gs tA ta tb):=by
 intro pins s σ H Q I h;refine wpAny_IfExp (j9 (M pins s σ H _ I h) fun d s1 ⟨H1,J,B⟩=>?_);cases d with
 |true=>exact ha pins s1 σ H1 Q J B
 |false=>exact hb pins s1 σ H1 Q J B
end
def SqL (K:vF_) (H:Hp) (a:Addr) (xs:List V):Prop:=
 Rd H a (.lst xs) \/
  ∃(o:Obj) (its:vR_) (n:Nat),K.lookup a=some o/\o.cls = .type "list" /\ o.dict=none/\o.data = .seq its n/\its.size<=sizeLine/\Vals xs its.toList
def SqT (K:vF_) (H:Hp) (a:Addr) (xs:List V):Prop:=
 Rd H a (.tup xs) \/
  ∃(o:Obj) (its:vR_) (n:Nat),K.lookup a=some o/\o.cls = .type "tuple" /\ o.data = .seq its n/\its.size<=sizeLine/\Vals xs its.toList
def DG:Value->Option V
 |.none=>some .non
 |.bool b=>some (.bl b)
 |.int i _=>some (.int i)
 |.str x _=>some (.str x)
 |.bytes b _=>some (.byt b)
 |.float b _=>some (.flt b)
 |.ref a=>some (.ref a)
 |.type n=>some (.ty n)
 |_=>none
def RelV.abs {x:V}(r:RelV x u):DG u=some x:=by
 cases x with
 |non=>cases r;rfl
 |bl _=>cases r;rfl
 |int _=>obtain⟨t,rfl⟩:=r;rfl
 |str _=>obtain⟨t,rfl⟩:=r;rfl
 |byt _=>obtain⟨t,rfl⟩:=r;rfl
 |flt _=>obtain⟨t,rfl⟩:=r;rfl
 |ref _=>cases r;rfl
 |ty _=>cases r;rfl
def RelV.inj {x y:V}(r:RelV x u) (q:RelV y u):x=y:=KN (r.abs.symm.trans q.abs)
theorem Vals.inj:∀{xs ys:List V}{us:vV_},Vals xs us->Vals ys us->xs=ys:=by
 intro xs ys us h;induction h generalizing ys with
 |nil=>
  intro h2;cases h2;rfl
 |cons r t J=>
  intro h2;cases h2 with
  |cons B t'=>rw[r.inj B,J t']
def SqL.of {K:vF_}(h:H a=some (.lst xs)):SqL K H a xs:=.inl (.inl h)
def SqT.of {K:vF_}(h:H a=some (.tup xs)):SqT K H a xs:=.inl (.inl h)
def Inv.list (I:Inv X pins σ H s) (h:SqL X.K H a xs):∃its:List Value,Vals xs its/\PlainL s.heap a its.toArray/\xs.length<=sizeLine:=by
 rcases h with h | ⟨o,its,n,hk,hc,hd,hs,hz,r⟩
 .obtain⟨z,its,n,r,e⟩:=h.ok I.hok;exact#[its,r,#[_,n,e,rfl,rfl,rfl],z]
 .refine#[its.toList,r,#[o,n,I.kIn a o hk,hc,hd,by simpa using hs],?_];have e:=r.length;simp only[Ow] at e;omega
def Inv.tuple (I:Inv X pins σ H s) (h:SqT X.K H a xs):∃its:List Value,Vals xs its/\IsTup s.heap a its.toArray/\xs.length<=sizeLine:=by
 rcases h with h | ⟨o,its,n,hk,hc,hs,hz,r⟩
 .obtain⟨z,its,r,p⟩:=h.ok I.hok;exact#[its,r,p,z]
 .refine#[its.toList,r,#[o,I.kIn a o hk,hc,n,by simpa using hs],?_];have e:=r.length;simp only[Ow] at e;omega
def Inv.list_inj (I:Inv X pins σ H s) (h:SqL X.K H a xs) (h':SqL X.K H a ys):xs=ys:=by
 obtain⟨its,r,⟨o,n,e,_,_,d⟩,_⟩:=I.list h;obtain⟨B,U,⟨o',W,M,_,_,J⟩,_⟩:=I.list h';rw[e] at M;cases M;rw[d] at J;injection J with d1 _;have:its=B:=by simpa using congrArg Array.toList d1
 subst this;exact r.inj U
def Inv.tuple_inj (I:Inv X pins σ H s) (h:SqT X.K H a xs) (h':SqT X.K H a ys):xs=ys:=by
 obtain⟨its,r,⟨o,e,_,n,d⟩,_⟩:=I.tuple h;obtain⟨B,U,⟨o',M,_,W,J⟩,_⟩:=I.tuple h';rw[e] at M;cases M;rw[d] at J;injection J with d1 _;have:its=B:=by simpa using congrArg Array.toList d1
 subst this;exact r.inj U
abbrev Cx.wish (X:Cx) (E:vQ_):Cx:={ X with xe:=E }
abbrev Cx.nox (X:Cx):Cx:=X.wish fun _ _=>False
theorem Cx.Ok.wish (B:X.Ok) (E:vQ_):(X.wish E).Ok:=
 #[B.mod,B.kind,B.glob,B.blt,B.above,B.inj,B.has,B.cab,B.hd,B.frames,B.stk,B.exf,B.bs,B.bsz,B.noex,B.exfs,B.funs,B.frf]
def Cx.Ok.unwish (B:(X.wish E).Ok):X.Ok:=
 #[B.mod,B.kind,B.glob,B.blt,B.above,B.inj,B.has,B.cab,B.hd,B.frames,B.stk,B.exf,B.bs,B.bsz,B.noex,B.exfs,B.funs,B.frf]
theorem Inv.wish (I:Inv X pins σ H s) (E:vQ_):Inv (X.wish E) pins σ H s:=#[I.ok.wish E,I.os,I.bare,I.base,I.loc,I.cell,I.free,I.freeC,I.pin,I.hok,I.len]
theorem Inv.unwish (I:Inv (X.wish E) pins σ H s):Inv X pins σ H s:=#[I.ok.unwish,I.os,I.bare,I.base,I.loc,I.cell,I.free,I.freeC,I.pin,I.hok,I.len]
theorem SP.unwish {D:Ends}(h:SP (X.wish E) pins D f s'):SP X pins D f s':=by
 cases f with
 |next=>obtain⟨σ',H',I,q⟩:=h;exact#[σ',H',I.unwish,q]
 |brk=>obtain⟨σ',H',I,q⟩:=h;exact#[σ',H',I.unwish,q]
 |cont=>obtain⟨σ',H',I,q⟩:=h;exact#[σ',H',I.unwish,q]
 |ret u=>obtain⟨v,σ',H',I,r,q⟩:=h;exact#[v,σ',H',I.unwish,r,q]
theorem PSs.nox {st:List Stmt}{t:TS}(h:PSs X.nox st t):PSs X st t:=fun pins s σ H D I B=>
 KW (h pins s σ H D (I.wish _) B) (fun _ _ q=>q.unwish) fun _ _ z=>False.elim z
section
variable {st:Stmt}{rest:List Stmt}{t u:TS}{pos:Pos}
def yt:TS:=fun D σ H=>D.nx σ H
def Hn (t u:TS):TS:=fun D σ H=>t { D with nx:=u D } σ H
def Fq:PSs X [] yt:=fun _ _ σ H _ I h=>NB #[σ,H,I,h]
def CU (h1:PS X st t) (h2:PSs X rest u):PSs X (st::rest) (Hn t u):=by
 intro pins s σ H D I h;refine wpAny_execs_cons (j9 (h1 pins s σ H { D with nx:=u D } I h) fun f s1 q=>?_);cases f with
 |next=>
  obtain⟨σ',H',B,q⟩:=q;exact h2 pins s1 σ' H' D B q
 |ret v=>exact q
 |brk=>exact q
 |cont=>exact q
def FN (h1:PS X st t):PSs X [st] t:=by
 intro pins s σ H D I h;refine wpAny_execs_cons (j9 (h1 pins s σ H D I h) fun f s1 q=>?_);cases f with
 |next=>exact NB q
 |ret v=>exact q
 |brk=>exact q
 |cont=>exact q
def Inv.quiet (I:Inv X pins σ H s):interactive X.env=false:=by simp[interactive,I.ok.kind]
def Bs (te:TE):TS:=fun D σ H=>te σ H fun _ H1=>D.nx σ H1
def ji (M:PE X e te) (hs:swapsWith e none pos.line X.env=pure false:=by rfl):PS X (.Expr e pos) (Bs te):=by
 intro pins s σ H D I h;exact wpAny_Expr_any (j9 (M pins s σ H _ I h) fun v s1 ⟨x,H1,J,U,B⟩=>#[σ,H1,J,B]) I.quiet hs
def Jq (te:TE):TS:=fun D σ H=>te σ H D.rt
def FQ (U:PE X e te):PS X (.Return (some e) pos) (Jq te):=by
 intro pins s σ H D I h;exact wpAny_Return_some (j9 (U pins s σ H _ I h) fun v s1 ⟨x,H1,M,B,J⟩=>#[x,σ,H1,M,B,J])
def CC (c:TT) (t u:TS):TS:=fun D σ H=>c σ H fun b H1=>if b=true then t D σ H1 else u D σ H1
def JI {a b:List Stmt}(M:PT X c tc) (ha:PSs X a t) (hb:PSs X b u):PS X (.If c a b pos) (CC tc t u):=by
 intro pins s σ H D I h;refine wpAny_If (j9 (M pins s σ H _ I h) fun d s1 ⟨H1,J,B⟩=>?_);cases d with
 |true=>exact ha pins s1 σ H1 D J B
 |false=>exact hb pins s1 σ H1 D J B
end
abbrev TG:=V->St->Hp->(St->Hp->Prop)->Prop
abbrev X4:=List V->St->Hp->(St->Hp->Prop)->Prop
def PG (X:Cx) (B:Expr) (t:TG):Prop:=
 ∀(pins:vP_) (s:Shared) (σ:St) (H:Hp) (v:V) (u:Value) (Q:St->Hp->Prop),Inv X pins σ H s->RelV v u->t v σ H Q ->
  wpAny (model X.prog X.w) X.A (assign B X.env u) (fun _ s'=>∃σ' H',Inv X pins σ' H' s'/\Q σ' H') X.xe s
def aS (X:Cx) (B:List Expr) (t:X4):Prop:=
 ∀(pins:vP_) (s:Shared) (σ:St) (H:Hp) (vs:List V) (us:vV_) (Q:St->Hp->Prop),Inv X pins σ H s->Vals vs us->t vs σ H Q ->
  wpAny (model X.prog X.w) X.A (assignInOrder ((assignEach B X.env).map (·.2)) us) (fun _ s'=>∃σ' H',Inv X pins σ' H' s'/\Q σ' H') X.xe s
abbrev iy:=V->V->V->Hp->(Hp->Prop)->Prop
def jV (X:Cx) (t:iy):Prop:=
 ∀(pins:vP_) (s:Shared) (σ:St) (H:Hp) (o i v:V) (ov iv u:Value) (Q:Hp->Prop),Inv X pins σ H s->RelV o ov->RelV i iv->RelV v u->t o i v H Q ->
  wpAny (model X.prog X.w) X.A (setItem ov iv u) (fun _ s'=>∃H',Inv X pins σ H' s'/\Q H') X.xe s
section
variable {pos:Pos}
def T9 (i:Nat):TG:=fun v σ H Q=>Q (σ.set i (some v)) H
def Q3 {i:Nat}{x:Str}(U:X.N.Nodup) (hi:X.N[i]? = some x) (B:Loc X.env.scope x) (J:X.fn x=true\/X.env.scope.names.lookup x=some .local:=by first | exact .inl rfl | exact .inr rfl | assumption):PG X (.Name x pos) (T9 i):=by
 intro pins s σ H v u Q I r h;exact wpAny_assign_Name (gH I U hi B r (fun s' M=>#[_,H,M,h]) J)
def nC:X4:=fun B σ H Q=>B=[]/\Q σ H
def eJ (t:TG) (u:X4):X4:=fun B σ H Q=>∃v r,B=v::r/\t v σ H fun σ' H'=>u r σ' H' Q
def jT:aS X [] nC:=by
 intro pins s σ H B us Q I r h;obtain⟨e,h⟩:=h;subst e;cases r;exact assignInOrder_nil #[σ,H,I,h]
def fN {e:Expr}{es:List Expr}{t:TG}{u:X4}(h1:PG X e t) (h2:aS X es u)
  (hs:(assignEach (e::es) X.env).map (·.2)=assign e X.env::(assignEach es X.env).map (·.2):=by rfl):aS X (e::es) (eJ t u):=by
 intro pins s σ H W us Q I r h;obtain⟨v,Y,U,h⟩:=h;subst U;cases r with
 |cons r M=>
  rw[hs];refine assignInOrder_cons (j9 (h1 pins s σ H _ _ _ I r h) fun _ s1 ⟨σ1,H1,B,J⟩=>?_);exact h2 pins s1 σ1 H1 _ _ Q B M J
def mM (K:vF_) (n:Nat) (t:X4):TG:=fun v σ H Q=>∃a xs,v = .ref a/\SqT K H a xs/\xs.length=n/\t xs σ H Q
def kD {es:List Expr}{k:Nat}{t:X4}{n:Nat}(Z:X.calm=true) (h:aS X es t)
  (hn:(assignEach es X.env).length=n:=by rfl) (J:(assignEach es X.env).findIdx? (·.1)=none:=by rfl):PG X (.Tuple es k pos) (mM X.K n t):=by
 intro pins s σ H v u Q I r B;obtain⟨a,xs,e1,Y,hl,B⟩:=B;subst e1;cases r;obtain⟨its,M,ht,hz⟩:=I.tuple Y;refine assign_Tuple_tuple (I.ok.hd Z) ht (by simp[hn,<-hl,M.length]) J fun h' U=>?_
 have W:Inv X pins σ H { s with heap:=h' }:=I.kept (t':=s.toks) fun b o e=>U b o (Kr (xu e)) e
 exact h pins _ σ H xs _ Q W (by simpa using M) B
def DC (to J:TE) (t:iy):TG:=fun v σ H Q=>to σ H fun o H1=>J σ H1 fun i H2=>t o i v H2 fun B=>Q σ B
def nR {o i:Expr}{to B:TE}{t:iy}(Z:PE X o to) (hi:PE X i B) (hs:jV X t)
  (ha:∀v,assign (.Subscript o i pos) X.env v=(do
   let ov <-holding [v] (eval o X.env)
   let iv <-holding [v,ov] (eval i X.env)
   standAt pos
   holding [v,ov,iv] (setItem ov iv v)
   release [v,ov,iv] []):=by intro _;rfl):PG X (.Subscript o i pos) (DC to B t):=by
 intro pins s σ H v u Q I r h;rw[ha];refine fx (Lk (j9 (Z pins s σ H _ I h) fun ov s1 ⟨x,H1,U,J,Y⟩=>?_));refine fx (Lk (j9 (hi pins s1 σ H1 _ U Y) fun iv s2 ⟨y,H2,I2,W,q2⟩=>?_));refine fx (NC (fx (Lk (j9 (hs pins s2 σ H2 x y v ov iv u _ I2 J W r q2) fun _ s3 ⟨M,I3,q3⟩=>?_))));exact wpAny_release #[σ,M,I3,q3]
def eS (te:TE) (g:TG):TS:=fun D σ H=>te σ H fun x H1=>g x σ H1 D.nx
def jS {tg e:Expr}{te:TE}(J:PE X e te) (U:PG X tg g) (hs:swapsWithSole [tg] e pos.line X.env=pure false:=by rfl) (M:swappedStores [tg] e X.env=pure none:=by rfl)
  (h1:(assignEach [tg] X.env).map (·.2)=[assign tg X.env]:=by rfl):PS X (.Assign [tg] e pos) (eS te g):=by
 intro pins s σ H D I h;refine wpAny_Assign_stores (j9 (J pins s σ H _ I h) fun v s1 ⟨x,H1,W,B,Y⟩=>?_) hs M;rw[h1];exact j9 (U pins s1 σ H1 x v _ W B Y) fun _ s2 q=>q
def iP {i:Nat}{x:Str}{e:Expr}{te:TE}{pos':Pos}(M:X.N.Nodup) (hi:X.N[i]? = some x) (J:Loc X.env.scope x) (U:PE X e te) (hs:swapsWith e (some (.Name x pos')) pos.line X.env=pure false:=by rfl) (hf:X.fn x=true\/X.env.scope.names.lookup x=some .local:=by first | exact .inl rfl | exact .inr rfl | assumption) :
  PS X (.Assign [.Name x pos'] e pos) (eS te (T9 i)):=by
 intro pins s σ H D I h;refine wpAny_Assign_Name (j9 (U pins s σ H _ I h) fun v s1 ⟨y,H1,Y,B,Z⟩=>?_) hs;exact gH Y M hi J B (fun s2 W=>#[_,H1,W,Z]) hf
def yB (i j:Nat) (ta:TA):TS:=fun D σ H=>ta σ H fun B H1=>∃v w,B=[v,w]/\D.nx ((σ.set i (some v)).set j (some w)) H1
def ID {i j:Nat}{x y:Str}{a b:Expr}{ta:TA}{px py pt:Pos}{kt k2 pt2} (hc:X.calm=true) (Y:X.N.Nodup) (hi:X.N[i]? = some x) (hj:X.N[j]? = some y) (B:i≠j)
  (Z:X.env.scope.names.lookup x=some .local) (U:X.env.scope.names.lookup y=some .local) (ha:PA X [a,b] ta)
  (hw:swappedStores [.Tuple [.Name x px,.Name y py] kt pt] (.Tuple [a,b] k2 pt2) X.env=pure (some [x,y]))
  (hs:swapsWithSole [.Tuple [.Name x px,.Name y py] kt pt] (.Tuple [a,b] k2 pt2) pos.line X.env=pure false:=by rfl) :
  PS X (.Assign [.Tuple [.Name x px,.Name y py] kt pt] (.Tuple [a,b] k2 pt2) pos) (yB i j ta):=by
 intro pins s σ H D I h;rw[exec_Assign_arm];refine fx (NC ?_);rw[hs];refine fx (iO ?_);rw[fI #[]];refine fx (Tuple_ (j9 (ha _ pins s σ H _ I h) fun us s1 ⟨vs,H1,I1,r1,M⟩=>?_));obtain⟨v,w,e1,M⟩:=M;subst e1;obtain⟨u1,u2,rfl,rv,rw'⟩:∃u1 u2,us=[u1,u2]/\RelV v u1/\RelV w u2:=by
  cases r1 with
  |cons p q=>
   cases q with
   |cons p' q'=>
    cases q';exact#[_,_,rfl,p,p']
 refine LA ?_ (by show 2<=sizeLine;decide);have I2:Inv X pins σ H1 { s1 with heap:=s1.heap.push { cls:=.type "tuple",data:=.seq [u1,u2].toArray } }:=I1.kept (t':=s1.toks) fun b o e=>Kg _ e
 rw[hw];refine fx (iO ?_);show wpAny (model X.prog X.w) X.A (do rule "assign.swapped-stores";let items <-unpackItems (.ref s1.heap.objs.size) 2 none;assignInOrder [fun v=>bindName X.env y v,fun v=>bindName X.env x v] items.reverse;pure Flow.next) _ _ _;refine fx (Lp (fx (unpackItems_tuple (items:=#v[u1,u2]) (I.ok.hd hc) (IsTup.new s1.heap _) fun h' J=>?_)));have I3:=I2.kept (h':=h') (t':=s1.toks) fun b o e=>J b o (Kr (xu e)) e
 show wpAny _ _ (assignInOrder [fun v=>bindName X.env y v,fun v=>bindName X.env x v] [u2,u1] >>= fun _=>pure Flow.next) _ _ _;refine fx (assignInOrder_cons (wpAny_bindName (gH I3 Y hj (.inl U) rw' (fun s2 I4=>?_) (.inr U))));refine assignInOrder_cons (wpAny_bindName (gH I4 Y hi (.inl Z) rv (fun s3 W=>assignInOrder_nil (iO ?_)) (.inr Z)));rw[List.set_comm _ _ (Ki B)] at W;exact#[_,H1,W,M]
end
section
variable {pos:Pos}
def Jh (c:TT) (tb:TS):TS:=fun D σ H=>∃W:Nat->St->Hp->Prop,(∃m,W m σ H)/\∀m σ H,W m σ H ->
 c σ H fun b H1=>if b=true then ∃N:St->Hp->Prop,(∀σ' H',N σ' H'->∃m',m'<m/\W m' σ' H')/\tb { D with nx:=N,ct:=N,bk:=D.nx } σ H1 else D.nx σ H1
def DB (hp:PassesOwn (model X.prog X.w) X.A X.env X.xe) (hc:PT X c tc) (hb:PSs X body tb):PS X (.While c body [] pos) (Jh tc tb):=by
 intro pins s σ H D I h;obtain⟨W,⟨m0,w0⟩,J⟩:=h;refine wpAny_While (codeAny_whileLoop (fun n s'=>∃σ' H',Inv X pins σ' H' s'/\W n σ' H') ?_ m0 #[σ,H,I,w0]);rintro n s1 ⟨σ1,H1,I1,w1⟩;refine Mh hp (j9 (hc pins s1 σ1 H1 _ I1 (J n σ1 H1 w1)) fun b s2 ⟨H2,I2,M⟩=>?_);cases b with
 |true=>
  obtain⟨N,hN,M⟩:=M;rw[gV rfl];refine Mh hp (j9 (hb pins s2 σ1 H2 _ I2 M) fun f s3 U=>?_);cases f with
  |next=>
   obtain⟨σ3,B,I3,Y⟩:=U;obtain⟨Z,hm,w3⟩:=hN σ3 B Y;exact#[Z,hm,σ3,B,I3,w3]
  |cont=>
   obtain⟨σ3,B,I3,Y⟩:=U;obtain⟨Z,hm,w3⟩:=hN σ3 B Y;exact#[Z,hm,σ3,B,I3,w3]
  |brk=>exact U
  |ret v=>exact U
 |false=>
  rw[fI Kn];exact NB #[σ1,H2,I2,M]
end
structure It where
 go:Nat->Hp->Prop
 yld:Nat->Hp->V->Hp->Prop
 stop:Nat->Hp->Prop
variable {R:It->Hp->Prop}
def N3 (X:Cx) (pins:vP_) (H:Hp) (b:Addr):Prop:=
 H b=none/\b≠X.env.locals/\b ∉ X.fs/\(b∈X.ex\/X.s₀.heap.objs.size<=b)/\(∀x c,X.env.cells.lookup x=some c->c≠b)/\∀p∈X.pn++pins,p.1≠b
def Inv.fpOk {b:Addr}(I:Inv X pins σ H s) (hb:s.heap.objs.size<=b) (B:H' b=none):N3 X pins H' b:=by
 refine#[B,Lj (Ks I.lt hb),I.nofs hb,.inr (Kf I.sz hb),fun x c e z=>?_,fun p hp z=>?_]
 .obtain⟨v,q⟩:=I.cell x c e;exact absurd (Ks q.lt (by rw[z];exact hb)) (LK _)
 .exact absurd (Ks (xu (I.pin p hp).1) (by rw[z];exact hb)) (LK _)
structure Turn (P:Program) (w:World) (K:vF_) (tg:Expr) (J:It) (fp:vL_) (it:Addr) (tn:Nat->Heap->Prop):Prop where
 mem:it∈fp
 obj:∀i h,tn i h->∀b∈fp,∃o,h.get? b=some o/\∀v,o.data ≠ .cell v
 keep:∀i h h',tn i h->(∀b∈fp,∀o,h.get? b=some o->h'.get? b=some o)->tn i h'
 item:∀(X:Cx),X.prog=P->X.w=w->X.K=K->X.calm=true->∀(i:Nat) (pins:vP_) (s:Shared) (σ:St) (H:Hp) (E:vQ_),Inv X pins σ H s->(∀b∈fp,N3 X pins H b)->tn i s.heap->J.go i H ->
  wpAny (model P w) X.A (pyNext (.ref it)) (fun r s1=>∃u,r=some u /\
   wpAny (model P w) X.A (letOwnedTupleGo tg (.ref it) u) (fun _ s2=>∃x H',Inv X pins σ H' s2/\RelV x u/\J.yld i H x H'/\tn (i+1) s2.heap/\∀b∈fp,H' b=none) E s1) E s
 done:∀(X:Cx),X.prog=P->X.w=w->X.K=K->X.calm=true->∀(i:Nat) (pins:vP_) (s:Shared) (σ:St) (H:Hp) (E:vQ_),Inv X pins σ H s->(∀b∈fp,N3 X pins H b)->tn i s.heap->J.stop i H ->
  wpAny (model P w) X.A (pyNext (.ref it)) (fun r s1=>r=none/\Inv X pins σ H s1) E s
 self:∀(A:Around) (i:Nat) (s:Shared) (Q:vQ_) (E:vQ_),tn i s.heap->Q (.ref it) s->wpAny (model P w) A (pyIter (.ref it)) Q E s
abbrev TI:=St->Hp->(It->Hp->Prop)->Prop
def vW (X:Cx) (pins:vP_) (σ:St) (tg:Expr) (R:It->Hp->Prop) (B:Value) (s2:Shared):Prop:=
 ∃(it:Addr) (fp:vL_) (tn:Nat->Heap->Prop) (J:It) (H':Hp),B = .ref it/\Inv X pins σ H' s2/\Turn X.prog X.w X.K tg J fp it tn/\tn 0 s2.heap/\(∀b∈fp,N3 X pins H' b)/\R J H'
def PI (X:Cx) (tg iter:Expr) (wi:TI):Prop:=
 ∀(pins:vP_) (s:Shared) (σ:St) (H:Hp) (R:It->Hp->Prop),Inv X pins σ H s->wi σ H R ->
  wpAny (model X.prog X.w) X.A (eval iter X.env) (fun v s1=>wpAny (model X.prog X.w) X.A (pyIter v) (vW X pins σ tg R) X.xe s1) X.xe s
def nv {it:Addr}{o:Obj}{n:String}{J:vR_}{Q:Unit->Shared->Prop}(U:s.heap.get? it=some o) (Z:o.cls = .type n) (Y:o.data = .fields J)
    (W:["enumerate", "zip", "dict_itemiterator", "dict_reverseitemiterator", "odict_iterator", "itertools.zip_longest", "itertools.pairwise"].contains n=false) (B:Q () s):wpAny M A (letOwnedTupleGo tg (.ref it) u) Q E s:=by
  unfold letOwnedTupleGo;cases tg <;> first
    | exact iO B
    | (cases u <;> first
        | exact iO B
        | (refine fx (wpAny_load U ?_)
           rw[Z,Y];show wpAny M A (if (["enumerate", "zip", "dict_itemiterator", "dict_reverseitemiterator", "odict_iterator", "itertools.zip_longest", "itertools.pairwise"].contains n&&J[0]? == some (rawInt _))=true then _ else _) Q E s;rw[fI (by intro h;rw[W,Bool.false_and] at h;cases h)];exact iO B))
def dZ (K:vF_) (a:Addr):It:=
 #[fun i H=>∃xs x,SqL K H a xs/\xs[i]? = some x,fun i H x H'=>H'=H/\∀xs,SqL K H a xs->xs[i]? = some x,fun i H=>∃xs,SqL K H a xs/\xs.length<=i]
def eQ (K:vF_) (a:Addr):It:=
 #[fun i H=>∃xs x,SqT K H a xs/\xs[i]? = some x,fun i H x H'=>H'=H/\∀xs,SqT K H a xs->xs[i]? = some x,fun i H=>∃xs,SqT K H a xs/\xs.length<=i]
def bI (lo:Int) (n:Nat):It:=#[fun i _=>i<n,fun i H x H'=>H'=H/\x = .int (lo+i),fun i _=>n<=i]
def FI {w:World}{K:vF_}(a it:Addr):Turn P w K tg (dZ K a) [it] it (fun i h=>h.IsListIter it a i) where
 mem:=by simp
 obj:=fun i h st b hb=>by
  have e:b=it:=by simpa using hb
  subst e;obtain⟨o,e,c,d⟩:=st;exact#[o,e,fun v z=>by rw[d] at z;cases z]
 keep:=fun i h h' st k=>st.at fun o e=>k it (by simp) o e
 item:=by
  intro X U Y hK hc i pins s σ H E I M st hg;subst U Y hK;obtain⟨xs,x,J,W⟩:=hg;obtain⟨its,Z,p,hz⟩:=I.list J;obtain⟨u,hu,ru⟩:=Z.get W;obtain⟨f0,f1,f2,f3,f4,f5⟩:=M it (by simp);refine wpAny_pyNext_list_item st p.isList (x:=u) (by simpa using hu) fun h' B sb=>?_
  have I1:Inv X pins σ H { s with heap:=h' }:=I.turned (t':=s.toks) (fun b o hb e=>(sb.2 b hb).trans e) f0 f1 f3 f4 f5;obtain⟨o,e,c,d⟩:=id B;exact#[u,rfl,nv (s:={ s with heap:=h' }) e c d #[] #[x,H,I1,ru,#[rfl,fun ys hy=>by rw[I.list_inj hy J];exact W],B,fun b hb=>(M b hb).1]]
 done:=by
  intro X U Y hK hc i pins s σ H E I M st hg;subst U Y hK;obtain⟨xs,J,W⟩:=hg;obtain⟨its,Z,p,hz⟩:=I.list J;obtain⟨f0,f1,f2,f3,f4,f5⟩:=M it (by simp);have hl:=Z.length;exact wpAny_pyNext_list_end (I.ok.hd hc) st p.isList (by simp;omega) fun h' eb=>#[rfl,I.turned (t':=s.toks) (fun b o hb e=>eb b o hb e) f0 f1 f3 f4 f5]
 self:=fun _ _ _ _ _ st h=>wpAny_pyIter_listiter st h
def Bg {w:World}{K:vF_}(a it:Addr):Turn P w K tg (eQ K a) [it] it (fun i h=>h.IsTupleIter it a i) where
 mem:=by simp
 obj:=fun i h st b hb=>by
  have e:b=it:=by simpa using hb
  subst e;obtain⟨o,e,c,d⟩:=st;exact#[o,e,fun v z=>by rw[d] at z;cases z]
 keep:=fun i h h' st k=>st.at fun o e=>k it (by simp) o e
 item:=by
  intro X U Y hK hc i pins s σ H E I M st hg;subst U Y hK;obtain⟨xs,x,J,W⟩:=hg;obtain⟨its,Z,p,hz⟩:=I.tuple J;obtain⟨u,hu,ru⟩:=Z.get W;obtain⟨f0,f1,f2,f3,f4,f5⟩:=M it (by simp);refine wpAny_pyNext_tuple_item st (show s.heap.IsTuple a its.toArray from p) (x:=u) (by simpa using hu) fun h' B sb=>?_
  have I1:Inv X pins σ H { s with heap:=h' }:=I.turned (t':=s.toks) (fun b o hb e=>(sb.2 b hb).trans e) f0 f1 f3 f4 f5;obtain⟨o,e,c,d⟩:=id B;exact#[u,rfl,nv (s:={ s with heap:=h' }) e c d #[] #[x,H,I1,ru,#[rfl,fun ys hy=>by rw[I.tuple_inj hy J];exact W],B,fun b hb=>(M b hb).1]]
 done:=by
  intro X U Y hK hc i pins s σ H E I M st hg;subst U Y hK;obtain⟨xs,J,W⟩:=hg;obtain⟨its,Z,p,hz⟩:=I.tuple J;obtain⟨f0,f1,f2,f3,f4,f5⟩:=M it (by simp);have hl:=Z.length;exact wpAny_pyNext_tuple_end (I.ok.hd hc) st (show s.heap.IsTuple a its.toArray from p) (by simp;omega) fun h' eb=>#[rfl,I.turned (t':=s.toks) (fun b o hb e=>eb b o hb e) f0 f1 f3 f4 f5]
 self:=fun _ _ _ _ _ st h=>wpAny_pyIter_tupleiter st h
def Aj {w:World}{K:vF_}(it:Addr) (lo:Int) (n:Nat):Turn P w K tg (bI lo n) [it] it (fun i h=>IsRangeIter h it (lo+(i:Nat)*1) ((n:Int) - (i:Nat)) 1) where
 mem:=by simp
 obj:=fun i h st b hb=>by
  have e:b=it:=by simpa using hb
  subst e;exact#[_,st,fun v z=>by
   have z':Data.fields _=Data.cell v:=z;cases z']
 keep:=fun i h h' st k=>k it (by simp) _ st
 item:=by
  intro X M U Y hc i pins s σ H E I J st Z;subst M U Y;obtain⟨f0,f1,f2,f3,f4,f5⟩:=J it (by simp);have W:=Walks.range (prog:=X.prog) (w:=X.w) (I.ok.hd hc) it lo 1 n;refine W.item i s _ _ Z st fun v h' tk hv B kk=>?_
  obtain⟨t,rfl⟩:=hv;have I1:Inv X pins σ H { s with heap:=h',toks:=tk }:=I.turned (fun b o hb e=>kk b o (by simpa using hb) e) f0 f1 f3 f4 f5;refine#[_,rfl,nv (s:={ s with heap:=h',toks:=tk }) (n := "range_iterator") B rfl rfl #[] #[.int (lo+i),H,I1,#[t,?_],#[rfl,rfl],B,fun b hb=>(J b hb).1]];rw[Int.mul_one]
 done:=by
  intro X M U Y hc i pins s σ H E I J st Z;subst M U Y;obtain⟨f0,f1,f2,f3,f4,f5⟩:=J it (by simp);exact wpAny_pyNext_range_end (I.ok.hd hc) st (by have:n<=i:=Z;omega) fun h' eb=>#[rfl,I.turned (t':=s.toks) (fun b o hb e=>eb b o hb e) f0 f1 f3 f4 f5]
 self:=fun _ _ _ _ _ st h=>wpAny_pyIter_rangeiter st h
def yA {lo hi:Int}{t u v:Tok}{J:Nat}(I:Inv X pins σ H s) (h1:-(2 ^ 62)<=lo) (h2:lo<2 ^ 62) (M:-(2 ^ 62)<=hi) (h4:hi<2 ^ 62)
  (q:R (bI lo (hi - lo).toNat) H):wpAny (model X.prog X.w) X.A (pyIter (.ref s.heap.objs.size)) (vW X pins σ tg R) E { s with heap:=s.heap.push { cls:=.type "range",data:=.fields #v[.int lo t,.int hi u,.int 1 v] },toks:=J }:=by
 refine wpAny_pyIter_range (IsRange.new ..) (small_one h1 h2 M h4) ?_;have B:Inv X pins σ H { s with heap:=s.heap.push { cls:=.type "range",data:=.fields #v[.int lo t,.int hi u,.int 1 v] },toks:=J }:=I.kept fun b o e=>Kg _ e
 refine#[(s.heap.push { cls:=.type "range",data:=.fields #v[.int lo t,.int hi u,.int 1 v] }).objs.size,[(s.heap.push { cls:=.type "range",data:=.fields #v[.int lo t,.int hi u,.int 1 v] }).objs.size],_,_,H,rfl,
  B.kept (t':=J) fun b o e=>Kg _ e,Aj _ lo (hi - lo).toNat,?_,fun b hb=>?_,q]
 .have W:lo+((0:Nat):Int)*1=lo:=by simp
  have U:(((hi - lo).toNat:Nat):Int) - ((0:Nat):Int)=Builtin.Range.rangeSize lo hi 1:=by rw[rangeSize_one];split <;> omega
  show IsRangeIter _ _ (lo+((0:Nat):Int)*1) ((((hi - lo).toNat:Nat):Int) - ((0:Nat):Int)) 1;rw[W,U];exact Ky _ rfl
 .have e:b=(s.heap.push { cls:=.type "range",data:=.fields #v[.int lo t,.int hi u,.int 1 v] }).objs.size:=by simpa using hb
  subst e;exact B.fpOk (iU _) (B.hok.fresh (iU _))
def Af (ta:TA):TI:=fun σ H R=>ta σ H fun B H1=>∃j:Int,B=[.int j] /\ -(2 ^ 62)<=j/\j<2 ^ 62/\R (bI 0 j.toNat) H1
def pJ {a:Expr}{ta:TA}{p pos:Pos}(M:Gl X "range") (hm:X.mg "range" = none) (ha:PA X [a] ta) (hs:starEach [a] X.env=[(false,eval a X.env)]:=by rfl):PI X tg (.Call (.Name "range" p) [a] [] pos) (Af ta):=by
 intro pins s σ H R I h;refine Call_ (Y7 I M hm boot_range (Mi (j9 (ha pos pins s σ H _ I h) fun us s1 ⟨Z,H1,U,J,B⟩=>?_) hs rfl));obtain⟨j,e,B,Y,q⟩:=B;subst e;cases J with
 |cons r W=>
  cases W;obtain⟨t,rfl⟩:=r;exact call_range_1 (yA U ∅ ∅ B Y (by simpa using q))
def Eu (wi:TI) (g:TG) (tb:TS):TS:=fun D σ H=>wi σ H fun J H1=>∃W:Nat->Nat->St->Hp->Prop,(∃m,W 0 m σ H1)/\∀i m σ H,W i m σ H ->
 (J.stop i H/\D.nx σ H)\/(J.go i H/\∃N:St->Hp->Prop,(∀σ' H',N σ' H'->∃m',m'<m/\W (i+1) m' σ' H')/\∀x H',J.yld i H x H'->g x σ H' fun σ2 H2=>tb { D with nx:=N,ct:=N,bk:=D.nx } σ2 H2)
def dI (fp:vL_) (h:Heap):List (Addr × Obj):=fp.filterMap fun b=>(h.get? b).map fun o=>(b,o)
def fk {b:Addr}{o:Obj}(hb:b∈fp) (e:h.get? b=some o):(b,o)∈dI fp h:=Ox.mpr #[b,hb,by rw[e];rfl]
def JS {p:Addr × Obj}(hp:p∈dI fp h):p.1∈fp/\h.get? p.1=some p.2:=by
 obtain⟨b,hb,e⟩:=Ox.mp hp;cases q:h.get? b with
 |none=>rw[q] at e;cases e
 |some o=>
  rw[q] at e;have B:(b,o)=p:=KN e;subst B;exact#[hb,q]
def Inv.pinned (I:Inv X pins σ H s) (U:∀b∈fp,N3 X pins H b) (M:∀b∈fp,∃o,s.heap.get? b=some o/\∀v,o.data ≠ .cell v):Inv X (pins++dI fp s.heap) σ H s:=
 I.pins_of fun p hp=>(KD.mp hp).elim (fun z=>I.pin p (Lq _ z)) fun z=>by
  obtain⟨hb,e⟩:=JS z;obtain⟨f0,f1,J,_⟩:=U p.1 hb;obtain⟨o,B,d⟩:=M p.1 hb;rw[e] at B;cases B;exact#[e,f0,f1,J,d]
def Inv.unpinned {B:vP_}(I:Inv X (pins++B) σ H s):Inv X pins σ H s:=I.pins_of fun p hp=>I.pin p (Lq _ (List.mem_append_left _ hp))
def jy {iter:Expr}{body:List Stmt}{tb:TS}{pos:Pos}(hp:PassesOwn (model X.prog X.w) X.A X.env X.xe) (hc:X.calm=true) (hi:PI X tg iter wi) (hg:PG X tg g) (hb:PSs X body tb)
  (hs:∀x,foldedSetIterable iter X.env x=pure x:=by intro _;rfl):PS X (.For tg iter body [] pos) (Eu wi g tb):=by
 intro pins s σ H D I h;refine wpAny_For (j9 (hi pins s σ H _ I h) fun v s1 h1=>j9 h1 fun itv s2 h2=>?_) hs;obtain⟨it,fp,tn,J,H2,e,I2,T,st2,f2,W,⟨m0,w0⟩,turn⟩:=h2;subst e;have M:∀{H':Hp},(∀b∈fp,H' b=none)->∀b∈fp,N3 X pins H' b:=fun hn b hb=>#[hn b hb,(f2 b hb).2]
 refine codeAny_forLoop_any (fun n s'=>∃i σ' H',Inv X pins σ' H' s'/\tn i s'.heap/\(∀b∈fp,H' b=none)/\W i n σ' H') ?_ m0 #[0,σ,H2,I2,st2,fun b hb=>(f2 b hb).1,w0];rintro n s3 ⟨i,σ3,H3,I3,st3,fr3,w3⟩;rcases turn i n σ3 H3 w3 with ⟨stop,qn⟩ | ⟨go,N,hN,step⟩
 .refine Mh hp (j9 (T.done X rfl rfl rfl hc i pins s3 σ3 H3 X.xe I3 (M fr3) st3 stop) fun r s4 ⟨hr,I4⟩=>?_);subst hr;exact NB #[σ3,H3,I4,qn]
 .refine Mh hp (j9 (T.item X rfl rfl rfl hc i pins s3 σ3 H3 X.xe I3 (M fr3) st3 go) fun r s4 ⟨u,hr,h4⟩=>?_);subst hr;refine Mh hp (j9 h4 fun _ s5 ⟨x,H5,I5,r5,y5,st5,fr5⟩=>?_);have I5':=I5.pinned (M fr5) (T.obj _ _ st5);refine Mh hp (j9 (hg _ s5 σ3 H5 x u _ I5' r5 (step x H5 y5)) fun _ s6 ⟨σ6,H6,I6,q6⟩=>?_);refine Mh hp (j9 (hb _ s6 σ6 H6 _ I6 q6) fun f s7 Z=>?_);have U:∀{σ7:St}{Y:Hp},Inv X (pins++dI fp s5.heap) σ7 Y s7->N σ7 Y->∃m,m<n/\∃i σ' H',Inv X pins σ' H' s7/\tn i s7.heap/\(∀b∈fp,H' b=none)/\W i m σ' H':=fun {σ7 Y} B n7=>by
   obtain⟨m',hm,w7⟩:=hN σ7 Y n7;refine#[m',hm,i+1,σ7,Y,B.unpinned,T.keep _ _ _ st5 fun b hb o e=>(B.pin (b,o) (Lq _ (Lq _ (fk hb e)))).1,fun b hb=>?_,w7];obtain⟨o,e,d⟩:=T.obj _ _ st5 b hb;exact(B.pin (b,o) (Lq _ (Lq _ (fk hb e)))).2.1
  cases f with
  |next=>obtain⟨σ7,Y,B,n7⟩:=Z;exact U B n7
  |cont=>obtain⟨σ7,Y,B,n7⟩:=Z;exact U B n7
  |brk=>obtain⟨σ7,Y,B,Z⟩:=Z;exact#[σ7,Y,B.unpinned,Z]
  |ret v=>obtain⟨x7,σ7,Y,B,r7,Z⟩:=Z;exact#[x7,σ7,Y,B.unpinned,r7,Z]
def Fm {K:vF_}{a:Addr}{xs:List V}{g:TG}{tb:TS}{D:Ends}{H:Hp}(B:Nat->St->Hp->Prop) (M:B 0 σ H) (hl:∀i σ H,i<=xs.length->B i σ H->SqL K H a xs)
  (hs:∀i x σ H,xs[i]? = some x->B i σ H->g x σ H fun σ2 H2=>tb { D with nx:=B (i+1),ct:=B (i+1),bk:=D.nx } σ2 H2) (U:∀σ H,B xs.length σ H->D.nx σ H) :
  ∃W:Nat->Nat->St->Hp->Prop,(∃m,W 0 m σ H)/\∀i m σ H,W i m σ H ->
   ((dZ K a).stop i H/\D.nx σ H)\/((dZ K a).go i H/\∃N:St->Hp->Prop,(∀σ' H',N σ' H'->∃m',m'<m/\W (i+1) m' σ' H')/\∀x H',(dZ K a).yld i H x H'->g x σ H' fun σ2 H2=>tb { D with nx:=N,ct:=N,bk:=D.nx } σ2 H2):=by
 refine#[fun i m σ H=>m=xs.length - i/\i<=xs.length/\B i σ H,#[xs.length,by simp,Lr _,M],?_];rintro i m σ H ⟨rfl,hi,p⟩;have q:=hl i σ H hi p;by_cases J:i<xs.length
 .refine .inr #[#[xs,xs[i],q,by simp[J]],B (i+1),fun σ' H' p'=>#[xs.length - (i+1),by omega,rfl,J,p'],fun x H' y=>?_];obtain⟨e,y⟩:=y;subst e;exact hs i x σ _ (y xs q) p
 .have e:i=xs.length:=by omega
  subst e;exact .inl #[#[xs,q,iU _],U σ H p]
def eU {K:vF_}{a:Addr}{xs:List V}{g:TG}{tb:TS}{D:Ends}{H:Hp}(B:Nat->St->Hp->Prop) (M:B 0 σ H) (hl:∀i σ H,i<=xs.length->B i σ H->SqT K H a xs)
  (hs:∀i x σ H,xs[i]? = some x->B i σ H->g x σ H fun σ2 H2=>tb { D with nx:=B (i+1),ct:=B (i+1),bk:=D.nx } σ2 H2) (U:∀σ H,B xs.length σ H->D.nx σ H) :
  ∃W:Nat->Nat->St->Hp->Prop,(∃m,W 0 m σ H)/\∀i m σ H,W i m σ H ->
   ((eQ K a).stop i H/\D.nx σ H)\/((eQ K a).go i H/\∃N:St->Hp->Prop,(∀σ' H',N σ' H'->∃m',m'<m/\W (i+1) m' σ' H')/\∀x H',(eQ K a).yld i H x H'->g x σ H' fun σ2 H2=>tb { D with nx:=N,ct:=N,bk:=D.nx } σ2 H2):=by
 refine#[fun i m σ H=>m=xs.length - i/\i<=xs.length/\B i σ H,#[xs.length,by simp,Lr _,M],?_];rintro i m σ H ⟨rfl,hi,p⟩;have q:=hl i σ H hi p;by_cases J:i<xs.length
 .refine .inr #[#[xs,xs[i],q,by simp[J]],B (i+1),fun σ' H' p'=>#[xs.length - (i+1),by omega,rfl,J,p'],fun x H' y=>?_];obtain⟨e,y⟩:=y;subst e;exact hs i x σ _ (y xs q) p
 .have e:i=xs.length:=by omega
  subst e;exact .inl #[#[xs,q,iU _],U σ H p]
def BI {lo:Int}{n:Nat}{g:TG}{tb:TS}{D:Ends}{H:Hp}(J:Nat->St->Hp->Prop) (M:J 0 σ H)
  (hs:∀i σ H,i<n->J i σ H->g (.int (lo+i)) σ H fun σ2 H2=>tb { D with nx:=J (i+1),ct:=J (i+1),bk:=D.nx } σ2 H2) (U:∀σ H,J n σ H->D.nx σ H) :
  ∃W:Nat->Nat->St->Hp->Prop,(∃m,W 0 m σ H)/\∀i m σ H,W i m σ H ->
   ((bI lo n).stop i H/\D.nx σ H)\/((bI lo n).go i H/\∃N:St->Hp->Prop,(∀σ' H',N σ' H'->∃m',m'<m/\W (i+1) m' σ' H')/\∀x H',(bI lo n).yld i H x H'->g x σ H' fun σ2 H2=>tb { D with nx:=N,ct:=N,bk:=D.nx } σ2 H2):=by
 refine#[fun i m σ H=>m=n - i/\i<=n/\J i σ H,#[n,by simp,Lr _,M],?_];rintro i m σ H ⟨rfl,hi,p⟩;by_cases B:i<n
 .refine .inr #[B,J (i+1),fun σ' H' p'=>#[n - (i+1),by omega,rfl,B,p'],fun x H' y=>?_];obtain⟨e,y⟩:=y;subst e y;exact hs i σ _ B p
 .have e:i=n:=by omega
  subst e;exact .inl #[iU _,U σ H p]
abbrev R2:=V->V->Hp->VK->Prop
def OpR (X:Cx) (f:Value->Value->Sem Value) (r:R2):Prop:=
 ∀(pins:vP_) (s:Shared) (σ:St) (H:Hp) (x y:V) (v u:Value) (Q:VK),Inv X pins σ H s->RelV x v->RelV y u->r x y H Q ->
  wpAny (model X.prog X.w) X.A (f v u) (EP X pins σ Q) X.xe s
def ik (X:Cx) (f:Value->Sem Value) (r:V->Hp->VK->Prop):Prop:=
 ∀(pins:vP_) (s:Shared) (σ:St) (H:Hp) (x:V) (v:Value) (Q:VK),Inv X pins σ H s->RelV x v->r x H Q ->
  wpAny (model X.prog X.w) X.A (f v) (EP X pins σ Q) X.xe s
def CallR (X:Cx) (f:Value) (r:List V->Hp->VK->Prop):Prop:=
 ∀(pins:vP_) (s:Shared) (σ:St) (H:Hp) (xs:List V) (us:vV_) (Q:VK),Inv X pins σ H s->Vals xs us->r xs H Q ->
  wpAny (model X.prog X.w) X.A (call f us) (EP X pins σ Q) X.xe s
def yi (X:Cx) (r:V->Hp->(Bool->Hp->Prop)->Prop):Prop:=
 ∀(pins:vP_) (s:Shared) (σ:St) (H:Hp) (x:V) (v:Value) (Q:Bool->Hp->Prop),Inv X pins σ H s->RelV x v->r x H Q ->
  wpAny (model X.prog X.w) X.A (truthy v) (TP X pins σ Q) X.xe s
def dc (r:R2) (ta tb:TE):TE:=fun σ H Q=>ta σ H fun x H1=>tb σ H1 fun y H2=>r x y H2 Q
def Jm (r:V->Hp->VK->Prop) (ta:TE):TE:=fun σ H Q=>ta σ H fun x H1=>r x H1 Q
def rI (C:Int->Int->Prop) (g:Int->Int->V):R2:=fun x y H Q=>∃i j,x = .int i/\y = .int j/\C i j/\Q (g i j) H
def V8 (g:Int->Int->V):R2:=fun x y H Q=>∃i j,x = .int i/\y = .int j/\Q (g i j) H
def rU (g:Int->V):V->Hp->VK->Prop:=fun x H Q=>∃i,x = .int i/\Q (g i) H
section
variable {a b:Expr}{ta tb tc:TE}{pos:Pos}
def mN (ha:PE X a ta) (hb:PE X b tb) {R:V->V->Hp->Prop}(I:Inv X pins σ H s)
  (h:ta σ H fun x H1=>tb σ H1 fun y H2=>R x y H2) {Q:vQ_}{f:Value->Value->Sem Value}
  (Z:∀v u s2 x y H2,Inv X pins σ H2 s2->RelV x v->RelV y u->R x y H2->wpAny (model X.prog X.w) X.A (f v u) Q X.xe s2) :
  wpAny (model X.prog X.w) X.A (eval a X.env) (fun v s₁=>wpAny (model X.prog X.w) X.A (eval b X.env) (fun u s₂=>wpAny (model X.prog X.w) X.A (f v u) Q X.xe s₂) X.xe s₁) X.xe s:=by
 refine j9 (ha pins s σ H _ I h) fun v s1 ⟨x,H1,U,B,W⟩=>?_
 refine j9 (hb pins s1 σ H1 _ U W) fun u s2 ⟨y,H2,M,J,Y⟩=>?_
 exact Z v u s2 x y H2 M B J Y
def jf {op:Operator}(M:OpR X (binaryOp op) r) (ha:PE X a ta) (hb:PE X b tb):PE X (.BinOp a op b pos) (dc r ta tb):=by
 intro pins s σ H Q I h;exact wpAny_BinOp (mN ha hb I h fun v u s2 x y H2 U B J q=>M pins s2 σ H2 x y v u Q U B J q)
def Hw {op:UnaryOp}(J:ik X (unaryOp op) r) (ha:PE X a ta):PE X (.UnaryOp op a pos) (Jm r ta):=by
 intro pins s σ H Q I h;exact UnaryOp_ (j9 (ha pins s σ H _ I h) fun v s1 ⟨x,H1,U,B,M⟩=>J pins s1 σ H1 x v Q U B M)
def jj {C:Int->Int->Prop}{g:Int->Int->Int}
  (B:∀(i j:Int) (t u:Tok) (s:Shared) (Q:vQ_) (E:vQ_),C i j->Q (.int (g i j) s.toks) { s with toks:=s.toks+1 }->wpAny (model X.prog X.w) X.A (f (.int i t) (.int j u)) Q E s) :
  OpR X f (rI C fun i j=>.int (g i j)):=by
 intro pins s σ H x y v u Q I M U h;obtain⟨i,j,rfl,rfl,J,q⟩:=h;obtain⟨t,rfl⟩:=M;obtain⟨t',rfl⟩:=U;exact B i j t t' s _ _ J #[.int (g i j),H,I.tok _,#[_,rfl],q]
def xZ {g:Int->Int->Int}
  (B:∀(i j:Int) (t u:Tok) (s:Shared) (Q:vQ_) (E:vQ_),Q (.int (g i j) s.toks) { s with toks:=s.toks+1 }->wpAny (model X.prog X.w) X.A (f (.int i t) (.int j u)) Q E s) :
  OpR X f (V8 fun i j=>.int (g i j)):=by
 intro pins s σ H x y v u Q I J M h;obtain⟨i,j,rfl,rfl,q⟩:=h;obtain⟨t,rfl⟩:=J;obtain⟨t',rfl⟩:=M;exact B i j t t' s _ _ #[.int (g i j),H,I.tok _,#[_,rfl],q]
def mr {f:Value->Value->Sem Value}{g:Int->Int->Bool}
  (B:∀(i j:Int) (t u:Tok) (s:Shared) (Q:vQ_) (E:vQ_),Q (.bool (g i j)) s->wpAny (model X.prog X.w) X.A (f (.int i t) (.int j u)) Q E s) :
  OpR X f (V8 fun i j=>.bl (g i j)):=by
 intro pins s σ H x y v u Q I J M h;obtain⟨i,j,rfl,rfl,q⟩:=h;obtain⟨t,rfl⟩:=J;obtain⟨t',rfl⟩:=M;exact B i j t t' s _ _ #[.bl (g i j),H,I,rfl,q]
def nV (i j:Int):Prop:=0<=j/\j<=1000000/\i.natAbs<2 ^ 64
def op_add:OpR X (binaryOp .Add) (V8 fun i j=>.int (i+j)):=xZ fun _ _ _ _ _ _ _ q=>add_int q
def Fg:OpR X (binaryOp .Sub) (V8 fun i j=>.int (i - j)):=xZ fun _ _ _ _ _ _ _ q=>sub_int q
def EZ:OpR X (binaryOp .Mod) (rI (fun _ j=>j≠0) fun i j=>.int (i.fmod j)):=jj fun _ _ _ _ _ _ _ B q=>mod_int' B q
def Ew:OpR X (binaryOp .Pow) (rI nV fun i j=>.int (i ^ j.toNat)):=jj fun _ _ _ _ _ _ _ B q=>pow_int_small B.1 B.2.1 B.2.2 q
def Ju {g:Int->Int}
  (B:∀(i:Int) (t:Tok) (s:Shared) (Q:vQ_) (E:vQ_),Q (.int (g i) s.toks) { s with toks:=s.toks+1 }->wpAny (model X.prog X.w) X.A (f (.int i t)) Q E s) :
  ik X f (rU fun i=>.int (g i)):=by
 intro pins s σ H x v Q I J h;obtain⟨i,rfl,q⟩:=h;obtain⟨t,rfl⟩:=J;exact B i t s _ _ #[.int (g i),H,I.tok _,#[_,rfl],q]
def EE:ik X (unaryOp .USub) (rU fun i=>.int (-i)):=Ju fun _ _ _ _ _ q=>neg_int q
end
def wR:V->V->Bool
 |.non,.non=>true | .non,.int _=>true | .int _,.non=>true | .non,.bl _=>true | .bl _,.non=>true | .non,.str _=>true | .str _,.non=>true
 |.int _,.int _=>true | .bl _,.bl _=>true | .str _,.str _=>true | .byt _,.byt _=>true
 |.int _,.str _=>true | .str _,.int _=>true | .bl _,.str _=>true | .str _,.bl _=>true
 |_,_=>false
def kU:R2:=fun x y H Q=>wR x y=true/\Q (.bl (decide (x=y))) H
def jZ:R2:=fun x y H Q=>wR x y=true/\Q (.bl (!decide (x=y))) H
def xG {i j:Int}:decide (V.int i=V.int j)=(i == j):=by
 rw[LB];simp
def qm {i j:Bool}:decide (V.bl i=V.bl j)=(i == j):=by
 rw[LB];simp
def qW {i j:Str}:decide (V.str i=V.str j)=(i == j):=by
 rw[LB];simp
def oP {i j:Array UInt8}:decide (V.byt i=V.byt j)=(i.toList == j.toList):=by
 rw[LB];cases i;cases j;simp
section
variable {a b:Expr}{ta tb tc:TE}{pos:Pos}
def B6 {Q:VK}{k k':Bool}(I:Inv X pins σ H s) (q:Q (.bl k) H) (e:k=k'):EP X pins σ Q (.bool k') s:=by
 subst e;exact#[.bl k,H,I,rfl,q]
def op_eq:OpR X (compareOp .Eq) kU:=by
 intro pins s σ H x y v u Q I J B h;obtain⟨hs,q⟩:=h;cases x with
 |non=>
  cases J;cases y with
  |non=>cases B;exact PySem.EqNone.eq_none_none (B6 I q (by simp))
  |bl j=>cases B;exact PySem.EqNone.eq_none_bool (B6 I q (by simp))
  |int j=>obtain⟨t',rfl⟩:=B;exact PySem.EqNone.eq_none_int (B6 I q (by simp))
  |str j=>obtain⟨t',rfl⟩:=B;exact PySem.EqNone.eq_none_str (B6 I q (by simp))
  |_=>exact absurd (show false=true from hs) Kn
 |bl i=>
  cases J;cases y with
  |non=>cases B;exact PySem.EqNone.eq_bool_none (B6 I q (by simp))
  |bl j=>cases B;exact eq_bool (B6 I q qm)
  |str j=>obtain⟨t',rfl⟩:=B;exact PySem.EqMixed.eq_bool_str (B6 I q (by simp))
  |_=>exact absurd (show false=true from hs) Kn
 |int i=>
  obtain⟨t,rfl⟩:=J;cases y with
  |non=>cases B;exact PySem.EqNone.eq_int_none (B6 I q (by simp))
  |int j=>obtain⟨t',rfl⟩:=B;exact eq_int (B6 I q xG)
  |str j=>obtain⟨t',rfl⟩:=B;exact PySem.EqMixed.eq_int_str (B6 I q (by simp))
  |_=>exact absurd (show false=true from hs) Kn
 |str i=>
  obtain⟨t,rfl⟩:=J;cases y with
  |non=>cases B;exact PySem.EqNone.eq_str_none (B6 I q (by simp))
  |bl j=>cases B;exact PySem.EqMixed.eq_str_bool (B6 I q (by simp))
  |int j=>obtain⟨t',rfl⟩:=B;exact PySem.EqMixed.eq_str_int (B6 I q (by simp))
  |str j=>obtain⟨t',rfl⟩:=B;exact eq_str (B6 I q qW)
  |_=>exact absurd (show false=true from hs) Kn
 |byt i=>
  obtain⟨t,rfl⟩:=J;cases y with
  |byt j=>obtain⟨t',rfl⟩:=B;exact PySem.W.eq_bytes (B6 I q oP)
  |_=>exact absurd (show false=true from hs) Kn
 |_=>cases y <;> exact absurd (show false=true from hs) Kn
def op_ne:OpR X (compareOp .NotEq) jZ:=by
 intro pins s σ H x y v u Q I J B h;obtain⟨hs,q⟩:=h;cases x with
 |non=>
  cases J;cases y with
  |non=>cases B;exact PySem.EqNone.ne_none_none (B6 I q (by simp))
  |bl j=>cases B;exact PySem.EqNone.ne_none_bool (B6 I q (by simp))
  |int j=>obtain⟨t',rfl⟩:=B;exact PySem.EqNone.ne_none_int (B6 I q (by simp))
  |str j=>obtain⟨t',rfl⟩:=B;exact PySem.EqNone.ne_none_str (B6 I q (by simp))
  |_=>exact absurd (show false=true from hs) Kn
 |bl i=>
  cases J;cases y with
  |non=>cases B;exact PySem.EqNone.ne_bool_none (B6 I q (by simp))
  |bl j=>cases B;exact ne_bool (B6 I q (congrArg not qm))
  |str j=>obtain⟨t',rfl⟩:=B;exact PySem.EqMixed.ne_bool_str (B6 I q (by simp))
  |_=>exact absurd (show false=true from hs) Kn
 |int i=>
  obtain⟨t,rfl⟩:=J;cases y with
  |non=>cases B;exact PySem.EqNone.ne_int_none (B6 I q (by simp))
  |int j=>obtain⟨t',rfl⟩:=B;exact ne_int (B6 I q (congrArg not xG))
  |str j=>obtain⟨t',rfl⟩:=B;exact PySem.EqMixed.ne_int_str (B6 I q (by simp))
  |_=>exact absurd (show false=true from hs) Kn
 |str i=>
  obtain⟨t,rfl⟩:=J;cases y with
  |non=>cases B;exact PySem.EqNone.ne_str_none (B6 I q (by simp))
  |bl j=>cases B;exact PySem.EqMixed.ne_str_bool (B6 I q (by simp))
  |int j=>obtain⟨t',rfl⟩:=B;exact PySem.EqMixed.ne_str_int (B6 I q (by simp))
  |str j=>obtain⟨t',rfl⟩:=B;exact ne_str (B6 I q (congrArg not qW))
  |_=>exact absurd (show false=true from hs) Kn
 |byt i=>
  obtain⟨t,rfl⟩:=J;cases y with
  |byt j=>obtain⟨t',rfl⟩:=B;exact PySem.W.ne_bytes (B6 I q (congrArg not oP))
  |_=>exact absurd (show false=true from hs) Kn
 |_=>cases y <;> exact absurd (show false=true from hs) Kn
def As:OpR X (compareOp .Lt) (V8 fun i j=>.bl (decide (i<j))):=mr fun _ _ _ _ _ _ _ q=>lt_int q
def yK:OpR X (compareOp .Gt) (V8 fun i j=>.bl (decide (j<i))):=mr fun _ _ _ _ _ _ _ q=>gt_int q
def sJ:OpR X (compareOp .GtE) (V8 fun i j=>.bl (decide (j<=i))):=mr fun _ _ _ _ _ _ _ q=>ge_int q
def OpR.or {r M:R2}(h:OpR X f r) (h':OpR X f M):OpR X f (fun x y H Q=>r x y H Q\/M x y H Q):=by
 intro pins s σ H x y v u Q I B J q;rcases q with q | q
 .exact h pins s σ H x y v u Q I B J q
 .exact h' pins s σ H x y v u Q I B J q
def iC (b:Expr) {op:CmpOp}(h:op ≠ .In:=by decide) (h2:op ≠ .NotIn:=by decide):behindInMarks op b=false:=by
 have J:(op == CmpOp.In)=false:=by cases op <;> first | rfl | exact absurd rfl h
 have B:(op == CmpOp.NotIn)=false:=by cases op <;> first | rfl | exact absurd rfl h2
 cases b <;> simp[behindInMarks,J,B]
def vt {op:CmpOp}(M:OpR X (compareOp op) r) (ha:PE X a ta) (hb:PE X b tb) (hm:behindInMarks op b=false):PE X (.Compare a [op] [b] pos) (dc r ta tb):=by
 intro pins s σ H Q I h;exact wpAny_Compare1 (mN ha hb I h fun v u s2 x y H2 U B J q=>M pins s2 σ H2 x y v u Q U B J q) hm
def IY (t:TE):TT:=fun σ H Q=>t σ H fun x H'=>∃k,x = .bl k/\Q k H'
def Hb {op:CmpOp}(Y:OpR X (compareOp op) r) (ha:PE X a ta) (hb:PE X b tb) (hm:behindInMarks op b=false):PT X (.Compare a [op] [b] pos) (IY (dc r ta tb)):=by
 intro pins s σ H Q I h;refine wpAny_isTrue_Compare1 (j9 (ha pins s σ H _ I h) fun v s1 ⟨x,H1,M,B,W⟩=>j9 (hb pins s1 σ H1 _ M W) fun u s2 ⟨y,H2,I2,U,Z⟩=>
  j9 (Y pins s2 σ H2 x y v u _ I2 B U Z) fun c s3 ⟨z,J,I3,r3,k,e,q3⟩=>?_) hm
 subst e;cases r3;exact Ms #[J,I3,q3]
def xh (K:vF_) (x:V) (H:Hp) (k:Bool):Prop:=
 match x with
 |.non=>k=false
 |.bl b=>k=b
 |.int i=>k=(i != 0)
 |.str y=>y.length<=sizeLine/\k=((y.length:Int) != 0)
 |.byt y=>y.size<=sizeLine/\k=((y.size:Int) != 0)
 |.ref p=>(∃xs,SqL K H p xs/\k = !xs.isEmpty)\/(∃xs,SqT K H p xs/\k = !xs.isEmpty)\/∃kvs,H p=some (.dK kvs)/\k = !kvs.isEmpty
 |_=>False
def Dl {κ:Type}{B:List (κ × V)}{J:List (κ × Value)}(r:KV B J):(!J.isEmpty) = !B.isEmpty:=by
 cases r <;> rfl
def wN (r:Vals xs its):(!its.toArray.isEmpty) = !xs.isEmpty:=by
 cases r <;> simp
def bW:(sizeLine:Nat)<2 ^ 63:=by rw[ND];decide
def AA:yi X (fun x H Q=>∃k,xh X.K x H k/\Q k H):=by
 intro pins s σ H x v Q I U h;obtain⟨k,e,q⟩:=h;have hl:=bW;have hs:sizeLine=16777216:=ND;cases x with
 |non=>
  cases U;have B:k=false:=e;subst B;exact truthy_none #[H,I,q]
 |bl b=>
  cases U;have B:k=b:=e;subst B;exact Ms #[H,I,q]
 |int i=>
  obtain⟨t,rfl⟩:=U;have B:k=(i != 0):=e;subst B;exact PySem.P.truthy_int #[H,I,q]
 |str y=>
  obtain⟨t,rfl⟩:=U;obtain⟨hy,B⟩:y.length<=sizeLine/\k=((y.length:Int) != 0):=e;subst B;exact PySem.P.truthy_str ∅ #[H,I.tok _,q]
 |byt y=>
  obtain⟨t,rfl⟩:=U;obtain⟨hy,B⟩:y.size<=sizeLine/\k=((y.size:Int) != 0):=e;subst B;exact PySem.W.truthy_bytes ∅ #[H,I.tok _,q]
 |ref p=>
  cases U;have B:(∃xs,SqL X.K H p xs/\k = !xs.isEmpty)\/(∃xs,SqT X.K H p xs/\k = !xs.isEmpty)\/∃J,H p=some (.dK J)/\k = !J.isEmpty:=e;rcases B with ⟨xs,Y,B⟩ | ⟨xs,Y,B⟩ | ⟨J,Y,B⟩
  .subst B;obtain⟨its,r,Z,hz⟩:=I.list Y;have M:=r.length;exact wpAny_truthy_list Z.isList (by simp only[Kl];omega) #[H,I.tok _,by rw[wN r];exact q]
  .subst B;obtain⟨its,r,Z,hz⟩:=I.tuple Y;have M:=r.length;exact truthy_tuple Z (by simp only[Kl];omega) #[H,I.tok _,by rw[wN r];exact q]
  .subst B;obtain⟨hz,hS,vs,r,m⟩:J.length<=sizeLine/\(p == sysModules)=false/\∃vs,KV J vs/\s.heap.DictOf (P1 X.prog X.w) p vs:=I.hok p _ Y;have M:J.length=vs.length:=Paired.length r;exact wpAny_truthy_dict hS m ∅ #[H,I.tok _,by rw[Dl r];exact q]
 |_=>exact(show False from e).elim
def zF (ha:PE X a ta) (U:∀whole,isTrue a X.env whole=(do let v <-whole;standAt a.pos;holding [v] (truthy v))) :
  PT X a (fun σ H Q=>ta σ H fun x H'=>∃k,xh X.K x H' k/\Q k H'):=by
 intro pins s σ H Q I h;exact isTrue_plain (j9 (ha pins s σ H _ I h) fun v s1 ⟨x,H1,M,B,J⟩=>AA pins s1 σ H1 x v Q M B J) (U _)
def Bq:OpR X (binaryOp .Add) (fun x y H Q=>∃i j,x = .str i/\y = .str j/\i.length+j.length<=sizeLine/\Q (.str (i++j)) H):=by
 intro pins s σ H x y v u Q I J M h;obtain⟨i,j,rfl,rfl,B,q⟩:=h;obtain⟨t,rfl⟩:=J;obtain⟨t',rfl⟩:=M;exact add_str (fun t' U=>#[.str (i++j),H,I.tok _,#[_,rfl],q]) B
def W0 {x:V}(r:Vals [x] us):∃u,us=[u]/\RelV x u:=by
 cases r with
 |cons B J=>cases J;exact#[_,rfl,B]
def BG {x y:V}(r:Vals [x,y] us):∃u w',us=[u,w']/\RelV x u/\RelV y w':=by
 cases r with
 |cons J M=>
  cases M with
  |cons B U=>cases U;exact#[_,_,rfl,J,B]
def CG:CallR X (.builtin "abs") (fun xs H Q=>∃i,xs=[.int i]/\Q (.int (if i<0 then -i else i)) H):=by
 intro pins s σ H xs us Q I r h;obtain⟨i,rfl,q⟩:=h;obtain⟨u,rfl,t,rfl⟩:=W0 r;exact call_abs_int fun u B=>#[.int (if i<0 then -i else i),H,I.tok _,#[_,rfl],q]
def Dc:CallR X (.type "int") (fun xs H Q=>(∃i,xs=[.int i]/\Q (.int i) H)\/∃k,xs=[.bl k]/\Q (.int (if k then 1 else 0)) H):=by
 intro pins s σ H xs us Q I r h;rcases h with ⟨i,rfl,q⟩ | ⟨k,rfl,q⟩
 .obtain⟨u,rfl,t,rfl⟩:=W0 r;exact call_int_int #[.int i,H,I,#[_,rfl],q]
 .obtain⟨u,rfl,B⟩:=W0 r;cases B;exact call_int_bool #[.int (if k then 1 else 0),H,I.tok _,#[_,rfl],q]
end
structure Room (k:Nat) (A:Around):Prop where
 hd:A.handled=none
 dp:A.depth+3*k+5<recursionLimit
 un:A.units+16*k+200<cLine
 gd:A.guards=some []
def Room.mono (r:Room k A) (h:j<=k):Room j A:=#[r.hd,by have:=r.dp;omega,by have:=r.un;omega,r.gd]
theorem Room.deeper (r:Room (k+1) A) (B:Env):Room k (A.deeper B):=
 #[r.hd,by have:=r.dp;show A.depth+1+3*k+5<_;omega,by have:=r.un;show A.units+3+16*k+200<_;omega,r.gd]
theorem Room.depth (r:Room k A):A.depth<recursionLimit:=by have:=r.dp;omega
def JW:TA:=fun _ H Q=>Q [] H
def yW (ta:TE) (B:TA):TA:=fun σ H Q=>ta σ H fun x H1=>B σ H1 fun xs H2=>Q (x::xs) H2
section
variable {t:TA}{pos:Pos}
def X0:PA X [] JW:=fun _ _ _ _ H Q I h=>Calls.spliced_nil #[[],H,I,.nil,h]
def Q7 (ha:PE X e te) (J:PA X es t) (hs:starEach (e::es) X.env=(false,eval e X.env)::starEach es X.env:=by rfl):PA X (e::es) (yW te t):=by
 intro pos pins s σ H Q I h;rw[hs];show wpAny _ _ (spliced ((false,eval e X.env)::backTo pos (starEach es X.env))) _ _ s;refine Calls.spliced_cons (j9 (ha pins s σ H _ I h) fun u s1 ⟨x,H1,M,B,W⟩=>?_);exact j9 (J pos pins s1 σ H1 _ M W) fun us s2 ⟨xs,H2,Z,U,Y⟩=>#[x::xs,H2,Z,.cons B U,Y]
def zZ (t:TA):TE:=fun σ H Q=>t σ H fun xs H1=>xs.length<=sizeLine/\∀p,H1 p=none->Q (.ref p) (e7 H1 p (.tup xs))
def zQ (t:TA):TE:=fun σ H Q=>t σ H fun xs H1=>xs.length<=sizeLine/\∀p,H1 p=none->Q (.ref p) (e7 H1 p (.lst xs))
def Ag {x1} (h:PA X es t):PE X (.Tuple es x1 pos) (zZ t):=by
 intro pins s σ H Q I M;refine wpAny_Tuple_spliced (j9 (h pos pins s σ H _ I M) fun us s1 ⟨xs,H1,B,r,z,q⟩=>#[by rw[<-r.length];exact z,?_]);have J:H1 s1.heap.objs.size=none:=B.hok.fresh (iU _);refine#[.ref s1.heap.objs.size,e7 H1 s1.heap.objs.size (.tup xs),B.laid (t':=s1.toks) (fun b u e=>Kg _ e) (iU _) ?_,rfl,q _ J];exact#[z,us,r,#[_,Ky _ rfl,rfl,_,rfl]]
def gW (h:PA X es t):PE X (.List es pos) (zQ t):=by
 intro pins s σ H Q I M;refine wpAny_List_spliced (j9 (h pos pins s σ H _ I M) fun us s1 ⟨xs,H1,B,r,z,q⟩=>#[by rw[<-r.length];exact z,?_]);have J:H1 s1.heap.objs.size=none:=B.hok.fresh (iU _);refine#[.ref s1.heap.objs.size,e7 H1 s1.heap.objs.size (.lst xs),B.laid (t':=s1.toks) (fun b u e=>Kg _ e) (iU _) ?_,rfl,q _ J];exact#[z,us,0,r,Ky _ rfl]
end
abbrev Sp:=List V->Hp->VK->XK->Prop
variable {sp:Sp}
abbrev U2:=List Env->Hp->Shared->XK->Value->Shared->Prop
variable {CX:U2}
structure Env0 (P:Program) (w:World) (K:vF_) (mg:vG_) (base:Heap) (A:Around) (outer:List Env) (s:Shared) (H:Hp):Prop where
 frames:A.frames=some outer
 mod:Mod K mg base
 bs:∀b o,base.get? b=some o->s.heap.get? b=some o/\H b=none
 bsz:base.objs.size<=s.heap.objs.size
 funs:s.heap.FunFrames base outer
 frf:∀b∈V7 outer,H b=none
 hok:HOk P w H s.heap
 bare:AllBare s.gens
def CE (B:List Env) (P:Program) (w:World) (H:Hp) (s:Shared) (Q:VK) (u:Value) (s':Shared):Prop:=
 ∃v H',s'.os=s.os/\AllBare s'.gens/\Un (V7 B) [] H H' s.heap s'.heap/\HOk P w H' s'.heap/\RelV v u/\Q v H'
def CR (CX:U2) (B:List Env) (P:Program) (w:World) (H:Hp) (s:Shared) (Q:VK) (E:XK) (r:Result) (s':Shared):Prop:=
 match r with
 |.ok (.ret u)=>CE B P w H s Q u s'
 |.ok _=>False
 |.error e=>CX B H s E e s'
structure FnOk (P:Program) (w:World) (K:vF_) (mg:vG_) (base:Heap) (CX:U2) (k:Nat) (f:Addr) (fd:FuncData) (ps:List Str) (sp:Sp):Prop where
 len:∀vs H Q E,sp vs H Q E->vs.length=ps.length
 run:∀(A:Around) (outer:List Env) (s:Shared) (H:Hp) (args:Args) (us:vV_) (vs:List V) (Q:VK) (E:XK),Room k A->Env0 P w K mg base A outer s H->BindsTo s fd args (ps.zip us)->Vals vs us->sp vs H Q E ->
  codeAny (model P w) A (.call (.ref f) args) (CR CX outer P w H s Q E) s
section
variable {s':Shared}
def Inv.env0 (I:Inv X pins σ H s):Env0 X.prog X.w X.K X.mg X.base X.A X.stack s H:=
 #[I.ok.frames,I.ok.mod,I.bs,Kf I.ok.bsz I.sz,I.stack,I.stkFree,I.hok,I.bare]
def Inv.after {Q:VK}(I:Inv X pins σ H s) (h:CE X.stack X.prog X.w H s Q u s'):EP X pins σ Q u s':=by
 obtain⟨v,H',os,B,U,J,r,q⟩:=h;obtain⟨W,g,d,t,M⟩:=s';obtain rfl:M=s.os:=os;exact#[v,H',I.call (h':=W) (g':=g) (d':=d) (t':=t) (ch:=[]) U J B (fun b z=>absurd z (by simp)),r,q]
end
def mV (sp:Sp) (dvs:List V) (E:XK) (t:TA):TE:=fun σ H Q=>t σ H fun B H1=>sp (B++dvs) H1 Q E
def Binds (K:vF_) (fd:FuncData) (ps:List Str) (ds:vV_):Prop:=
 ∀(s:Shared) (us:vV_),K.In s.heap->(us++ds).length=ps.length->BindsTo s fd #[us,[]] (ps.zip (us++ds))
def Binds.all {K:vF_}{ps:List Str}(h:∀us:List Value,us.length=ps.length->bindArgs fd #[us,[]]=pure (ps.zip us)):Binds K fd ps []:=fun s us _ hl=>by
 rw[Ls] at hl ⊢;exact .of_eq (h us hl)
def nq (CX:U2) (X:Cx) (E:XK):Prop:=∀(pins:vP_) (σ:St) (H:Hp) (s:Shared) (e:Value) (s':Shared),Inv X pins σ H s->CX X.stack H s E e s'->X.xe e s'
section
variable {f C:Addr}{ps:List Str}{dvs:List V}{ds:vV_}{E:XK}{m:Str}{p pos apos:Pos}{o:Expr}{ta:TE}{t:TA}
def pK {Q:VK}(F:FnOk X.prog X.w X.K X.mg X.base CX k f fd ps sp) (U:Room k X.A) (hb:Binds X.K fd ps ds) (W:Vals dvs ds) (M:nq CX X E)
  (I:Inv X pins σ H s) (r:Vals vs us) (h:sp (vs++dvs) H Q E):wpAny (model X.prog X.w) X.A (call (.ref f) us) (EP X pins σ Q) X.xe s:=by
 have J:Vals (vs++dvs) (us++ds):=r.append W;have hl:(us++ds).length=ps.length:=by rw[<-J.length];exact F.len _ _ _ _ h
 refine wpAny_call (codeAny_mono (F.run X.A X.stack s H #[us,[]] (us++ds) (vs++dvs) Q E U I.env0 (hb s us I.kIn hl) J h) fun r s' B=>?_);cases r with
 |error e=>exact M pins σ H s e s' I B
 |ok fl=>
  cases fl with
  |ret u=>exact I.after B
  |next=>exact False.elim B
  |brk=>exact False.elim B
  |cont=>exact False.elim B
def nT (F:FnOk X.prog X.w X.K X.mg X.base CX k f fd ps sp) (hr:Room k X.A) (hg:Gl X x) (hm:X.mg x=some (.ref f)) (hk:PySem.W.keepIn X.K (.ref f)=true) (hb:Binds X.K fd ps ds) (Z:Vals dvs ds) (U:nq CX X E)
  (ha:PA X (e::es) t) (B:(x == ("__debug__" : Str))=false:=by decide) (Y:starEach (e::es) X.env=(false,eval e X.env)::starEach es X.env:=by rfl) (J:(backTo pos (starEach es X.env)).any (·.1)=false:=by rfl) :
  PE X (.Call (.Name x p) (e::es) [] pos) (mV sp dvs E t):=by
 intro pins s σ H Q I h;refine LS (sa I hg hm ?_ B);refine PySem.W.callWith_K (h₀:=X.base) I.ok.mod.kin hk (j9 (ha pos pins s σ H _ I h) fun us s1 ⟨vs,H1,M,r,q⟩=>#[M.kIn,?_]) Y J;exact pK F hr hb Z U M r q
end
structure FnScope (N P:List Str) (sc:Scope):Prop where
 kind:sc.kind = .function
 co:sc.isCoroutine=false
 gen:sc.isGenerator=false
 nd:N.Nodup
 pre:N.take P.length=P
 par:∀x∈P,sc.names.lookup x=some .local\/sc.names.lookup x=some .cell
 nofree:∀y∈sc.names,y.2 ≠ .free
theorem wF {B:Str->Option NameKind}:∀{binds:List (Str × Value)}{m:vG_},(∀v,(x,v) ∉ binds)->bindL B binds m x=m x
 |[],_,_=>rfl
 |(n,v)::r,m,h=>by
  unfold bindL;rw[wF fun w J=>h w (td _ J)];split
  .have:x≠n:=by rintro rfl;exact h v iR
   simp[this]
  .rfl
theorem vY {B:Str->Option NameKind}:∀{binds:List (Str × Value)}{m:vG_},(∀v,(x,v) ∉ binds)->bindC B binds m x=m x
 |[],_,_=>rfl
 |(n,v)::r,m,h=>by
  unfold bindC;rw[vY fun w J=>h w (td _ J)];split
  .rfl
  .have:x≠n:=by rintro rfl;exact h v iR
   simp[this]
theorem vB {B:Str->Option NameKind}{v:Value}:∀{P:List Str}{vs:vV_}{i:Nat}{m:vG_},P.Nodup->P[i]? = some x->vs[i]? = some v->B x=some .local ->
  bindL B (P.zip vs) m x=some v
 |[],_,_,_,_,h,_,_=>by simp at h
 |_::_,[],_,_,_,_,h,_=>by simp at h
 |p::P,w::vs,0,m,nd,h1,h2,hk=>by
  simp at h1 h2;subst h1;subst h2;show bindL B ((p,w)::P.zip vs) m p=_;unfold bindL;rw[wF fun v J=>(Kz.mp nd).1 (LL J).1,gV hk];simp
 |p::P,w::vs,i+1,m,nd,h1,h2,hk=>by
  show bindL B ((p,w)::P.zip vs) m x=_;unfold bindL;exact vB (i:=i) (Kz.mp nd).2 (by simpa using h1) (by simpa using h2) hk
theorem uU {B:Str->Option NameKind}{v:Value}:∀{P:List Str}{vs:vV_}{i:Nat}{m:vG_},P.Nodup->P[i]? = some x->vs[i]? = some v->B x≠some .local ->
  bindC B (P.zip vs) m x=some v
 |[],_,_,_,_,h,_,_=>by simp at h
 |_::_,[],_,_,_,_,h,_=>by simp at h
 |p::P,w::vs,0,m,nd,h1,h2,hk=>by
  simp at h1 h2;subst h1;subst h2;show bindC B ((p,w)::P.zip vs) m p=_;unfold bindC;rw[vY fun v J=>(Kz.mp nd).1 (LL J).1,fI hk];simp
 |p::P,w::vs,i+1,m,nd,h1,h2,hk=>by
  show bindC B ((p,w)::P.zip vs) m x=_;unfold bindC;exact uU (i:=i) (Kz.mp nd).2 (by simpa using h1) (by simpa using h2) hk
def start (N:List Str) (B:List V):St:=B.map some++List.replicate (N.length - B.length) none
def X6 (CX:U2) (P:Program) (w:World) (K:vF_) (mg:vG_) (base:Heap) (N:List Str) (qual:Str) (scope:Scope) (f:Addr) (J:Value) (A:Around) (outer:List Env) (s:Shared) (H:Hp) (E:XK):Cx where
 prog:=P
 w:=w
 K:=K
 mg:=mg
 base:=base
 A:=A.deeper (envOfC qual scope s.heap.objs.size f J)
 N:=N
 s₀:=s
 H₀:=H
 env:=envOfC qual scope s.heap.objs.size f J
 outer:=outer
 stack:=envOfC qual scope s.heap.objs.size f J::outer
 ex:=[]
 calm:=true
 fn:=fun _=>true
 pn:=[]
 xe:=fun e s'=>wpAny (model P w) (A.deeper (envOfC qual scope s.heap.objs.size f J)) (leaving (envOfC qual scope s.heap.objs.size f J) e) (fun _ B=>CX outer H s E e B) (fun M B=>CX outer H s E M B) s'
def wC {B:Scope}(h:B.names.lookup x=some .cell):∃c,(cellsFrom n B.names []).lookup x=some c:=by
 have q:=Pq B.names n [] (.inl h);exact Pr.mp q
def Ae {w:World}{K:vF_}{N ps:List Str}{Y:Value}{s1:Shared}{E:XK}{M:List V}
  (S:FnScope N ps scope) (hd:A.handled=none) (B:Env0 P w K mg base A outer s H) (hl:M.length=ps.length) (r:Vals M us)
  (x:InCallC s s.heap.objs.size (bindL (envOfC qual scope s.heap.objs.size f Y).kindOf (ps.zip us) fun _=>none) (cellsFrom (s.heap.objs.size+1) scope.names []) (bindC (envOfC qual scope s.heap.objs.size f Y).kindOf (ps.zip us) fun _=>none) s1) :
  Inv (X6 CX P w K mg base N qual scope f Y A outer s H E) [] (start N M) H s1:=by
 have hpl:ps.length<=N.length:=by have:=congrArg List.length S.pre;rw[Ld] at this;omega
 obtain⟨h1,tk,rfl,hk⟩:=x.done;have U:∀b:Addr,b ∉ (X6 CX P w K mg base N qual scope f Y A outer s H E).ex:=fun b z=>absurd (show b∈([]:vL_) from z) (by simp)
 refine#[#[B.mod,S.kind,rfl,rfl,iU _,fun y z c h1 h2=>?_,fun y J=>?_,fun y c _ h=>?_,fun _=>hd,Around.frames_deeper B.frames,.inr #[rfl,rfl],fun b z=>absurd z (U b),B.bs,B.bsz,fun b _ _=>U b,fun b z=>absurd z (U b),B.funs,B.frf],
  rfl,B.bare,Un.kept hk,#[_,x.toInCall.ns,fun i y v h1 h2 h3=>?_],fun y c h=>#[_,x.cell y c h],B.hok.fresh (iU _),fun y c h=>?_,fun p hp=>absurd (show p∈([]:vP_) from hp) (by simp),B.hok.kept hk,?_]
 .exact name_of_addr x.apart (MV h1) (MV h2)
 .have J:scope.names.lookup y=some .cell\/scope.names.lookup y=some .free:=J;rcases J with J | J
  .exact wC J
  .exact absurd rfl (S.nofree _ (MV J))
 .exact Nz (x.above y c (MV h))
 .have hi:i<M.length:=by
   unfold start at h2;by_cases hi:i<M.length
   .exact hi
   .rw[Mt (by simpa using hi)] at h2;rw[List.getElem?_replicate] at h2;split at h2 <;> cases h2
  have ha:M[i]? = some v:=by
   unfold start at h2;rw[MW (by simpa using hi),KO] at h2;cases e:M[i]? with
   |none=>rw[e] at h2;cases h2
   |some a=>rw[e] at h2;cases h2;rfl
  obtain⟨u,Z,rv⟩:=r.get ha;have hp:ps[i]? = some y:=by
   rw[<-S.pre,NF ∅];exact h1
  have W:ps.Nodup:=by rw[<-S.pre];exact S.nd.sublist (List.take_sublist _ _)
  refine#[u,rv,?_];rcases S.par y (LM hp) with k | k
  .exact .inl #[k,vB W hp Z k]
  .obtain⟨c,e⟩:=wC (n:=s.heap.objs.size+1) k;refine .inr #[.inl k,c,e,?_];have q:=x.cell y c e;rw[uU W hp Z (by show scope.names.lookup y≠_;rw[k];decide)] at q;exact q
 .exact B.hok.fresh (Nz (x.above y c (MV h)))
 .unfold start;show _=N.length;rw[Km,xo,Pu];omega
def yM {CX:U2}{w:World}{K:vF_}{mg:vG_}{base:Heap}{k:Nat}{name qual:Str}{body:List Stmt}{scope:Scope}{dV kV doc pm B ct oc:Value}{an od:vA_}
  {osl:vS_}{N ps:List Str}{sp:Sp}(lk:K.lookup f=some #[oc,od,.func (PySem.W.fnOf name qual params body scope dV kV doc pm an B ct),osl]) (hcd:PySem.W.codeIn K B qual=true) (S:FnScope N ps scope)
  (Z:∀vs H Q E,sp vs H Q E->vs.length=ps.length)
  (U:∀(A:Around) (outer:List Env) (s:Shared) (H:Hp) (vs:List V) (Q:VK) (E:XK),Room k (A.deeper (envOfC qual scope s.heap.objs.size f B))->sp vs H Q E ->
   ∃t,PSs (X6 CX P w K mg base N qual scope f B A outer s H E) body t/\t { nx:=fun _ H'=>Q .non H',rt:=Q } (start N vs) H) :
  FnOk P w K mg base CX (k+1) f (PySem.W.fnOf name qual params body scope dV kV doc pm an B ct) ps sp:=by
 refine#[Z,fun A outer s H args us vs Q E hr Y hb r hsp=>?_];have hl:=Z _ _ _ _ hsp;have KX:K.In s.heap:=Y.mod.kin.keeps fun b o e=>(Y.bs b o e).1
 have lim:s.heap.NoLimit:=Y.mod.nolimit.keeps fun b o e=>(Y.bs b o e).1
 have M:∀y∈ps.zip us,scope.names.lookup y.1=some .local\/(scope.names.lookup y.1=some .cell/\((cellsFrom (s.heap.objs.size+1) scope.names []).lookup y.1).isSome=true):=fun ⟨n,v⟩ hy=>by
  rcases S.par n (LL hy).1 with q | q
  .exact .inl q
  .exact .inr #[q,Pq _ _ _ (.inl q)]
 refine codeAny_call_function hr.depth (KX _ _ lk) rfl S.co S.gen rfl (PySem.W.codeRec_of KX hcd) (hb _ _ _ _ ?_);refine wpAny_newFunctionEnv_cells S.kind M fun env he s1 x=>?_
 subst he;refine#[lim.keeps x.toInCall.keep,codeAny_func ?_];obtain⟨t,ht,hq⟩:=U A outer s H vs Q E (hr.deeper _) hsp;have I:Inv (X6 CX P w K mg base N qual scope f B A outer s H E) [] (start N vs) H s1:=Ae S hr.hd Y hl r x;refine KW (ht [] s1 (start N vs) H _ I hq) (fun fl s' hs=>?_) fun e s' hs=>hs
 have fin:∀{σ':St}{H':Hp}{v:V}{u:Value},Inv (X6 CX P w K mg base N qual scope f B A outer s H E) [] σ' H' s'->RelV v u->Q v H'->CE outer P w H s Q u s':=
  fun {σ' H' v u} J rv q=>#[v,H',J.os,J.bare,J.base,J.hok,rv,q]
 cases fl with
 |ret u=>
  obtain⟨v,σ',H',J,rv,q⟩:=hs;exact fin J rv q
 |next=>
  obtain⟨σ',H',J,q⟩:=hs;exact fin (v:=V.non) (u:=Value.none) J rfl q
 |brk=>
  obtain⟨_,_,_,q⟩:=hs;exact False.elim q
 |cont=>
  obtain⟨_,_,_,q⟩:=hs;exact False.elim q
section
variable {p pos:Pos}{t:TA}{id T:String}{r:List V->Hp->VK->Prop}
def fK (r:List V->Hp->VK->Prop) (t:TA):TE:=fun σ H Q=>t σ H fun B H1=>r B H1 Q
def xW (hc:CallR X (.builtin id) r) (Y:Gl X x) (hm:X.mg x=none) (hv:bootBuiltins x=some (.builtin id)) (ha:PA X (e::es) t) (W:x ≠ "__name__" := by decide) (B:(x == ("__debug__" : Str))=false:=by decide)
  (U:starEach (e::es) X.env=(false,eval e X.env)::starEach es X.env:=by rfl) (J:(backTo pos (starEach es X.env)).any (·.1)=false:=by rfl):PE X (.Call (.Name x p) (e::es) [] pos) (fK r t):=by
 intro pins s σ H Q I h;refine LS (Y7 I Y hm hv ?_ W B);exact PyProof.Rows.callWith_builtin1 (j9 (ha pos pins s σ H _ I h) fun us s1 ⟨vs,H1,Z,M,q1⟩=>hc pins s1 σ H1 vs us Q Z M q1) U J
def gs (hc:CallR X (.type T) r) (Y:Gl X x) (hm:X.mg x=none) (hv:bootBuiltins x=some (.type T)) (ha:PA X (e::es) t) (W:x ≠ "__name__" := by decide) (B:(x == ("__debug__" : Str))=false:=by decide)
  (U:starEach (e::es) X.env=(false,eval e X.env)::starEach es X.env:=by rfl) (J:(backTo pos (starEach es X.env)).any (·.1)=false:=by rfl):PE X (.Call (.Name x p) (e::es) [] pos) (fK r t):=by
 intro pins s σ H Q I h;refine LS (Y7 I Y hm hv ?_ W B);exact Mi (j9 (ha pos pins s σ H _ I h) fun us s1 ⟨vs,H1,Z,M,q1⟩=>hc pins s1 σ H1 vs us Q Z M q1) U J
end
end L2
variable {xs ys:List L2.V}{f':Int->Int->L2.V}{H H':L2.Hp}{X:L2.Cx}{σ:L2.St}{te:L2.TE}{tc:L2.TT}{ta:L2.TA}{tb:L2.TS}{R:L2.It->L2.Hp->Prop}{sp:L2.Sp}{CX:L2.U2}
namespace HT
open PySem PyProof.Rows
section
variable {w:World}
def cat_tup {t b:Addr}{M B:vV_}{Q:vQ_}(ht:IsTup s.heap t M.toArray) (hb:IsTup s.heap b B.toArray) (hv:M≠[])
  (h1:B=[]->Q (.ref t) s) (h2:B≠[]->Q (.ref s.heap.objs.size) { s with heap:=s.heap.push { cls:=.type "tuple",data:=.seq (M++B).toArray } })
  (hsz:M.length+B.length<=sizeLine):wpAny (model prog w) A (binaryOp .Add (.ref t) (.ref b)) Q E s:=by
 obtain⟨⟨cls,dd,data,sl⟩,ho,hc,n,hd⟩:=id ht;obtain⟨⟨cls2,U,data2,Y⟩,J,W,n2,Z⟩:=id hb;simp only at hc hd W Z;subst hc hd W Z;have e:M.toArray++B.toArray=(M++B).toArray:=by simp
 by_cases hw:B=[]
 .exact concat_meets #[_,ho,rfl] #[_,J,rfl] Oy seq_tuple_add Oz OA (OB _ _)
   (tuple_addW1 t b M.toArray B.toArray n n2 dd U sl Y (by simpa using hv) (by simp[hw])) #[ho,J,h1 hw]
 .refine concat_meets #[_,ho,rfl] #[_,J,rfl] Oy seq_tuple_add Oz OA (OB _ _)
   (tuple_addW2 t b M.toArray B.toArray n n2 dd U sl Y (by simpa using hv) (by simpa using hw) (by rw[Kl,Kl];exact hsz)) #[ho,J,?_]
  rw[e];exact h2 hw
def sIx (n d:Nat):Option Int->Nat
 |none=>d
 |some v=>if v<0 then (v+(n:Int)).toNat else min v.toNat n
def sIx_none (n d:Nat):sIx n d none=d:=rfl
def sIx_nat (n d k:Nat):sIx n d (some (k:Int))=min k n:=by
 show (if (k:Int)<0 then ((k:Int)+(n:Int)).toNat else min (k:Int).toNat n)=min k n;rw[fI ∅,LC]
def yE (n d:Nat) (J:d<=n) (o:Option Int):sIx n d o<=n:=by
 cases o with
 |none=>exact J
 |some v=>
  show (if v<0 then (v+(n:Int)).toNat else min v.toNat n)<=n;by_cases B:v<0
  .rw[gV B];omega
  .rw[fI B];exact Nat.min_le_right _ _
def pM (v:Int) (n d:Nat):(if v<0 then max (v+(n:Int)) 0 else min v (n:Int))=((sIx n d (some v):Nat):Int):=by
 show (if v<0 then max (v+(n:Int)) 0 else min v (n:Int))=(((if v<0 then (v+(n:Int)).toNat else min v.toNat n):Nat):Int);by_cases B:v<0
 .simp only[gV B];omega
 .simp only[fI B];omega
def Ak (lo hi:Option Int) (n:Nat):Builtin.Slice.sliceAdjust lo hi 1 (n:Int)=(((sIx n 0 lo:Nat):Int),((sIx n n hi:Nat):Int)):=by
 have h1:¬ ((1:Int)<0):=by omega
 unfold Builtin.Slice.sliceAdjust;simp only[h1,Kv];refine KA ?_ ?_
 .cases lo with
  |none=>rfl
  |some v=>exact pM v n 0
 .cases hi with
  |none=>rfl
  |some v=>exact pM v n n
def HQ (i j:Nat):Builtin.Slice.slicePlaces (i:Int) (j:Int) 1=j - i:=by
 unfold Builtin.Slice.slicePlaces;have h1:(1:Int)>0:=by omega
 simp only[h1,KG,Int.ediv_one];split <;> omega
def qo {v:Value}{o:Option Int}{Q:Option Int->Shared->Prop}(p:IsPart v o) (h:Q o s):wpAny (model prog w) A (Builtin.Slice.slicePartIndex v) Q E s:=by
 cases p with
 |none=>exact slicePart_none h
 |int i t=>exact slicePart_int h
def pA {lo hi:Option Int}{Q:Int × Int × Nat->Shared->Prop}(hs:s.heap.IsSliceOf sl vl vu .none) (U:IsPart vl lo) (M:IsPart vu hi)
  (h:Q (((sIx n 0 lo:Nat):Int),1,sIx n n hi - sIx n 0 lo) s):wpAny (model prog w) A (Builtin.Slice.sliceApplied (.ref sl) (pure (n:Int))) Q E s:=by
 obtain⟨Y,B,W,J⟩:=id hs;unfold Builtin.Slice.sliceApplied Builtin.Slice.sliceFields;refine fx (fx (KJ B J (x:=vl) rfl (fx (KJ B J (x:=vu) rfl (fx (KJ B J (x:=.none) rfl (iO ?_)))))));refine fx (slicePart_none ?_);show wpAny _ _ (if ((1:Int) == 0)=true then _ else _) _ _ s;rw[fI #[]];refine fx (qo U (fx (qo M (fx (iO ?_)))));show wpAny _ _ (match Builtin.Slice.sliceAdjust lo hi 1 (n:Int) with | (lo,hi)=>pure (lo,(1:Int),Builtin.Slice.slicePlaces lo hi 1)) _ _ s;rw[Ak lo hi n];show wpAny _ _ (pure (((sIx n 0 lo:Nat):Int),(1:Int),Builtin.Slice.slicePlaces ((sIx n 0 lo:Nat):Int) ((sIx n n hi:Nat):Int) 1)) _ _ s;rw[HQ];exact iO h
def Bn (xs:vR_) (i k:Nat):((List.range k).filterMap fun (m:Nat)=>xs[((i:Int)+(m:Int)*1).toNat]?).toArray=((xs.toList.drop i).take k).toArray:=by
 have e:(fun (m:Nat)=>xs[((i:Int)+(m:Int)*1).toNat]?)=fun m=>xs[i+m]?:=by
  funext m;have:((i:Int)+(m:Int)*1).toNat=i+m:=by omega
  rw[this]
 rw[e];have:=pick_run xs i k;rw[OC] at this;have B:((fun x=>xs[x]?)∘fun x=>i+x)=fun m=>xs[i+m]?:=rfl
 rw[B] at this;rw[this]
def getItem_tuple_cut {t sl:Addr}{items:vR_}{lo hi:Option Int}{Q:vQ_}(J:IsTup s.heap t items) (hs:s.heap.IsSliceOf sl vl vu .none) (pl:IsPart vl lo) (pu:IsPart vu hi)
  (hw:¬ (sIx items.size 0 lo=0/\sIx items.size items.size hi=items.size))
  (h:Q (.ref s.heap.objs.size) { s with heap:=s.heap.push { cls:=.type "tuple",data:=.seq ((items.toList.drop (sIx items.size 0 lo)).take (sIx items.size items.size hi - sIx items.size 0 lo)).toArray } })
  (hsz:items.size<=sizeLine):wpAny (model prog w) A (getItem (.ref t) (.ref sl)) Q E s:=by
 have B:sizeOk (.seq ((items.toList.drop (sIx items.size 0 lo)).take (sIx items.size items.size hi - sIx items.size 0 lo)).toArray):=by
  show ((items.toList.drop (sIx items.size 0 lo)).take (sIx items.size items.size hi - sIx items.size 0 lo)).toArray.size<=sizeLine;rw[Kl,Ld,Kt,Ow];omega
 have hj:sIx items.size items.size hi<=items.size:=yE _ _ (iU _) hi;obtain⟨Z,U,Y,hds⟩:=id hs;have W:s.TypeIs (.ref sl) "slice" := #[Z,U,Y]
 unfold getItem
 try with_reducible refine Lk ?_
 first | refine fx (iO ?_) | skip
 refine fx (wpAny_sequenceKey J.typeIs #[] ?_);refine fx (Lu (name:=Str.ofString "__getitem__") J.typeIs Mu
  (KY Mu J.typeIs entry_tuple_getitem ?_ (args_tuple_getitem _ _)))
 show wpAny _ _ (Builtin.Tuple.tupleItemsOf (.ref t) >>= _) _ _ s;refine fx (tupleItemsOf_ J ?_);refine fx (MX W ?_);rw[gV #[]];refine fx (pA hs pl pu ?_);have M:¬ ((((sIx items.size 0 lo:Nat):Int) == 0&&(1:Int) == 1&&(sIx items.size items.size hi - sIx items.size 0 lo) == items.size)=true):=by
  intro q;rw[Ko,Ko] at q;have q1:((sIx items.size 0 lo:Nat):Int)=0:=eq_of_beq q.1.1;have q2:sIx items.size items.size hi - sIx items.size 0 lo=items.size:=eq_of_beq q.2;exact hw #[by omega,by omega]
 show wpAny _ _ (if (((sIx items.size 0 lo:Nat):Int) == 0&&(1:Int) == 1&&(sIx items.size items.size hi - sIx items.size 0 lo) == items.size)=true then _ else _) _ _ s;rw[fI M,Bn]
 first
  | exact fx (m:=Builtin.Tuple.tupleExact _) (LA (iO #[_,rfl,iO h]) B)
  | exact fx (m:=Builtin.Tuple.tupleExact _) (LA (fx (iO (iO #[_,rfl,iO h]))) B)
  | exact fx (fx (m:=Builtin.Tuple.tupleExact _) (LA (iO (iO #[_,rfl,iO h])) B))
  | exact fx (fx (m:=Builtin.Tuple.tupleExact _) (LA (iO #[_,rfl,iO h]) B))
end
end HT
namespace L2
open PySem PySem.Spec PyProof.Rows
abbrev TO:=St->Hp->(Option Int->Hp->Prop)->Prop
def PO (X:Cx) (e:Option Expr) (t:TO):Prop:=
 ∀(pins:vP_) (s:Shared) (σ:St) (H:Hp) (Q:Option Int->Hp->Prop),Inv X pins σ H s->t σ H Q ->
  wpAny (model X.prog X.w) X.A (evalPart e X.env) (fun u s'=>∃o H',Inv X pins σ H' s'/\IsPart u o/\Q o H') X.xe s
def DX:TO:=fun _ H Q=>Q none H
def FC (t:TE):TO:=fun σ H Q=>t σ H fun x H1=>∃i,x = .int i/\Q (some i) H1
section
variable {lo hi:Option Expr}{tl th:TO}{pos:Pos}
def pW:PO X none DX:=by
 intro pins s σ H Q I h;rw[evalPart_none];exact iO #[none,H,I,.none,h]
def vh (h:PE X e te):PO X (some e) (FC te):=by
 intro pins s σ H Q I U;rw[evalPart_some];refine j9 (h pins s σ H _ I U) fun u s1 ⟨x,H1,J,B,M⟩=>?_
 obtain⟨i,rfl,q⟩:=M;obtain⟨t,rfl⟩:=B;exact#[some i,H1,J,.int i t,q]
def SlR (X:Cx) (r:V->Option Int->Option Int->Hp->VK->Prop):Prop:=
 ∀(pins:vP_) (s:Shared) (σ:St) (H:Hp) (x:V) (v vl vu:Value) (lo hi:Option Int) (sl:Addr) (Q:VK),Inv X pins σ H s->RelV x v->s.heap.IsSliceOf sl vl vu .none->IsPart vl lo->IsPart vu hi->r x lo hi H Q ->
  ∃T id,typeLookup (.type T) "__getitem__" = pure (some (.builtin id))/\s.TypeIs v T/\wpAny (model X.prog X.w) X.A (getItem v (.ref sl)) (EP X pins σ Q) X.xe s
def SlR.or {r U:V->Option Int->Option Int->Hp->VK->Prop}(h:SlR X r) (h':SlR X U):SlR X (fun x lo hi H Q=>r x lo hi H Q\/U x lo hi H Q):=by
 intro pins s σ H x v M Y lo hi sl Q I J hs B W q;rcases q with q | q
 .exact h pins s σ H x v M Y lo hi sl Q I J hs B W q
 .exact h' pins s σ H x v M Y lo hi sl Q I J hs B W q
def yO (r:V->Option Int->Option Int->Hp->VK->Prop) (te:TE) (tl th:TO):TE:=fun σ H Q=>te σ H fun x H1=>tl σ H1 fun l H2=>th σ H2 fun u B=>r x l u B Q
def pZ (hr:SlR X r) (W:PE X e te) (hl:PO X lo tl) (hu:PO X hi th):PE X (.Subscript e (.Slice lo hi none p2) pos) (yO r te tl th):=by
 intro pins s σ H Q I h;refine Subscript_ (j9 (W pins s σ H _ I h) fun v s1 ⟨x,H1,I1,U,q1⟩=>?_);refine wpAny_Slice (j9 (hl pins s1 σ H1 _ I1 q1) fun B s2 ⟨l,H2,I2,pl,q2⟩=>j9 (hu pins s2 σ H2 _ I2 q2) fun J s3 ⟨u,M,I3,Z,q3⟩=>?_);rw[evalPart_none];refine iO ?_;have Y:Inv X pins σ M { s3 with heap:=s3.heap.push { cls:=.type "slice",data:=.fields #v[B,J,.none] } }:=I3.kept (t':=s3.toks) fun b ob q=>Kg _ q
 obtain⟨T,id,hT,ht,hg⟩:=hr pins { s3 with heap:=s3.heap.push { cls:=.type "slice",data:=.fields #v[B,J,.none] } } σ M x v B J l u s3.heap.objs.size Q Y U (Heap.IsSliceOf.new ..) pl Z q3;show wpAny (model X.prog X.w) X.A (subscriptTail e (.Slice lo hi none p2) v (.ref s3.heap.objs.size)) (EP X pins σ Q) X.xe { s3 with heap:=s3.heap.push { cls:=.type "slice",data:=.fields #v[B,J,.none] } };exact tail_any (ops:=[.ref s3.heap.objs.size,v]) ht hT hg (by with_unfolding_all rfl)
def S7 (xs:List V) (lo hi:Option Int):List V:=(xs.drop (HT.sIx xs.length 0 lo)).take (HT.sIx xs.length xs.length hi - HT.sIx xs.length 0 lo)
def vG (xs:List V) (lo hi:Option Int):(S7 xs lo hi).length<=xs.length:=by
 unfold S7;rw[Ld,Kt];omega
def Ah (K:vF_):V->Option Int->Option Int->Hp->VK->Prop:=fun x lo hi H Q=>∃a xs,x = .ref a/\SqT K H a xs /\
 ¬ (HT.sIx xs.length 0 lo=0/\HT.sIx xs.length xs.length hi=xs.length)/\∀p,H p=none->Q (.ref p) (e7 H p (.tup (S7 xs lo hi)))
def zO:SlR X (Ah X.K):=by
 intro pins s σ H x v vl vu lo hi sl Q I Z hs W pu h;obtain⟨a,xs,rfl,U,Y,q⟩:=h;cases Z;obtain⟨its,r,M,J⟩:=I.tuple U;have B:its.toArray.size=xs.length:=by rw[Kl];exact r.length.symm
 refine#["tuple",_,Mu.lookup,M.typeIs,?_];refine HT.getItem_tuple_cut M hs W pu (by rw[B];exact Y) ?_ (by rw[B];exact J);rw[B];refine#[.ref s.heap.objs.size,_,I.laid (t':=s.toks) (o:=.tup (S7 xs lo hi)) (fun b ob q=>Kg _ q) (iU _) ?_,rfl,q _ (I.hok.fresh (iU _))];exact#[Kf (vG xs lo hi) J,_,(r.drop (HT.sIx xs.length 0 lo)).take (HT.sIx xs.length xs.length hi - HT.sIx xs.length 0 lo),IsTup.new _ _]
def pU (K:vF_):R2:=fun x y H Q=>∃a b xs ys,x = .ref a/\y = .ref b/\SqT K H a xs/\SqT K H b ys/\xs≠[]/\xs.length+ys.length<=sizeLine /\
 (ys=[]->Q (.ref a) H)/\(ys≠[]->∀p,H p=none->Q (.ref p) (e7 H p (.tup (xs++ys))))
def Vals.nil_iff (r:Vals xs us):us=[]↔xs=[]:=by
 cases r with
 |nil=>simp
 |cons _ _=>simp
def Ih:OpR X (binaryOp .Add) (pU X.K):=by
 intro pins s σ H x y v u Q I Z ry h;obtain⟨a,b,xs,ys,rfl,rfl,ha,hb,W,M,Y,q2⟩:=h;cases Z;cases ry;obtain⟨its,J,p1,_⟩:=I.tuple ha;obtain⟨U,B,p2,_⟩:=I.tuple hb;refine HT.cat_tup p1 p2 (fun z=>W (J.nil_iff.mp z)) (fun z=>#[.ref a,H,I,rfl,Y (B.nil_iff.mp z)]) (fun z=>?_) (by rw[<-J.length,<-B.length];exact M);refine#[.ref s.heap.objs.size,_,I.laid (t':=s.toks) (o:=.tup (xs++ys)) (fun b ob q=>Kg _ q) (iU _) ?_,rfl,q2 (fun w=>z (B.nil_iff.mpr w)) _ (I.hok.fresh (iU _))];exact#[by rw[Km];exact M,_,J.append B,IsTup.new _ _]
end
def P6 (n:Nat) (i:Int):Option Nat:=if 0<=i then (if i<n then some i.toNat else none) else if -(n:Int)<=i then some (i+n).toNat else none
def v5 {α:Type}(xs:List α) (i:Int):Option α:=(P6 xs.length i).bind fun j=>xs[j]?
def uX {i:Int}(h:P6 n i=some j):seqIndex? i n=some j/\j<n /\ -(n:Int)<=i/\i<n:=by
 unfold P6 at h;by_cases B:0<=i
 .rw[gV B] at h;by_cases h1:i<n
  .rw[gV h1] at h;have e:i.toNat=j:=KN h;exact#[by rw[seqIndex_of B h1,e],by omega,by omega,h1]
  .rw[fI h1] at h;cases h
 .rw[fI B] at h;by_cases h1:-(n:Int)<=i
  .rw[gV h1] at h;have e:(i+n).toNat=j:=KN h;exact#[by rw[seqIndex_neg ∅ h1,e],by omega,h1,by omega]
  .rw[fI h1] at h;cases h
def uz {α:Type}{xs:List α}{i:Int}{v:α}(h:v5 xs i=some v):∃j,seqIndex? i xs.length=some j/\xs[j]? = some v/\j<xs.length /\ -(xs.length:Int)<=i/\i<xs.length:=by
 unfold v5 at h;cases e:P6 xs.length i with
 |none=>rw[e] at h;cases h
 |some j=>
  rw[e] at h;obtain⟨h1,h2,B,h4⟩:=uX e;exact#[j,h1,h,h2,B,h4]
def cV {α:Type}{xs:List α}{v:α}(h:xs[j]? = some v):v5 xs (j:Int)=some v:=by
 have B:j<xs.length:=(KH.mp h).1;have e:P6 xs.length (j:Int)=some j:=by
  unfold P6;rw[gV ∅,gV ∅];simp
 unfold v5;rw[e];exact h
def nt {α:Type}(xs:List α) (v:α):v5 (xs++[v]) (-1)=some v:=by
 have hl:(xs++[v]).length=xs.length+1:=by simp
 have e:P6 (xs++[v]).length (-1)=some xs.length:=by
  unfold P6;rw[hl,fI #[],gV ∅];congr 1;omega
 unfold v5;rw[e];show (xs++[v])[xs.length]? = some v;simp
def pj (b:Expr):Prop:=∀o i,subscripted b false o i=operate [o,i] (getItem o i)
def IxR (X:Cx) (r:R2):Prop:=
 ∀(value slice:Expr) (pins:vP_) (s:Shared) (σ:St) (H:Hp) (x y:V) (v u:Value) (Q:VK),Inv X pins σ H s->RelV x v->RelV y u->r x y H Q ->
  subscripted slice false v u=operate [v,u] (getItem v u)->wpAny (model X.prog X.w) X.A (subscriptTail value slice v u) (EP X pins σ Q) X.xe s
def nQ (X:Cx) (id:String) (r:V->List V->Hp->VK->Prop):Prop:=
 ∀(pins:vP_) (s:Shared) (σ:St) (H:Hp) (x:V) (xs:List V) (v:Value) (us:vV_) (Q:VK),Inv X pins σ H s->RelV x v->Vals xs us->r x xs H Q ->
  wpAny (model X.prog X.w) X.A (call (.builtin id) (v::us)) (EP X pins σ Q) X.xe s
section
variable {a b:Expr}{ta tb:TE}{pos:Pos}
def IxR.or {r W:R2}(h:IxR X r) (h':IxR X W):IxR X (fun x y H Q=>r x y H Q\/W x y H Q):=by
 intro J B pins s σ H x y v u Q I M U q hs;rcases q with q | q
 .exact h J B pins s σ H x y v u Q I M U q hs
 .exact h' J B pins s σ H x y v u Q I M U q hs
def xK (B:IxR X r) (ha:PE X a ta) (hb:PE X b tb) (hs:pj b):PE X (.Subscript a b pos) (dc r ta tb):=by
 intro pins s σ H Q I h;exact Subscript_ (mN ha hb I h fun v u s2 x y H2 U J M q=>B a b pins s2 σ H2 x y v u Q U J M q (hs _ _))
def lK (K:vF_):R2:=fun x y H Q=>∃p xs i v,x = .ref p/\y = .int i/\SqL K H p xs/\v5 xs i=some v/\Q v H
def lZ (K:vF_):R2:=fun x y H Q=>∃p xs i v,x = .ref p/\y = .int i/\SqT K H p xs/\v5 xs i=some v/\Q v H
def ix_list:IxR X (lK X.K):=by
 intro Y W pins s σ H x y v u Q I rx ry h hs;obtain⟨p,xs,i,z,rfl,rfl,hq,he,q⟩:=h;cases rx;obtain⟨t,rfl⟩:=ry;obtain⟨its,r,M,hz⟩:=I.list hq;obtain⟨j,h1,h2,h3,h4,h5⟩:=uz he;obtain⟨w,Z,U⟩:=r.get h2;have hl:=r.length;have hn:=bW;have B:EP X pins σ Q w s:=#[z,H,I,U,q]
 by_cases h0:0<=i
 .have J:i.toNat=j:=by
   rw[seqIndex_of h0 h5] at h1;exact KN h1
  exact item_listR M.isList h0 ∅ (by rw[J];simpa using Z) B hs
 .have J:(i+(its.toArray.size:Int)).toNat=j:=by
   rw[seqIndex_neg ∅ h4] at h1;rw[Kl,<-hl];exact KN h1
  exact subscriptTail_builtinR (x:=w) M.isList.typeIs OD.lookup
   (wpAny_getItem_list_neg (Q:=fun r s'=>r=w/\EP X pins σ Q r s') M.isList ∅ (by rw[Kl] <;> omega) ∅ (by rw[J];simpa using Z) #[rfl,B]) hs
def Ek:IxR X (lZ X.K):=by
 intro U M pins s σ H x y v u Q I rx ry h hs;obtain⟨p,xs,i,z,rfl,rfl,hq,Y,q⟩:=h;cases rx;obtain⟨t,rfl⟩:=ry;obtain⟨its,r,W,hz⟩:=I.tuple hq;obtain⟨j,h1,h2,h3,h4,h5⟩:=uz Y;obtain⟨w,Z,J⟩:=r.get h2;have hl:=r.length;have hn:=bW;have B:EP X pins σ Q w s:=#[z,H,I,J,q]
 exact subscriptTail_builtinR (x:=w) W.typeIs slot_tuple_getitem.lookup
  (getItem_tuple (j:=j) (Q:=fun r s'=>r=w/\EP X pins σ Q r s') W ∅ ∅ (by rw[Kl,<-hl];exact h1) (by simpa using Z) #[rfl,B]) hs
def IS (its:vV_) (n j:Nat) (u:Value):Obj.mapSeq (·.setIfInBounds j u) { cls:=.type "list",data:=.seq its.toArray n }={ cls:=.type "list",data:=.seq (its.set j u).toArray n }:=by
 simp[Obj.mapSeq]
theorem Inv.lst (I:Inv X pins σ H s) (h:H p=some (.lst xs)) :
  ∃(its:vV_) (n:Nat),Vals xs its/\s.heap.get? p=some { cls:=.type "list",data:=.seq its.toArray n }/\xs.length<=sizeLine:=by
 obtain⟨z,its,n,r,e⟩:=I.hok p _ h;exact#[its,n,r,e,z]
def Inv.lstUpd {pins:vP_}{H:Hp}{s:Shared}{p:Addr}{xs ys:List V}{its its':vV_}{n B:Nat}(I:Inv X pins σ H s) (h:H p=some (.lst xs))
  (M:s.heap.get? p=some { cls:=.type "list",data:=.seq its.toArray n }) (J:f { cls:=.type "list",data:=.seq its.toArray n }={ cls:=.type "list",data:=.seq its'.toArray B }) (r:Vals ys its') (hz:ys.length<=sizeLine) (t:Nat) :
  Inv X pins σ (e7 H p (.lst ys)) { s with heap:=s.heap.update p f,toks:=t }:=by
 have e:(s.heap.update p f).get? p=some { cls:=.type "list",data:=.seq its'.toArray B }:=by
  rw[LG f M (by rw[J] <;> rfl),J]
 refine I.write (x:=p) (e:=p) (by rw[h];trivial) (.inl rfl) (fun b u hb q=>(LN _ _ (Ki hb)).trans q) #[_,e] ?_;exact#[hz,its',B,r,e]
def zd:V->V->V->Hp->(Hp->Prop)->Prop:=fun o i v H Q=>∃p xs k j,o = .ref p/\i = .int k/\H p=some (.lst xs)/\P6 xs.length k=some j/\Q (e7 H p (.lst (xs.set j v)))
def ym:jV X zd:=by
 intro pins s σ H o i v ov iv u Q I Y Z rv h;obtain⟨p,xs,k,j,rfl,rfl,hp,hj,q⟩:=h;cases Y;obtain⟨t,rfl⟩:=Z;obtain⟨its,n,r,B,hz⟩:=I.lst hp;obtain⟨h1,h2,J,h4⟩:=uX hj;have hl:=r.length;have hn:=bW;have M:Inv X pins σ (e7 H p (.lst (xs.set j v))) { s with heap:=s.heap.update p (Obj.mapSeq (·.setIfInBounds j u)) }:=
  I.lstUpd hp B (IS its n j u) (r.set rv j) (by rw[List.length_set];exact hz) s.toks
 by_cases U:0<=k
 .have hk:k.toNat=j:=by
   rw[seqIndex_of U h4] at h1;exact KN h1
  exact PySem.W.ki_setAt B U ∅ (by rw[Kl,<-hl];exact h4) (by rw[hk];exact#[_,M,q])
 .have hk:(k+(its.toArray.size:Int)).toNat=j:=by
   rw[seqIndex_neg ∅ J] at h1;rw[Kl,<-hl];exact KN h1
  exact PySem.W.ki_setBack B ∅ (by rw[Kl,<-hl];exact J) ∅ (by rw[hk];exact#[_,M,q])
def Bj (lo hi:Option Int) (n:Nat):(sliceBounds lo hi none n).1=((HT.sIx n 0 lo:Nat):Int)/\(sliceBounds lo hi none n).2.1=((HT.sIx n n hi:Nat):Int)/\(sliceBounds lo hi none n).2.2=1:=by
 have key:∀i:Int,(sliceBounds (some i) none none n).1=((HT.sIx n 0 (some i):Nat):Int):=fun i=>by
  simp only[sliceBounds,HT.sIx,Option.getD_none,show (1:Int)>0 by decide,KG];by_cases h:i<0
  .simp only[h,KG] <;> omega
  .simp only[h,Kv] <;> omega
 refine#[?_,?_,rfl]
 .cases lo with
  |none=>simp[sliceBounds,HT.sIx]
  |some i=>exact key i
 .cases hi with
  |none=>simp[sliceBounds,HT.sIx]
  |some i=>exact key i
def HW (its:vV_) (lo hi:Option Int):slicePick its.toArray lo hi none=((its.drop (HT.sIx its.length 0 lo)).take (HT.sIx its.length its.length hi - HT.sIx its.length 0 lo)).toArray:=by
 obtain⟨h1,h2,B⟩:=Bj lo hi its.toArray.size;unfold slicePick;rw[h1,h2,B];simp only[sliceRange_one,pick_run,Kl] <;> rfl
def DQ (K:vF_):V->Option Int->Option Int->Hp->VK->Prop:=fun x lo hi H Q=>∃a xs,x = .ref a/\SqL K H a xs/\∀p,H p=none->Q (.ref p) (e7 H p (.lst (S7 xs lo hi)))
def rC:SlR X (DQ X.K):=by
 intro pins s σ H x v vl vu lo hi sl Q I Y hs W Z h;obtain⟨a,xs,rfl,M,q⟩:=h;cases Y;obtain⟨its,r,J,U⟩:=I.list M;have B:=r.length;refine#["list",_,OD.lookup,J.isList.typeIs,?_];refine wpAny_getItem_list_slice J.isList hs W Z .none (by simp) ?_ (by rw[Kl] <;> omega);rw[HW,<-B];refine#[.ref s.heap.objs.size,_,I.laid (t':=s.toks) (o:=.lst (S7 xs lo hi)) (fun b ob q=>Kg _ q) (iU _) ?_,rfl,q _ (I.hok.fresh (iU _))];exact#[Kf (vG xs lo hi) U,_,0,(r.drop (HT.sIx xs.length 0 lo)).take (HT.sIx xs.length xs.length hi - HT.sIx xs.length 0 lo),Ky _ rfl]
def call_len_seq:CallR X (.builtin "len") (fun xs H Q=>∃p ys,xs=[.ref p]/\(SqL X.K H p ys\/SqT X.K H p ys)/\Q (.int ys.length) H):=by
 intro pins s σ H xs us Q I r h;obtain⟨p,ys,rfl,J,q⟩:=h;obtain⟨u,rfl,Y⟩:=W0 r;cases Y;have Z:=bW;rcases J with J | J
 .obtain⟨its,U,M,W⟩:=I.list J;have B:=U.length;exact Calls.call_len_list M.isList (by simp only[Kl] <;> omega) #[.int ys.length,H,I.tok _,#[s.toks+1,by rw[Kl,B]],q]
 .obtain⟨its,U,M,W⟩:=I.tuple J;have B:=U.length;exact len_tuple M (by simp only[Kl] <;> omega) #[.int ys.length,H,I.tok _,#[s.toks+1,by rw[Kl,B]],q]
def zr:CallR X (.builtin "len") (fun xs H Q=>∃z,xs=[.str z]/\z.length<=sizeLine/\Q (.int z.length) H):=by
 intro pins s σ H xs us Q I r h;obtain⟨z,rfl,J,q⟩:=h;obtain⟨u,rfl,t,rfl⟩:=W0 r;have B:=bW;exact len_str ∅ #[.int z.length,H,I.tok _,#[_,rfl],q]
def CallR.or {r B:List V->Hp->VK->Prop}(h:CallR X f r) (h':CallR X f B):CallR X f (fun xs H Q=>r xs H Q\/B xs H Q):=by
 intro pins s σ H xs us Q I J q;rcases q with q | q
 .exact h pins s σ H xs us Q I J q
 .exact h' pins s σ H xs us Q I J q
def nM:CallR X (.type "list") (fun xs H Q=>∃p ys,xs=[.ref p]/\(SqL X.K H p ys\/SqT X.K H p ys)/\∀l,H l=none->Q (.ref l) (e7 H l (.lst ys))):=by
 intro pins s σ H xs us Q I r h;obtain⟨p,ys,rfl,U,q⟩:=h;obtain⟨u,rfl,rx⟩:=W0 r;cases rx;have Y:∀(its:vV_),Vals ys its->ys.length<=sizeLine->∀(h':Heap) (J:Nat),(∀b o',s.heap.get? b=some o'->h'.get? b=some o') ->
   h'.get? s.heap.objs.size=some { cls:=.type "list",dict:=none,data:=.seq its.toArray J,slots:=#v[] }->EP X pins σ Q (.ref s.heap.objs.size) { s with heap:=h' }:=fun its B W h' J Z e=>
  #[.ref s.heap.objs.size,_,I.laid (t':=s.toks) Z (iU _) (show ObjOk X.prog X.w _ h' _ (.lst ys) from #[W,its,J,B,e]),rfl,q _ (I.hok.fresh (iU _))]
 rcases U with U | U
 .obtain⟨its,B,pl,W⟩:=I.list U;have M:=B.length;obtain⟨o,ho,hc,n,hd⟩:=pl.isList;exact call_list_seq p (.inl rfl) ho hc hd (fun h' J Z e=>Y its B W h' J Z e) (by simp only[Kl] <;> omega)
 .obtain⟨its,B,pl,W⟩:=I.tuple U;have M:=B.length;obtain⟨o,ho,hc,n,hd⟩:=pl;exact call_list_seq p (.inr rfl) ho hc hd (fun h' J Z e=>Y its B W h' J Z e) (by simp only[Kl] <;> omega)
def sL:CallR X (.type "tuple") (fun xs H Q=>∃p ys,xs=[.ref p]/\((SqL X.K H p ys/\∀l,H l=none->Q (.ref l) (e7 H l (.tup ys)))\/(SqT X.K H p ys/\Q (.ref p) H))):=by
 intro pins s σ H xs us Q I r h;obtain⟨p,ys,rfl,h⟩:=h;obtain⟨u,rfl,Z⟩:=W0 r;cases Z;rcases h with ⟨B,q⟩ | ⟨B,q⟩
 .obtain⟨its,M,J,Y⟩:=I.list B;have U:=M.length;refine call_tuple_list J.isList (fun h' kp=>?_) (by simp only[Kl] <;> omega);have W:Inv X pins σ H { s with heap:=h' }:=I.kept (t':=s.toks) kp;have I2:Inv X pins σ (e7 H h'.objs.size (.tup ys)) { s with heap:=h'.push { cls:=.type "tuple",data:=.seq its.toArray } }:=
   W.laid (t':=s.toks) (fun b o e=>Kg _ e) (iU _) (show ObjOk X.prog X.w _ _ _ (.tup ys) from #[Y,its,M,IsTup.new _ _])
  exact#[.ref h'.objs.size,_,I2,rfl,q _ (W.hok.fresh (iU _))]
 .obtain⟨its,M,J,Y⟩:=I.tuple B;exact call_tuple_same J #[.ref p,H,I,rfl,q]
def lL (K:vF_) (T:String) (x:V) (H:Hp):Prop:=match x with
 |.str _=>T = "str"
 |.int _=>T = "int"
 |.ref p=>(T = "list" /\ ∃xs,SqL K H p xs)\/(T = "tuple" /\ ∃o,K.lookup p=some o/\o.cls = .type "tuple" /\ o.dict=none) \/
   (T = "dict" /\ ((∃kvs,H p=some (.dK kvs))\/∃kvs,H p=some (.dT kvs)))\/(T = "set" /\ ∃S n,H p=some (.set S n))
 |_=>False
def tZ {x:V}{v:Value}(I:Inv X pins σ H s) (r:RelV x v) (B:lL X.K T x H) :
  s.TypeIs v T/\∀a,v = .ref a->∃ob,s.heap.get? a=some ob/\ob.dict=none:=by
 cases x with
 |str z=>
  obtain⟨t,rfl⟩:=r;cases (show T = "str" from B);exact#[typeIs_str s z t,fun _ e=>nomatch e]
 |int i=>
  obtain⟨t,rfl⟩:=r;cases (show T = "int" from B);exact#[typeIs_int s i t,fun _ e=>nomatch e]
 |ref p=>
  cases r;rcases B with ⟨rfl,xs,Y⟩ | ⟨rfl,o,hk,Z,U⟩ | ⟨rfl,hk⟩ | ⟨rfl,S,n,hk⟩
  .obtain⟨its,_,W,_⟩:=I.list Y;refine#[W.isList.typeIs,fun a e=>?_];cases e;obtain⟨o,n,e,c,U,_⟩:=W;exact#[o,e,U]
  .refine#[#[o,I.kIn p o hk,Z],fun a e=>?_];cases e;exact#[o,I.kIn _ o hk,U]
  .have z:∃o,s.heap.get? p=some o/\o.ExactDict:=by
    rcases hk with ⟨M,hk⟩ | ⟨M,hk⟩
    .obtain⟨_,_,_,_,o,_,_,e,ex,_⟩:=I.hok p _ hk;exact#[o,e,ex]
    .obtain⟨_,_,_,_,o,_,_,e,ex,_⟩:=I.hok p _ hk;exact#[o,e,ex]
   obtain⟨o,e,ex⟩:=z;refine#[#[o,e,ex.1],fun a J=>?_];cases J;exact#[o,e,ex.2.1]
  .obtain⟨o,_,_,_,e,ex,_⟩:=I.hok p _ hk;refine#[#[o,e,ex.1],fun a J=>?_];cases J;exact#[o,e,ex.2.1]
 |_=>exact False.elim B
def CK (K:vF_) (T:String) (r:V->List V->Hp->VK->Prop) (to:TE):TE:=fun σ H Q=>to σ H fun x H1=>lL K T x H1/\r x [] H1 Q
def GD (K:vF_) (T:String) (r:V->List V->Hp->VK->Prop) (to:TE) (t:TA):TE:=fun σ H Q=>to σ H fun x H1=>lL K T x H1/\t σ H1 fun xs H2=>r x xs H2 Q
variable {o:Expr}{to:TE}{t:TA}{name:Str}{apos cpos:Pos}{T id:String}{r:V->List V->Hp->VK->Prop}
def yJ (Z:PlainAttrs T) (M:Slot T name id) (U:typeOf (.builtin id)=pure (.type "method_descriptor")) (hm:nQ X id r) (ho:PE X o to)
  (B:attributeBase o name X.env (eval o X.env)=eval o X.env:=by rfl) (J:(apos.endLine == cpos.line)=true:=by rfl):PE X (.Call (.Attribute o name apos) [] [] cpos) (CK X.K T r to):=by
 intro pins s σ H Q I h;refine wpAny_Call_method0_late B J (j9 (ho pins s σ H _ I h) fun v s1 ⟨x,H1,Y,W,ty,q1⟩=>?_);obtain⟨h1,h2⟩:=tZ Y W ty;exact#[T,id,Z,M,U,h1,h2,Calls.callWith_builtin rfl (PySem.evalArgs_none (hm pins s1 σ H1 x [] v [] Q Y W .nil q1))]
def mT (pa:PlainAttrs T) (U:Slot T name id) (Y:typeOf (.builtin id)=pure (.type "method_descriptor")) (hm:nQ X id r) (ho:PE X o to) (ha:PA X (e::es) t)
  (J:attributeBase o name X.env (eval o X.env)=eval o X.env:=by rfl)
  (W:((backTo cpos (starEach (e::es) X.env)).all (fun x=>!x.1)&&(backToKw cpos (keywordEach [] X.env)).all (fun x=>x.1.isSome)
   && decide ((e::es).length+([]:List Keyword).length+(if ([]:List Keyword).isEmpty then 0 else 1)<30))=true:=by rfl)
  (M:(apos.endLine == cpos.line)=true:=by rfl) (hs:starEach (e::es) X.env=(false,eval e X.env)::starEach es X.env:=by rfl) (B:(backTo cpos (starEach es X.env)).any (·.1)=false:=by rfl) :
  PE X (.Call (.Attribute o name apos) (e::es) [] cpos) (GD X.K T r to t):=by
 intro pins s σ H Q I h;refine wpAny_Call_method_late J W M rfl (j9 (ho pins s σ H _ I h) fun v s1 ⟨x,H1,I1,Z,ty,q1⟩=>?_);obtain⟨h1,h2⟩:=tZ I1 Z ty;refine#[T,id,pa,U,Y,h1,h2,?_];have hA:=ha cpos pins s1 σ H1 _ I1 q1;rw[hs] at hA ⊢;refine Calls.callWith_builtin (by show (false||(backTo cpos (starEach es X.env)).any (·.1))=false;rw[B] <;> rfl) (Calls.evalArgs_plain ?_);exact j9 hA fun us s2 ⟨vs,H2,I2,r2,q2⟩=>hm pins s2 σ H2 x vs v us Q I2 Z r2 q2
end
def gK (X:Cx) (id:String) (r:V->List V->Hp->VK->Prop):Prop:=
 ∀(pins:vP_) (s:Shared) (σ:St) (H:Hp) (x:V) (xs:List V) (v:Value) (us:vV_) (Q:VK),Inv X pins σ H s->RelV x v->Vals xs us->r x xs H Q ->
  wpAny (model X.prog X.w) X.A (call (.builtin id) (v::us)) (EP X pins σ Q) X.xe s
def Vals.one:∀{x:V}{us:vV_},Vals [x] us->∃u,us=[u]/\RelV x u:=by
 intro x us h;cases h with
 |cons r t=>
  cases t;exact#[_,rfl,r]
def Vals.zero:∀{us:vV_},Vals [] us->us=[]
 |_,.nil=>rfl
theorem Vals.reverse (h:Vals xs us):Vals xs.reverse us.reverse:=by
 induction h with
 |nil=>exact .nil
 |cons r t B=>rw[OE,OE];exact Vals.append B (.cons r .nil)
theorem Vals.rep (h:Vals xs us):∀k:Nat,Vals (List.replicate k xs).flatten (List.replicate k us).flatten
 |0=>.nil
 |k+1=>by
  rw[Mj,Mj,MY,MY];exact Vals.append h (Vals.rep h k)
theorem ou (its:vV_):∀(k:Nat) (acc:vV_),
  List.foldl (fun x1 x2=>x1++x2) acc.toArray (List.replicate k its.toArray)=(acc++(List.replicate k its).flatten).toArray
 |0,acc=>by simp
 |k+1,acc=>by
  have e:acc.toArray++its.toArray=(acc++its).toArray:=by simp
  have B:(acc++its)++(List.replicate k its).flatten=acc++(List.replicate (k+1) its).flatten:=by
   rw[Mj,MY,Mv]
  rw[<-B,<-ou its k (acc++its),<-e,Mj,List.foldl_cons]
section
variable {b:Addr}{zs:List V}
def Inv.lset {its its':vV_}{n:Nat}{t':Nat}(I:Inv X pins σ H s) (B:H l=some (.lst xs))
  (e:s.heap.get? l=some { cls:=.type "list",data:=.seq its.toArray n }) (J:f its.toArray=its'.toArray) (M:Vals ys its') (hz:ys.length<=sizeLine) :
  Inv X pins σ (e7 H l (.lst ys)) { s with heap:=s.heap.update l (Obj.mapSeq f),toks:=t' }:=by
 have q:=PySem.IsL.update e f;rw[J] at q;refine I.write (x:=l) (e:=l) (by rw[B];exact trivial) (.inl rfl) (fun W u hb U=>(LN s.heap (Obj.mapSeq f) (Ki hb)).trans U) #[_,q] ?_;exact#[hz,its',_,M,q]
def Inv.lnew {t':Nat}(I:Inv X pins σ H s) (B:Vals ys its) (hz:ys.length<=sizeLine) :
  Inv X pins σ (e7 H s.heap.objs.size (.lst ys)) { s with heap:=s.heap.push { cls:=.type "list",data:=.seq its.toArray },toks:=t' }:=
 I.laid (fun _ _ q=>Kg _ q) (iU _) #[hz,its,0,B,Ky _ rfl]
theorem Inv.fresh (I:Inv X pins σ H s):H s.heap.objs.size=none:=I.hok.fresh (iU _)
def Inv.lstM (I:Inv X pins σ H s) (B:H l=some (.lst xs)):xs.length<=sizeLine/\∃(its:vV_) (n:Nat),Vals xs its/\xs.length=its.length/\s.heap.get? l=some { cls:=.type "list",data:=.seq its.toArray n }:=by
 obtain⟨z,its,n,r,e⟩:=I.hok l _ B;exact#[z,its,n,r,r.length,e]
def nS (h:n<=sizeLine):Builtin.List.listTooLong n=false:=by
 unfold Builtin.List.listTooLong;exact KC ∅
end
def HA:V->List V->Hp->VK->Prop:=fun x B H Q=>∃l xs y,x = .ref l/\B=[y]/\H l=some (.lst xs)/\xs.length<sizeLine/\Q .non (e7 H l (.lst (xs++[y])))
def nN:gK X "list.append" HA:=by
 intro pins s σ H x W v us Q I J M h;obtain⟨l,xs,y,rfl,rfl,B,Y,q⟩:=h;cases J;obtain⟨u,rfl,U⟩:=M.one;obtain⟨z,its,n,r,hl,e⟩:=I.lstM B;refine Mw F.slot_list_append #[_,e,rfl] F.entry_list_append (F.args_list_append_2 _ _) (PySem.list_append l its.toArray n u (by rw[Kl];omega)) #[e,?_];refine#[.non,_,I.lset (its':=its++[u]) B e (by simp) (r.append (.cons U .nil)) ?_,rfl,q];rw[Km,OF];omega
def Ge:V->List V->Hp->VK->Prop:=fun x B H Q=>∃l b xs zs,x = .ref l/\B=[.ref b]/\H l=some (.lst xs)/\H b=some (.lst zs)/\xs.length+zs.length<=sizeLine/\Q .non (e7 H l (.lst (xs++zs)))
def Dp:gK X "list.extend" Ge:=by
 intro pins s σ H x vs v us Q I rx rv h;obtain⟨l,b,xs,zs,rfl,rfl,U,Z,hz,q⟩:=h;cases rx;obtain⟨u,rfl,ru⟩:=rv.one;cases ru;obtain⟨z,its,n,r,hl,e⟩:=I.lstM U;obtain⟨z2,B,W,r2,Y,e2⟩:=I.lstM Z;have M:its.toArray.size+B.toArray.size<=sizeLine:=by rw[Kl,Kl];omega
 have J:¬ (!its.toArray.isEmpty&&Builtin.List.listTooLong (its.toArray.size+B.toArray.size))=true:=by
  rw[nS M,Bool.and_false];exact Kn
 refine Mw F.slot_list_extend #[_,e,rfl] F.entry_list_extend (F.args_list_extend_2 _ _)
  (AutoSeq1.list_extend_list_list_0 l its.toArray n b B.toArray W J (by rw[Kl];omega) ∅) #[e,e2,?_]
 refine#[.non,_,I.lset (its':=its++B) U e (by simp) (r.append r2) ?_,rfl,q];rw[Km];omega
def Gy:V->List V->Hp->VK->Prop:=fun x B H Q=>∃l xs,x = .ref l/\B=[]/\H l=some (.lst xs)/\Q .non (e7 H l (.lst []))
def Je:gK X "list.clear" Gy:=by
 intro pins s σ H x W v us Q I M U h;obtain⟨l,xs,rfl,rfl,J,q⟩:=h;cases M;have B:=U.zero;subst B;obtain⟨z,its,n,r,hl,e⟩:=I.lstM J;refine Mw F.slot_list_clear #[_,e,rfl] F.entry_list_clear (F.args_list_clear_1 _) (AutoSeq1.list_clear_list_0 l its.toArray n (by rw[Kl];omega)) #[e,?_];exact#[.non,_,I.lset (its':=[]) (ys:=[]) J e rfl .nil (Lr _),rfl,q]
def mO:R2:=fun x y H Q=>∃l b xs zs,x = .ref l/\y = .ref b/\H l=some (.lst xs)/\H b=some (.lst zs)/\xs.length+zs.length<=sizeLine/\∀p,H p=none->Q (.ref p) (e7 H p (.lst (xs++zs)))
def kj:OpR X (binaryOp .Add) mO:=by
 intro pins s σ H x y v u Q I Z ry h;obtain⟨l,b,xs,zs,rfl,rfl,J,W,hz,q⟩:=h;cases Z;cases ry;obtain⟨z,its,n,r,hl,e⟩:=I.lstM J;obtain⟨z2,B,n2,Y,U,e2⟩:=I.lstM W;refine PySem.P.add_list e e2 ?_ (by rw[Kl,Kl];omega);have M:its.toArray++B.toArray=(its++B).toArray:=by simp
 rw[M];exact#[.ref _,_,I.lnew (t':=s.toks) (r.append Y) (by rw[Km];omega),rfl,q _ I.fresh]
def rQ:R2:=fun x y H Q=>∃l k xs,x = .ref l/\y = .int k/\H l=some (.lst xs) /\ -(2 ^ 63)<=k/\k<2 ^ 63/\xs.length*k.toNat<=sizeLine /\
 ∀p,H p=none->Q (.ref p) (e7 H p (.lst (List.replicate k.toNat xs).flatten))
def Dz {α:Type}(xs:List α) (k:Nat):(List.replicate k xs).flatten.length=k*xs.length:=by
 induction k with
 |zero=>simp
 |succ k B=>rw[Mj,MY,Km,B,Nat.succ_mul,LO]
def uA:OpR X (binaryOp .Mult) rQ:=by
 intro pins s σ H x y v u Q I rx ry h;obtain⟨l,k,xs,rfl,rfl,hH,h1,h2,Z,q⟩:=h;cases rx;obtain⟨t,rfl⟩:=ry;obtain⟨z,its,n,r,hl,e⟩:=I.lstM hH;have J:its.toArray.size*k.toNat<=sizeLine:=by rw[Kl,<-hl];exact Z
 have M:¬ its.toArray.size*k.toNat>(2 ^ 63 - 1) / 8:=by
  have:(sizeLine:Nat)<=(2 ^ 63 - 1) / 8:=by decide
  omega
 have Y:¬ (!Builtin.List.listFitsIndex k)=true:=by
  rw[fitsIndex_both h1 h2];exact Kn
 have B:¬ Builtin.List.listTooLong (its.toArray.size*k.toNat)=true:=by
  rw[nS J];exact Kn
 have W:List.foldl (fun x1 x2=>x1++x2) #v[] (List.replicate (if its.toArray.isEmpty=true then 0 else k.toNat) its.toArray)=(List.replicate k.toNat its).flatten.toArray:=by
  have f0:∀m:Nat,List.foldl (fun x1 x2=>x1++x2) #v[] (List.replicate m its.toArray)=(List.replicate m its).flatten.toArray:=fun m=>by
   have:=ou its m [];rw[NG] at this;exact this
  rw[f0];cases its with
  |nil=>simp
  |cons a r'=>rw[fI (by simp)]
 refine wpAny_binaryOp_repeat_ref (T := "list") (U := "int") #[] #[_,e,rfl] (fun s'=>typeIs_int s' k t) noFill_list_mul F.fills_int_mul F.slot_int_rmul repeat_list F.slot_int_index.lookup
  (Mw F.slot_int_rmul (typeIs_int s k t) F.entry_int_rmul (F.args_int_rmul_2 _ _) (int___rmul___int_list k t l its.toArray n)
   #[e,rfl,#[_,e,rfl],Mw F.slot_list_mul #[_,e,rfl] F.entry_list_mul (F.args_list_mul_2 _ _) (AutoListH.list___mul___list_int_3 l its.toArray n k t Y M B) #[e,?_]])
 rw[W];exact#[.ref _,_,I.lnew (t':=s.toks) (r.rep k.toNat) (by rw[Dz,Nat.mul_comm];exact Z),rfl,q _ I.fresh]
def HC {w:World}{k:A6}(r:RelV (kV k) u):(P1 P w).is k u=true:=by
 cases k with
 |inl i=>obtain⟨t,e⟩:=(show ∃t,u=Value.int i t from r);subst e;exact AL P w i t
 |inr x=>obtain⟨t,e⟩:=(show ∃t,u=Value.str x t from r);subst e;exact GW P w x t
theorem tU {w:World}:∀{ks:List A6}{us:vV_},Vals (ks.map kV) us->ItemsAre (P1 P w) ks us
 |[],_,r=>by rw[Mx] at r;cases r;exact .nil
 |k::ks,_,r=>by
  rw[Ku] at r;cases r with
  |cons h t=>exact .cons (HC h) (tU t)
section
variable {y v:V}{r:Value}{o:Option V}
def Inv.big (I:Inv X pins σ H s):sysModules<s.heap.objs.size:=by
 have h:mainGlobals<s.heap.objs.size:=(I.mod.glob.keeps I.bk).lt;exact Nat.lt_trans #[] h
def ES {t':Nat}{J:HO}(I:Inv X pins σ H s) (M:dJ (H a)) (hs:Heap.SameBut a s.heap h') (U:∃q,h'.get? a=some q) (B:ObjOk X.prog X.w (e7 H a J) h' a J) :
  Inv X pins σ (e7 H a J) { s with heap:=h',toks:=t' }:=
 I.write (x:=a) (e:=a) M (.inl rfl) (fun b q hb z=>(hs.2 b hb).trans z) U B
end
def rP:List (TE × TE)->St->Hp->(List (V × V)->Hp->Prop)->Prop
 |[],_,H,Q=>Q [] H
 |(tk,tv)::r,σ,H,Q=>tk σ H fun x H1=>tv σ H1 fun y H2=>rP r σ H2 fun ps B=>Q ((x,y)::ps) B
abbrev VV:List (V × V)->List (Value × Value)->Prop:=Paired fun p q=>RelV p.1 q.1/\RelV p.2 q.2
def jK (X:Cx) (pos:Pos) (J:List (Option Expr)) (B:List Expr) (M:List (TE × TE)):Prop:=
 ∀(pins:vP_) (s:Shared) (σ:St) (H:Hp) (Q:List (V × V)->Hp->Prop),Inv X pins σ H s->rP M σ H Q ->
  wpAny (model X.prog X.w) X.A (evalPairs (pairTrees J B X.env pos)) (fun U s'=>∃ps H',Inv X pins σ H' s'/\VV ps U/\Q ps H') X.xe s
def II {pos:Pos}:jK X pos [] [] []:=fun pins s σ H Q I h=>pairTrees_nil_walk #[[],H,I,.nil,h]
def rO {pos:Pos}{k v:Expr}{M J:TE}(hk:PE X k M) (Z:PE X v J) (W:jK X pos ks vs trs) :
  jK X pos (some k::ks) (v::vs) ((M,J)::trs):=fun pins s σ H Q I h=>
 pairTrees_cons_walk (j9 (hk pins s σ H _ I h) fun u s1 ⟨x,H1,Y,rx,q1⟩=>j9 (Z pins s1 σ H1 _ Y q1) fun w2 s2 ⟨y,H2,I2,ry,q2⟩=>
  j9 (W pins s2 σ H2 _ I2 q2) fun ws s3 ⟨ps,U,I3,B,q3⟩=>#[(x,y)::ps,U,I3,.cons #[rx,ry] B,q3])
end L2
namespace Att
open PySem PySem.W PySem.Calls PyProof.Rows
def yU :∀(ns:List Int) (vs:vV_),WellAll P h vs (ns.map WData.int)->IntsAre vs ns:=by
 intro ns;induction ns with
 |nil=>
  intro vs w;rw[Mx] at w;cases w;exact .nil
 |cons n ns B=>
  intro vs w;rw[Ku] at w;cases w with
  |cons a b=>
   cases a;exact .cons _ _ (B _ b)
def IQ {l:OpenLaw}(hn:l.most=some n) {B:vV_}
  (J:l.row.toRowW.claim.pre args=true) (Y:WellAll P h B args) :
  ∃a vs ns,B=[Value.ref a]/\args=[WData.list (ns.map WData.int)]/\h.get? a=some { cls:=.type "list",data:=.seq vs.toArray }/\IntsAre vs ns/\ns.length<=n:=by
 have bG:WShape.hasAll [] args [.list .int]=true:=(pre_splitW J).1;have Z:l.pre.holds [] { args:=args }=true:=(pre_splitW J).2;obtain⟨d,r,rfl,h1,h2⟩:=hasAllW_cons bG;obtain rfl:=hasAllW_nil h2;obtain⟨xs,rfl,h3⟩:=hasW_list h1;obtain⟨ns,rfl⟩:=items_int h3;have M:ns.length<=n:=by
  unfold OpenLaw.pre at Z;have h4:(WTm.not (.lt (.lit (.int (n:Int))) (.len (.arg 0)))).holds [] { args:=[.list (ns.map .int)] }=true:=by
   have h4:=(holds_andW Z).1;rw[hn] at h4;exact h4
  have W:=condW_of h4 (w_not (w_lt w_lit (w_len_list (w_arg rfl))));rw[xo] at W;refine NH fun q=>?_
  have q':(n:Int)<((ns.length:Nat):Int):=by omega
  first
   | (rw[Kp q'] at W;exact absurd W #[])
   | (simp at W;omega)
 cases Y with
 |cons w1 w2=>
  cases w2;cases w1 with
  |list ho U=>exact#[_,_,ns,rfl,rfl,ho,yU ns _ U,M]
def FW (l:OpenLaw) (args:List WData):l.row.toRowW.claim.post args (.bool true) args=true:=
 postW_of (r:=l.row.toRowW) (X:=(true == true))
  (show WShape.has [] (.bool true) .bool=true by first | rfl | decide | simp[WShape.has,WShape.arms,WShape.armsAll])
  (show (WTm.eq .res (.lit (.bool true))).value [] { args:=args,res:=some (.bool true),after:=args }=some (.bool (true == true)) from w_eq_bool (w_res rfl) w_lit) rfl
def attach_call {l:OpenLaw}{n:Nat}{q:Program}{loose:List Str}{XP:(Str->Option Value)->Heap->Prop}{YP:World->Heap->Prop}{d:DefRec}
  (hn:l.most=some n) (Z:d.params.defaults=[])
  (call:∀(w:World) (s₀ s₁:Shared) (mg mb:vG_) (fa:Addr) (o:Obj) (pm cd doc:Value) (a:Addr) (vs:vV_) (ns:List Int),
   Ground q loose [] XP w s₀ mg mb s₁.heap->YP w s₁.heap ->
   s₁.heap.get? fa=some o->o.data = .func (docDef d.name d.params d.body d.scope pm cd doc)->s₁.heap.CodeRec cd d.name->mg d.name=some (.ref fa) ->
   s₁.heap.get? a=some { cls:=.type "list",data:=.seq vs.toArray }->IntsAre vs ns->ns.length<=n->s₁.gens = #v[] ->
   codeAny (model l.prog w) callerA (.call (.ref fa) #[[.ref a],[]]) (fun r s'=>r = .ok (.ret (.bool true))/\OldK s₁.heap s'.heap/\s'.os=s₁.os/\AllBare s'.gens) s₁) :
  WalkO q loose XP YP l.row.toRowW d [] (fun f vs=>PySem.call f vs):=by
 intro w s₀ s₁ mg mb G Y fa o pm cd doc dV kV ho hd hcd hD hmg hg args vals as M hlay hrd W hlo;obtain rfl:dV = .none:=Dflts.none hD Z;obtain rfl:kV = .none:=Dflts.noKw hD;obtain⟨a,vs,ns,rfl,rfl,J,B,U⟩:=IQ hn M W;refine enter_call (codeAny_mono (call w s₀ s₁ mg mb fa o pm cd doc a vs ns G Y ho (fd_plain hd) hcd hmg J B U hg) fun r s' hq=>?_);obtain⟨rfl,h2,h3,h4⟩:=hq;exact#[.inl #[.bool true,.bool true,[],rfl,fun _=>rfl,.bool true,FW l _,fun _=>#[List.Pairwise.nil,fun _ hm=>(nomatch hm)]],h2,h3,h4]
end Att
namespace L2
open PySem PySem.Spec PyProof.Rows
theorem vC:∀{vs:vV_}{ns:List Int},IntsAre vs ns->Vals (ns.map V.int) vs
 |_,_,.nil=>.nil
 |_,_,.cons n t h=>.cons #[t,rfl] (vC h)
def jI (H:Hp):Prop:=∀b,H b=none\/∃o xs,H b=some (.frz o (.lst xs))
def GC {w:World}{K:vF_}{mg mb:vG_}{CX:U2}{k:Nat}{fa a:Addr}{fd:FuncData}{x:Str}{sp:Sp}{B:Shared}{W:vV_}{ns:List Int}
  (KX:K.In B.heap) (hns:B.heap.Ns mainGlobals mg) (hb:B.heap.Ns builtinsNs mb) (hbb:∀x:Str,x ≠ "__name__" -> mb x=bootBuiltins x) (hlim:B.heap.NoLimit) (hg:B.gens = #v[])
  (ha:B.heap.get? a=some { cls:=.type "list",data:=.seq W.toArray }) (hi:IntsAre W ns) (hl:ns.length<=sizeLine) (hr:Room k callerA)
  (F:∀base:Heap,K.In base->base.Ns mainGlobals mg->FnOk P w K mg base CX k fa fd [x] sp) (Y:∀(s:Shared) (u:Value),BindsTo s fd #[[u],[]] [(x,u)])
  (hsp:∀H:Hp,jI H->SqL K H a (ns.map V.int)->sp [.ref a] H (fun v _=>v = .bl true) fun _ _ _=>False)
  (hCX:∀H e s',CX [] H B (fun _ _ _=>False) e s'->False) :
  codeAny (model P w) callerA (.call (.ref fa) #[[.ref a],[]]) (fun r s'=>r = .ok (.ret (.bool true))/\OldK B.heap s'.heap/\s'.os=B.os/\AllBare s'.gens) B:=by
 have rv:=vC hi;have Z:=hi.length;have U:∀H:Hp,jI H->SqL K H a (ns.map V.int)->HOk P w H B.heap->(∀b,H b≠none->b=a)->(H a≠none->K.lookup a=none) ->
   codeAny (model P w) callerA (.call (.ref fa) #[[.ref a],[]]) (fun r s'=>r = .ok (.ret (.bool true))/\OldK B.heap s'.heap/\s'.os=B.os/\AllBare s'.gens) B:=by
  intro H hO hS hok hA hK;have J:∀{b:Addr}{o:Obj},B.heap.get? b=some o->H b=none->(Y3 B.heap H).get? b=some o:=fun e n=>IL e n
  have noA:∀{b:Addr}{o:Obj}{es:Array DictEntry}{ep:Nat},B.heap.get? b=some o->o.data = .dict es ep->H b=none:=fun {b o es ep} e d=>by
   cases q:H b with
   |none=>rfl
   |some u=>
    have e':b=a:=hA b (by rw[q];simp);subst e';rw[ha] at e;cases e;have d':Data.seq W.toArray _=Data.dict es ep:=d;cases d'
  have M:∀{b:Addr}{m:vG_},B.heap.Ns b m->(Y3 B.heap H).Ns b m:=fun {b m} ⟨o,es,ep,e,d,r⟩=>#[o,es,ep,J e (noA e d),d,r]
  have hKb:K.In (Y3 B.heap H):=fun b o e=>J (KX b o e) (by
   cases q:H b with
   |none=>rfl
   |some u=>
    have e':b=a:=hA b (by rw[q];simp);subst e';rw[hK (by rw[q];simp)] at e;cases e)
  have hM:Mod K mg (Y3 B.heap H):=#[hKb,M hns,#[mb,M hb,hbb],let ⟨mc,h1,h2⟩:=hlim;#[mc,M h1,h2]]
  have e0:Env0 P w K mg (Y3 B.heap H) callerA [] B H:=#[rfl,hM,fun b o e=>Hk e,NI (HR _ _),trivial,fun b hb=>absurd (show b∈([]:vL_) from hb) (by simp),hok,.of_eq hg]
  refine codeAny_mono ((F _ hKb (M hns)).run callerA [] B H #[[.ref a],[]] [.ref a] [.ref a] _ _ hr e0 (Y B (.ref a)) (.cons rfl .nil) (hsp H hO hS)) fun r s' h=>?_
  cases r with
  |error e=>exact(hCX H e s' h).elim
  |ok fl=>
   cases fl with
   |next=>exact False.elim h
   |brk=>exact False.elim h
   |cont=>exact False.elim h
   |ret u=>
    obtain⟨v,H',os,bare,un,hok',r',q⟩:=h;have q':v = .bl true:=q;subst q';obtain rfl:u=Value.bool true:=r';refine#[rfl,OldK.of_keep fun b o e=>?_,os,bare];cases q:H b with
    |none=>exact un.keep b o e q (by intro z;exact absurd (show b∈([]:vL_) from z) (by simp)) (by simp)
    |some u=>
     rcases hO b with z | ⟨ob,xs,z⟩
     .rw[q] at z;cases z
     .have z2:=un.frzs b ob _ z;obtain⟨e1,_⟩:=hok b _ z;obtain⟨e2,_⟩:=hok' b _ z2;rw[e] at e1;cases e1;exact e2
 cases hk:K.lookup a with
 |some o=>
  have e:=KX a o hk;rw[ha] at e;cases e;refine U (fun _=>none) (fun _=>.inl rfl) (.inr #[_,W.toArray,_,hk,rfl,rfl,rfl,by rw[Kl,Z];exact hl,by simpa using rv]) (fun b u z=>by have z':(none:Option HO)=some u:=z;cases z') (fun b z=>absurd rfl z) fun z=>absurd rfl z
 |none=>
  refine U (fun b=>if b=a then some (.frz { cls:=.type "list",data:=.seq W.toArray } (.lst (ns.map V.int))) else none) (fun b=>?_) (.inl (.inr #[{ cls:=.type "list",data:=.seq W.toArray },gV rfl])) (fun b u z=>?_) (fun b z=>?_) fun _=>hk
  .by_cases hb:b=a
   .exact .inr #[_,_,gV hb]
   .exact .inl (fI hb)
  .by_cases hb:b=a
   .have z':=(gV hb).symm.trans z;cases z';subst hb;exact#[ha,by rw[xo];exact hl,W,_,rv,ha]
   .have z':=(fI hb).symm.trans z;cases z'
  .by_cases hb:b=a
   .exact hb
   .exact absurd (fI hb) z
def walk_of {l:PySem.W.OpenLaw}{d:DefRec}{K:Params->PySem.W.Frag}{CX:World->U2}{sp:World->Sp}
  (hn:l.most=some n) (hn2:n<=sizeLine) (U:d.params.defaults=[]) (hr:Room k callerA)
  (hY:∀(w:World) (h:Heap),YP w h->(K w.params).In h)
  (F:∀(w:World) (mg:vG_) (fa:Addr) (h:Heap),(K w.params).In h->h.Ns mainGlobals mg->mg d.name=some (.ref fa) ->
   ∃fd:FuncData,(∀(s:Shared) (u:Value),BindsTo s fd #[[u],[]] [(x,u)]) /\
    ∀base:Heap,(K w.params).In base->base.Ns mainGlobals mg->FnOk l.prog w (K w.params) mg base (CX w) k fa fd [x] (sp w))
  (Z:∀(w:World) (H:Hp) (a:Addr) (ns:List Int),ns.length<=n->jI H->SqL (K w.params) H a (ns.map V.int)->sp w [.ref a] H (fun v _=>v = .bl true) fun _ _ _=>False)
  (hCX:∀(w:World) (H:Hp) (s:Shared) (e:Value) (s':Shared),CX w [] H s (fun _ _ _=>False) e s'->False) :
  PySem.W.WalkO q loose XP YP l.row.toRowW d [] (fun f vs=>PySem.call f vs):=by
 refine Att.attach_call hn U fun w s₀ s₁ mg mb fa o pm cd doc a vs ns G Y ho hd hcd hmg M J B hg=>?_
 have KX:=hY w _ Y;obtain⟨fd,hb,hF⟩:=F w mg fa _ KX G.T.g hmg;exact GC KX G.T.g G.T.b G.T.builtins G.T.nolimit hg M J (Kf B hn2) hr hF hb (fun H hO hS=>Z w H a ns B hO hS) fun H e s'=>hCX w H s₁ e s'
def Z2 (s:Stmt):Arguments:=match s with
 |.FunctionDef _ a _ _ _ _ _ _ _ _=>a
 |_=>{ posonlyargs:=[],args:=[],vararg:=none,kwonlyargs:=[],kw_defaults:=[],kwarg:=none,defaults:=[] }
def Q0 (s:Stmt):List Stmt:=match s with
 |.FunctionDef _ _ b _ _ _ _ _ _ _=>b
 |_=>[]
def D3 (s:Stmt):Scope:=match s with
 |.FunctionDef _ _ _ _ _ _ sc _ _ _=>sc
 |_=>{ kind:=.function,names:=[],isGenerator:=false,isCoroutine:=false }
abbrev V0:U2:=fun _ _ _ _ _ _=>False
abbrev E0:XK:=fun _ _ _=>False
def kS :nq V0 X E0:=fun _ _ _ _ _ _ _ h=>h.elim
structure Fun (K:vF_) (x qual:Str) (st:Stmt) (f:Addr) (fd:FuncData):Prop where
 ex:∃(oc:Value) (od:vA_) (kV doc pm:Value) (an:vA_) (cdv ct:Value) (osl:vS_),
  fd=PySem.W.fnOf x qual (Z2 st) (Q0 st) (D3 st) .none kV doc pm an cdv ct/\K.lookup f=some #[oc,od,.func fd,osl]/\PySem.W.codeIn K cdv qual=true
 kp:PySem.W.keepIn K (.ref f)=true
section
variable {P:Program}{w:World}{K:vF_}
def Fun.ok {x qual:Str}{st:Stmt}{fd:FuncData}{N ps:List Str}{k:Nat}{sp:Sp}(F:Fun K x qual st f fd) (S:FnScope N ps (D3 st)) (M:∀vs H Q E,sp vs H Q E->vs.length=ps.length)
  (B:∀(cdv:Value) (A:Around) (outer:List Env) (s:Shared) (H:Hp) (vs:List V) (Q:VK) (E:XK),Room k (A.deeper (envOfC qual (D3 st) s.heap.objs.size f cdv))->sp vs H Q E ->
   ∃t,PSs (X6 V0 P w K mg base N qual (D3 st) f cdv A outer s H E).nox (Q0 st) t/\t { nx:=fun _ H'=>Q .non H',rt:=Q } (start N vs) H):FnOk P w K mg base V0 (k+1) f fd ps sp:=by
 obtain⟨oc,od,kV,Z,pm,an,cdv,ct,osl,rfl,Y,U⟩:=F.ex;refine yM Y U S M fun A outer s H vs Q E W J=>?_
 obtain⟨t,h,q⟩:=B cdv A outer s H vs Q E W J;exact#[t,h.nox,q]
def Fun.binds {st:Stmt}{ps:List Str}(F:Fun K x qual st f fd)
  (h:∀(kV doc pm:Value) (an:vA_) (cdv ct:Value) (us:vV_),us.length=ps.length->bindArgs (PySem.W.fnOf x qual (Z2 st) (Q0 st) (D3 st) .none kV doc pm an cdv ct) #[us,[]]=pure (ps.zip us)):Binds K fd ps []:=by
 obtain⟨M,U,kV,doc,pm,an,cdv,ct,osl,rfl,J,B⟩:=F.ex;exact .all (h kV doc pm an cdv ct)
def yP {st:Stmt}{od U:vA_}{M J Z B Y:Value}(l:K.lookup f=some #[oc,od,.func (PySem.W.fnOf x qual (Z2 st) (Q0 st) (D3 st) .none M J Z U B Y),osl])
  (c:PySem.W.codeIn K B qual=true) (k:PySem.W.keepIn K (.ref f)=true):Fun K x qual st f (PySem.W.fnOf x qual (Z2 st) (Q0 st) (D3 st) .none M J Z U B Y):=#[#[oc,od,M,J,Z,U,B,Y,osl,rfl,l,c],k]
end
def pv (i:Nat) {x:Str}{pos:Pos}(M:X.N[i]? = some x:=by rfl) (U:nB X.env.scope x:=by first | exact Or.inl rfl | exact Or.inr (Or.inl rfl) | exact Or.inr (Or.inr rfl)) (J:(x == ("__debug__" : Str))=false:=by decide)
  (B:(x == ("__classdict__" : Str))=false:=by decide):PE X (.Name x pos) (J8 i):=Aw M U J B
def DP {A B:Prop}(h:B):if false=true then A else B:=by
 rw[fI Kn];exact h
def GH {A B:Prop}(h:A):if true=true then A else B:=by
 rw[gV rfl];exact h
def p7 (X:Cx) (N':List Str) (scope:Scope) (cl:List (Str × Addr)) (C:Addr) (B:Shared) (H0:Hp) (ex:vL_):Cx:=
 { X with N:=N',env:=compEnvC scope cl C X.env,s₀:=B,H₀:=H0,outer:=X.stack,stack:=X.stack,ex:=ex,fn:=fun _=>false,pn:=[],xe:=fun _ _=>False }
def bV (X:Cx) (ifs:List Expr) (t:TT):Prop:=
 ∀(pins:vP_) (s:Shared) (σ:St) (H:Hp) (Q:Bool->Hp->Prop),Inv X pins σ H s->t σ H Q ->
  wpAny (model X.prog X.w) X.A (forIn ifs true fun c r=>if r=true then do let ok <-isTrue c X.env (eval c X.env);pure (ForInStep.yield ok) else pure (ForInStep.yield r)) (TP X pins σ Q) X.xe s
def Cj:TT:=fun _ H Q=>Q true H
def zh :bV X [] Cj:=fun pins s σ H Q I h=>wpAny_tests_nil #[H,I,h]
def zM {t:TT}(h:PT X c t):bV X [c] t:=fun pins s σ H Q I q=>wpAny_tests_one (h pins s σ H Q I q)
def F1 (n:Nat) (idx:List Nat) (σ:St):St:=List.replicate n none++idx.map fun i=>(σ[i]?).join
def cU (n:Nat) (idx:List Nat) (wi:TI) (g:TG) (tc:TT) (te:TE):TE:=fun σ H Q=>wi σ H fun J H1=>∀D,H1 D=none ->
 ∃W:Nat->Nat->Hp->Prop,(∃m,W 0 m (e7 H1 D (.lst [])))/\∀i m H,W i m H ->
  (J.stop i H/\Q (.ref D) H)\/(J.go i H/\∀x H',J.yld i H x H'->g x (F1 n idx σ) H' fun σ2 H2=>(σ2.length=(F1 n idx σ).length/\∀(j:Nat) (v:V),(F1 n idx σ)[j]? = some (some v)->σ2[j]? = some (some v))/\tc σ2 H2 fun b B=>
   if b=true then te σ2 B fun v M=>∃ys,M D=some (.lst ys)/\ys.length<sizeLine/\∃m',m'<m/\W (i+1) m' (e7 M D (.lst (ys++[v]))) else ∃m',m'<m/\W (i+1) m' B)
structure CompOk (X:Cx) (scope:Scope) (cl:List (Str × Addr)) (N':List Str) (n:Nat) (idx:List Nat):Prop where
 clos:closureFor scope X.env=pure cl
 sub:∀x c,cl.lookup x=some c->X.env.cells.lookup x=some c
 cell:∀y∈scope.names,y.2 ≠ .cell
 kind:scope.kind = .function
 names:∀y∈scope.names,y.2 = .local->scope.names.lookup y.1=some .local
 has:∀x,((relabel scope X.env).names.lookup x=some .cell\/(relabel scope X.env).names.lookup x=some .free)->∃c,cl.lookup x=some c
 len:N'.length=n+idx.length
 cap:∀(j i:Nat) (y:Str),idx[j]? = some i->N'[n+j]? = some y->X.N[i]? = some y/\(X.env.scope.names.lookup y=some .cell\/X.env.scope.names.lookup y=some .free)/\((relabel scope X.env).names.lookup y=some .cell\/(relabel scope X.env).names.lookup y=some .free)
section
variable {pos:Pos}{wi:TI}{g:TG}
def GG (σ:St):(F1 n idx σ).length=n+idx.length:=by simp[F1]
def Ic {v:V}(h:(F1 n idx σ)[j]? = some (some v)):∃k i,j=n+k/\idx[k]? = some i/\σ[i]? = some (some v):=by
 unfold F1 at h;by_cases B:j<n
 .rw[MW (by simpa using B)] at h;simp[B] at h
 .rw[Mt (by simpa using NH B)] at h;simp only[Pu,KO] at h;refine#[j - n,?_];cases e:idx[j - n]? with
  |none=>rw[e] at h;simp at h
  |some i=>
   rw[e] at h;simp only[OG,KP] at h;exact#[i,by omega,rfl,by simpa using Option.join_eq_some_iff.mp h]
def HY (k:CompOk X scope cl N' n idx) {pins:vP_}{s2:Shared}{fp:vL_}{h4:Heap}{t4:Nat}{m:vG_}(I:Inv X pins σ H2 s2) (f:∀b∈fp,N3 X pins H2 b) (fo:∀b∈fp,b<s2.heap.objs.size)
  (hC:s2.heap.objs.size+1<=C) (ns:h4.Ns C m) (J:∀b o,s2.heap.get? b=some o->h4.get? b=some o) (hD:h4.get? s2.heap.objs.size=some { cls:=.type "list",data:=.seq ([]:vV_).toArray }) :
  Inv (p7 X N' scope cl C s2 H2 fp) [] (F1 n idx σ) (e7 H2 s2.heap.objs.size (.lst [])) { s2 with heap:=h4,toks:=t4 }:=by
 have fresh:H2 s2.heap.objs.size=none:=I.hok.fresh (iU _);have fC:H2 C=none:=I.hok.fresh ∅;have B:∀x c,(p7 X N' scope cl C s2 H2 fp).env.cells.lookup x=some c->X.env.cells.lookup x=some c:=fun x c e=>k.sub x c e
 have U:∀x c,X.env.cells.lookup x=some c->c<s2.heap.objs.size:=fun x c e=>by
  obtain⟨v,q⟩:=I.cell x c e;exact q.lt
 have ok:(p7 X N' scope cl C s2 H2 fp).Ok:={
  mod:=I.ok.mod
  kind:=k.kind
  glob:=I.ok.glob
  blt:=I.ok.blt
  above:=by show s2.heap.objs.size<=C;omega
  inj:=fun x y c e1 Y=>I.ok.inj x y c (B x c e1) (B y c Y)
  has:=fun x h=>k.has x h
  cab:=fun x c h _=>by cases h
  hd:=I.ok.hd
  frames:=I.ok.frames
  stk:=.inl rfl
  exf:=fun b hb=>#[Kr (Ks (fo b hb) (by show s2.heap.objs.size<=C;omega)),fun x c e z=>(f b hb).2.2.2.2.1 x c (B x c e) z]
  bs:=fun b o e=>I.bs b o e
  bsz:=Kf I.ok.bsz I.sz
  noex:=fun b o e hb=>by
   rcases(f b hb).2.2.2.1 with z | z
   .exact I.ok.noex b o e z
   .exact absurd (Ks (xu e) (Kf I.ok.bsz z)) (LK _)
  exfs:=fun b hb z=>by
   rcases tx.mp (I.stkSub b z) with y | y
   .exact(f b hb).2.1 y
   .exact(f b hb).2.2.1 y
  funs:=I.stack
  frf:=I.stkFree }
 refine#[ok,rfl,I.bare,Un.laid J (iU _) fresh,#[m,ns,fun j y v e1 Y e3=>?_],fun x c e=>?_,?_,fun x c e=>?_,fun p hp=>(by cases hp),I.hok.laid J (iU _) #[Lr _,[],_,.nil,hD],?_]
 .obtain⟨kk,i,rfl,hk,hv⟩:=Ic Y;obtain⟨hN,ok,M⟩:=k.cap kk i y hk e1;obtain⟨c,hc⟩:=k.has y M;obtain⟨m0,_,hl⟩:=I.loc;have W:=k.sub y c hc;obtain⟨u,r,l⟩:=hl i y v hN hv (by rcases ok with z | z;exact .inr (.inl z);exact .inr (.inr z));refine#[u,r,.inr #[M,c,hc,?_]];rcases l with ⟨z,_⟩ | ⟨_,c',e',q⟩
  .have z':X.env.scope.names.lookup y=some .local:=z;rcases ok with w | w <;> · rw[w] at z';cases z'
  .rw[W] at e';cases e';obtain⟨o,Z,hd⟩:=q;exact#[o,J _ o Z,hd]
 .obtain⟨v,q⟩:=I.cell x c (B x c e);obtain⟨o,Z,hd⟩:=q;exact#[v,o,J c o Z,hd]
 .show e7 H2 s2.heap.objs.size (.lst []) C=none;rw[k9 (Lj hC)];exact fC
 .have:=U x c (B x c e);rw[k9 (Kr this)];exact I.freeC x c (B x c e)
 .rw[GG,<-k.len];rfl
def yf {w:World}{R:Result->Shared->Prop}{pos:Pos}{it acc:Value}{B:Env}(I:Nat->Shared->Prop)
  (J:∀n s,I n s->wpAny (model prog w) A (pyNext it) (fun r s1=>match r with
   |none=>R (.ok .next) s1
   |some v=>wpAny (model prog w) A (letOwnedTupleGo target it v) (fun _ s1'=>wpAny (model prog w) A (assign target B v) (fun _ s2=>
     wpAny (model prog w) A (forIn ifs true fun c r=>if r=true then do let ok <-isTrue c B (eval c B);pure (ForInStep.yield ok) else pure (ForInStep.yield r)) (fun ok s3=>
      if ok=true then wpAny (model prog w) A (eval elt B) (fun x s4=>
       wpAny (model prog w) A (call (.builtin "list.append") [acc,x]) (fun _ s5=>∃m,m<n/\I m s5) (notedBy (model prog w) A B fun e s'=>R (.error e) s') s4) (notedBy (model prog w) A B fun e s'=>R (.error e) s') s3
      else ∃m,m<n/\I m s3) (notedBy (model prog w) A B fun e s'=>R (.error e) s') s2) (notedBy (model prog w) A B fun e s'=>R (.error e) s') s1') (notedBy (model prog w) A B fun e s'=>R (.error e) s') s1) (notedBy (model prog w) A B fun e s'=>R (.error e) s') s)
  (n:Nat) (h:I n s) :
  codeAny (model prog w) A (.compLoop (.ListComp elt [#[target,iter,ifs,0]] scope pos) 0 it acc B) R s:=by
 refine codeAny_loop rfl I (fun n s Y=>?_) n h;show wpAny _ A ((compTurn (.ListComp elt [#[target,iter,ifs,0]] scope pos) 0 it acc B).onRaise (fun x=>do noteFrame x B;theTreesLotGoes x)) _ _ s;refine wpAny_noted ?_;rw[compTurn_list];refine fx (NC (fx (KW (J n s Y) (fun r s₁ U=>?_) fun _ _ h'=>h')));cases r with
 |none=>exact iO U
 |some v=>
  refine fx (KW U (fun _ s1' M=>?_) fun _ _ h'=>h');refine fx (KW M (fun _ s₂ h₂=>fx (KW h₂ (fun ok s₃ W=>?_) fun _ _ h'=>h')) fun _ _ h'=>h');cases ok with
  |false=>exact iO #[rfl,W]
  |true=>
   exact fx (fx (KW W (fun x s₄ h₄=>fx (KW h₄ (fun _ s₅ Z=>iO (iO #[rfl,Z])) fun _ _ h'=>h')) fun _ _ h'=>h'))
end
section
variable {pos:Pos}{wi:TI}{g:TG}
def xX {use:Option (Value->Sem Unit)}{Q':vQ_}(hc:X.calm=true) (k:CompOk X scope cl N' n idx) (hi:PI X tg iter wi)
  (hg:∀C s0 H0 ex,PG (p7 X N' scope cl C s0 H0 ex) tg g) (ht:∀C s0 H0 ex,bV (p7 X N' scope cl C s0 H0 ex) ifs tc) (he:∀C s0 H0 ex,PE (p7 X N' scope cl C s0 H0 ex) elt te)
  (hs:∀x,foldedSetIterable iter X.env x=pure x) {Q:VK}(I0:Inv X pins σ H s) (h:cU n idx wi g tc te σ H Q)
  (last:∀(C D:Addr) (s':Shared) (H':Hp) (m:vG_),Inv X pins σ H' s'->N3 X pins H' C->s'.heap.Ns C m->Q (.ref D) H'->compPost (model X.prog X.w) X.A X.xe use Q' (.ref D) C (.ok .next) s') :
  wpAny (model X.prog X.w) X.A (comprehension (.ListComp elt [#[tg,iter,ifs,0]] scope pos) scope X.env pos2 (newList []) false (eval iter X.env) use) Q' X.xe s:=by
 refine wpAny_comprehension_free (use:=use) rfl hs k.clos k.kind k.names (j9 (hi pins s σ H _ I0 h) fun v s1 h1=>j9 h1 fun itv s2 h2=>?_);obtain⟨it,fp,tn,J,H2,e,I2,T,st2,f2,hW⟩:=h2;subst e;have fo2:∀b∈fp,b<s2.heap.objs.size:=fun b hb=>by
  obtain⟨o,e,_⟩:=T.obj _ _ st2 b hb;exact xu e
 obtain⟨W,⟨m0,w0⟩,turn⟩:=hW s2.heap.objs.size (I2.hok.fresh (iU _));refine LA (wpAny_newFunctionEnv k.cell (by intro y hy;simp at hy) (fun h4 hns4 Z=>?_) k.kind)
 dsimp only at hns4 Z ⊢
 generalize hH3:s2.heap.push { cls:=.type "list",dict:=none,data:=.seq ([]:vV_).toArray }=h3 at hns4 Z ⊢;have U:h3.objs.size=s2.heap.objs.size+1:=by rw[<-hH3,My]
 have k34:∀b o,b≠h3.objs.size->h3.get? b=some o->h4.get? b=some o:=fun b o nb e=>Z.extBut b o nb (Kg _ e)
 have keep:∀b o,s2.heap.get? b=some o->h4.get? b=some o:=fun b o e=>k34 b o (Kr (by rw[U];exact OH (xu e))) (by rw[<-hH3];exact Kg _ e)
 have hD:h4.get? s2.heap.objs.size=some { cls:=.type "list",data:=.seq ([]:vV_).toArray }:=k34 _ _ (Kr (by rw[U];exact OI _)) (by rw[<-hH3];exact Ky _ rfl);have I4:=HY k I2 f2 fo2 (NI U.symm) hns4 keep hD (t4:=s2.toks+([]:List (Str × Value)).length);have M:∀{H':Hp},(∀b∈fp,H' b=none)->∀b∈fp,N3 (p7 X N' scope cl h3.objs.size s2 H2 fp) [] H' b:=fun hn b hb=>
  #[hn b hb,Kr (by rw[U];exact OH (fo2 b hb)),fun z=>(tx.mp (I2.stkSub b z)).elim (f2 b hb).2.1 (f2 b hb).2.2.1,.inl hb,fun x c e=>(f2 b hb).2.2.2.2.1 x c (k.sub x c e),fun p hp=>(by cases hp)]
 have fr4:∀b∈fp,e7 H2 s2.heap.objs.size (.lst []) b=none:=fun b hb=>by rw[k9 (Kr (fo2 b hb))];exact(f2 b hb).1
 have fin:∀(s':Shared) (H':Hp),Inv (p7 X N' scope cl h3.objs.size s2 H2 fp) [] (F1 n idx σ) H' s'->Q (.ref s2.heap.objs.size) H' ->
   compPost (model X.prog X.w) X.A X.xe use Q' (.ref s2.heap.objs.size) h3.objs.size (.ok .next) s':=fun s' H' I' q=>by
  obtain⟨m',hn',_⟩:=I'.loc;have B:=I'.base;refine last _ _ s' H' m' ?_ (I2.fpOk (by rw[U];exact Nat.le_succ _) I'.free) hn' q;refine I2.call' (s':=s') (ch:=fp) (show s'.os=s2.os from I'.os) #[fun b o e nn hb hx=>B.keep b o e nn hb hx,fun b o e nn hb hx=>B.slot b o e nn hb hx,B.free,fun b o e hx=>B.there b o e hx,B.tups,B.frzs,B.tbls] I'.hok I'.bare fun b hb=>?_
  obtain⟨p1,p2,p3,p4,p5,p6⟩:=f2 b hb;exact#[p4,p2,p5,p6]
 have loop:∀s4:Shared,s4={ s2 with heap:=h4,toks:=s2.toks+([]:List (Str × Value)).length } ->
   codeAny (model X.prog X.w) X.A (.compLoop (.ListComp elt [#[tg,iter,ifs,0]] scope pos) 0 (.ref it) (.ref s2.heap.objs.size) (compEnvC scope cl h3.objs.size X.env)) (compPost (model X.prog X.w) X.A X.xe use Q' (.ref s2.heap.objs.size) h3.objs.size) s4:=by
  rintro s4 rfl;refine yf (fun m s'=>∃i H',Inv (p7 X N' scope cl h3.objs.size s2 H2 fp) [] (F1 n idx σ) H' s'/\tn i s'.heap/\(∀b∈fp,H' b=none)/\W i m H') ?_ m0 #[0,_,I4,T.keep _ _ _ st2 (fun b _ o e=>keep b o e),fr4,w0];rintro m s3 ⟨i,H3,I3,st3,fr3,w3⟩;rcases turn i m H3 w3 with ⟨stop,q⟩ | ⟨go,step⟩
  .refine KW (T.done (p7 X N' scope cl h3.objs.size s2 H2 fp) rfl rfl rfl hc i [] s3 _ H3 (fun _ _=>False) I3 (M fr3) st3 stop) (fun r s5 ⟨hr,I5⟩=>?_) fun _ _ z=>z.elim
   subst hr;exact fin s5 H3 I5 q
  .refine KW (T.item (p7 X N' scope cl h3.objs.size s2 H2 fp) rfl rfl rfl hc i [] s3 _ H3 (fun _ _=>False) I3 (M fr3) st3 go) (fun r s5 ⟨u,hr,h5⟩=>?_) fun _ _ z=>z.elim
   subst hr;refine KW h5 (fun _ s6 ⟨x,H6,I6,r6,y6,st6,fr6⟩=>?_) fun _ _ z=>z.elim
   have I6':=I6.pinned (M fr6) (T.obj _ _ st6);have Y:∀{σ7:St}{H7:Hp}{s7:Shared},Inv (p7 X N' scope cl h3.objs.size s2 H2 fp) ([]++dI fp s6.heap) σ7 H7 s7->σ7.length=(F1 n idx σ).length->(∀(j:Nat) v,(F1 n idx σ)[j]? = some (some v)->σ7[j]? = some (some v))->(∃m',m'<m/\W (i+1) m' H7) ->
     ∃m',m'<m/\∃i H',Inv (p7 X N' scope cl h3.objs.size s2 H2 fp) [] (F1 n idx σ) H' s7/\tn i s7.heap/\(∀b∈fp,H' b=none)/\W i m' H':=fun {σ7 H7 s7} I7 hl hw ⟨m',hm,w7⟩=>by
    refine#[m',hm,i+1,H7,(I7.unpinned).weak hl.symm hw,T.keep _ _ _ st6 fun b hb o e=>(I7.pin (b,o) (Lq _ (Lq _ (fk hb e)))).1,fun b hb=>?_,w7];obtain⟨o,e,d⟩:=T.obj _ _ st6 b hb;exact(I7.pin (b,o) (Lq _ (Lq _ (fk hb e)))).2.1
   refine KW (hg _ _ _ _ _ s6 _ H6 x u _ I6' r6 (step x H6 y6)) (fun _ s7 ⟨σ7,H7,I7,⟨hl,hw⟩,q7⟩=>?_) fun _ _ z=>z.elim
   refine KW (ht _ _ _ _ _ s7 σ7 H7 _ I7 q7) (fun ok s8 ⟨H8,I8,q8⟩=>?_) fun _ _ z=>z.elim
   cases ok with
   |false=>
    rw[fI Kn] at q8 ⊢;exact Y I8 hl hw q8
   |true=>
    rw[gV rfl] at q8 ⊢;refine KW (he _ _ _ _ _ s8 σ7 H8 _ I8 q8) (fun v9 s9 ⟨x9,H9,I9,r9,ys,e9,l9,q9⟩=>?_) fun _ _ z=>z.elim
    refine KW (nN (X:=p7 X N' scope cl h3.objs.size s2 H2 fp) _ s9 σ7 H9 (.ref s2.heap.objs.size) [x9] (.ref s2.heap.objs.size) [v9] (fun _ H'=>H'=e7 H9 s2.heap.objs.size (.lst (ys++[x9]))) I9 rfl (.cons r9 .nil) #[s2.heap.objs.size,ys,x9,rfl,rfl,e9,l9,rfl]) (fun _ s10 ⟨_,H10,I10,_,e10⟩=>?_) fun _ _ z=>z.elim
    subst e10;exact Y I10 hl hw q9
 exact codeAny_compStart_list (loop _ rfl) (T.self _ 0 _ _ _ (T.keep _ _ _ st2 (fun b _ o e=>keep b o e)) (loop _ rfl))
def ya (Z:X.calm=true) (k:CompOk X scope cl N' n idx) (hi:PI X tg iter wi)
  (U:∀C s0 H0 ex,PG (p7 X N' scope cl C s0 H0 ex) tg g) (ht:∀C s0 H0 ex,bV (p7 X N' scope cl C s0 H0 ex) ifs tc) (Y:∀C s0 H0 ex,PE (p7 X N' scope cl C s0 H0 ex) elt te)
  (hs:∀x,foldedSetIterable iter X.env x=pure x:=by intro _;rfl):PE X (.ListComp elt [#[tg,iter,ifs,0]] scope pos) (cU n idx wi g tc te):=by
 intro pins s σ H Q I0 h;rw[eval_ListComp];refine xX (use:=none) (Q':=EP X pins σ Q) Z k hi U ht Y hs I0 h ?_;intro C W s' H' m IX B hn q;exact#[m,hn,fun h' J=>#[.ref W,H',IX.turned (t':=s'.toks) (it:=C) (h':=h') (fun b o M e=>(J.2 b M).trans e) B.1 B.2.1 B.2.2.2.1 B.2.2.2.2.1 B.2.2.2.2.2,rfl,q]]
def vS {i:Nat}{y:Str}{py B:Pos}(hN:X.N.Nodup) (Y:X.N[i]? = some y) (hx:Loc X.env.scope y) (hc:X.calm=true) (k:CompOk X scope cl N' n idx) (hi:PI X tg iter wi)
  (hg:∀C s0 H0 ex,PG (p7 X N' scope cl C s0 H0 ex) tg g) (ht:∀C s0 H0 ex,bV (p7 X N' scope cl C s0 H0 ex) ifs tc) (he:∀C s0 H0 ex,PE (p7 X N' scope cl C s0 H0 ex) elt te)
  (hs:∀x,foldedSetIterable iter X.env x=pure x:=by intro _;rfl) (W:swapsWith (.ListComp elt [#[tg,iter,ifs,0]] scope pos) (some (.Name y py)) B.line X.env=pure true:=by rfl)
  (hf:X.fn y=true\/X.env.scope.names.lookup y=some .local:=by first | exact .inl rfl | exact .inr rfl | assumption) :
  PS X (.Assign [.Name y py] (.ListComp elt [#[tg,iter,ifs,0]] scope pos) B) (eS (cU n idx wi g tc te) (T9 i)):=by
 intro pins s σ H D I h;rw[exec_Assign_Name_used _ _ _ _ W];refine fx (NC (fx ?_));show wpAny _ X.A (do let _ <-comprehension (.ListComp elt [#[tg,iter,ifs,0]] scope pos) scope X.env _ (newList []) false (eval iter X.env) (some (assign (.Name y py) X.env))) _ _ s;refine fx (KW (xX (use:=some (assign (.Name y py) X.env)) (Q':=fun _ s'=>SP X pins D .next s') hc k hi hg ht he hs I h ?_) (fun _ s' hq=>iO (iO hq)) fun _ _ e=>e);intro C U s' H' m IX J hn q;show wpAny _ X.A (assign (.Name y py) X.env (.ref U)) _ _ _;obtain⟨o,es,ep,ho,hd,hr⟩:=hn;have IP:=IX.pinned (fp:=[C]) (fun b hb=>by rw[KI.mp hb];exact J) (fun b hb=>by rw[KI.mp hb];exact#[o,ho,fun v z=>by rw[hd] at z;cases z]);refine KW (Q3 hN Y hx hf _ s' σ H' (.ref U) (.ref U) D.nx IP rfl q) (fun _ M ⟨σ2,H2,I2,q2⟩=>?_) fun _ _ e=>e
 have pn:=I2.pin (C,o) (Lq _ (Lq _ (fk (KI.mpr rfl) ho)));refine#[m,#[o,es,ep,pn.1,hd,hr],fun h' Z=>#[σ2,H2,?_,q2]];have It:=I2.unpinned.turned (t':=M.toks) (it:=C) (h':=h') (fun b o nb e=>(Z.2 b nb).trans e) pn.2.1 J.2.1 J.2.2.2.1 J.2.2.2.2.1 J.2.2.2.2.2;exact It
end
end L2
namespace DL
open PySem PySem.Spec L2
def p9 {α β γ:Type}{o:Option (α × β)}{f:α × β->Option γ}{r:γ}(h:o.bind f=some r) (k:∀x y,o=some (x,y)->f (x,y)=some r->G):G:=by
 obtain⟨⟨x,y⟩,a,b⟩:=Mk.mp h;exact k x y a b
def C8 {α γ:Type}{o:Option α}{f:α->Option γ}{r:γ}(h:o.bind f=some r) (k:∀x,o=some x->f x=some r->G):G:=by
 obtain⟨x,a,b⟩:=Mk.mp h;exact k x a b
def mapP {α β γ:Type}{o:Option (α × β)}{f:α × β->γ}{r:γ}(h:o.map f=some r) (k:∀x y,o=some (x,y)->f (x,y)=r->G):G:=by
 obtain⟨⟨x,y⟩,a,b⟩:=OJ.mp h;exact k x y a b
def F3 {α γ:Type}{o:Option α}{f:α->γ}{r:γ}(h:o.map f=some r) (k:∀x,o=some x->f x=r->G):G:=by
 obtain⟨x,a,b⟩:=OJ.mp h;exact k x a b
inductive D where
 | non | bl (b:Bool) | int (i:Int) | str (x:Str) | tup (ds:List D) | lst (ds:List D)
 | feed | scr (ns:List Int) | fn (x:Str) | exc (c:Str) (ds:List D)
variable {d:D}
abbrev vD_:=List D
variable {ds:vD_}
mutual
def D.py:D->PyData
 |.non=>.none
 |.bl b=>.bool b
 |.int i=>.int i
 |.str x=>.str x
 |.tup ds=>.tuple (D.pys ds)
 |.lst ds=>.list (D.pys ds)
 |.feed=>.none
 |.scr _=>.none
 |.fn _=>.none
 |.exc _ _=>.none
def D.pys:List D->List PyData
 |[]=>[]
 |d::r=>D.py d::D.pys r
end
mutual
def D.plain:D->Bool
 |.non=>true
 |.bl _=>true
 |.int _=>true
 |.str _=>true
 |.tup ds=>D.plains ds
 |.lst ds=>D.plains ds
 |.feed=>false
 |.scr _=>false
 |.fn _=>false
 |.exc _ _=>false
def D.plains:List D->Bool
 |[]=>true
 |d::r=>D.plain d&&D.plains r
end
structure FS where
 cells:List Int
 pos:Int
 left:Int
 turn:Int
 kind:Nat
abbrev vO_:=Option FS
variable {fs':vO_}
def K5 (c:Addr) (f:FS):List V:=if f.kind=1 then [V.ref c,V.int f.pos,V.int f.left] else [V.ref c,V.int f.pos,V.int f.left,V.int f.turn]
def dk (c:Addr) (f:FS):HO:=if f.kind=0 then .dK [(Sum.inr ("cells" : Str),V.ref c),(Sum.inr ("at" : Str),V.int f.pos),(Sum.inr ("left" : Str),V.int f.left),(Sum.inr ("turn" : Str),V.int f.turn)] else .lst (K5 c f)
def jh {c:Addr}{f:FS}(h:¬ f.kind=0):dk c f = .lst (K5 c f):=fI h
def Al {c:Addr}(h:dk c f = .tup xs):False:=by unfold dk at h;split at h <;> cases h
def Ji {c:Addr}{o:Obj}{u:HO}(h:dk c f = .frz o u):False:=by unfold dk at h;split at h <;> cases h
def FeedR (N:vB_) (H:Hp):Option Addr->Option FS->Prop
 |none,none=>True
 |some a,some f=>f.cells.length<=63/\∃c,H a=some (dk c f)/\¬ N c/\H c=some (.lst (f.cells.map V.int))
 |_,_=>False
def SqF (K:vF_) (H:Hp) (a:Addr) (xs:List V):Prop:=
 (∃o,H a=some (.frz o (.lst xs))) \/
  ∃(o:Obj) (its:vR_) (n:Nat),K.lookup a=some o/\o.cls = .type "list" /\ o.dict=none/\o.data = .seq its n/\its.size<=sizeLine/\Vals xs its.toList
def SqF.sq {K:vF_}(h:SqF K H a xs):SqL K H a xs:=by
 rcases h with ⟨o,h⟩ | h
 .exact .inl (.inr #[o,h])
 .exact .inr h
def fnm:List Str:=["word", "at"]
def ExO (H:Hp) (a C:Addr) (xs:List V):Prop:=∃o,H a=some (.frz o (.own a))/\o.cls = .ref C/\(∃vs,o.data = .fields vs)/\xs.length<=2/\(xs=[]\/∃dx od,o.dict=some dx/\H dx=some (.frz od (.xd (fnm.zip xs))))
mutual
def Rep (K:vF_) (N:vB_) (fa:vA_) (H:Hp):D->V->Prop
 |.non,v=>v = .non
 |.bl b,v=>v = .bl b
 |.int i,v=>v = .int i
 |.str x,v=>v = .str x/\x.length<=sizeLine
 |.tup ds,v=>∃a xs,v = .ref a/\SqT K H a xs/\Reps K N fa H ds xs
 |.lst ds,v=>∃a xs,v = .ref a/\¬ N a/\H a=some (.lst xs)/\Reps K N fa H ds xs
 |.feed,v=>∃a,fa=some a/\v = .ref a
 |.scr ns,v=>ns.length<=63/\∃a,v = .ref a/\SqF K H a (ns.map V.int)
 |.fn x,v=>∃a,v = .ref a/\PySem.W.nsIn K mainGlobals x=some (some (.ref a))
 |.exc c ds,v=>∃a C xs,v = .ref a/\PySem.W.nsIn K mainGlobals c=some (some (.ref C))/\ExO H a C xs/\Reps K N fa H ds xs
def Reps (K:vF_) (N:vB_) (fa:vA_) (H:Hp):List D->List V->Prop
 |[],xs=>xs=[]
 |d::r,xs=>∃x ys,xs=x::ys/\Rep K N fa H d x/\Reps K N fa H r ys
end
def RepB (K:vF_) (N:vB_) (fa:vA_) (H:Hp):D->V->Prop
 |.lst ds,v=>∃a xs,v = .ref a/\fa≠some a/\H a=some (.lst xs)/\Reps K N fa H ds xs
 |d,v=>Rep K N fa H d v
def aj (K:vF_) (N:vB_) (fa:vA_) (H:Hp):List D->List V->Prop
 |[],xs=>xs=[]
 |d::r,xs=>∃x ys,xs=x::ys/\RepB K N fa H d x/\aj K N fa H r ys
def oE (K:vF_) (H:Hp) (a:Addr):Sum (List V) (Obj × HO)->Prop
 |.inl xs=>SqF K H a xs
 |.inr p=>H a=some (.frz p.1 p.2)
structure Car (K:vF_) (N:vB_) (fa:vA_) (H:Hp) (N':vB_) (fa':vA_) (H':Hp):Prop where
 ls:∀b xs,¬ N b->H b=some (.lst xs)->H' b=some (.lst xs)/\¬ N' b
 tp:∀b xs,SqT K H b xs->SqT K H' b xs
 fz:∀b xs,oE K H b xs->oE K H' b xs
 fe:∀a,fa=some a->fa'=some a
section
variable {K:vF_}{N':vB_}
def ExO.go (c:Car K N fa H N' fa' H') (h:ExO H a C xs):ExO H' a C xs:=by
 obtain⟨o,e,q,r,l,z⟩:=h;refine#[o,c.fz a (.inr (o,_)) e,q,r,l,z.imp id ?_];rintro⟨B,J,y,w⟩;exact#[B,J,y,c.fz B (.inr (J,_)) w]
mutual
theorem Rep.go (c:Car K N fa H N' fa' H'):∀(d:D) (v:V),Rep K N fa H d v->Rep K N' fa' H' d v
 |.non,v,h=>by simpa only[Rep] using h
 |.bl b,v,h=>by simpa only[Rep] using h
 |.int i,v,h=>by simpa only[Rep] using h
 |.str x,v,h=>by simpa only[Rep] using h
 |.tup ds,v,h=>by
  simp only[Rep] at h ⊢;obtain⟨a,xs,e,q,r⟩:=h;exact#[a,xs,e,c.tp a xs q,Reps.go c ds xs r]
 |.lst ds,v,h=>by
  simp only[Rep] at h ⊢;obtain⟨a,xs,e,n,q,r⟩:=h;obtain⟨J,B⟩:=c.ls a xs n q;exact#[a,xs,e,B,J,Reps.go c ds xs r]
 |.feed,v,h=>by
  simp only[Rep] at h ⊢;obtain⟨a,e,q⟩:=h;exact#[a,c.fe a e,q]
 |.scr ns,v,h=>by
  simp only[Rep] at h ⊢;obtain⟨l,a,e,q⟩:=h;exact#[l,a,e,c.fz a (.inl _) q]
 |.fn x,v,h=>by simpa only[Rep] using h
 |.exc x ds,v,h=>by
  simp only[Rep] at h ⊢;obtain⟨a,C,xs,e,n,q,r⟩:=h;exact#[a,C,xs,e,n,q.go c,Reps.go c ds xs r]
theorem Reps.go (c:Car K N fa H N' fa' H'):∀(ds:vD_) (xs:List V),Reps K N fa H ds xs->Reps K N' fa' H' ds xs
 |[],xs,h=>by simpa only[Reps] using h
 |d::r,xs,h=>by
  simp only[Reps] at h ⊢;obtain⟨x,ys,e,h1,h2⟩:=h;exact#[x,ys,e,Rep.go c d x h1,Reps.go c r ys h2]
end
def Rep.b (B:∀a,fa=some a->N a) {v:V}(h:Rep K N fa H d v):RepB K N fa H d v:=by
 cases d with
 |lst ds=>
  simp only[Rep] at h;obtain⟨a,xs,e,n,q,r⟩:=h;exact#[a,xs,e,fun z=>n (B a z),q,r]
 |_=>simpa only[RepB] using h
def V1 (K:vF_) (N:vB_) (fa:vA_) (H:Hp):D->V->Prop
 |.lst ds,v=>∃a xs,v = .ref a/\H a=some (.lst xs)/\Reps K N fa H ds xs
 |d,v=>Rep K N fa H d v
def Rep.o {v:V}(h:Rep K N fa H d v):V1 K N fa H d v:=by
 cases d with
 |lst ds=>
  simp only[Rep] at h;obtain⟨a,xs,e,_,q,r⟩:=h;exact#[a,xs,e,q,r]
 |_=>simpa only[V1] using h
def RepB.o {v:V}(h:RepB K N fa H d v):V1 K N fa H d v:=by
 cases d with
 |lst ds=>
  obtain⟨a,xs,e,_,q,r⟩:=h;exact#[a,xs,e,q,r]
 |_=>simpa only[V1,RepB] using h
theorem Reps.length:∀{ds:vD_}{xs:List V},Reps K N fa H ds xs->xs.length=ds.length
 |[],xs,h=>by simp only[Reps] at h;subst h;rfl
 |d::r,xs,h=>by
  simp only[Reps] at h;obtain⟨x,ys,e,h1,h2⟩:=h;subst e;simp[Reps.length h2]
theorem Reps.get:∀{ds:vD_}{xs:List V}{i:Nat}{d:D},Reps K N fa H ds xs->ds[i]? = some d->∃x,xs[i]? = some x/\Rep K N fa H d x
 |[],xs,i,d,h,e=>by simp at e
 |d::r,xs,0,d',h,e=>by
  simp only[Reps] at h;obtain⟨x,ys,B,h1,h2⟩:=h;simp at e;subst B;subst e;exact#[x,rfl,h1]
 |d::r,xs,i+1,d',h,e=>by
  simp only[Reps] at h;obtain⟨x,ys,B,h1,h2⟩:=h;subst B;obtain⟨y,J,M⟩:=Reps.get h2 (by simpa using e);exact#[y,by simpa using J,M]
def Reps.get':∀{ds:vD_}{xs:List V}{i:Nat}{x:V},Reps K N fa H ds xs->xs[i]? = some x->∃d,ds[i]? = some d/\Rep K N fa H d x:=fun {ds xs i x} h e=>by
 have hl:=h.length;have hi:i<xs.length:=(KH.mp e).1;obtain⟨y,B,J⟩:=Reps.get h (Le (show i<ds.length by omega));rw[e] at B;cases B;exact#[_,Le (show i<ds.length by omega),J]
theorem Reps.append:∀{ds es:vD_}{xs ys:List V},Reps K N fa H ds xs->Reps K N fa H es ys->Reps K N fa H (ds++es) (xs++ys)
 |[],es,xs,ys,h,q=>by simp only[Reps] at h;subst h;simpa using q
 |d::r,es,xs,ys,h,q=>by
  simp only[Reps] at h;obtain⟨x,zs,B,h1,h2⟩:=h;subst B;simp only[OK,Reps];exact#[x,_,rfl,h1,Reps.append h2 q]
def Reps.one {x:V}(h:Rep K N fa H d x):Reps K N fa H [d] [x]:=by
 simp only[Reps];exact#[x,[],rfl,h,rfl]
def Reps.nil:Reps K N fa H [] []:=by simp only[Reps]
theorem Reps.take:∀{ds:vD_}{xs:List V}(n:Nat),Reps K N fa H ds xs->Reps K N fa H (ds.take n) (xs.take n)
 |_,_,0,_=>by simp only[List.take_zero,Reps]
 |[],xs,n+1,h=>by simp only[Reps] at h;subst h;simp only[List.take_nil,Reps]
 |d::r,xs,n+1,h=>by
  simp only[Reps] at h;obtain⟨x,zs,B,h1,h2⟩:=h;subst B;simp only[List.take_succ_cons,Reps];exact#[x,_,rfl,h1,Reps.take n h2]
theorem Reps.drop:∀{ds:vD_}{xs:List V}(n:Nat),Reps K N fa H ds xs->Reps K N fa H (ds.drop n) (xs.drop n)
 |_,_,0,h=>by simpa using h
 |[],xs,n+1,h=>by simp only[Reps] at h;subst h;simp only[List.drop_nil,Reps]
 |d::r,xs,n+1,h=>by
  simp only[Reps] at h;obtain⟨x,zs,B,h1,h2⟩:=h;subst B;simpa using Reps.drop n h2
theorem Reps.ints:∀{ns:List Int},Reps K N fa H (ns.map D.int) (ns.map V.int)
 |[]=>by simp only[Mx,Reps]
 |n::r=>by
  simp only[Ku,Reps,Rep];exact#[_,_,rfl,rfl,Reps.ints]
theorem Reps.reverse:∀{ds:vD_}{xs:List V},Reps K N fa H ds xs->Reps K N fa H ds.reverse xs.reverse
 |[],xs,h=>by simp only[Reps] at h;subst h;simp only[List.reverse_nil,Reps]
 |d::r,xs,h=>by
  simp only[Reps] at h;obtain⟨x,zs,B,h1,h2⟩:=h;subst B;simp only[OE];exact Reps.append (Reps.reverse h2) (Reps.one h1)
end
inductive Sl where
 | no | v (d:D) | own (ds:vD_) | dct (ds:vD_)
variable {sl:List Sl}{mk:List Sl->D->Option (List Sl)}
structure DS where
 sl:List Sl
 fs:Option FS
variable {s1 s2 s':DS}
def NN (F:vB_) (fa:vA_) (O:vL_):Addr->Prop:=fun b=>F b\/b∈O\/fa=some b
mutual
def bG:D->Int
 |.int i=>hashInt i
 |.tup ds=>reduceHash (Builtin.Tuple.tupleHashOf (aG ds))
 |_=>0
def aG:List D->List Int
 |[]=>[]
 |d::r=>bG d::aG r
end
def bM:List D->List V->List DictEntry->Prop
 |[],xs,es=>xs=[]/\es=[]
 |d::ds,xs,es=>∃r ys e fs,xs = .ref r::ys/\es=e::fs/\e.hash=bG d/\e.key = .ref r/\bM ds ys fs
def E2 (a:Addr) (ds:vD_) (xs:List V):HO:=.ext fun h=>(a == sysModules)=false/\∃o es ep,h.get? a=some o/\o.ExactDict/\o.data = .dict es ep/\bM ds xs es.toList
def SlR (K:vF_) (N:vB_) (fa:vA_) (H:Hp):List Sl->List (Option V)->List Addr->Prop
 |[],σ,O=>σ=[]/\O=[]
 |.no::r,σ,O=>∃v τ,σ=v::τ/\SlR K N fa H r τ O
 |.v d::r,σ,O=>∃u τ,σ=some u::τ/\Rep K N fa H d u/\SlR K N fa H r τ O
 |.own ds::r,σ,O=>∃a xs τ P,σ=some (.ref a)::τ/\O=a::P/\H a=some (.lst xs)/\Reps K N fa H ds xs/\SlR K N fa H r τ P
 |.dct ds::r,σ,O=>∃a xs τ P,σ=some (.ref a)::τ/\O=a::P/\H a=some (E2 a ds xs)/\Reps K N fa H ds xs/\SlR K N fa H r τ P
structure Stp (fa:vA_) (O:vL_) (H:Hp) (fa':vA_) (O':vL_) (H':Hp):Prop where
 sub:∀b∈O',b∈O\/H b=none
 fe:fa'=fa\/(fa=none/\∀a,fa'=some a->H a=none)
 same:∀b u,H b=some u->b ∉ O->fa≠some b->H' b=some u
 mon:∀b,H' b=none->H b=none
structure StE (fa:vA_) (O:vL_) (H:Hp) (fa':vA_) (O':vL_) (H':Hp):Prop where
 sub:∀b∈O',b∈O
 fe:fa'=fa\/(fa=none/\∀a,fa'=some a->H a=none)
 same:∀b u,H b=some u->fa≠some b->H' b=some u
 mon:∀b,H' b=none->H b=none
structure DI (K:vF_) (F:vB_) (H0:Hp) (fa0:vA_) (σ:St) (H:Hp) (fa:vA_) (O:vL_) (s:DS):Prop where
 nd:O.Nodup
 sl:SlR K (NN F fa O) fa H s.sl σ O
 fr:∀b∈O,H0 b=none
 st:Stp fa0 [] H0 fa [] H
 tr:∀b,F b->H0 b≠none
 ff:∀a,fa0=some a->F a
 fd:FeedR (NN F fa O) H fa s.fs
 nf:∀a,fa=some a->a ∉ O
section
variable {fa'':vA_}{O' O'':vL_}{H'':Hp}
def StE.stp (h:StE fa O H fa' O' H'):Stp fa O H fa' O' H':=#[fun b hb=>.inl (h.sub b hb),h.fe,fun b u e _ n=>h.same b u e n,h.mon]
def StE.refl:StE fa O H fa O H:=#[fun _ h=>h,.inl rfl,fun _ _ e _=>e,fun _ h=>h]
theorem Stp.refl:Stp fa O H fa O H:=StE.refl.stp
theorem StE.trans (a:StE fa O H fa' O' H') (b:StE fa' O' H' fa'' O'' H''):StE fa O H fa'' O'' H'':=by
 refine#[fun c B=>a.sub c (b.sub c B),?_,fun c u e n=>?_,fun c h=>a.mon c (b.mon c h)]
 .rcases a.fe with e | ⟨e,h⟩
  .rcases b.fe with e' | ⟨e',h'⟩
   .exact .inl (e'.trans e)
   .exact .inr #[e▸e',fun c z=>a.mon c (h' c z)]
  .rcases b.fe with e' | ⟨e',h'⟩
   .exact .inr #[e,fun c z=>h c (e'▸z)]
   .exact .inr #[e,fun c z=>a.mon c (h' c z)]
 .refine b.same c u (a.same c u e n) fun z=>?_
  rcases a.fe with q | ⟨q,h⟩
  .rw[q] at z;exact n z
  .rw[h c z] at e;cases e
theorem Stp.trans (a:Stp fa O H fa' O' H') (b:Stp fa' O' H' fa'' O'' H''):Stp fa O H fa'' O'' H'':=by
 refine#[fun c B=>?_,?_,fun c u e B n=>?_,fun c h=>a.mon c (b.mon c h)]
 .rcases b.sub c B with q | q
  .exact a.sub c q
  .exact .inr (a.mon c q)
 .rcases a.fe with e | ⟨e,h⟩
  .rcases b.fe with e' | ⟨e',h'⟩
   .exact .inl (e'.trans e)
   .exact .inr #[e▸e',fun c z=>a.mon c (h' c z)]
  .rcases b.fe with e' | ⟨e',h'⟩
   .exact .inr #[e,fun c z=>h c (e'▸z)]
   .exact .inr #[e,fun c z=>a.mon c (h' c z)]
 .refine b.same c u (a.same c u e B n) (fun z=>?_) fun z=>?_
  .rcases a.sub c z with q | q
   .exact B q
   .rw[q] at e;cases e
  .rcases a.fe with q | ⟨q,h⟩
   .rw[q] at z;exact n z
   .rw[h c z] at e;cases e
def Stp.fa_keep (a:Stp fa O H fa' O' H') {x:Addr}(h:fa=some x):fa'=some x:=by
 rcases a.fe with e | ⟨e,_⟩
 .rw[e,h]
 .rw[h] at e;cases e
variable {K:vF_}{F:vB_}{H0:Hp}{fa0:vA_}{s:DS}
def FeedR.no_frz {fs:vO_}{o:Obj}{u:HO}(h:FeedR N H fa fs) (e:fa=some a) (q:H a=some (.frz o u)):False:=by
 subst e;cases fs with
 |none=>exact h
 |some f=>
  obtain⟨_,c,h1,_⟩:=h;rw[h1] at q;exact Ji (KN q)
def FeedR.no_tup {fs:vO_}(h:FeedR N H fa fs) (e:fa=some a) (z:Rd H a (.tup xs)):False:=by
 rcases z with z | ⟨o,z⟩
 .subst e;cases fs with
  |none=>exact h
  |some f=>
   obtain⟨_,c,h1,_⟩:=h;rw[h1] at z;exact Al (KN z)
 .exact h.no_frz e z
def FeedR.tracked {fs:vO_}(h:FeedR N H fa fs) (e:fa=some a):H a≠none:=by
 subst e;cases fs with
 |none=>exact h.elim
 |some f=>
  obtain⟨_,c,h1,_⟩:=h;rw[h1];simp
def SqT.stp' (a:Stp fa O H fa' O' H') (M:∀x,fa=some x->∀xs,¬ Rd H x (.tup xs)) (U:∀x∈O,∀xs,¬ Rd H x (.tup xs)) {b:Addr}(h:SqT K H b xs):SqT K H' b xs:=by
 rcases h with h | h
 .refine .inl ?_;have J:b ∉ O:=fun z=>U b z xs h
  have B:fa≠some b:=fun z=>M b z xs h
  rcases h with h | ⟨o,h⟩
  .exact .inl (a.same _ _ h J B)
  .exact .inr #[o,a.same _ _ h J B]
 .exact .inr h
def qI:HO->Prop
 |.lst _=>True
 |.ext _=>True
 |_=>False
theorem SlR.owned:∀{sl:List Sl}{N:vB_}{σ:List (Option V)}{O:vL_},SlR K N fa H sl σ O->∀b∈O,∃o,H b=some o/\qI o
 |[],N,σ,O,h,b,hb=>by simp only[SlR] at h;rw[h.2] at hb;cases hb
 |.no::r,N,σ,O,h,b,hb=>by
  simp only[SlR] at h;obtain⟨v,τ,_,h⟩:=h;exact SlR.owned h b hb
 |.v d::r,N,σ,O,h,b,hb=>by
  simp only[SlR] at h;obtain⟨v,τ,_,_,h⟩:=h;exact SlR.owned h b hb
 |.own ds::r,N,σ,O,h,b,hb=>by
  simp only[SlR] at h;obtain⟨a,xs,τ,P,_,rfl,e,_,h⟩:=h;rcases tx.mp hb with z | z
  .subst z;exact#[_,e,True.intro]
  .exact SlR.owned h b z
 |.dct ds::r,N,σ,O,h,b,hb=>by
  simp only[SlR] at h;obtain⟨a,xs,τ,P,_,rfl,e,_,h⟩:=h;rcases tx.mp hb with z | z
  .subst z;exact#[_,e,True.intro]
  .exact SlR.owned h b z
theorem DI.owned (I:DI K F H0 fa0 σ H fa O s) {b:Addr}(hb:b∈O):∃o,H b=some o:=
 let ⟨o,e,_⟩:=SlR.owned I.sl b hb
 #[o,e]
def DI.ownN (I:DI K F H0 fa0 σ H fa O s) {b:Addr}{o:HO}(hb:b∈O) (h:H b=some o):qI o:=by
 obtain⟨o',e,q⟩:=SlR.owned I.sl b hb;cases e.symm.trans h;exact q
def DI.trF (I:DI K F H0 fa0 σ H fa O s) {b:Addr}(hb:F b):H b≠none:=fun z=>I.tr b hb (I.st.mon b z)
def DI.nn_tracked (I:DI K F H0 fa0 σ H fa O s) {b:Addr}(h:NN F fa O b):H b≠none:=by
 rcases h with h | h | h
 .exact I.trF h
 .obtain⟨xs,e⟩:=I.owned h;rw[e];simp
 .exact I.fd.tracked h
def DI.nf_step (I:DI K F H0 fa0 σ H fa O s) (h:fa'=fa\/(fa=none/\∀a,fa'=some a->H a=none)):∀a,fa'=some a->a ∉ O:=fun a e m=>by
 rcases h with z | ⟨z,y⟩
 .rw[z] at e;exact I.nf a e m
 .obtain⟨xs,q⟩:=I.owned m;rw[y a e] at q;cases q
def DI.car (I:DI K F H0 fa0 σ H fa O s) (a:Stp fa O H fa' O' H'):Car K (NN F fa O) fa H (NN F fa' O') fa' H':=by
 refine#[fun b xs n q=>?_,fun b xs q=>?_,fun b xs q=>?_,fun x e=>a.fa_keep e]
 .have U:b ∉ O:=fun z=>n (.inr (.inl z))
  have M:fa≠some b:=fun z=>n (.inr (.inr z))
  have B:H b≠none:=by rw[q];simp
  refine#[a.same _ _ q U M,fun z=>?_]
  .rcases z with z | z | z
   .exact n (.inl z)
   .rcases a.sub b z with y | y
    .exact U y
    .exact B y
   .rcases a.fe with e | ⟨e,h⟩
    .rw[e] at z;exact M z
    .exact B (h b z)
 .refine SqT.stp' a (fun x e ys z=>?_) (fun x J ys=>?_) q
  .exact I.fd.no_tup e z
  .rintro(z | ⟨o,z⟩)
   .exact I.ownN J z
   .exact I.ownN J z
 .have W:∀o u,H b=some (.frz o u)->H' b=some (.frz o u):=fun o u q=>by
   refine a.same _ _ q (fun z=>?_) fun z=>?_
   .exact I.ownN z q
   .exact I.fd.no_frz z q
  cases xs with
  |inl xs=>exact q.imp (fun ⟨o,q⟩=>#[o,W _ _ q]) id
  |inr p=>exact W _ _ q
end
structure Gh where
 F:Addr->Prop
 H0:Hp
 fa0:Option Addr
 xq:L2.St->XK
variable {g:Gh}
abbrev GI (K:vF_) (g:Gh):=DI K g.F g.H0 g.fa0
section
variable {K:vF_}{N':vB_}{σ:L2.St}{O':vL_}{s:DS}
theorem SlR.go (c:Car K N fa H N' fa' H'):∀{sl:List Sl}{σ:List (Option V)}{O:vL_},(∀a o,a∈O->H a=some o->H' a=some o)->SlR K N fa H sl σ O->SlR K N' fa' H' sl σ O
 |[],σ,O,_,h=>by simpa only[SlR] using h
 |.no::r,σ,O,ho,h=>by
  simp only[SlR] at h ⊢;obtain⟨v,τ,e,h⟩:=h;exact#[v,τ,e,SlR.go c ho h]
 |.v d::r,σ,O,ho,h=>by
  simp only[SlR] at h ⊢;obtain⟨u,τ,e,q,h⟩:=h;exact#[u,τ,e,Rep.go c d u q,SlR.go c ho h]
 |.own ds::r,σ,O,ho,h=>by
  simp only[SlR] at h ⊢;obtain⟨a,xs,τ,P,e,rfl,ha,q,h⟩:=h;exact#[a,xs,τ,P,e,rfl,ho a _ (iR ..) ha,Reps.go c ds xs q,SlR.go c (fun b ys hb=>ho b ys (td _ hb)) h]
 |.dct ds::r,σ,O,ho,h=>by
  simp only[SlR] at h ⊢;obtain⟨a,xs,τ,P,e,rfl,ha,q,h⟩:=h;exact#[a,xs,τ,P,e,rfl,ho a _ (iR ..) ha,Reps.go c ds xs q,SlR.go c (fun b ys hb=>ho b ys (td _ hb)) h]
theorem SlR.val:∀{sl:List Sl}{σ:List (Option V)}{O:vL_}{i:Nat}{d:D},SlR K N fa H sl σ O->sl[i]? = some (.v d)->∃u,σ[i]? = some (some u)/\Rep K N fa H d u
 |[],σ,O,i,d,h,e=>by simp at e
 |.no::r,σ,O,i,d,h,e=>by
  simp only[SlR] at h;obtain⟨v,τ,rfl,h⟩:=h;cases i with
  |zero=>simp at e
  |succ i=>simpa using SlR.val h (by simpa using e)
 |.v d'::r,σ,O,i,d,h,e=>by
  simp only[SlR] at h;obtain⟨u,τ,rfl,q,h⟩:=h;cases i with
  |zero=>simp at e;subst e;exact#[u,rfl,q]
  |succ i=>simpa using SlR.val h (by simpa using e)
 |.own ds::r,σ,O,i,d,h,e=>by
  simp only[SlR] at h;obtain⟨a,xs,τ,P,rfl,rfl,ha,q,h⟩:=h;cases i with
  |zero=>simp at e
  |succ i=>simpa using SlR.val h (by simpa using e)
 |.dct ds::r,σ,O,i,d,h,e=>by
  simp only[SlR] at h;obtain⟨a,xs,τ,P,rfl,rfl,ha,q,h⟩:=h;cases i with
  |zero=>simp at e
  |succ i=>simpa using SlR.val h (by simpa using e)
theorem SlR.own:∀{sl:List Sl}{σ:List (Option V)}{O:vL_}{i:Nat}{ds:vD_},SlR K N fa H sl σ O->sl[i]? = some (.own ds)->∃a xs,σ[i]? = some (some (.ref a))/\a∈O/\H a=some (.lst xs)/\Reps K N fa H ds xs
 |[],σ,O,i,d,h,e=>by simp at e
 |.no::r,σ,O,i,d,h,e=>by
  simp only[SlR] at h;obtain⟨v,τ,rfl,h⟩:=h;cases i with
  |zero=>simp at e
  |succ i=>simpa using SlR.own h (by simpa using e)
 |.v d'::r,σ,O,i,d,h,e=>by
  simp only[SlR] at h;obtain⟨u,τ,rfl,q,h⟩:=h;cases i with
  |zero=>simp at e
  |succ i=>simpa using SlR.own h (by simpa using e)
 |.own ds::r,σ,O,i,d,h,e=>by
  simp only[SlR] at h;obtain⟨a,xs,τ,P,rfl,rfl,ha,q,h⟩:=h;cases i with
  |zero=>simp at e;subst e;exact#[a,xs,rfl,iR ..,ha,q]
  |succ i=>
   obtain⟨b,ys,M,m,B,J⟩:=SlR.own h (by simpa using e);exact#[b,ys,by simpa using M,td _ m,B,J]
 |.dct ds::r,σ,O,i,d,h,e=>by
  simp only[SlR] at h;obtain⟨a,xs,τ,P,rfl,rfl,ha,q,h⟩:=h;cases i with
  |zero=>simp at e
  |succ i=>
   obtain⟨b,ys,M,m,B,J⟩:=SlR.own h (by simpa using e);exact#[b,ys,by simpa using M,td _ m,B,J]
theorem SlR.dct:∀{sl:List Sl}{σ:List (Option V)}{O:vL_}{i:Nat}{ds:vD_},SlR K N fa H sl σ O->sl[i]? = some (.dct ds)->∃a xs,σ[i]? = some (some (.ref a))/\a∈O/\H a=some (E2 a ds xs)/\Reps K N fa H ds xs
 |[],σ,O,i,d,h,e=>by simp at e
 |.no::r,σ,O,i,d,h,e=>by
  simp only[SlR] at h;obtain⟨v,τ,rfl,h⟩:=h;cases i with
  |zero=>simp at e
  |succ i=>simpa using SlR.dct h (by simpa using e)
 |.v d'::r,σ,O,i,d,h,e=>by
  simp only[SlR] at h;obtain⟨u,τ,rfl,q,h⟩:=h;cases i with
  |zero=>simp at e
  |succ i=>simpa using SlR.dct h (by simpa using e)
 |.own ds::r,σ,O,i,d,h,e=>by
  simp only[SlR] at h;obtain⟨a,xs,τ,P,rfl,rfl,ha,q,h⟩:=h;cases i with
  |zero=>simp at e
  |succ i=>
   obtain⟨b,ys,M,m,B,J⟩:=SlR.dct h (by simpa using e);exact#[b,ys,by simpa using M,td _ m,B,J]
 |.dct ds::r,σ,O,i,d,h,e=>by
  simp only[SlR] at h;obtain⟨a,xs,τ,P,rfl,rfl,ha,q,h⟩:=h;cases i with
  |zero=>simp at e;subst e;exact#[a,xs,rfl,iR ..,ha,q]
  |succ i=>
   obtain⟨b,ys,M,m,B,J⟩:=SlR.dct h (by simpa using e);exact#[b,ys,by simpa using M,td _ m,B,J]
theorem SlR.put:∀{sl:List Sl}{σ:List (Option V)}{O:vL_}(i:Nat) {d:D}{u:V},SlR K N fa H sl σ O->Rep K N fa H d u ->
  ∃P,P.Sublist O/\SlR K N fa H (sl.set i (.v d)) (σ.set i (some u)) P/\(O.Nodup->∀a,sl[i]?.isSome=true->(∃ds,sl[i]? = some (.own ds))->σ[i]? = some (some (.ref a))->a ∉ P)
 |[],σ,O,i,d,u,h,q=>by
  simp only[SlR] at h;refine#[O,OL _,?_,fun _ a z=>by simp at z];rw[h.1,h.2];simp[SlR]
 |.no::r,σ,O,i,d,u,h,q=>by
  simp only[SlR] at h;obtain⟨v,τ,rfl,h⟩:=h;cases i with
  |zero=>exact#[O,OL _,by simp only[NJ,SlR];exact#[u,τ,rfl,q,h],fun _ a _ z=>by obtain⟨ds,z⟩:=z;simp at z]
  |succ i=>
   obtain⟨P,hs,h1,h2⟩:=SlR.put i h q;exact#[P,hs,by simp only[Lv,SlR];exact#[v,_,rfl,h1],by simpa using h2]
 |.v d'::r,σ,O,i,d,u,h,q=>by
  simp only[SlR] at h;obtain⟨v,τ,rfl,Y,h⟩:=h;cases i with
  |zero=>exact#[O,OL _,by simp only[NJ,SlR];exact#[u,τ,rfl,q,h],fun _ a _ z=>by obtain⟨ds,z⟩:=z;simp at z]
  |succ i=>
   obtain⟨P,hs,h1,h2⟩:=SlR.put i h q;exact#[P,hs,by simp only[Lv,SlR];exact#[v,_,rfl,Y,h1],by simpa using h2]
 |.own ds::r,σ,O,i,d,u,h,q=>by
  simp only[SlR] at h;obtain⟨a,xs,τ,P,rfl,rfl,ha,Y,h⟩:=h;cases i with
  |zero=>
   refine#[P,Pw ..,by simp only[NJ,SlR];exact#[u,τ,rfl,q,h],fun U b _ _ e=>?_];simp at e;subst e;exact(Kz.mp U).1
  |succ i=>
   obtain⟨W,hs,h1,h2⟩:=SlR.put i h q;refine#[a::W,hs.cons_cons a,by simp only[Lv,SlR];exact#[a,xs,_,W,rfl,rfl,ha,Y,h1],fun U b e1 J M=>?_];have B:=Kz.mp U;have n1:=h2 B.2 b (by simpa using e1) (by simpa using J) (by simpa using M);intro z;rcases tx.mp z with z | z
   .subst z;obtain⟨dz,J⟩:=J;obtain⟨b',_,Z,m,_⟩:=SlR.own h (i:=i) (by simpa using J);rw[Px] at M;rw[M] at Z;cases Z;exact B.1 m
   .exact n1 z
 |.dct ds::r,σ,O,i,d,u,h,q=>by
  simp only[SlR] at h;obtain⟨a,xs,τ,P,rfl,rfl,ha,Y,h⟩:=h;cases i with
  |zero=>exact#[P,Pw ..,by simp only[NJ,SlR];exact#[u,τ,rfl,q,h],fun _ a _ z=>by obtain⟨ds,z⟩:=z;simp at z]
  |succ i=>
   obtain⟨W,hs,h1,h2⟩:=SlR.put i h q;refine#[a::W,hs.cons_cons a,by simp only[Lv,SlR];exact#[a,xs,_,W,rfl,rfl,ha,Y,h1],fun U b e1 J M=>?_];have B:=Kz.mp U;have n1:=h2 B.2 b (by simpa using e1) (by simpa using J) (by simpa using M);intro z;rcases tx.mp z with z | z
   .subst z;obtain⟨dz,J⟩:=J;obtain⟨b',_,Z,m,_⟩:=SlR.own h (i:=i) (by simpa using J);rw[Px] at M;rw[M] at Z;cases Z;exact B.1 m
   .exact n1 z
theorem SlR.putG:∀{sl:List Sl}{σ:List (Option V)}{O:vL_}(i:Nat) {p:Addr}{w:Sl},SlR K N fa H sl σ O->i<sl.length->p ∉ O->O.Nodup->(∀r τ P,SlR K N fa H r τ P->SlR K N fa H (w::r) (some (.ref p)::τ) (p::P)) ->
  ∃P,(∀b∈P,b=p\/b∈O)/\P.Nodup/\SlR K N fa H (sl.set i w) (σ.set i (some (.ref p))) P
 |[],σ,O,i,p,w,h,hi,hp,nd,q=>by simp at hi
 |.no::r,σ,O,i,p,w,h,hi,hp,nd,q=>by
  simp only[SlR] at h;obtain⟨v,τ,rfl,h⟩:=h;cases i with
  |zero=>exact#[p::O,fun b hb=>tx.mp hb,Kz.mpr #[hp,nd],q _ _ _ h]
  |succ i=>
   obtain⟨P,h1,h2,J⟩:=SlR.putG i h (by simpa using hi) hp nd q;exact#[P,h1,h2,by simp only[Lv,SlR];exact#[v,_,rfl,J]]
 |.v d'::r,σ,O,i,p,w,h,hi,hp,nd,q=>by
  simp only[SlR] at h;obtain⟨v,τ,rfl,U,h⟩:=h;cases i with
  |zero=>exact#[p::O,fun b hb=>tx.mp hb,Kz.mpr #[hp,nd],q _ _ _ h]
  |succ i=>
   obtain⟨P,h1,h2,J⟩:=SlR.putG i h (by simpa using hi) hp nd q;exact#[P,h1,h2,by simp only[Lv,SlR];exact#[v,_,rfl,U,J]]
 |.own ds'::r,σ,O,i,p,w,h,hi,hp,nd,q=>by
  simp only[SlR] at h;obtain⟨a,ys,τ,P,rfl,rfl,ha,U,h⟩:=h;have B:=Kz.mp nd;cases i with
  |zero=>
   refine#[p::P,fun b hb=>(tx.mp hb).imp id fun z=>td _ z,Kz.mpr #[fun z=>hp (td _ z),B.2],?_];exact q _ _ _ h
  |succ i=>
   obtain⟨M,h1,h2,J⟩:=SlR.putG i h (by simpa using hi) (fun z=>hp (td _ z)) B.2 q;refine#[a::M,fun b hb=>?_,Kz.mpr #[fun z=>?_,h2],by simp only[Lv,SlR];exact#[a,ys,_,M,rfl,rfl,ha,U,J]]
   .rcases tx.mp hb with z | z
    .exact .inr (by rw[z];exact iR ..)
    .exact(h1 b z).imp id fun y=>td _ y
   .rcases h1 a z with y | y
    .exact hp (by rw[y];exact iR ..)
    .exact B.1 y
 |.dct ds'::r,σ,O,i,p,w,h,hi,hp,nd,q=>by
  simp only[SlR] at h;obtain⟨a,ys,τ,P,rfl,rfl,ha,U,h⟩:=h;have B:=Kz.mp nd;cases i with
  |zero=>
   refine#[p::P,fun b hb=>(tx.mp hb).imp id fun z=>td _ z,Kz.mpr #[fun z=>hp (td _ z),B.2],?_];exact q _ _ _ h
  |succ i=>
   obtain⟨M,h1,h2,J⟩:=SlR.putG i h (by simpa using hi) (fun z=>hp (td _ z)) B.2 q;refine#[a::M,fun b hb=>?_,Kz.mpr #[fun z=>?_,h2],by simp only[Lv,SlR];exact#[a,ys,_,M,rfl,rfl,ha,U,J]]
   .rcases tx.mp hb with z | z
    .exact .inr (by rw[z];exact iR ..)
    .exact(h1 b z).imp id fun y=>td _ y
   .rcases h1 a z with y | y
    .exact hp (by rw[y];exact iR ..)
    .exact B.1 y
def SlR.putN {σ:List (Option V)}(i:Nat) (h:SlR K N fa H sl σ O) (hi:i<sl.length) (hp:p ∉ O) (B:O.Nodup) (e:H p=some (.lst xs)) (q:Reps K N fa H ds xs) :
  ∃P,(∀b∈P,b=p\/b∈O)/\P.Nodup/\SlR K N fa H (sl.set i (.own ds)) (σ.set i (some (.ref p))) P:=SlR.putG i h hi hp B fun r τ P h=>by simp only[SlR];exact#[p,xs,τ,P,rfl,rfl,e,q,h]
def SlR.refO {w:Sl}(h:SlR K N fa H sl σ O) (e:sl[i]? = some w) (M:∃ds,w = .own ds\/w = .dct ds) (J:σ[i]? = some (some (.ref a))):a∈O:=by
 obtain⟨ds,rfl | rfl⟩:=M
 .obtain⟨b,_,B,m,_⟩:=SlR.own h e;cases J.symm.trans B;exact m
 .obtain⟨b,_,B,m,_⟩:=SlR.dct h e;cases J.symm.trans B;exact m
theorem SlR.rewG:∀{sl:List Sl}{σ:List (Option V)}{O:vL_}{i:Nat}{w0 w:Sl}{a:Addr},SlR K N fa H sl σ O->O.Nodup->(∀b∈O,N b)->sl[i]? = some w0->(∃ds,w0 = .own ds\/w0 = .dct ds)->σ[i]? = some (some (.ref a)) ->
  Car K N fa H N fa H'->(∀b u,b≠a->H b=some u->H' b=some u)->(∀r τ P,SlR K N fa H' r τ P->SlR K N fa H' (w::r) (some (.ref a)::τ) (a::P))->SlR K N fa H' (sl.set i w) σ O
 |[],σ,O,i,w0,w,a,h,nd,hN,e1,e3,e2,c,k,q=>by simp at e1
 |.no::r,σ,O,i,w0,w,a,h,nd,hN,e1,e3,e2,c,k,q=>by
  simp only[SlR] at h;obtain⟨v,τ,rfl,h⟩:=h;cases i with
  |zero=>simp at e1;subst e1;obtain⟨ds,z | z⟩:=e3 <;> cases z
  |succ i=>simp only[Lv,SlR];exact#[v,τ,rfl,SlR.rewG h nd hN (by simpa using e1) e3 (by simpa using e2) c k q]
 |.v d'::r,σ,O,i,w0,w,a,h,nd,hN,e1,e3,e2,c,k,q=>by
  simp only[SlR] at h;obtain⟨v,τ,rfl,M,h⟩:=h;cases i with
  |zero=>simp at e1;subst e1;obtain⟨ds,z | z⟩:=e3 <;> cases z
  |succ i=>simp only[Lv,SlR];exact#[v,τ,rfl,Rep.go c _ _ M,SlR.rewG h nd hN (by simpa using e1) e3 (by simpa using e2) c k q]
 |.own ds'::r,σ,O,i,w0,w,a,h,nd,hN,e1,e3,e2,c,k,q=>by
  simp only[SlR] at h;obtain⟨b,zs,τ,P,rfl,rfl,ha,M,h⟩:=h;have B:=Kz.mp nd;cases i with
  |zero=>
   simp at e2;subst e2;exact q _ _ _ (SlR.go c (fun x xs J z=>k x _ (fun y=>B.1 (y▸J)) z) h)
  |succ i=>
   have U:b≠a:=fun z=>B.1 (z▸SlR.refO h (i:=i) (by simpa using e1) e3 (by simpa using e2))
   simp only[Lv,SlR];exact#[b,zs,τ,P,rfl,rfl,k b _ U ha,Reps.go c _ _ M,SlR.rewG h B.2 (fun x J=>hN x (td _ J)) (by simpa using e1) e3 (by simpa using e2) c k q]
 |.dct ds'::r,σ,O,i,w0,w,a,h,nd,hN,e1,e3,e2,c,k,q=>by
  simp only[SlR] at h;obtain⟨b,zs,τ,P,rfl,rfl,ha,M,h⟩:=h;have B:=Kz.mp nd;cases i with
  |zero=>
   simp at e2;subst e2;exact q _ _ _ (SlR.go c (fun x xs J z=>k x _ (fun y=>B.1 (y▸J)) z) h)
  |succ i=>
   have U:b≠a:=fun z=>B.1 (z▸SlR.refO h (i:=i) (by simpa using e1) e3 (by simpa using e2))
   simp only[Lv,SlR];exact#[b,zs,τ,P,rfl,rfl,k b _ U ha,Reps.go c _ _ M,SlR.rewG h B.2 (fun x J=>hN x (td _ J)) (by simpa using e1) e3 (by simpa using e2) c k q]
def SlR.rew {es:vD_}(h:SlR K N fa H sl σ O) (M:O.Nodup) (U:∀b∈O,N b) (W:sl[i]? = some (.own ds)) (J:σ[i]? = some (some (.ref a))) (B:H' a=some (.lst ys))
  (c:Car K N fa H N fa H') (k:∀b u,b≠a->H b=some u->H' b=some u) (q:Reps K N fa H' es ys):SlR K N fa H' (sl.set i (.own es)) σ O:=SlR.rewG h M U W #[ds,.inl rfl] J c k fun r τ P h=>by simp only[SlR];exact#[a,ys,τ,P,rfl,rfl,B,q,h]
theorem RepB.stp {v:V}(I:GI K g σ H fa O s) (a:StE fa O H fa' O' H') (h:RepB K (NN g.F fa O) fa H d v):RepB K (NN g.F fa' O') fa' H' d v:=by
 have c:=I.car a.stp;cases d with
 |lst ds=>
  obtain⟨x,xs,e,B,q,r⟩:=h;refine#[x,xs,e,fun z=>?_,a.same _ _ q B,Reps.go c ds xs r];rcases a.fe with y | ⟨_,y⟩
  .rw[y] at z;exact B z
  .rw[y x z] at q;cases q
 |_=>
  simp only[RepB] at h ⊢;exact Rep.go c _ _ h
def Rep.stp {v:V}(I:GI K g σ H fa O s) (a:Stp fa O H fa' O' H') (h:Rep K (NN g.F fa O) fa H d v):Rep K (NN g.F fa' O') fa' H' d v:=Rep.go (I.car a) d v h
def Reps.stp (I:GI K g σ H fa O s) (a:Stp fa O H fa' O' H') (h:Reps K (NN g.F fa O) fa H ds xs):Reps K (NN g.F fa' O') fa' H' ds xs:=Reps.go (I.car a) ds xs h
def B4 {o:HO}(h:H p=none):StE fa O H fa O (e7 H p o):=
 #[fun _ h=>h,.inl rfl,fun b u e _=>by rw[k9 (S3 e h)];exact e,fun b z=>by
  by_cases hb:b=p
  .subst hb;exact h
  .rw[k9 hb] at z;exact z]
def FeedR.car {fs:vO_}(c:Car K N fa H N' fa H') (h:∀a,fa=some a->H' a=H a) (f:FeedR N H fa fs):FeedR N' H' fa fs:=by
 cases fa with
 |none=>cases fs <;> simpa only[FeedR] using f
 |some a=>
  cases fs with
  |none=>simpa only[FeedR] using f
  |some x=>
   simp only[FeedR] at f ⊢;obtain⟨l,b,h1,h2,B⟩:=f;obtain⟨q,n⟩:=c.ls b _ h2 B;exact#[l,b,by rw[h a rfl];exact h1,n,q]
def FeedR.same_new {fs:vO_}{o:HO}(f:FeedR N H fa fs) (h:H p=none):∀a,fa=some a->e7 H p o a=H a:=fun a e=>k9 fun z=>f.tracked e (z▸h)
def DI.new {o:HO}(I:GI K g σ H fa O s) (h:H p=none):GI K g σ (e7 H p o) fa O s:=by
 have a:StE fa O H fa O (e7 H p o):=B4 h;refine#[I.nd,SlR.go (I.car a.stp) (fun b xs hb e=>?_) I.sl,I.fr,I.st.trans ((B4 (O:=[]) h).stp),I.tr,I.ff,I.fd.car (I.car a.stp) (I.fd.same_new h),I.nf];rw[k9 (S3 e h)];exact e
end
abbrev DE:=DS->Option (D × DS)
variable {fe:DE}
abbrev DT:=DS->Option (Bool × DS)
variable {fc:DT}
abbrev DA:=DS->Option (List D × DS)
variable {f fi:DA}
inductive Fl where
 | next | brk | cont | ret (d:D) | thr (c:Str) (ds:vD_)
variable {r:Fl × DS}
abbrev DM:=DS->Option (Fl × DS)
structure NewL (K:vF_) (g:Gh) (σ:L2.St) (H:Hp) (fa:vA_) (O:vL_) (s:DS) (p:Addr) (xs:List V) (ds:vD_):Prop where
 gi:GI K g σ H fa O s
 ls:H p=some (.lst xs)
 sl:SlR K (fun b=>NN g.F fa O b\/b=p) fa H s.sl σ O
 fd:FeedR (fun b=>NN g.F fa O b\/b=p) H fa s.fs
 rs:Reps K (fun b=>NN g.F fa O b\/b=p) fa H ds xs
 nf:fa≠some p
section
variable (K:vF_) (g:Gh)
def liftE (f:DE):TE:=fun σ H Q=>∃fa O s d s',GI K g σ H fa O s/\f s=some (d,s') /\
 ∀v H' fa' O',StE fa O H fa' O' H'->GI K g σ H' fa' O' s'->Rep K (NN g.F fa' O') fa' H' d v->Q v H'
def liftB (f:DE):TE:=fun σ H Q=>∃fa O s d s',GI K g σ H fa O s/\f s=some (d,s') /\
 ∀v H' fa' O',StE fa O H fa' O' H'->GI K g σ H' fa' O' s'->RepB K (NN g.F fa' O') fa' H' d v->Q v H'
def liftF (f:DA):TE:=fun σ H Q=>∃fa O s ds s',GI K g σ H fa O s/\f s=some (ds,s') /\
 ∀p xs H' fa' O',StE fa O H fa' O' H'->NewL K g σ H' fa' O' s' p xs ds->H p=none->Q (.ref p) H'
def liftT (f:DT):TT:=fun σ H Q=>∃fa O s d s',GI K g σ H fa O s/\f s=some (d,s') /\
 ∀H' fa' O',StE fa O H fa' O' H'->GI K g σ H' fa' O' s'->Q d H'
def liftA (f:DA):TA:=fun σ H Q=>∃fa O s ds s',GI K g σ H fa O s/\f s=some (ds,s') /\
 ∀vs H' fa' O',StE fa O H fa' O' H'->GI K g σ H' fa' O' s'->Reps K (NN g.F fa' O') fa' H' ds vs->Q vs H'
def liftBA (f:DA):TA:=fun σ H Q=>∃fa O s ds s',GI K g σ H fa O s/\f s=some (ds,s') /\
 ∀vs H' fa' O',StE fa O H fa' O' H'->GI K g σ H' fa' O' s'->aj K (NN g.F fa' O') fa' H' ds vs->Q vs H'
def FlK (E:Ends) (fa:vA_) (O:vL_) (H:Hp) (fl:Fl) (s':DS):Prop:=
 match fl with
 |.next=>∀σ' H' fa' O',Stp fa O H fa' O' H'->GI K g σ' H' fa' O' s'->E.nx σ' H'
 |.brk=>∀σ' H' fa' O',Stp fa O H fa' O' H'->GI K g σ' H' fa' O' s'->E.bk σ' H'
 |.cont=>∀σ' H' fa' O',Stp fa O H fa' O' H'->GI K g σ' H' fa' O' s'->E.ct σ' H'
 |.ret d=>∀σ' v H' fa' O',Stp fa O H fa' O' H'->GI K g σ' H' fa' O' s'->Rep K (NN g.F fa' O') fa' H' d v->E.rt v H'
 |.thr c ds=>∀σ' C dx od xs H' fa' O',Stp fa O H fa' O' H'->GI K g σ' H' fa' O' s'->PySem.W.nsIn K mainGlobals c=some (some (.ref C))->H' dx=some (.frz od (.xd (fnm.zip xs)))->Reps K (NN g.F fa' O') fa' H' ds xs->g.xq σ' (.ref C) (some dx) H'
def liftS (f:DM):TS:=fun E σ H=>∃fa O s fl s',GI K g σ H fa O s/\f s=some (fl,s')/\FlK K g E fa O H fl s'
end
section
variable {K:vF_}{σ:L2.St}
def liftE.elim {f:DE}{Q:VK}(h:liftE K g f σ H Q) (k:∀fa O s d s',GI K g σ H fa O s->f s=some (d,s')->(∀v H' fa' O',StE fa O H fa' O' H'->GI K g σ H' fa' O' s'->Rep K (NN g.F fa' O') fa' H' d v->Q v H')->G):G:=by
 obtain⟨fa,O,s,d,s',a,b,c⟩:=h;exact k fa O s d s' a b c
def liftB.elim {f:DE}{Q:VK}(h:liftB K g f σ H Q) (k:∀fa O s d s',GI K g σ H fa O s->f s=some (d,s')->(∀v H' fa' O',StE fa O H fa' O' H'->GI K g σ H' fa' O' s'->RepB K (NN g.F fa' O') fa' H' d v->Q v H')->G):G:=by
 obtain⟨fa,O,s,d,s',a,b,c⟩:=h;exact k fa O s d s' a b c
def liftF.elim {Q:VK}(h:liftF K g f σ H Q) (k:∀fa O s d s',GI K g σ H fa O s->f s=some (d,s')->(∀p xs H' fa' O',StE fa O H fa' O' H'->NewL K g σ H' fa' O' s' p xs d->H p=none->Q (.ref p) H')->G):G:=by
 obtain⟨fa,O,s,d,s',a,b,c⟩:=h;exact k fa O s d s' a b c
def liftT.elim {f:DT}{Q:Bool->Hp->Prop}(h:liftT K g f σ H Q) (k:∀fa O s d s',GI K g σ H fa O s->f s=some (d,s')->(∀H' fa' O',StE fa O H fa' O' H'->GI K g σ H' fa' O' s'->Q d H')->G):G:=by
 obtain⟨fa,O,s,d,s',a,b,c⟩:=h;exact k fa O s d s' a b c
def liftA.elim {Q:List V->Hp->Prop}(h:liftA K g f σ H Q) (k:∀fa O s d s',GI K g σ H fa O s->f s=some (d,s')->(∀vs H' fa' O',StE fa O H fa' O' H'->GI K g σ H' fa' O' s'->Reps K (NN g.F fa' O') fa' H' d vs->Q vs H')->G):G:=by
 obtain⟨fa,O,s,d,s',a,b,c⟩:=h;exact k fa O s d s' a b c
def liftBA.elim {Q:List V->Hp->Prop}(h:liftBA K g f σ H Q) (k:∀fa O s d s',GI K g σ H fa O s->f s=some (d,s')->(∀vs H' fa' O',StE fa O H fa' O' H'->GI K g σ H' fa' O' s'->aj K (NN g.F fa' O') fa' H' d vs->Q vs H')->G):G:=by
 obtain⟨fa,O,s,d,s',a,b,c⟩:=h;exact k fa O s d s' a b c
def liftS.elim {f:DM}{E:Ends}(h:liftS K g f E σ H) (k:∀fa O s d s',GI K g σ H fa O s->f s=some (d,s')->(FlK K g E fa O H d s')->G):G:=by
 obtain⟨fa,O,s,d,s',a,b,c⟩:=h;exact k fa O s d s' a b c
end
structure EO (X:Cx) (g:Gh) (e:Expr) (f:DE):Prop where
 pe:PE X e (liftE X.K g f)
structure BO (X:Cx) (g:Gh) (e:Expr) (f:DE):Prop where
 pe:PE X e (liftB X.K g f)
structure FO (X:Cx) (g:Gh) (e:Expr) (f:DA):Prop where
 pe:PE X e (liftF X.K g f)
structure TO (X:Cx) (g:Gh) (e:Expr) (f:DT):Prop where
 pe:PT X e (liftT X.K g f)
structure WO (X:Cx) (g:Gh) (e:Expr) (f:DT):Prop where
 pe:PW X e (liftT X.K g f)
structure AO (X:Cx) (g:Gh) (es:List Expr) (f:DA):Prop where
 pe:PA X es (liftA X.K g f)
structure BAO (X:Cx) (g:Gh) (es:List Expr) (f:DA):Prop where
 pe:PA X es (liftBA X.K g f)
structure SO (X:Cx) (g:Gh) (st:Stmt) (f:DM):Prop where
 pe:PS X st (liftS X.K g f)
structure SSO (X:Cx) (g:Gh) (st:List Stmt) (f:DM):Prop where
 pe:PSs X st (liftS X.K g f)
section
variable {f:DE}
def ny {t t':TE}(h:PE X e t) (w:∀σ H Q,t' σ H Q->t σ H Q):PE X e t':=fun pins s σ H Q I q=>h pins s σ H Q I (w σ H Q q)
def Gw {t t':TT}(h:PT X e t) (w:∀σ H Q,t' σ H Q->t σ H Q):PT X e t':=fun pins s σ H Q I q=>h pins s σ H Q I (w σ H Q q)
def JA {t t':TT}(h:PW X e t) (w:∀σ H Q,t' σ H Q->t σ H Q):PW X e t':=fun B pins s σ H Q I q=>h B pins s σ H Q I (w σ H Q q)
def oH {t t':TA}(h:PA X es t) (w:∀σ H Q,t' σ H Q->t σ H Q):PA X es t':=fun pos pins s σ H Q I q=>h pos pins s σ H Q I (w σ H Q q)
def Hl {st:Stmt}{t t':TS}(h:PS X st t) (w:∀E σ H,t' E σ H->t E σ H):PS X st t':=fun pins s σ H E I q=>h pins s σ H E I (w E σ H q)
def IC {st:List Stmt}{t t':TS}(h:PSs X st t) (w:∀E σ H,t' E σ H->t E σ H):PSs X st t':=fun pins s σ H E I q=>h pins s σ H E I (w E σ H q)
theorem EO.w {f:DE}{t:TE}(h:PE X e t) (w:∀σ H Q,liftE X.K g f σ H Q->t σ H Q):EO X g e f:=#[ny h w]
theorem BO.w {f:DE}{t:TE}(h:PE X e t) (w:∀σ H Q,liftB X.K g f σ H Q->t σ H Q):BO X g e f:=#[ny h w]
theorem FO.w {f:DA}{t:TE}(h:PE X e t) (w:∀σ H Q,liftF X.K g f σ H Q->t σ H Q):FO X g e f:=#[ny h w]
theorem TO.w {f:DT}{t:TT}(h:PT X e t) (w:∀σ H Q,liftT X.K g f σ H Q->t σ H Q):TO X g e f:=#[Gw h w]
theorem WO.w {f:DT}{t:TT}(h:PW X e t) (w:∀σ H Q,liftT X.K g f σ H Q->t σ H Q):WO X g e f:=#[JA h w]
theorem AO.w {f:DA}{t:TA}(h:PA X es t) (w:∀σ H Q,liftA X.K g f σ H Q->t σ H Q):AO X g es f:=#[oH h w]
theorem BAO.w {f:DA}{t:TA}(h:PA X es t) (w:∀σ H Q,liftBA X.K g f σ H Q->t σ H Q):BAO X g es f:=#[oH h w]
theorem SO.w {st:Stmt}{f:DM}{t:TS}(h:PS X st t) (w:∀E σ H,liftS X.K g f E σ H->t E σ H):SO X g st f:=#[Hl h w]
theorem SSO.w {st:List Stmt}{f:DM}{t:TS}(h:PSs X st t) (w:∀E σ H,liftS X.K g f E σ H->t E σ H):SSO X g st f:=#[IC h w]
theorem EO.b (h:EO X g e f):BO X g e f:=BO.w h.pe fun σ H Q ⟨fa,O,s,d,s',I,e,k⟩=>#[fa,O,s,d,s',I,e,fun v H' fa' O' a B r=>k v H' fa' O' a B (r.b fun _ z=>.inr (.inr z))]
noncomputable def o7 (f:DA):DE:=fun s=>(f s).map fun p=>(.lst p.1,p.2)
def eN {K:vF_}{O':vL_}{s:DS}(I:GI K g σ H fa O s) (a:StE fa O H fa' O' H') (J:GI K g σ H' fa' O' s') (e:H p=none) (B:fa'≠some p):¬ NN g.F fa' O' p:=by
 rintro(z | z | z)
 .exact I.trF z e
 .obtain⟨ys,q⟩:=I.owned (a.sub p z);rw[e] at q;cases q
 .exact B z
def FO.v {f:DA}(h:FO X g e f):EO X g e (o7 f):=EO.w h.pe fun σ H Q J=>by
 refine J.elim fun fa O s d s' I e k=>?_
 simp only[o7] at e;cases q:f s with
 |none=>rw[q] at e;cases e
 |some p=>
  obtain⟨ds,s1⟩:=p;rw[q] at e;simp only[OG,KP,Kq] at e;obtain⟨B,M⟩:=e;subst B;subst M;refine#[fa,O,s,ds,s1,I,q,fun p xs H' fa' O' a L B=>k _ H' fa' O' a L.gi ?_];simp only[Rep];exact#[p,xs,rfl,eN I a L.gi B L.nf,L.ls,Reps.go #[fun b ys n q=>#[q,fun z=>n (.inl z)],fun _ _ q=>q,fun _ _ q=>q,fun _ q=>q] ds xs L.rs]
end
def eR {K:vF_}{s:DS}{o:HO}(I:GI K g σ H fa O s) (hp:H p=none):Car K (NN g.F fa O) fa H (fun b=>NN g.F fa O b\/b=p) fa (e7 H p o):=by
 have c:=I.car (B4 (fa:=fa) (O:=O) (o:=o) hp).stp;refine#[fun b xs n q=>?_,c.tp,c.fz,c.fe];obtain⟨J,B⟩:=c.ls b xs n q;refine#[J,?_];rintro(z | z)
 .exact B z
 .subst z;rw[hp] at q;cases q
def X7 {K:vF_}{s:DS}(I:GI K g σ H fa O s) (hp:H p=none) (r:Reps K (NN g.F fa O) fa H ds xs):NewL K g σ (e7 H p (.lst xs)) fa O s p xs ds:=
 #[I.new hp,w6,SlR.go (eR I hp) (fun b ys _ e=>by rw[k9 (S3 e hp)];exact e) I.sl,I.fd.car (eR I hp) (I.fd.same_new hp),Reps.go (eR I hp) ds xs r,fun z=>I.fd.tracked z hp]
def dC (d:D):DE:=fun s=>some (d,s)
def dV (i:Nat):DE:=fun s=>match s.sl[i]? with
 |some (.v d)=>some (d,s)
 |some (.own ds)=>some (.lst ds,{ s with sl:=s.sl.set i (.v (.lst ds)) })
 |_=>none
def dL (i:Nat):DE:=fun s=>match s.sl[i]? with
 |some (.v d)=>some (d,s)
 |some (.own ds)=>some (.lst ds,s)
 |_=>none
def eP {pos:Pos}(h:PE X (.Name x pos) (J8 i)):BO X g (.Name x pos) (dL i):=BO.w h fun σ H Q J=>by
 refine J.elim fun fa O s d s' I e k=>?_
 simp only[dL] at e;cases q:s.sl[i]? with
 |none=>rw[q] at e;cases e
 |some z=>
  rw[q] at e;cases z with
  |no=>cases e
  |dct _=>cases e
  |v U=>
   cases e;obtain⟨u,B,r⟩:=SlR.val I.sl q;exact#[u,B,k u H fa O StE.refl I (r.b fun _ z=>.inr (.inr z))]
  |own ds=>
   cases e;obtain⟨a,xs,B,m,M,r⟩:=SlR.own I.sl q;exact#[_,B,k _ H fa O StE.refl I #[a,xs,rfl,fun z=>I.nf a z m,M,r]]
def L7 {pos:Pos}(h:PE X (.Name x pos) (J8 i)):EO X g (.Name x pos) (dV i):=EO.w h fun σ H Q hQ=>by
 refine hQ.elim fun fa O s d s' I e k=>?_
 simp only[dV] at e;cases q:s.sl[i]? with
 |none=>rw[q] at e;cases e
 |some z=>
  rw[q] at e;cases z with
  |no=>cases e
  |dct _=>cases e
  |v d'=>
   cases e;obtain⟨u,J,r⟩:=SlR.val I.sl q;exact#[u,J,k u H fa O StE.refl I r]
  |own ds=>
   cases e;obtain⟨a,xs,J,m,e2,r⟩:=SlR.own I.sl q;have i':i<s.sl.length:=(KH.mp q).1
   let N1:Addr->Prop:=fun b=>NN g.F fa O b/\b≠a
   have U:Car X.K (NN g.F fa O) fa H N1 fa H:=#[fun b ys n z=>#[z,fun y=>n y.1],fun _ _ z=>z,fun _ _ z=>z,fun _ z=>z]
   have S1:=SlR.go U (fun _ _ _ z=>z) I.sl;have W:Rep X.K N1 fa H (.lst ds) (.ref a):=by
    simp only[Rep];exact#[a,xs,rfl,fun z=>z.2 rfl,e2,Reps.go U ds xs r]
   obtain⟨P,hs,Z,hn⟩:=SlR.put i S1 W;have na:a ∉ P:=hn I.nd a (by rw[q];rfl) #[ds,q] J;have eσ:σ.set i (some (V.ref a))=σ:=by
    apply OM;intro j;by_cases Y:j=i
    .subst Y;rw[J,NA (KH.mp J).1]
    .rw[Mg (Ki Y)]
   rw[eσ] at Z;have B:∀b∈P,b∈O:=fun b hb=>hs.subset hb
   have a1:StE fa O H fa P H:=#[B,.inl rfl,fun _ _ z _=>z,fun _ z=>z]
   have M:Car X.K N1 fa H (NN g.F fa P) fa H:=#[fun b ys n z=>#[z,fun y=>n #[by
     rcases y with y | y | y
     .exact .inl y
     .exact .inr (.inl (B b y))
     .exact .inr (.inr y),fun w=>by
     subst w;rcases y with y | y | y
     .exact I.tr b y (I.fr b m)
     .exact na y
     .exact I.nf b y m]],fun _ _ z=>z,fun _ _ z=>z,fun _ z=>z]
   refine#[_,J,k _ H fa P a1 #[hs.nodup I.nd,SlR.go M (fun _ _ _ z=>z) Z,fun b hb=>I.fr b (B b hb),I.st,I.tr,I.ff,(I.fd.car U fun _ _=>rfl).car M fun _ _=>rfl,fun b z y=>I.nf b z (B b y)] (Rep.go M _ _ W)]
def xj {v:V}(h:PE X e (tC v)) (r:∀K N fa H,Rep K N fa H d v):EO X g e (dC d):=EO.w h fun σ H Q J=>by
 refine J.elim fun fa O s U s' I q k=>?_
 simp only[dC,KP,Kq] at q;obtain⟨M,B⟩:=q;subst M;subst B;exact k v H fa O StE.refl I (r _ _ _ _)
def lS {i j pos}:EO X g (.Constant (.int i) j pos) (dC (.int i)):=xj aU fun _ _ _ _=>by simp only[Rep]
def gc {i j pos}:EO X g (.Constant (.bool i) j pos) (dC (.bl i)):=xj eT fun _ _ _ _=>by simp only[Rep]
def J9 (K:vF_) (r:R2) (p:D->D->Option D):Prop:=
 ∀(g:Gh) (σ:L2.St) (H:Hp) (fa:vA_) (O:vL_) (s:DS) (x y:V) (d1 d2 d:D) (Q:VK),GI K g σ H fa O s->RepB K (NN g.F fa O) fa H d1 x->RepB K (NN g.F fa O) fa H d2 y->p d1 d2=some d ->
  (∀v H',StE fa O H fa O H'->GI K g σ H' fa O s->Rep K (NN g.F fa O) fa H' d v->Q v H')->r x y H Q
def rJ (K:vF_) (r:V->Hp->VK->Prop) (p:D->Option D):Prop:=
 ∀(g:Gh) (σ:L2.St) (H:Hp) (fa:vA_) (O:vL_) (s:DS) (x:V) (d1 d:D) (Q:VK),GI K g σ H fa O s->RepB K (NN g.F fa O) fa H d1 x->p d1=some d ->
  (∀v H',StE fa O H fa O H'->GI K g σ H' fa O s->Rep K (NN g.F fa O) fa H' d v->Q v H')->r x H Q
def ly (K:vF_) (r:R2) (p:D->D->Option (List D)):Prop:=
 ∀(g:Gh) (σ:L2.St) (H:Hp) (fa:vA_) (O:vL_) (s:DS) (x y:V) (d1 d2:D) (ds:vD_) (Q:VK),GI K g σ H fa O s->RepB K (NN g.F fa O) fa H d1 x->RepB K (NN g.F fa O) fa H d2 y->p d1 d2=some ds ->
  (∀q xs H',StE fa O H fa O H'->NewL K g σ H' fa O s q xs ds->H q=none->Q (.ref q) H')->r x y H Q
def W3 (K:vF_) (r:List V->Hp->VK->Prop) (p:List D->Option D):Prop:=
 ∀(g:Gh) (σ:L2.St) (H:Hp) (fa:vA_) (O:vL_) (s:DS) (xs:List V) (ds:vD_) (d:D) (Q:VK),GI K g σ H fa O s->aj K (NN g.F fa O) fa H ds xs->p ds=some d ->
  (∀v H',StE fa O H fa O H'->GI K g σ H' fa O s->Rep K (NN g.F fa O) fa H' d v->Q v H')->r xs H Q
def iL (K:vF_) (r:List V->Hp->VK->Prop) (p:List D->Option (List D)):Prop:=
 ∀(g:Gh) (σ:L2.St) (H:Hp) (fa:vA_) (O:vL_) (s:DS) (xs:List V) (ds es:vD_) (Q:VK),GI K g σ H fa O s->aj K (NN g.F fa O) fa H ds xs->p ds=some es ->
  (∀q ys H',StE fa O H fa O H'->NewL K g σ H' fa O s q ys es->H q=none->Q (.ref q) H')->r xs H Q
noncomputable def a7 (p:D->D->Option D) (a b:DE):DE:=fun s=>(a s).bind fun x=>(b x.2).bind fun y=>(p x.1 y.1).map fun d=>(d,y.2)
def dS (p:D->D->Option (List D)) (a b:DE):DA:=fun s=>(a s).bind fun x=>(b x.2).bind fun y=>(p x.1 y.1).map fun d=>(d,y.2)
noncomputable def t9 (p:D->Option D) (a:DE):DE:=fun s=>(a s).bind fun x=>(p x.1).map fun d=>(d,x.2)
def oF {α:Type}{p:D->D->Option α}{a b:DE}{s:DS}{d:α}(h:((a s).bind fun x=>(b x.2).bind fun y=>(p x.1 y.1).map fun d=>(d,y.2))=some (d,s')):∃x s1 y,a s=some (x,s1)/\b s1=some (y,s')/\p x y=some d:=by
 refine p9 h fun x s1 h1 h=>?_
 refine p9 h fun y s2 h2 h=>?_
 refine F3 h fun U M h=>?_
 simp only[Kq] at h;obtain⟨J,B⟩:=h;subst J;subst B;exact#[x,s1,y,h1,h2,M]
section
variable {a b:Expr}{fa fb:DE}{pos:Pos}{r:R2}{p:D->D->Option D}
def gP {r:R2}{p:D->D->Option D}(hr:J9 X.K r p) (σ:L2.St) (H:Hp) (Q:VK) (h:liftE X.K g (a7 p fa fb) σ H Q):dc r (liftB X.K g fa) (liftB X.K g fb) σ H Q:=by
 obtain⟨f0,O,s,d,s',I,e,k⟩:=h;obtain⟨x,s1,y,h1,h2,h3⟩:=oF e;refine#[f0,O,s,x,s1,I,h1,fun v H1 f1 O1 a1 J W=>#[f1,O1,s1,y,s',J,h2,fun u H2 B U M I2 r2=>?_]];exact hr g σ H2 B U s' v u x y d Q I2 (RepB.stp J M W) r2 h3 fun z Z Y I3 r3=>k z Z B U (a1.trans (M.trans Y)) I3 r3
def AZ {r:R2}{p:D->D->Option (List D)}(hr:ly X.K r p) (σ:L2.St) (H:Hp) (Q:VK) (h:liftF X.K g (dS p fa fb) σ H Q):dc r (liftB X.K g fa) (liftB X.K g fb) σ H Q:=by
 obtain⟨f0,O,s,d,s',I,e,k⟩:=h;obtain⟨x,s1,y,h1,h2,h3⟩:=oF e;refine#[f0,O,s,x,s1,I,h1,fun v H1 f1 O1 W M Y=>#[f1,O1,s1,y,s',M,h2,fun u H2 J U B I2 r2=>?_]];exact hr g σ H2 J U s' v u x y d Q I2 (RepB.stp M B Y) r2 h3 fun q xs H3 Z L e1=>k q xs H3 J U (W.trans (B.trans Z)) L (W.mon _ (B.mon _ e1))
def Eg {op:Operator}(B:OpR X (binaryOp op) r) (J:J9 X.K r p) (ha:BO X g a fa) (hb:BO X g b fb):EO X g (.BinOp a op b pos) (a7 p fa fb):=EO.w (jf B ha.pe hb.pe) (gP J)
def JV {op:Operator}{p:D->D->Option (List D)}(B:OpR X (binaryOp op) r) (J:ly X.K r p) (ha:BO X g a fa) (hb:BO X g b fb):FO X g (.BinOp a op b pos) (dS p fa fb):=FO.w (jf B ha.pe hb.pe) (AZ J)
def lx {op:CmpOp}(B:OpR X (compareOp op) r) (J:J9 X.K r p) (ha:BO X g a fa) (hb:BO X g b fb) (hm:behindInMarks op b=false):EO X g (.Compare a [op] [b] pos) (a7 p fa fb):=EO.w (vt B ha.pe hb.pe hm) (gP J)
def IK {r:R2}(B:IxR X r) (J:J9 X.K r p) (ha:BO X g a fa) (hb:BO X g b fb) (hs:pj b):EO X g (.Subscript a b pos) (a7 p fa fb):=EO.w (xK B ha.pe hb.pe hs) (gP J)
def HN {op:UnaryOp}{r:V->Hp->VK->Prop}{p:D->Option D}(ho:ik X (unaryOp op) r) (W:rJ X.K r p) (ha:BO X g a fa):EO X g (.UnaryOp op a pos) (t9 p fa):=EO.w (Hw ho ha.pe) fun σ H Q Y=>by
 refine Y.elim fun f0 O s d s' I e k=>?_
 refine p9 e fun x s1 h1 h=>?_
 refine F3 h fun B Z h=>?_
 simp only[Kq] at h;obtain⟨e1,e2⟩:=h;subst e1;subst e2;exact#[f0,O,s,x,s1,I,h1,fun v H1 f1 O1 a1 I1 J=>W g σ H1 f1 O1 s1 v x B Q I1 J Z fun z U M I3 r3=>k z U f1 O1 (a1.trans M) I3 r3]
noncomputable def dB (f:DE):DT:=fun s=>(f s).bind fun x=>match x.1 with | .bl b=>some (b,x.2) | _=>none
def jv {f:DE}{s:DS}{b:Bool}(h:dB f s=some (b,s')):f s=some (.bl b,s'):=by
 refine p9 h fun x s1 h1 h=>?_
 cases x with
 |bl c=>simp only[KP,Kq] at h;rw[h1,h.1,h.2]
 |_=>cases h
def FR {op:CmpOp}(B:OpR X (compareOp op) r) (J:J9 X.K r p) (ha:BO X g a fa) (hb:BO X g b fb) (hm:behindInMarks op b=false):TO X g (.Compare a [op] [b] pos) (dB (a7 p fa fb)):=
 TO.w (Hb B ha.pe hb.pe hm) fun σ H Q ⟨f0,O,s,d,s',I,e,k⟩=>gP J σ H _ #[f0,O,s,.bl d,s',I,jv e,fun v H' f1 O1 a M r=>by
  simp only[Rep] at r;exact#[d,r,k H' f1 O1 a M]]
def C2:D->Option Bool
 |.non=>some false
 |.bl b=>some b
 |.int i=>some (i != 0)
 |.str x=>some ((x.length:Int) != 0)
 |.tup ds=>some (!ds.isEmpty)
 |.lst ds=>some (!ds.isEmpty)
 |_=>none
noncomputable def j8 (f:DE):DT:=fun s=>(f s).bind fun x=>(C2 x.1).map fun b=>(b,x.2)
def wq {α β:Type}{xs:List α}{ys:List β}(h:xs.length=ys.length):xs.isEmpty=ys.isEmpty:=by cases xs <;> cases ys <;> simp_all
def mv {e:Expr}{f:DE}(h:BO X g e f) (W:∀whole,isTrue e X.env whole=(do let v <-whole;standAt e.pos;holding [v] (truthy v)):=by intro _;rfl):TO X g e (j8 f):=
 TO.w (zF h.pe W) fun σ H Q M=>by
  refine M.elim fun f0 O s d s' I e k=>?_
  obtain⟨⟨x,s1⟩,h1,h.pe⟩:=Mk.mp e;obtain⟨J,B,h.pe⟩:=OJ.mp h.pe;simp only[Kq] at h.pe;obtain⟨Z,Y⟩:=h.pe;subst Z;subst Y;refine#[f0,O,s,x,s1,I,h1,fun v H' f1 O1 a U r=>#[J,?_,k H' f1 O1 a U]];cases x with
  |non=>simp only[RepB,Rep] at r;subst r;cases B;rfl
  |bl b=>simp only[RepB,Rep] at r;subst r;cases B;rfl
  |int i=>simp only[RepB,Rep] at r;subst r;cases B;rfl
  |str x=>simp only[RepB,Rep] at r;obtain⟨r,l⟩:=r;subst r;cases B;exact#[l,rfl]
  |tup ds=>
   simp only[RepB,Rep] at r;obtain⟨c,xs,r,q,w⟩:=r;subst r;cases B;exact .inr (.inl #[xs,q,by rw[wq w.length]])
  |lst ds=>
   obtain⟨c,xs,r,_,q,w⟩:=r;subst r;cases B;exact .inl #[xs,SqL.of q,by rw[wq w.length]]
  |feed=>cases B
  |scr _=>cases B
  |fn _=>cases B
  |exc _ _=>cases B
noncomputable def r0 (a b:DT):DT:=fun s=>(a s).bind fun x=>if x.1=true then b x.2 else some (false,x.2)
noncomputable def A3 (a b:DT):DT:=fun s=>(a s).bind fun x=>if x.1=true then some (true,x.2) else b x.2
def u9 (a:DT):DT:=fun s=>(a s).map fun x=>(!x.1,x.2)
noncomputable def C9 (a b:DE):DE:=fun s=>(dB a s).bind fun x=>if x.1=true then b x.2 else some (.bl false,x.2)
def D1 (a b:DE):DE:=fun s=>(dB a s).bind fun x=>if x.1=true then some (.bl true,x.2) else b x.2
def C5 (a:DE):DE:=fun s=>(dB a s).map fun x=>(.bl (!x.1),x.2)
variable {ta tb:DT}
def xN (h:TO X g a ta):WO X g (.BoolOp .And [a] pos) ta:=#[Cc h.pe]
def EK (h:TO X g a ta):WO X g (.BoolOp .Or [a] pos) ta:=#[JX h.pe]
def pP (ha:TO X g a ta) (hb:WO X g (.BoolOp .And (b::rest) pos) tb):WO X g (.BoolOp .And (a::b::rest) pos) (r0 ta tb):=WO.w (Bz ha.pe hb.pe) fun σ H Q U=>by
 refine U.elim fun f0 O s d s' I e k=>?_
 refine p9 e fun x s1 h1 h=>?_
 refine#[f0,O,s,x,s1,I,h1,fun H1 f1 O1 J B=>?_];cases x with
 |true=>rw[gV rfl] at h ⊢;exact#[f1,O1,s1,d,s',B,h,fun H2 M Z Y I2=>k H2 M Z (J.trans Y) I2]
 |false=>
  rw[fI Kn] at h ⊢;simp only[KP,Kq] at h;obtain⟨e1,W⟩:=h;subst e1;subst W;exact k H1 f1 O1 J B
def uM (ha:TO X g a ta) (hb:WO X g (.BoolOp .Or (b::rest) pos) tb):WO X g (.BoolOp .Or (a::b::rest) pos) (A3 ta tb):=WO.w (Ea ha.pe hb.pe) fun σ H Q U=>by
 refine U.elim fun f0 O s d s' I e k=>?_
 refine p9 e fun x s1 h1 h=>?_
 refine#[f0,O,s,x,s1,I,h1,fun H1 f1 O1 J B=>?_];cases x with
 |false=>rw[fI Kn] at h ⊢;exact#[f1,O1,s1,d,s',B,h,fun H2 M Z Y I2=>k H2 M Z (J.trans Y) I2]
 |true=>
  rw[gV rfl] at h ⊢;simp only[KP,Kq] at h;obtain⟨e1,W⟩:=h;subst e1;subst W;exact k H1 f1 O1 J B
def WO.t {f:DT}(h:WO X g e f):TO X g e f:=#[h.pe.pt]
def om (ha:TO X g a ta):TO X g (.UnaryOp .Not a pos) (u9 ta):=TO.w (Hj ha.pe) fun σ H Q B=>by
 refine B.elim fun f0 O s d s' I e k=>?_
 refine mapP e fun x s1 h1 h=>?_
 simp only[Kq] at h;obtain⟨W,M⟩:=h;subst W;subst M;exact#[f0,O,s,x,s1,I,h1,fun H1 f1 O1 U J=>k H1 f1 O1 U J]
def HH {op} {f:DE}(h:EO X g a f):EO X g (.BoolOp op [a] pos) f:=#[EV h.pe]
def Iv (ha:EO X g a fa) (hb:EO X g (.BoolOp .And (b::rest) pos) fb):EO X g (.BoolOp .And (a::b::rest) pos) (C9 fa fb):=EO.w (GY ha.pe hb.pe) fun σ H Q U=>by
 refine U.elim fun f0 O s d s' I e k=>?_
 refine p9 e fun x s1 h1 h=>?_
 refine#[f0,O,s,_,s1,I,jv h1,fun v H1 f1 O1 J B r=>#[x,by simpa only[Rep] using r,?_]];cases x with
 |true=>rw[gV rfl] at h ⊢;exact#[f1,O1,s1,d,s',B,h,fun v H2 M Z Y I2=>k v H2 M Z (J.trans Y) I2]
 |false=>
  rw[fI Kn] at h ⊢;simp only[KP,Kq] at h;obtain⟨e1,W⟩:=h;subst e1;subst W;exact k _ H1 f1 O1 J B (by simp only[Rep])
def Gk (ha:EO X g a fa) (hb:EO X g (.BoolOp .Or (b::rest) pos) fb):EO X g (.BoolOp .Or (a::b::rest) pos) (D1 fa fb):=EO.w (zN ha.pe hb.pe) fun σ H Q U=>by
 refine U.elim fun f0 O s d s' I e k=>?_
 refine p9 e fun x s1 h1 h=>?_
 refine#[f0,O,s,_,s1,I,jv h1,fun v H1 f1 O1 J B r=>#[x,by simpa only[Rep] using r,?_]];cases x with
 |false=>rw[fI Kn] at h ⊢;exact#[f1,O1,s1,d,s',B,h,fun v H2 M Z Y I2=>k v H2 M Z (J.trans Y) I2]
 |true=>
  rw[gV rfl] at h ⊢;simp only[KP,Kq] at h;obtain⟨e1,W⟩:=h;subst e1;subst W;exact k _ H1 f1 O1 J B (by simp only[Rep])
def zP (ha:EO X g a fa):EO X g (.UnaryOp .Not a pos) (C5 fa):=EO.w (HF ha.pe) fun σ H Q B=>by
 refine B.elim fun f0 O s d s' I e k=>?_
 refine mapP e fun x s1 h1 h=>?_
 simp only[Kq] at h;obtain⟨U,M⟩:=h;subst U;subst M;exact#[f0,O,s,_,s1,I,jv h1,fun v H1 f1 O1 W J r=>#[x,by simpa only[Rep] using r,k _ H1 f1 O1 W J (by simp only[Rep])]]
noncomputable def A5 (c:DT) (a b:DE):DE:=fun s=>(c s).bind fun x=>if x.1=true then a x.2 else b x.2
def wz (hc:TO X g c fc) (ha:EO X g a fa) (hb:EO X g b fb):EO X g (.IfExp c a b pos) (A5 fc fa fb):=EO.w (DN hc.pe ha.pe hb.pe) fun σ H Q Z=>by
 refine Z.elim fun f0 O s d s' I e k=>?_
 refine p9 e fun x s1 h1 h=>?_
 refine#[f0,O,s,x,s1,I,h1,fun H1 f1 O1 Y W=>?_];cases x with
 |false=>rw[fI Kn] at h ⊢;exact#[f1,O1,s1,d,s',W,h,fun v H2 B M J U=>k v H2 B M (Y.trans J) U]
 |true=>rw[gV rfl] at h ⊢;exact#[f1,O1,s1,d,s',W,h,fun v H2 B M J U=>k v H2 B M (Y.trans J) U]
def b9:DA:=fun s=>some ([],s)
def a0 (a:DE) (r:DA):DA:=fun s=>(a s).bind fun x=>(r x.2).map fun y=>(x.1::y.1,y.2)
def dN {a:DE}{r:DA}{s:DS}(h:a0 a r s=some (ds,s')):∃d s1 es,a s=some (d,s1)/\r s1=some (es,s')/\ds=d::es:=by
 refine p9 h fun x s1 h1 h=>?_
 refine mapP h fun y s2 h2 h=>?_
 simp only[Kq] at h;exact#[x,s1,y,h1,by rw[h2,h.2],h.1.symm]
variable {fr:DA}
def cR:AO X g [] b9:=AO.w X0 fun σ H Q J=>by
 refine J.elim fun f0 O s d s' I e k=>?_
 simp only[b9,KP,Kq] at e;obtain⟨M,B⟩:=e;subst M;subst B;exact k [] H f0 O StE.refl I (by simp only[Reps])
def jM (ha:EO X g a fa) (Y:AO X g es fr) (hs:starEach (a::es) X.env=(false,eval a X.env)::starEach es X.env:=by rfl):AO X g (a::es) (a0 fa fr):=AO.w (Q7 ha.pe Y.pe hs) fun σ H Q Z=>by
 refine Z.elim fun f0 O s ds s' I e k=>?_
 obtain⟨d,s1,es,h1,h2,h3⟩:=dN e;subst h3;refine#[f0,O,s,d,s1,I,h1,fun v H1 f1 O1 a1 B U=>#[f1,O1,s1,es,s',B,h2,fun J H2 W O2 M I2 r2=>?_]];refine k (v::J) H2 W O2 (a1.trans M) I2 ?_;simp only[Reps];exact#[v,J,rfl,Rep.stp B M.stp U,r2]
def gX:BAO X g [] b9:=BAO.w X0 fun σ H Q J=>by
 refine J.elim fun f0 O s d s' I e k=>?_
 simp only[b9,KP,Kq] at e;obtain⟨M,B⟩:=e;subst M;subst B;exact k [] H f0 O StE.refl I (by simp only[aj])
def AQ (ha:BO X g a fa) (Y:BAO X g es fr) (hs:starEach (a::es) X.env=(false,eval a X.env)::starEach es X.env:=by rfl):BAO X g (a::es) (a0 fa fr):=BAO.w (Q7 ha.pe Y.pe hs) fun σ H Q Z=>by
 refine Z.elim fun f0 O s ds s' I e k=>?_
 obtain⟨d,s1,es,h1,h2,h3⟩:=dN e;subst h3;refine#[f0,O,s,d,s1,I,h1,fun v H1 f1 O1 a1 B U=>#[f1,O1,s1,es,s',B,h2,fun J H2 W O2 M I2 r2=>?_]];exact k (v::J) H2 W O2 (a1.trans M) I2 #[v,J,rfl,RepB.stp B M U,r2]
noncomputable def f9 (f:DA):DE:=fun s=>(f s).bind fun x=>if x.1.length<=sizeLine then some (.tup x.1,x.2) else none
noncomputable def r8 (f:DA):DA:=fun s=>(f s).bind fun x=>if x.1.length<=sizeLine then some (x.1,x.2) else none
def BK {x1} (h:AO X g es fr):EO X g (.Tuple es x1 pos) (f9 fr):=EO.w (Ag h.pe) fun σ H Q W=>by
 refine W.elim fun f0 O s d s' I e k=>?_
 obtain⟨⟨ds,s1⟩,h1,h.pe⟩:=Mk.mp e;by_cases hl:ds.length<=sizeLine
 .rw[gV hl] at h.pe;simp only[KP,Kq] at h.pe;obtain⟨e1,Y⟩:=h.pe;subst e1;subst Y;refine#[f0,O,s,ds,s1,I,h1,fun J H1 f1 O1 Z M B=>#[by rw[B.length];exact hl,fun p hp=>?_]];have U:StE f1 O1 H1 f1 O1 (e7 H1 p (.tup J)):=B4 hp;refine k _ _ f1 O1 (Z.trans U) (M.new hp) ?_;simp only[Rep];exact#[p,J,rfl,SqT.of w6,Reps.stp M U.stp B]
 .rw[fI hl] at h.pe;cases h.pe
def Il (h:AO X g es fr):FO X g (.List es pos) (r8 fr):=FO.w (gW h.pe) fun σ H Q U=>by
 refine U.elim fun f0 O s d s' I e k=>?_
 obtain⟨⟨ds,s1⟩,h1,h.pe⟩:=Mk.mp e;by_cases hl:ds.length<=sizeLine
 .rw[gV hl] at h.pe;simp only[KP,Kq] at h.pe;obtain⟨e1,Y⟩:=h.pe;subst e1;subst Y;refine#[f0,O,s,ds,s1,I,h1,fun J H1 f1 O1 M W B=>#[by rw[B.length];exact hl,fun p hp=>?_]];have Z:StE f1 O1 H1 f1 O1 (e7 H1 p (.lst J)):=B4 hp;exact k p J _ f1 O1 (M.trans Z) (X7 W hp B) (M.mon _ hp)
 .rw[fI hl] at h.pe;cases h.pe
end
section
variable {K:vF_}{σ:L2.St}{O':vL_}{s:DS}
def NN.mono {F:vB_}{P:vL_}(h:∀b∈P,b∈O) {b:Addr}(z:NN F fa P b):NN F fa O b:=by
 rcases z with z | z | z
 .exact .inl z
 .exact .inr (.inl (h b z))
 .exact .inr (.inr z)
def kE {F:vB_}(h:∀b,NN F fa O b->N b):Car K N fa H (NN F fa O) fa H:=#[fun b xs n q=>#[q,fun z=>n (h b z)],fun _ _ q=>q,fun _ _ q=>q,fun _ q=>q]
theorem DI.put (I:GI K g σ H fa O s) (i:Nat) {v:V}(r:Rep K (NN g.F fa O) fa H d v):∃P,(∀b∈P,b∈O)/\GI K g (σ.set i (some v)) H fa P { s with sl:=s.sl.set i (.v d) }:=by
 obtain⟨P,hs,S,_⟩:=SlR.put i I.sl r;have B:∀b∈P,b∈O:=fun b hb=>hs.subset hb
 have c:Car K (NN g.F fa O) fa H (NN g.F fa P) fa H:=kE fun b=>NN.mono B
 exact#[P,B,hs.nodup I.nd,SlR.go c (fun _ _ _ z=>z) S,fun b hb=>I.fr b (B b hb),I.st,I.tr,I.ff,I.fd.car c fun _ _=>rfl,fun b z y=>I.nf b z (B b y)]
def ie {P:vL_}(h:∀b∈P,b∈O):StE fa O H fa P H:=#[h,.inl rfl,fun _ _ e _=>e,fun _ e=>e]
def NewL.put (L:NewL K g σ H fa O s p xs ds) (i:Nat) (hi:i<s.sl.length) (B:g.H0 p=none) (hp:p ∉ O):∃P,(∀b∈P,b=p\/b∈O)/\GI K g (σ.set i (some (.ref p))) H fa P { s with sl:=s.sl.set i (.own ds) }:=by
 obtain⟨P,h1,h2,S⟩:=SlR.putN i L.sl hi hp L.gi.nd L.ls L.rs;have c:Car K (fun b=>NN g.F fa O b\/b=p) fa H (NN g.F fa P) fa H:=kE fun b z=>by
  rcases z with z | z | z
  .exact .inl (.inl z)
  .rcases h1 b z with y | y
   .exact .inr y
   .exact .inl (.inr (.inl y))
  .exact .inl (.inr (.inr z))
 refine#[P,h1,h2,SlR.go c (fun _ _ _ z=>z) S,fun b hb=>?_,L.gi.st,L.gi.tr,L.gi.ff,L.fd.car c fun _ _=>rfl,fun b z hb=>?_]
 .rcases h1 b hb with y | y
  .rw[y];exact B
  .exact L.gi.fr b y
 .rcases h1 b hb with y | y
  .rw[y] at z;exact L.nf z
  .exact L.gi.nf b z y
theorem DI.rew (I:GI K g σ H fa O s) {es:vD_}(M:s.sl[i]? = some (.own ds)) (J:σ[i]? = some (some (.ref a))) (m:a∈O) (U:H a=some (.lst xs)) (r:Reps K (NN g.F fa O) fa H es ys) :
  GI K g σ (e7 H a (.lst ys)) fa O { s with sl:=s.sl.set i (.own es) }/\Stp fa O H fa O (e7 H a (.lst ys)):=by
 have B:Stp fa O H fa O (e7 H a (.lst ys)):=#[fun b hb=>.inl hb,.inl rfl,fun b u e n _=>by
  rw[k9 (show b≠a from fun z=>n (by rw[z];exact m))];exact e,fun b z=>by
  by_cases hb:b=a
  .subst hb;rw[w6] at z;cases z
  .rw[k9 hb] at z;exact z]
 have c:=I.car B;have k:∀b u,b≠a->H b=some u->e7 H a (.lst ys) b=some u:=fun b u n e=>by rw[k9 n];exact e
 refine#[#[I.nd,SlR.rew I.sl I.nd (fun b hb=>.inr (.inl hb)) M J w6 c k (Reps.go c es ys r),I.fr,?_,I.tr,I.ff,I.fd.car c fun b hb=>?_,I.nf],B]
 .refine#[fun b hb=>(by cases hb),I.st.fe,fun b u e n f=>?_,fun b z=>I.st.mon b (B.mon b z)];refine k b u (fun z=>?_) (I.st.same b u e n f);rw[z,I.fr a m] at e;cases e
 .refine k9 fun z=>?_
  subst z;exact I.nf _ hb m
end
def FlK.shift {K:vF_}{E:Ends}{O':vL_}{s:DS}(a:Stp fa O H fa' O' H') (h:FlK K g E fa O H fl s):FlK K g E fa' O' H' fl s:=by
 cases fl with
 |next=>exact fun σ' H2 B M J U=>h σ' H2 B M (a.trans J) U
 |brk=>exact fun σ' H2 B M J U=>h σ' H2 B M (a.trans J) U
 |cont=>exact fun σ' H2 B M J U=>h σ' H2 B M (a.trans J) U
 |ret d=>exact fun σ' v H2 B M J U=>h σ' v H2 B M (a.trans J) U
 |thr c ds=>exact fun σ' C W Y xs H2 B M J U=>h σ' C W Y xs H2 B M (a.trans J) U
def n9:DM:=fun s=>some (.next,s)
def A8 (b:DM) (x:Fl × DS):Option (Fl × DS):=match x.1 with
 |.next=>b x.2
 |.brk=>some (.brk,x.2)
 |.cont=>some (.cont,x.2)
 |.ret d=>some (.ret d,x.2)
 |.thr c ds=>some (.thr c ds,x.2)
noncomputable def d6 (a b:DM):DM:=fun s=>(a s).bind (A8 b)
section
variable {st:Stmt}{rest:List Stmt}{pos:Pos}{a b:DM}{f:DE}
def bH:SSO X g [] n9:=SSO.w Fq fun E σ H B=>by
 refine B.elim fun fa O s fl s' I e k=>?_
 cases e;exact k σ H fa O Stp.refl I
def C6 (h:SO X g st a):SSO X g [st] a:=#[FN h.pe]
def o9 (h:SO X g st a) (B:SSO X g rest b):SSO X g (st::rest) (d6 a b):=SSO.w (CU h.pe B.pe) fun E σ H J=>by
 refine J.elim fun fa O s fl s' I e k=>?_
 refine p9 e fun f1 s1 h1 h2=>?_
 refine#[fa,O,s,f1,s1,I,h1,?_];cases f1 with
 |next=>exact fun σ' H' f1 O1 U M=>#[f1,O1,s1,fl,s',M,h2,k.shift U]
 |brk=>cases h2;exact k
 |cont=>cases h2;exact k
 |ret d=>cases h2;exact k
 |thr c ds=>cases h2;exact k
noncomputable def i8 (f:DE):DM:=fun s=>(f s).map fun x=>(.ret x.1,x.2)
def Q4 (M:EO X g e f):SO X g (.Return (some e) pos) (i8 f):=SO.w (FQ M.pe) fun E σ H B=>by
 refine B.elim fun fa O s fl s' I q k=>?_
 refine mapP q fun d s1 h1 h2=>?_
 cases h2;exact#[fa,O,s,d,s1,I,h1,fun v H' f1 O1 U J r=>k σ v H' f1 O1 U.stp J r]
noncomputable def l5 (c:DT) (a b:DM):DM:=fun s=>(c s).bind fun x=>if x.1=true then a x.2 else b x.2
def bo (U:TO X g c fc) (ha:SSO X g la a) (hb:SSO X g lb b):SO X g (.If c la lb pos) (l5 fc a b):=SO.w (JI U.pe ha.pe hb.pe) fun E σ H M=>by
 refine M.elim fun fa O s fl s' I e k=>?_
 refine p9 e fun x s1 h1 h=>?_
 refine#[fa,O,s,x,s1,I,h1,fun H1 f1 O1 J B=>?_];cases x with
 |false=>rw[fI Kn] at h ⊢;exact#[f1,O1,s1,fl,s',B,h,k.shift J.stp]
 |true=>rw[gV rfl] at h ⊢;exact#[f1,O1,s1,fl,s',B,h,k.shift J.stp]
def liftG (K:vF_) (g:Gh) (t:D->DS->Option DS):TG:=fun v σ H Q=>∃fa O s d s',GI K g σ H fa O s/\Rep K (NN g.F fa O) fa H d v/\t d s=some s'/\∀σ' H' fa' O',Stp fa O H fa' O' H'->GI K g σ' H' fa' O' s'->Q σ' H'
def liftGs (K:vF_) (g:Gh) (t:List D->DS->Option DS):X4:=fun B σ H Q=>∃fa O s ds s',GI K g σ H fa O s/\Reps K (NN g.F fa O) fa H ds B/\t ds s=some s'/\∀σ' H' fa' O',Stp fa O H fa' O' H'->GI K g σ' H' fa' O' s'->Q σ' H'
section
variable {K:vF_}{σ:L2.St}{Q:L2.St->Hp->Prop}
def liftG.elim {t:D->DS->Option DS}{v:V}(h:liftG K g t v σ H Q) (k:∀fa O s d s',GI K g σ H fa O s->Rep K (NN g.F fa O) fa H d v->t d s=some s'->(∀σ' H' fa' O',Stp fa O H fa' O' H'->GI K g σ' H' fa' O' s'->Q σ' H')->G):G:=by
 obtain⟨fa,O,s,d,s',a,r,b,c⟩:=h;exact k fa O s d s' a r b c
def liftGs.elim {t:List D->DS->Option DS}{v:List V}(h:liftGs K g t v σ H Q) (k:∀fa O s d s',GI K g σ H fa O s->Reps K (NN g.F fa O) fa H d v->t d s=some s'->(∀σ' H' fa' O',Stp fa O H fa' O' H'->GI K g σ' H' fa' O' s'->Q σ' H')->G):G:=by
 obtain⟨fa,O,s,d,s',a,r,b,c⟩:=h;exact k fa O s d s' a r b c
end
structure GO (X:Cx) (g:Gh) (e:Expr) (t:D->DS->Option DS):Prop where
 pe:PG X e (liftG X.K g t)
structure GsO (X:Cx) (g:Gh) (es:List Expr) (t:List D->DS->Option DS):Prop where
 pe:aS X es (liftGs X.K g t)
def d5 (i:Nat) (d:D):DS->Option DS:=fun s=>some { s with sl:=s.sl.set i (.v d) }
def Ii {t t':TG}(h:PG X e t) (w:∀v σ H Q,t' v σ H Q->t v σ H Q):PG X e t':=fun pins s σ H v u Q I r q=>h pins s σ H v u Q I r (w v σ H Q q)
def HX {t t':X4}(h:aS X es t) (w:∀v σ H Q,t' v σ H Q->t v σ H Q):aS X es t':=fun pins s σ H v u Q I r q=>h pins s σ H v u Q I r (w v σ H Q q)
theorem GO.w {f:D->DS->Option DS}{t:TG}(h:PG X e t) (w:∀v σ H Q,liftG X.K g f v σ H Q->t v σ H Q):GO X g e f:=#[Ii h w]
theorem GsO.w {f:List D->DS->Option DS}{t:X4}(h:aS X es t) (w:∀v σ H Q,liftGs X.K g f v σ H Q->t v σ H Q):GsO X g es f:=#[HX h w]
def AM (h:PG X (.Name x pos) (T9 i)):GO X g (.Name x pos) (d5 i):=GO.w h fun v σ H Q J=>by
 refine J.elim fun fa O s d s' I r e k=>?_
 cases e;obtain⟨P,B,M⟩:=I.put i r;exact k _ H fa P (ie B).stp M
def u3:List D->DS->Option DS
 |[],s=>some s
 |_::_,_=>none
def k6 (t:D->DS->Option DS) (u:List D->DS->Option DS):List D->DS->Option DS
 |[],_=>none
 |d::r,s=>(t d s).bind (u r)
def zT:GsO X g [] u3:=GsO.w jT fun v σ H Q B=>by
 refine B.elim fun fa O s ds s' I r e k=>?_
 cases ds with
 |nil=>cases e;simp only[Reps] at r;exact#[r,k σ H fa O Stp.refl I]
 |cons d J=>cases e
def Ij {es:List Expr}{t:D->DS->Option DS}{u:List D->DS->Option DS}(h:GO X g e t) (M:GsO X g es u) (hs:(assignEach (e::es) X.env).map (·.2)=assign e X.env::(assignEach es X.env).map (·.2):=by rfl):GsO X g (e::es) (k6 t u):=
 GsO.w (fN h.pe M.pe hs) fun v σ H Q U=>by
  refine U.elim fun fa O s ds s' I r e k=>?_
  cases ds with
  |nil=>cases e
  |cons d r'=>
   refine C8 e fun s1 h1 h2=>?_
   simp only[Reps] at r;obtain⟨x,ys,rfl,Y,Z⟩:=r;exact#[x,ys,rfl,fa,O,s,d,s1,I,Y,h1,fun σ1 H1 f1 O1 B W=>#[f1,O1,s1,r',s',W,Reps.stp I B Z,h2,fun σ2 H2 J O2 a2 I2=>k σ2 H2 J O2 (B.trans a2) I2]]
def t6 (n:Nat) (u:List D->DS->Option DS) (d:D) (s:DS):Option DS:=match d with
 |.tup ds=>if ds.length=n then u ds s else none
 |_=>none
def Jv {es:List Expr}{k:Nat}{n:Nat}{u:List D->DS->Option DS}(U:X.calm=true) (h:GsO X g es u) (M:(assignEach es X.env).length=n:=by rfl) (B:(assignEach es X.env).findIdx? (·.1)=none:=by rfl):GO X g (.Tuple es k pos) (t6 n u):=
 GO.w (kD U h.pe M B) fun v σ H Q J=>by
  refine J.elim fun fa O s d s' I r e k=>?_
  cases d with
  |tup ds=>
   simp only[t6] at e;by_cases hl:ds.length=n
   .rw[gV hl] at e;simp only[Rep] at r;obtain⟨a,xs,rfl,q,w⟩:=r;exact#[a,xs,rfl,q,by rw[w.length];exact hl,fa,O,s,ds,s',I,w,e,k]
   .rw[fI hl] at e;cases e
  |_=>cases e
noncomputable def f7 (f:DE) (t:D->DS->Option DS):DM:=fun s=>(f s).bind fun x=>(t x.1 x.2).map fun s'=>(.next,s')
def wK {f:DE}{t:D->DS->Option DS}(E:Ends) (σ:L2.St) (H:Hp) (h:liftS X.K g (f7 f t) E σ H):eS (liftE X.K g f) (liftG X.K g t) E σ H:=by
 obtain⟨fa,O,s,fl,s',I,q,k⟩:=h;refine p9 q fun d s1 h1 h2=>?_
 refine F3 h2 fun s2 M h4=>?_
 cases h4;exact#[fa,O,s,d,s1,I,h1,fun v H1 f1 O1 Y J r=>#[f1,O1,s1,d,_,J,r,M,fun σ2 H2 B W U Z=>k σ2 H2 B W (Y.stp.trans U) Z]]
def Fy {tg:Expr}{t:D->DS->Option DS}(J:EO X g e f) (B:GO X g tg t) (hs:swapsWithSole [tg] e pos.line X.env=pure false:=by rfl) (M:swappedStores [tg] e X.env=pure none:=by rfl)
  (h1:(assignEach [tg] X.env).map (·.2)=[assign tg X.env]:=by rfl):SO X g (.Assign [tg] e pos) (f7 f t):=SO.w (jS J.pe B.pe hs M h1) wK
def wc {i:Nat}{x:Str}{pos':Pos}(Y:X.N.Nodup) (hi:X.N[i]? = some x) (U:Loc X.env.scope x) (Z:EO X g e f) (hs:swapsWith e (some (.Name x pos')) pos.line X.env=pure false:=by rfl) (hf:X.fn x=true\/X.env.scope.names.lookup x=some .local:=by first | exact .inl rfl | exact .inr rfl | assumption) :
  SO X g (.Assign [.Name x pos'] e pos) (f7 f (d5 i)):=SO.w (iP Y hi U Z.pe hs hf) fun E σ H h=>by
 obtain⟨fa,O,s,d,s1,I,h1,k⟩:=wK E σ H h;refine#[fa,O,s,d,s1,I,h1,fun v H1 f1 O1 a1 W r=>?_];obtain⟨J,O2,s2,d2,s3,I2,r2,e2,M⟩:=k v H1 f1 O1 a1 W r;cases e2;obtain⟨P,B,I'⟩:=I2.put i r2;exact M _ H1 J P (ie B).stp I'
noncomputable def C1 (i:Nat) (f:DA):DM:=fun s=>(f s).bind fun x=>if i<x.2.sl.length then some (.next,{ x.2 with sl:=x.2.sl.set i (.own x.1) }) else none
def qw {i:Nat}{x:Str}{f:DA}{pos':Pos}(J:X.N.Nodup) (hi:X.N[i]? = some x) (Y:Loc X.env.scope x) (M:FO X g e f) (hs:swapsWith e (some (.Name x pos')) pos.line X.env=pure false:=by rfl) (U:X.fn x=true\/X.env.scope.names.lookup x=some .local:=by first | exact .inl rfl | exact .inr rfl | assumption) :
  SO X g (.Assign [.Name x pos'] e pos) (C1 i f):=SO.w (iP J hi Y M.pe hs U) fun E σ H Z=>by
 refine Z.elim fun fa O s fl s' I q k=>?_
 refine p9 q fun ds s1 h1 h2=>?_
 by_cases hl:i<s1.sl.length
 .simp only[] at h2;rw[gV hl] at h2;cases h2;refine#[fa,O,s,ds,s1,I,h1,fun p xs H1 f1 O1 B L hp=>?_];have np:p ∉ O1:=fun z=>by
   obtain⟨ys,e⟩:=I.owned (B.sub p z);rw[hp] at e;cases e
  obtain⟨P,sub,W⟩:=L.put i hl (I.st.mon p hp) np;refine k _ H1 f1 P #[fun b hb=>?_,B.fe,fun b u e _ n=>B.same b u e n,B.mon] W;rcases sub b hb with y | y
  .exact .inr (by rw[y];exact hp)
  .exact .inl (B.sub b y)
 .simp only[] at h2;rw[fI hl] at h2;cases h2
noncomputable def J2 (i:Nat) (f:DE):DM:=fun s=>match s.sl[i]? with
 |some (.own _)=>(f s).bind fun x=>match x.2.sl[i]? with
  |some (.own ds)=>if ds.length<sizeLine then some (.next,{ x.2 with sl:=x.2.sl.set i (.own (ds++[x.1])) }) else none
  |_=>none
 |_=>none
def zt {i:Nat}{x:Str}{p1 p2 p3 p4:Pos}(hv:PE X (.Name x p1) (J8 i)) (he:EO X g e f) (J:attributeBase (.Name x p1) ("append" : Str) X.env (eval (.Name x p1) X.env)=eval (.Name x p1) X.env:=by rfl)
  (Y:((backTo p3 (starEach [e] X.env)).all (fun x=>!x.1)&&(backToKw p3 (keywordEach [] X.env)).all (fun x=>x.1.isSome)
   && decide ([e].length+([]:List Keyword).length+(if ([]:List Keyword).isEmpty then 0 else 1)<30))=true:=by rfl)
  (U:(p2.endLine == p3.line)=true:=by rfl) (hs:starEach [e] X.env=(false,eval e X.env)::starEach [] X.env:=by rfl) (B:(backTo p3 (starEach [] X.env)).any (·.1)=false:=by rfl)
  (hsw:swapsWith (.Call (.Attribute (.Name x p1) ("append" : Str) p2) [e] [] p3) none p4.line X.env=pure false:=by rfl) :
  SO X g (.Expr (.Call (.Attribute (.Name x p1) ("append" : Str) p2) [e] [] p3) p4) (J2 i f):=
 SO.w (ji (mT NK PySem.F.slot_list_append PySem.F.type_list_append nN hv (Q7 he.pe X0 hs) J Y U hs B) hsw) fun E σ H hQ=>by
  refine hQ.elim fun fa O s fl s' I q k=>?_
  cases W:s.sl[i]? with
  |none=>simp only[J2,W] at q;cases q
  |some z=>
  cases z with
  |no=>simp only[J2,W] at q;cases q
  |dct _=>simp only[J2,W] at q;cases q
  |v _=>simp only[J2,W] at q;cases q
  |own ds0=>
  simp only[J2,W] at q;obtain⟨a,Z,e1,m,e2,_⟩:=SlR.own I.sl W;refine p9 q fun d s1 h1 h2=>?_
  cases M:s1.sl[i]? with
  |none=>simp only[M] at h2;cases h2
  |some z=>
   cases z with
   |no=>simp only[M] at h2;cases h2
   |dct _=>simp only[M] at h2;cases h2
   |v _=>simp only[M] at h2;cases h2
   |own ds=>
    simp only[M] at h2;by_cases hl:ds.length<sizeLine
    .rw[gV hl] at h2;cases h2;refine#[_,e1,.inl #[rfl,Z,SqL.of e2],fa,O,s,d,s1,I,h1,fun v H1 f1 O1 a1 I1 r=>?_];obtain⟨b,xs,e3,m1,e4,r1⟩:=SlR.own I1.sl M;rw[e1] at e3;cases e3;obtain⟨I2,a2⟩:=I1.rew M e1 m1 e4 (Reps.append r1 (Reps.one r));exact#[a,xs,v,rfl,rfl,e4,by rw[r1.length];exact hl,k σ _ f1 O1 (a1.stp.trans a2) I2]
    .rw[fI hl] at h2;cases h2
end
noncomputable def u6 (t:D->DS->Option DS) (b:DM):List D->DS->Option (Fl × DS)
 |[],s=>some (.next,s)
 |d::r,s=>(t d s).bind fun s1=>(b s1).bind fun x=>match x.1 with
  |.next=>u6 t b r x.2
  |.cont=>u6 t b r x.2
  |.brk=>some (.next,x.2)
  |.ret v=>some (.ret v,x.2)
  |.thr c ds=>some (.thr c ds,x.2)
def U6 (K:vF_) (g:Gh) (f1:vA_) (O1:vL_) (H1:Hp) (t:D->DS->Option DS) (b:DM) (ds:vD_) (fl:Fl) (sf:DS) (i:Nat):L2.St->Hp->Prop:=fun σ' H'=>
 ∃fa' O' s',Stp f1 O1 H1 fa' O' H'/\GI K g σ' H' fa' O' s'/\u6 t b (ds.drop i) s'=some (fl,sf)
section
variable {K:vF_}{f1:vA_}{O1:vL_}{H1:Hp}{t:D->DS->Option DS}{b:DM}{fl:Fl}{sf:DS}{E:Ends}{σ':L2.St}
def xt {α:Type}{l:List α}{d:α}(h:l[i]? = some d):l.drop i=d::l.drop (i+1):=by
 obtain⟨hi,e⟩:=KH.mp h;rw[List.drop_eq_getElem_cons hi,e]
def fu (hk:FlK K g E f1 O1 H1 fl sf) {x:V}(hd:ds[i]? = some d) (hr:∀fa' O',Stp f1 O1 H1 fa' O' H'->Rep K (NN g.F fa' O') fa' H' d x) (h:U6 K g f1 O1 H1 t b ds fl sf i σ' H') :
  liftG K g t x σ' H' fun σ2 H2=>liftS K g b { E with nx:=U6 K g f1 O1 H1 t b ds fl sf (i+1),ct:=U6 K g f1 O1 H1 t b ds fl sf (i+1),bk:=E.nx } σ2 H2:=by
 obtain⟨fa',O',s',st,I,e⟩:=h;rw[xt hd,u6] at e;refine C8 e fun s1 h1 h2=>?_
 refine p9 h2 fun fb s2 h3 h4=>?_
 refine#[fa',O',s',d,s1,I,hr fa' O' st,h1,fun σ2 H2 Z O2 Y I2=>#[Z,O2,s1,fb,s2,I2,h3,?_]];cases fb with
 |next=>exact fun σ3 W J M B U=>#[J,M,s2,st.trans (Y.trans B),U,h4]
 |cont=>exact fun σ3 W J M B U=>#[J,M,s2,st.trans (Y.trans B),U,h4]
 |brk=>cases h4;exact fun σ3 W J M B U=>hk σ3 W J M (st.trans (Y.trans B)) U
 |ret v=>cases h4;exact fun σ3 v W J M B U r=>hk σ3 v W J M (st.trans (Y.trans B)) U r
 |thr c es=>cases h4;exact fun σ3 C dx od xs W J M B U=>hk σ3 C dx od xs W J M (st.trans (Y.trans B)) U
def dP (hk:FlK K g E f1 O1 H1 fl sf) (B:ds.length<=n) (h:U6 K g f1 O1 H1 t b ds fl sf n σ' H'):E.nx σ' H':=by
 obtain⟨fa',O',s',st,I,e⟩:=h;rw[Py B,u6] at e;cases e;exact hk σ' H' fa' O' st I
end
noncomputable def J4 (f:DE) (t:D->DS->Option DS) (b:DM):DM:=fun s=>(f s).bind fun x=>match x.1 with
 |.lst ds=>u6 t b ds x.2
 |.tup ds=>u6 t b ds x.2
 |_=>none
section
variable {f:DE}{t:D->DS->Option DS}{b:DM}{pos:Pos}
def EH (K:vF_) (tl:TE):TI:=fun σ H R=>tl σ H fun x H1=>∃a,x = .ref a/\(((∃xs,SqL K H1 a xs)/\R (dZ K a) H1)\/((∃xs,SqT K H1 a xs)/\R (eQ K a) H1))
def lQ {l:Expr}(hl:PE X l tl):PI X tg l (EH X.K tl):=by
 intro pins s σ H R I h;refine j9 (hl pins s σ H _ I h) fun v s1 ⟨x,H1,B,M,W⟩=>?_
 obtain⟨a,e,q⟩:=W;subst e;cases M;rcases q with ⟨⟨xs,J⟩,q⟩ | ⟨⟨xs,J⟩,q⟩
 .obtain⟨its,Y,p,U⟩:=B.list J;refine wpAny_pyIter_list p.isList ?_;refine#[s1.heap.objs.size,[s1.heap.objs.size],_,_,H1,rfl,B.kept (t':=s1.toks) fun b o e=>Kg _ e,FI a _,#[_,Ky _ rfl,rfl,rfl],fun b hb=>?_,q];have e:b=s1.heap.objs.size:=by simpa using hb
  subst e;exact B.fpOk (iU _) (B.hok.fresh (iU _))
 .obtain⟨its,Y,p,U⟩:=B.tuple J;refine wpAny_pyIter_tuple (show s1.heap.IsTuple a its.toArray from p) ?_;refine#[s1.heap.objs.size,[s1.heap.objs.size],_,_,H1,rfl,B.kept (t':=s1.toks) fun b o e=>Kg _ e,Bg a _,#[_,Ky _ rfl,rfl,rfl],fun b hb=>?_,q];have e:b=s1.heap.objs.size:=by simpa using hb
  subst e;exact B.fpOk (iU _) (B.hok.fresh (iU _))
def T5 (hp:PassesOwn (model X.prog X.w) X.A X.env X.xe) (hc:X.calm=true) (he:EO X g iter f) (hg:GO X g tg t) (hb:SSO X g body b) (hs:∀x,foldedSetIterable iter X.env x=pure x:=by intro _;rfl) :
  SO X g (.For tg iter body [] pos) (J4 f t b):=SO.w (jy hp hc (lQ he.pe) hg.pe hb.pe hs) fun E σ H Y=>by
 refine Y.elim fun fa O s fl sf I q k=>?_
 refine p9 q fun d s1 h1 h2=>?_
 refine#[fa,O,s,d,s1,I,h1,fun v H1 f1 O1 a1 B r=>?_];have J:=k.shift a1.stp;cases d with
 |lst ds=>
  simp only[Rep] at r;obtain⟨a,xs,rfl,Z,q,w⟩:=r;refine#[a,rfl,.inl #[#[xs,SqL.of q],Fm (xs:=xs) (U6 X.K g f1 O1 H1 t b ds fl sf) #[f1,O1,s1,Stp.refl,B,h2] ?_ ?_ ?_]]
  .rintro i σ' H' _ ⟨fa',O',s',st,I',e⟩;exact SqL.of ((B.car st).ls a xs Z q).1
  .intro i x σ' H' U h;obtain⟨d,W,M⟩:=Reps.get' w U;exact fu J W (fun fa' O' st=>Rep.stp B st M) h
  .intro σ' H' h;exact dP J (NI w.length.symm) h
 |tup ds=>
  simp only[Rep] at r;obtain⟨a,xs,rfl,q,w⟩:=r;refine#[a,rfl,.inr #[#[xs,q],eU (xs:=xs) (U6 X.K g f1 O1 H1 t b ds fl sf) #[f1,O1,s1,Stp.refl,B,h2] ?_ ?_ ?_]]
  .rintro i σ' H' _ ⟨fa',O',s',st,I',e⟩;exact(B.car st).tp a xs q
  .intro i x σ' H' U h;obtain⟨d,W,M⟩:=Reps.get' w U;exact fu J W (fun fa' O' st=>Rep.stp B st M) h
  .intro σ' H' h;exact dP J (NI w.length.symm) h
 |_=>cases h2
def B0 (lo:Int) (n:Nat):List D:=(List.range n).map fun (i:Nat)=>D.int (lo+(i:Int))
def mX {lo:Int}(h:i<n):(B0 lo n)[i]? = some (.int (lo+(i:Int))):=by simp[B0,h]
def eA (lo:Int) (n:Nat):(B0 lo n).length=n:=by simp[B0]
def V6:List D->Option (List D)
 |[.int j]=>if -(2 ^ 62)<=j/\j<2 ^ 62 then some (B0 0 j.toNat) else none
 |[.int i,.int j]=>if -(2 ^ 62)<=i/\i<2 ^ 62 /\ -(2 ^ 62)<=j/\j<2 ^ 62 then some (B0 i (j - i).toNat) else none
 |_=>none
noncomputable def bB (f:DA) (t:D->DS->Option DS) (b:DM):DM:=fun s=>(f s).bind fun x=>(V6 x.1).bind fun ds=>u6 t b ds x.2
def tW {es:vD_}{a:D}(h:V6 ds=some es) (l:ds=[a]):∃j:Int,a = .int j /\ -(2 ^ 62)<=j/\j<2 ^ 62/\es=B0 0 j.toNat:=by
 subst l;cases a with
 |int j=>
  have h:(if -(2 ^ 62)<=j/\j<2 ^ 62 then some (B0 0 j.toNat) else none)=some es:=h;by_cases B:-(2 ^ 62)<=j/\j<2 ^ 62
  .rw[gV B] at h;cases h;exact#[j,rfl,B.1,B.2,rfl]
  .rw[fI B] at h;cases h
 |_=>cases h
def ig {a:Expr}{fa:DE}{p cpos:Pos}(hp:PassesOwn (model X.prog X.w) X.A X.env X.xe) (hc:X.calm=true) (J:Gl X "range") (hm:X.mg "range" = none) (ha:EO X g a fa) (hg:GO X g tg t) (hb:SSO X g body b)
  (B:starEach [a] X.env=[(false,eval a X.env)]:=by rfl) (hs:∀x,foldedSetIterable (.Call (.Name "range" p) [a] [] cpos) X.env x=pure x:=by intro _;rfl) :
  SO X g (.For tg (.Call (.Name "range" p) [a] [] cpos) body [] pos) (bB (a0 fa b9) t b):=
 SO.w (jy hp hc (pJ J hm (jM ha cR B).pe B) hg.pe hb.pe hs) fun E σ H W=>by
  refine W.elim fun fa O s fl sf I q k=>?_
  refine p9 q fun ds s1 h1 h2=>?_
  refine C8 h2 fun es Y h4=>?_
  obtain⟨d,s2,rs,e1,Z,M⟩:=dN h1;cases Z;obtain⟨j,rfl,j1,j2,rfl⟩:=tW Y M;refine#[fa,O,s,ds,s1,I,h1,fun vs H1 f1 O1 a1 I1 r=>?_];have U:=k.shift a1.stp;rw[M] at r;simp only[Reps,Rep] at r;obtain⟨x,ys,rfl,rfl,rfl⟩:=r;refine#[j,rfl,j1,j2,BI (lo:=0) (n:=j.toNat) (U6 X.K g f1 O1 H1 t b (B0 0 j.toNat) fl sf) #[f1,O1,s1,Stp.refl,I1,h4] ?_ ?_]
  .intro i σ' H' hi h;exact fu U (mX hi) (fun fa' O' st=>by simp only[Rep]) h
  .intro σ' H' h;exact dP U (by rw[eA];exact iU _) h
def L1 (c:DT) (b:DM):Nat->DS->Option (Fl × DS)
 |0,_=>none
 |n+1,s=>(c s).bind fun x=>if x.1=true then (b x.2).bind fun y=>match y.1 with
   |.next=>L1 c b n y.2
   |.cont=>L1 c b n y.2
   |.brk=>some (.next,y.2)
   |.ret v=>some (.ret v,y.2)
   |.thr c ds=>some (.thr c ds,y.2)
  else some (.next,x.2)
open Classical in
def N8 (c:DT) (b:DM):DM:=fun s=>if h:∃n r,L1 c b n s=some r then L1 c b h.choose s else none
theorem jX {c:DT}{b:DM}:∀(n:Nat) {s:DS}{r:Fl × DS},L1 c b n s=some r->L1 c b (n+1) s=some r
 |0,s,r,h=>by cases h
 |n+1,s,r,h=>by
  rw[L1] at h ⊢;refine p9 h fun x s1 h1 h2=>?_
  refine Mk.mpr #[(x,s1),h1,?_];cases x with
  |false=>exact h2
  |true=>
   simp only[KG] at h2 ⊢;refine p9 h2 fun y s2 B h4=>?_
   refine Mk.mpr #[(y,s2),B,?_];cases y with
   |next=>exact jX n h4
   |cont=>exact jX n h4
   |brk=>exact h4
   |ret v=>exact h4
   |thr c ds=>exact h4
def nJ {c:DT}{b:DM}{m:Nat}(B:n<=m) {s:DS}(h:L1 c b n s=some r):L1 c b m s=some r:=by
 induction B with
 |refl=>exact h
 |step _ J=>exact jX _ J
def uT {c:DT}{b:DM}{s:DS}(h:L1 c b n s=some r):N8 c b s=some r:=by
 have B:∃n r,L1 c b n s=some r:=#[n,r,h]
 unfold N8;rw[dif_pos B];obtain⟨U,h'⟩:=B.choose_spec;have M:=nJ (Nat.le_max_left n B.choose) h;have J:=nJ (Nat.le_max_right n B.choose) h';rw[M] at J;rw[h',J]
def sP {c:DT}{b:DM}{s:DS}(h:N8 c b s=some r):∃n,L1 c b n s=some r:=by
 unfold N8 at h;by_cases B:∃n r,L1 c b n s=some r
 .rw[dif_pos B] at h;exact#[_,h]
 .rw[dif_neg B] at h;cases h
def kK {c:DT}{b:DM}{s:DS}(h1:c s=some (true,s1)) (h2:b s1=some (.next,s2)) (B:N8 c b s2=some r):N8 c b s=some r:=by
 obtain⟨n,h⟩:=sP B;refine uT (n:=n+1) ?_;rw[L1,h1];simp only[xr,KG,h2];exact h
def fR {c:DT}{b:DM}{s:DS}(h1:c s=some (false,s1)):N8 c b s=some (.next,s1):=by
 refine uT (n:=1) ?_;rw[L1,h1];simp
def nK (hp:PassesOwn (model X.prog X.w) X.A X.env X.xe) (hc:TO X g c fc) (hb:SSO X g body b):SO X g (.While c body [] pos) (N8 fc b):=SO.w (DB hp hc.pe hb.pe) fun E σ H hQ=>by
 refine hQ.elim fun fa O s fl sf I q k=>?_
 obtain⟨n,h⟩:=sP q;refine#[fun m σ' H'=>∃fa' O' s',Stp fa O H fa' O' H'/\GI X.K g σ' H' fa' O' s'/\L1 fc b m s'=some (fl,sf),#[n,fa,O,s,Stp.refl,I,h],?_];rintro m σ1 H1 ⟨f1,O1,s1,a1,I1,h1⟩;cases m with
 |zero=>cases h1
 |succ m=>
  rw[L1] at h1;refine p9 h1 fun x s2 h2 h3=>?_
  refine#[f1,O1,s1,x,s2,I1,h2,fun H2 f2 O2 a2 I2=>?_];cases x with
  |false=>rw[fI Kn] at h3 ⊢;cases h3;exact k σ1 H2 f2 O2 (a1.trans a2.stp) I2
  |true=>
   rw[gV rfl] at h3 ⊢;refine p9 h3 fun y s3 h4 Z=>?_
   refine#[fun σ' H'=>∃fa' O' s',Stp fa O H fa' O' H'/\GI X.K g σ' H' fa' O' s'/\L1 fc b m s'=some (fl,sf),fun σ' H' z=>#[m,OI m,z],f2,O2,s2,y,s3,I2,h4,?_];have B:=a1.trans a2.stp;cases y with
   |next=>exact fun σ3 Y W M J U=>#[W,M,s3,B.trans J,U,Z]
   |cont=>exact fun σ3 Y W M J U=>#[W,M,s3,B.trans J,U,Z]
   |brk=>cases Z;exact fun σ3 Y W M J U=>k σ3 Y W M (B.trans J) U
   |ret v=>cases Z;exact fun σ3 v Y W M J U r=>k σ3 v Y W M (B.trans J) U r
   |thr c es=>cases Z;exact fun σ3 C dx od xs Y W M J U=>k σ3 C dx od xs Y W M (B.trans J) U
end
abbrev a8:=List D->Option FS->Option (D × Option FS)
variable {m m00 m02:a8}{tab:List (PySem.Str × a8)}
def ao (K:vF_) (n:Nat) (m:a8):Sp:=fun B H Q _=>∃(F:vB_) (fa:vA_) (ds:vD_) (fs:vO_) (d:D) (fs':vO_),
 (∀b,F b->H b≠none)/\(∀a,fa=some a->F a)/\Reps K F fa H ds B/\FeedR F H fa fs/\m ds fs=some (d,fs')/\ds.length=n /\
  ∀v H' fa',Stp fa [] H fa' [] H'->FeedR (fun b=>F b\/fa'=some b) H' fa' fs'->Rep K (fun b=>F b\/fa'=some b) fa' H' d v->Q v H'
abbrev bN (P:Program) (w:World) (K:vF_) (mg:vG_) (base:Heap) (k:Nat) (f:Addr) (fd:FuncData) (ps:List Str) (m:a8):Prop:=FnOk P w K mg base V0 k f fd ps (ao K ps.length m)
noncomputable def o8 (n:Nat) (b:DM):a8:=fun ds fs=>(b #[ds.map .v++List.replicate (n - ds.length) .no,fs]).bind fun x=>match x.1 with
 |.ret d=>some (d,x.2.fs)
 |.next=>some (.non,x.2.fs)
 |_=>none
theorem vQ {K:vF_}:∀n:Nat,SlR K N fa H (List.replicate n .no) (List.replicate n none) []
 |0=>by simp[SlR]
 |n+1=>by
  simp only[Mj,SlR];exact#[_,_,rfl,vQ n]
theorem qz {K:vF_}:∀{ds:vD_}{vs:List V},Reps K N fa H ds vs->SlR K N fa H (ds.map .v++List.replicate n .no) (vs.map some++List.replicate n none) []
 |[],vs,h=>by simp only[Reps] at h;subst h;simpa using vQ n
 |d::r,vs,h=>by
  simp only[Reps] at h;obtain⟨x,ys,rfl,h1,h2⟩:=h;simp only[Ku,OK,SlR];exact#[x,_,rfl,h1,qz h2]
section
variable {P:Program}{w:World}{K:vF_}
def oo {st:Stmt}{f:Addr}{N ps:List Str}{b:DM}(F:Fun K x qual st f fd) (S:FnScope N ps (D3 st))
  (B:∀(cdv:Value) (A:Around) (outer:List Env) (s:Shared) (H:Hp) (E:XK) (g:Gh),Room k (A.deeper (PyProof.Rows.envOfC qual (D3 st) s.heap.objs.size f cdv))->SSO (X6 V0 P w K mg base N qual (D3 st) f cdv A outer s H E).nox g (Q0 st) b) :
  bN P w K mg base (k+1) f fd ps (o8 N.length b):=by
 refine F.ok S (fun W H Q E h=>?_) (fun cdv A outer s H W Q E hr h=>?_)
 .obtain⟨F,fa,ds,fs,d,fs',_,_,r,_,_,hl,_⟩:=h;rw[r.length];exact hl
 obtain⟨F,fa,ds,fs,d,fs',tr,ff,r,fd,e,hl,q⟩:=h;refine#[_,(B cdv A outer s H E #[F,H,fa,fun _=>E0] hr).pe,?_];refine p9 e fun fl s' h1 h2=>?_
 have hN:∀b,NN F fa [] b->F b:=fun b z=>by
  rcases z with z | z | z
  .exact z
  .cases z
  .exact ff b z
 have c:Car K F fa H (NN F fa []) fa H:=#[fun b xs n q=>#[q,fun z=>n (hN b z)],fun _ _ q=>q,fun _ _ q=>q,fun _ q=>q]
 have el:(L2.start N W)=W.map some++List.replicate (N.length - ds.length) none:=by rw[L2.start,r.length]
 have I:GI K #[F,H,fa,fun _=>E0] (L2.start N W) H fa [] #[ds.map .v++List.replicate (N.length - ds.length) .no,fs]:=by
  refine#[Mz,?_,fun b hb=>(by cases hb),Stp.refl,tr,ff,fd.car c fun _ _=>rfl,fun _ _ z=>(by cases z)];rw[el];exact qz (Reps.go c ds W r)
 have M:∀{fa':vA_}{O':vL_}{H':Hp}{σ':L2.St}{v:V}{dd:D},Stp fa [] H fa' O' H'->GI K #[F,H,fa,fun _=>E0] σ' H' fa' O' s'->Rep K (NN F fa' O') fa' H' dd v->dd=d->s'.fs=fs'->Q v H':=by
  intro fa' O' H' σ' v dd J U Y e1 e2;subst e1;subst e2;have Z:Car K (NN F fa' O') fa' H' (fun b=>F b\/fa'=some b) fa' H':=#[fun b xs n q=>#[q,fun z=>n (by
   rcases z with z | z
   .exact .inl z
   .exact .inr (.inr z))],fun _ _ q=>q,fun _ _ q=>q,fun _ q=>q]
  exact q v H' fa' #[fun b hb=>(by cases hb),J.fe,J.same,J.mon] (U.fd.car Z fun _ _=>rfl) (Rep.go Z _ _ Y)
 refine#[fa,[],_,fl,s',I,h1,?_];cases fl with
 |next=>
  simp only[KP,Kq] at h2;exact fun σ' H' fa' O' J U=>M J U (v:=.non) (dd:=.non) (by simp only[Rep]) h2.1 h2.2
 |ret dd=>
  simp only[KP,Kq] at h2;exact fun σ' v H' fa' O' J U Y=>M J U Y h2.1 h2.2
 |brk=>cases h2
 |cont=>cases h2
 |thr _ _=>cases h2
end
noncomputable def d4 (m:a8) (f:DA):DE:=fun s=>(f s).bind fun x=>(m x.1 x.2.fs).map fun y=>(y.1,{ x.2 with fs:=y.2 })
section
variable {f:Addr}{ps:List Str}{p pos:Pos}{t:DA}
def xf (hn:∀s ds s',t s=some (ds,s')->ds.length=n) (σ:L2.St) (H:Hp) (Q:VK) (h:liftE X.K g (d4 m t) σ H Q):mV (ao X.K n m) [] E0 (liftA X.K g t) σ H Q:=by
 obtain⟨fa,O,s,d,s',I,q,k⟩:=h;refine p9 q fun ds s1 h1 h2=>?_
 refine mapP h2 fun d1 W h3 h4=>?_
 simp only[Kq] at h4;obtain⟨e1,e2⟩:=h4;subst e1;subst e2;refine#[fa,O,s,ds,s1,I,h1,fun vs H1 f1 O1 a1 B r=>?_];show ao X.K n m (vs++[]) H1 Q E0;rw[Ls];refine#[NN g.F f1 O1,f1,ds,s1.fs,d1,W,fun b hb=>B.nn_tracked hb,fun a ha=>.inr (.inr ha),r,B.fd,h3,hn s ds s1 h1,fun v H2 J M Y r2=>?_];have U:StE f1 O1 H1 J O1 H2:=#[fun b hb=>hb,M.fe,fun b u e n=>M.same b u e (by simp) n,M.mon]
 have c:=B.car U.stp;have Z:Car X.K (fun b=>NN g.F f1 O1 b\/J=some b) J H2 (NN g.F J O1) J H2:=#[fun b xs n q=>#[q,fun z=>n (by
   rcases z with z | z | z
   .exact .inl (.inl z)
   .exact .inl (.inr (.inl z))
   .exact .inr z)],fun _ _ q=>q,fun _ _ q=>q,fun _ q=>q]
 refine k v H2 J O1 (a1.trans U) #[B.nd,SlR.go c (fun b xs hb e=>?_) B.sl,B.fr,B.st.trans #[fun b hb=>(by cases hb),M.fe,fun b u e n z=>M.same b u e n z,M.mon],B.tr,B.ff,Y.car Z fun _ _=>rfl,B.nf_step U.fe] (Rep.go Z _ _ r2);exact U.same b _ e fun z=>B.nf b z hb
def Dy (F:bN X.prog X.w X.K X.mg X.base k f fd ps m) (U:Room k X.A) (M:Gl X x) (hm:X.mg x=some (.ref f)) (hk:PySem.W.keepIn X.K (.ref f)=true) (hb:Binds X.K fd ps [])
  (ha:AO X g (e::es) t) (Y:∀s ds s',t s=some (ds,s')->ds.length=ps.length) (B:(x == ("__debug__" : Str))=false:=by decide) (Z:starEach (e::es) X.env=(false,eval e X.env)::starEach es X.env:=by rfl) (J:(backTo pos (starEach es X.env)).any (·.1)=false:=by rfl) :
  EO X g (.Call (.Name x p) (e::es) [] pos) (d4 m t):=EO.w (nT F U M hm hk hb .nil kS ha.pe B Z J) (xf Y)
def cG:∀s ds s',b9 s=some (ds,s')->ds.length=0:=fun s ds s' h=>by cases h;rfl
def W5 {a:DE}{r:DA}(h:∀s ds s',r s=some (ds,s')->ds.length=n):∀s ds s',a0 a r s=some (ds,s')->ds.length=n+1:=fun s ds s' q=>by
 obtain⟨d,s1,es,h1,h2,B⟩:=dN q;subst B;simp[h _ _ _ h2]
end
def kg (K:vF_) (N:vB_) (fa:vA_) (H1:Hp) (J:It) (ds:vD_):Prop:=∀N' fa' H',Car K N fa H1 N' fa' H'->(∀b u,H1 b=some u->fa≠some b->H' b=some u)->∀i:Nat,
 (∀d,ds[i]? = some d->J.go i H'/\∀x H'',J.yld i H' x H''->H''=H'/\Rep K N' fa' H' d x)/\(ds.length<=i->J.stop i H')
def liftI (K:vF_) (g:Gh) (f:DA):TI:=fun σ H R=>∃fa O s ds s',GI K g σ H fa O s/\f s=some (ds,s')/\ds.length<=sizeLine /\
 ∀J H' fa' O',StE fa O H fa' O' H'->GI K g σ H' fa' O' s'->kg K (NN g.F fa' O') fa' H' J ds->R J H'
section
variable {K:vF_}{σ:L2.St}
def liftI.elim (h:liftI K g f σ H R) (k:∀fa O s ds s',GI K g σ H fa O s->f s=some (ds,s')->ds.length<=sizeLine->(∀J H' fa' O',StE fa O H fa' O' H'->GI K g σ H' fa' O' s'->kg K (NN g.F fa' O') fa' H' J ds->R J H')->G):G:=by
 obtain⟨fa,O,s,d,s',a,r,b,c⟩:=h;exact k fa O s d s' a r b c
end
structure IO (X:Cx) (g:Gh) (tg iter:Expr) (f:DA):Prop where
 pe:PI X tg iter (liftI X.K g f)
def F6 (f:DE):DA:=fun s=>(f s).bind fun x=>match x.1 with
 |.lst ds=>some (ds,x.2)
 |.tup ds=>some (ds,x.2)
 |_=>none
def de (f:DA):DA:=fun s=>(f s).bind fun x=>(V6 x.1).map fun ds=>(ds,x.2)
section
variable {f:DE}
def FH {t t':TI}(h:PI X tg iter t) (w:∀σ H R,t' σ H R->t σ H R):PI X tg iter t':=fun pins s σ H R I q=>h pins s σ H R I (w σ H R q)
theorem IO.w {f:DA}{t:TI}(h:PI X tg iter t) (w:∀σ H R,liftI X.K g f σ H R->t σ H R):IO X g tg iter f:=#[FH h w]
def aB (h:EO X g iter f):IO X g tg iter (F6 f):=IO.w (lQ h.pe) fun σ H R hQ=>by
 refine hQ.elim fun fa O s ds s' I e hz k=>?_
 refine p9 e fun d s1 h1 h2=>?_
 refine#[fa,O,s,d,s1,I,h1,fun v H1 f1 O1 a1 I1 r=>?_];cases d with
 |lst es=>
  cases h2;simp only[Rep] at r;obtain⟨a,xs,rfl,na,q,w⟩:=r;refine#[a,rfl,.inl #[#[xs,SqL.of q],k _ H1 f1 O1 a1 I1 fun N' fa' H' c _ i=>#[fun d Y=>?_,fun hl=>?_]]]
  .obtain⟨x,B,Z⟩:=Reps.get w Y;have J:=(c.ls a xs na q).1;refine#[#[xs,x,SqL.of J,B],fun y H'' M=>?_];obtain⟨W,U⟩:=M;have:=U xs (SqL.of J);rw[B] at this;cases this;exact#[W,Rep.go c d x Z]
  .exact#[xs,SqL.of (c.ls a xs na q).1,by rw[w.length];exact hl]
 |tup es=>
  cases h2;simp only[Rep] at r;obtain⟨a,xs,rfl,q,w⟩:=r;refine#[a,rfl,.inr #[#[xs,q],k _ H1 f1 O1 a1 I1 fun N' fa' H' c _ i=>#[fun d Y=>?_,fun hl=>?_]]]
  .obtain⟨x,B,Z⟩:=Reps.get w Y;have J:=c.tp a xs q;refine#[#[xs,x,J,B],fun y H'' M=>?_];obtain⟨W,U⟩:=M;have:=U xs J;rw[B] at this;cases this;exact#[W,Rep.go c d x Z]
  .exact#[xs,c.tp a xs q,by rw[w.length];exact hl]
 |_=>cases h2
def xD (h:BO X g iter f):IO X g tg iter (F6 f):=IO.w (lQ h.pe) fun σ H R hQ=>by
 refine hQ.elim fun fa O s ds s' I e hz k=>?_
 refine p9 e fun d s1 h1 h2=>?_
 refine#[fa,O,s,d,s1,I,h1,fun v H1 f1 O1 a1 I1 r=>?_];cases d with
 |lst es=>
  cases h2;obtain⟨a,xs,rfl,na,q,w⟩:=r;refine#[a,rfl,.inl #[#[xs,SqL.of q],k _ H1 f1 O1 a1 I1 fun N' fa' H' c sm i=>#[fun d Y=>?_,fun hl=>?_]]]
  .obtain⟨x,B,Z⟩:=Reps.get w Y;have J:=sm a _ q na;refine#[#[xs,x,SqL.of J,B],fun y H'' M=>?_];obtain⟨W,U⟩:=M;have:=U xs (SqL.of J);rw[B] at this;cases this;exact#[W,Rep.go c d x Z]
  .exact#[xs,SqL.of (sm a _ q na),by rw[w.length];exact hl]
 |tup es=>
  cases h2;simp only[RepB,Rep] at r;obtain⟨a,xs,rfl,q,w⟩:=r;refine#[a,rfl,.inr #[#[xs,q],k _ H1 f1 O1 a1 I1 fun N' fa' H' c _ i=>#[fun d Y=>?_,fun hl=>?_]]]
  .obtain⟨x,B,Z⟩:=Reps.get w Y;have J:=c.tp a xs q;refine#[#[xs,x,J,B],fun y H'' M=>?_];obtain⟨W,U⟩:=M;have:=U xs J;rw[B] at this;cases this;exact#[W,Rep.go c d x Z]
  .exact#[xs,c.tp a xs q,by rw[w.length];exact hl]
 |_=>cases h2
def Au {K:vF_}{H1:Hp}(lo:Int) (n:Nat):kg K N fa H1 (bI lo n) (B0 lo n):=fun N' fa' H' c _ i=>#[fun d B=>by
 have hi:i<n:=by have:=(KH.mp B).1;rwa [eA] at this
 rw[mX hi] at B;cases B;refine#[hi,fun x H'' M=>?_];obtain⟨U,J⟩:=M;subst J;exact#[U,by simp only[Rep]],fun hl=>by rw[eA] at hl;exact hl]
def EJ {a:Expr}{fa:DE}{p cpos:Pos}(J:Gl X "range") (hm:X.mg "range" = none) (ha:EO X g a fa) (B:starEach [a] X.env=[(false,eval a X.env)]:=by rfl) :
  IO X g tg (.Call (.Name "range" p) [a] [] cpos) (de (a0 fa b9)):=IO.w (pJ J hm (jM ha cR B).pe B) fun σ H R U=>by
 refine U.elim fun fa O s es s' I q hz k=>?_
 refine p9 q fun ds s1 h1 h2=>?_
 refine F3 h2 fun es' W h4=>?_
 cases h4;obtain⟨d,s2,rs,e1,Y,M⟩:=dN h1;cases Y;obtain⟨j,rfl,Z,j2,rfl⟩:=tW W M;refine#[fa,O,s,ds,_,I,h1,fun vs H1 f1 O1 a1 I1 r=>?_];rw[M] at r;simp only[Reps,Rep] at r;obtain⟨x,ys,rfl,rfl,rfl⟩:=r;exact#[j,rfl,Z,j2,k _ H1 f1 O1 a1 I1 (Au 0 j.toNat)]
end
def cL (sl:List Sl) (i:Nat):Sl:=match sl[i]? with
 |some (Sl.v d)=>Sl.v d
 |_=>Sl.no
def Q5 (idx:List Nat) (sl:List Sl):List Sl:=idx.map (cL sl)
noncomputable def B9 (mk:D->Option (List Sl)) (fc:DT) (fe:DE):List D->Option FS->Option (List D × Option FS)
 |[],fs=>some ([],fs)
 |d::r,fs=>(mk d).bind fun sl=>(fc #[sl,fs]).bind fun c=>if c.1=true then (fe c.2).bind fun y=>(B9 mk fc fe r y.2.fs).map fun z=>(y.1::z.1,z.2) else B9 mk fc fe r c.2.fs
noncomputable def E7 (idx:List Nat) (fi:DA) (fc:DT) (fe:DE):DA:=fun s=>(fi s).bind fun x=>if x.1.length<=sizeLine then (B9 (fun d=>some (.v d::Q5 idx x.2.sl)) fc fe x.1 x.2.fs).map fun y=>(y.1,{ x.2 with fs:=y.2 }) else none
def FF (g:Gh) (fa:vA_) (O:vL_) (p:Addr):Addr->Prop:=fun b=>NN g.F fa O b\/b=p
structure CI (K:vF_) (g:Gh) (f1:vA_) (O1:vL_) (Hd:Hp) (p:Addr) (fa:vA_) (H:Hp) (ys:List V) (res:vD_) (fs:vO_):Prop where
 st:Stp f1 [p] Hd fa [p] H
 ls:H p=some (.lst ys)
 rs:Reps K (FF g fa O1 p) fa H res ys
 fd:FeedR (FF g fa O1 p) H fa fs
 nf:fa≠some p
section
variable {K:vF_}{f1:vA_}{O1:vL_}{Hd:Hp}{res:vD_}{fs:vO_}
def CI.nofa (c:CI K g f1 O1 Hd p fa H ys res fs):fa≠some p:=c.nf
def Ce (M:∀xs,fa≠none->∀a,fa=some a->¬ Rd H a (.tup xs)) (B:∀a,fa=some a->∀o u,¬ H a=some (.frz o u)) (a:StE fa [] H fa' [] H'):Car K (FF g fa O1 p) fa H (FF g fa' O1 p) fa' H':=by
 refine#[fun b xs n q=>#[a.same b _ q fun z=>n (.inl (.inr (.inr z))),fun z=>?_],fun b xs q=>?_,fun b xs q=>?_,fun x e=>a.stp.fa_keep e]
 .rcases z with (z | z | z) | z
  .exact n (.inl (.inl z))
  .exact n (.inl (.inr (.inl z)))
  .rcases a.fe with e | ⟨e,h⟩
   .exact n (.inl (.inr (.inr (e▸z))))
   .rw[h b z] at q;cases q
  .exact n (.inr z)
 .refine SqT.stp' a.stp (fun x e ys=>M ys (by rw[e];simp) x e) (fun x J=>by cases J) q
 .cases xs with
  |inl xs=>exact q.imp (fun ⟨o,q⟩=>#[o,a.same _ _ q fun z=>B b z _ _ q]) id
  |inr p=>exact a.same _ _ q fun z=>B b z _ _ q
def BM (h:FeedR N H fa fs):∀xs,fa≠none->∀a,fa=some a->¬ Rd H a (.tup xs):=fun xs _ a e z=>h.no_tup e z
def CI.step (c:CI K g f1 O1 Hd p fa H ys res fs) (a:StE fa [] H fa' [] H') {g':Gh}(J:∀b,FF g fa' O1 p b->NN g'.F fa' [] b) (I:GI K g' σ H' fa' [] s'):CI K g f1 O1 Hd p fa' H' ys res s'.fs:=by
 have B:Car K (FF g fa O1 p) fa H (FF g fa' O1 p) fa' H':=Ce (BM c.fd) (fun x e o u=>c.fd.no_frz e) a;refine#[c.st.trans #[fun b hb=>.inl hb,a.fe,fun b u e _ n=>a.same b u e n,a.mon],a.same p _ c.ls c.nofa,Reps.go B _ _ c.rs,I.fd.car (K:=K) #[fun b xs n q=>#[q,fun z=>n (J b z)],fun _ _ q=>q,fun _ _ q=>q,fun _ q=>q] fun _ _=>rfl,fun z=>?_];rcases a.fe with y | ⟨_,y⟩
 .rw[y] at z;exact c.nf z
 .have:=c.ls;rw[y p z] at this;cases this
def CI.app (c:CI K g f1 O1 Hd p fa H ys res fs) {v:V}(U:∀b,FF g fa O1 p b->N b) (r:Rep K N fa H d v):CI K g f1 O1 Hd p fa (e7 H p (.lst (ys++[v]))) (ys++[v]) (res++[d]) fs:=by
 have B:Car K (FF g fa O1 p) fa H (FF g fa O1 p) fa (e7 H p (.lst (ys++[v]))):=by
  refine#[fun b xs n q=>#[by rw[k9 (fun z=>n (.inr z))];exact q,n],fun b xs q=>?_,fun b xs q=>?_,fun _ q=>q]
  .rcases q with (q | ⟨o,q⟩) | q
   .exact .inl (.inl (by rw[k9 (fun z=>by rw[z,c.ls] at q;cases q)];exact q))
   .exact .inl (.inr #[o,by rw[k9 (fun z=>by rw[z,c.ls] at q;cases q)];exact q])
   .exact .inr q
  .have J:∀o u,H b=some (.frz o u)->e7 H p (.lst (ys++[v])) b=some (.frz o u):=fun o u q=>by rw[k9 (fun z=>by rw[z,c.ls] at q;cases q)];exact q
   cases xs with
   |inl xs=>exact q.imp (fun ⟨o,q⟩=>#[o,J _ _ q]) id
   |inr p=>exact J _ _ q
 have M:Car K N fa H (FF g fa O1 p) fa H:=#[fun b xs n q=>#[q,fun z=>n (U b z)],fun _ _ q=>q,fun _ _ q=>q,fun _ q=>q]
 refine#[c.st.trans #[fun b hb=>.inl hb,.inl rfl,fun b u e n _=>by rw[k9 (fun z=>n (by simp[z]))];exact e,fun b z=>?_],w6,?_,c.fd.car B fun a e=>k9 fun z=>c.nofa (z▸e),c.nf]
 .by_cases hb:b=p
  .subst hb;rw[w6] at z;cases z
  .rw[k9 hb] at z;exact z
 .exact Reps.append (Reps.go B _ _ c.rs) (Reps.one (Rep.go B _ _ (Rep.go M _ _ r)))
end
section
variable {pos:Pos}
def aA (X:Cx) (g:Gh) (ifs:List Expr) (f:DT):Prop:=bV X ifs (liftT X.K g f)
def D5:DT:=fun s=>some (true,s)
def ba:aA X g [] D5:=fun pins s σ H Q I ⟨fa,O,B,d,s',G,e,k⟩=>zh pins s σ H Q I (by cases e;exact k H fa O StE.refl G)
def fP {f:DT}(h:TO X g c f):aA X g [c] f:=zM h.pe
theorem qe {K:vF_}(h:SlR K N fa H sl σ O):∀idx:List Nat,SlR K N fa H (Q5 idx sl) (idx.map fun i=>(σ[i]?).join) []
 |[]=>by simp[Q5,SlR]
 |i::r=>by
  have B:=qe h r;have J:∀e:sl[i]? = none\/(∃z,sl[i]? = some z/\∀d,z ≠ .v d),cL sl i = .no:=fun e=>by
   unfold cL;rcases e with e | ⟨z,e,n⟩
   .rw[e]
   .rw[e];cases z with
    |v d=>exact absurd rfl (n d)
    |no=>rfl
    |own ds=>rfl
    |dct ds=>rfl
  show SlR K N fa H (cL sl i::Q5 r sl) ((σ[i]?).join::r.map fun i=>(σ[i]?).join) [];cases e:sl[i]? with
  |none=>
   rw[J (.inl e)];simp only[SlR];exact#[_,_,rfl,B]
  |some z=>
   cases z with
   |no=>
    rw[J (.inr #[_,e,fun d z=>by cases z])];simp only[SlR];exact#[_,_,rfl,B]
   |own ds=>
    rw[J (.inr #[_,e,fun d z=>by cases z])];simp only[SlR];exact#[_,_,rfl,B]
   |dct ds=>
    rw[J (.inr #[_,e,fun d z=>by cases z])];simp only[SlR];exact#[_,_,rfl,B]
   |v d=>
    obtain⟨u,U,q⟩:=SlR.val h e;have M:cL sl i = .v d:=by unfold cL;rw[e]
    rw[M];simp only[SlR];exact#[u,_,by rw[U];rfl,q,B]
def HS (mk:List Sl->D->Option (List Sl)) (fi:DA) (fc:DT) (fe:DE):DA:=fun s=>(fi s).bind fun x=>if x.1.length<=sizeLine then (B9 (mk x.2.sl) fc fe x.1 x.2.fs).map fun y=>(y.1,{ x.2 with fs:=y.2 }) else none
def uS {G:TG}(hG:∀(N:vB_) (fa:vA_) (sl:List Sl) (d:D) (sl0:List Sl) (x:V) (σ:L2.St) (H:Hp) (Q:L2.St->Hp->Prop),mk sl d=some sl0->Rep X.K N fa H d x->SlR X.K N fa H (Q5 idx sl) (idx.map fun i=>(σ[i]?).join) [] ->
  (∀σ':L2.St,(σ'.length=(F1 n idx σ).length/\∀(j:Nat) (v:V),(F1 n idx σ)[j]? = some (some v)->σ'[j]? = some (some v))->SlR X.K N fa H sl0 σ' []->Q σ' H)->G x (F1 n idx σ) H Q):∀σ H Q,liftF X.K g (HS mk fi fc fe) σ H Q->cU n idx (liftI X.K g fi) G (fun σ H Q=>∃g',liftT X.K g' fc σ H Q) (fun σ H Q=>∃g',liftE X.K g' fe σ H Q) σ H Q:=by
 intro σ H Q ⟨fa,O,s,res,s',I,e,kk⟩;refine p9 e fun ds s1 h1 h2=>?_
 by_cases hz:ds.length<=sizeLine
 .simp only[gV hz] at h2;refine mapP h2 fun out fsf h3 h4=>?_
  simp only[Kq] at h4;obtain⟨e1,e2⟩:=h4;subst e1;subst e2;refine#[fa,O,s,ds,s1,I,h1,hz,fun J H1 f1 O1 a1 B J1 p hp=>?_];have U:∀{fa':vA_}{H':Hp},Stp f1 [p] (e7 H1 p (.lst [])) fa' [p] H'->StE f1 O1 H1 fa' O1 H':=fun {fa' H'} a=>by
   refine#[fun _ h=>h,?_,fun b u e n=>?_,fun b z=>(B4 (fa:=f1) (O:=O1) hp).mon b (a.mon b z)]
   .rcases a.fe with e | ⟨e,h⟩
    .exact .inl e
    .exact .inr #[e,fun x z=>(B4 (fa:=f1) (O:=O1) hp).mon x (h x z)]
   .have nb:b≠p:=S3 e hp;exact a.same b u (by rw[k9 nb];exact e) (by simp[nb]) n
  have carP:∀{fa':vA_}{H':Hp},Stp f1 [p] (e7 H1 p (.lst [])) fa' [p] H'->Car X.K (NN g.F f1 O1) f1 H1 (FF g fa' O1 p) fa' H':=fun {fa' H'} a=>by
   have c:=B.car (U a).stp;refine#[fun b xs n q=>?_,c.tp,c.fz,c.fe];obtain⟨q',n'⟩:=c.ls b xs n q;refine#[q',?_];rintro(z | z)
   .exact n' z
   .subst z;rw[hp] at q;cases q
  refine#[fun i m H'=>m=ds.length - i/\i<=ds.length/\∃fa' ys M rest fs',CI X.K g f1 O1 (e7 H1 p (.lst [])) p fa' H' ys M fs'/\B9 (mk s1.sl) fc fe (ds.drop i) fs'=some (rest,fsf)/\M++rest=out/\ys.length<=i,?_,?_]
  .refine#[ds.length,by simp,Lr _,f1,[],[],out,s1.fs,#[Stp.refl,w6,Reps.nil,?_,fun z=>B.fd.tracked z hp],by simpa using h3,rfl,iU _];exact B.fd.car (eR B hp) (B.fd.same_new hp)
  .rintro i m H' ⟨rfl,hil,fa',ys,M,rest,fs',c,hd,ho,hy⟩;have Z:=carP c.st;obtain⟨jgo,jstop⟩:=J1 _ _ _ Z (fun b u e n=>(U c.st).same b u e n) i;by_cases Y:i<ds.length
   .have hdi:ds[i]? = some ds[i]:=Le Y;obtain⟨go,yl⟩:=jgo _ hdi;refine .inr #[go,fun x H'' hx=>?_];obtain⟨e1,rx⟩:=yl x H'' hx;subst e1;rw[xt hdi,B9] at hd;refine C8 hd fun sl0 hm hd=>?_
    refine p9 hd fun b sb h5 h6=>?_
    have hNN:∀b,NN (FF g fa' O1 p) fa' [] b->FF g fa' O1 p b:=fun b z=>by
     rcases z with z | z | z
     .exact z
     .cases z
     .exact .inl (.inr (.inr z))
    have cN:Car X.K (FF g fa' O1 p) fa' H'' (NN (FF g fa' O1 p) fa' []) fa' H'':=#[fun b xs n q=>#[q,fun z=>n (hNN b z)],fun _ _ q=>q,fun _ _ q=>q,fun _ q=>q]
    have cP:∀b,FF g fa' O1 p b->H'' b≠none:=fun b z=>by
     rcases z with (z | z | z) | z
     .exact fun w=>B.trF z ((U c.st).mon b w)
     .obtain⟨xs,e⟩:=B.owned z;exact fun w=>by have:=(U c.st).mon b w;rw[e] at this;cases this
     .exact c.fd.tracked z
     .rw[z,c.ls];simp
    refine hG (NN (FF g fa' O1 p) fa' []) fa' s1.sl ds[i] sl0 x σ H'' _ hm (Rep.go cN _ _ rx) (SlR.go cN (fun a xs ha=>by cases ha) (qe (SlR.go Z (fun a xs ha e=>(U c.st).same a _ e fun z=>B.nf a z ha) B.sl) idx)) fun σ1 hσ hsl=>#[hσ,?_]
    have G0:GI X.K #[FF g fa' O1 p,H'',fa',fun _=>E0] σ1 H'' fa' [] #[sl0,fs']:=#[Mz,hsl,fun b hb=>(by cases hb),Stp.refl,cP,fun a ha=>.inl (.inr (.inr ha)),c.fd.car cN fun _ _=>rfl,fun _ _ z=>(by cases z)]
    refine#[#[FF g fa' O1 p,H'',fa',fun _=>E0],fa',[],_,b,sb,G0,h5,fun H3 f3 O3 a3 I3=>?_];have eO:O3=[]:=Pz.mpr fun z hz=>by have:=a3.sub z hz;cases this
    subst eO;have hF3:∀b,FF g f3 O1 p b->NN (FF g fa' O1 p) f3 [] b:=fun b z=>by
     rcases z with (z | z | z) | z
     .exact .inl (.inl (.inl z))
     .exact .inl (.inl (.inr (.inl z)))
     .exact .inr (.inr z)
     .exact .inl (.inr z)
    have c3:=c.step a3 hF3 I3;cases b with
    |false=>
     rw[fI Kn] at h6;refine DP ?_;exact#[ds.length - (i+1),by omega,rfl,Y,f3,ys,M,rest,sb.fs,c3,h6,ho,Nat.le_succ_of_le hy]
    |true=>
     rw[gV rfl] at h6;refine GH ?_;refine p9 h6 fun dd sd h7 h8=>?_
     refine mapP h8 fun rest2 fs2 h9 h10=>?_
     simp only[Kq] at h10;refine#[#[FF g fa' O1 p,H'',fa',fun _=>E0],f3,[],sb,dd,sd,I3,h7,fun v H4 f4 O4 a4 I4 r4=>?_];have eO:O4=[]:=Pz.mpr fun z hz=>by have:=a4.sub z hz;cases this
     subst eO;have hF4:∀b,FF g f4 O1 p b->NN (FF g fa' O1 p) f4 [] b:=fun b z=>by
      rcases z with (z | z | z) | z
      .exact .inl (.inl (.inl z))
      .exact .inl (.inl (.inr (.inl z)))
      .exact .inr (.inr z)
      .exact .inl (.inr z)
     have c4:=c3.step a4 hF4 I4;refine#[ys,c4.ls,by omega,ds.length - (i+1),by omega,rfl,Y,f4,ys++[v],M++[dd],rest2,sd.fs,c4.app hF4 r4,by rw[h9,h10.2],?_,by simp;omega];rw[<-ho,<-h10.1];simp
   .refine .inl #[jstop (NH Y),?_];rw[Py (NH Y),B9] at hd;simp only[KP,Kq] at hd;obtain⟨hd1,hd2⟩:=hd;subst hd1;subst hd2;rw[Ls] at ho;subst ho;have aE:=U c.st;have car1:=B.car aE.stp;have W:∀a xs,a∈O1->H1 a=some xs->H' a=some xs:=fun a xs ha e=>aE.same a _ e fun z=>B.nf a z ha
    refine kk p ys H' fa' O1 (a1.trans aE) #[#[B.nd,SlR.go car1 W B.sl,B.fr,B.st.trans #[fun b hb=>(by cases hb),aE.fe,fun b u e _ n=>aE.same b u e n,aE.mon],B.tr,B.ff,?_,B.nf_step aE.fe],c.ls,SlR.go Z W B.sl,c.fd,c.rs,c.nf] (a1.mon p hp);exact c.fd.car (K:=X.K) #[fun b xs n q=>#[q,fun z=>n (.inl z)],fun _ _ q=>q,fun _ _ q=>q,fun _ q=>q] fun _ _=>rfl
 .simp only[fI hz] at h2;cases h2
def rE (k:CompOk X scope cl N' 1 idx):∀σ H Q,liftF X.K g (E7 idx fi fc fe) σ H Q->cU 1 idx (liftI X.K g fi) (T9 0) (fun σ H Q=>∃g',liftT X.K g' fc σ H Q) (fun σ H Q=>∃g',liftE X.K g' fe σ H Q) σ H Q:=
 uS (mk:=fun sl d=>some (.v d::Q5 idx sl)) fun N fa sl d U x σ H Q hm J Y W=>by
  cases hm;refine W _ #[by simp,fun j v B=>?_] ?_
  .cases j with
   |zero=>simp[F1] at B
   |succ j=>rw[Mg (by simp)];exact B
  .have M:(F1 1 idx σ).set 0 (some x)=some x::idx.map fun i=>(σ[i]?).join:=by simp[F1]
   rw[M];simp only[SlR];exact#[x,_,rfl,J,Y]
def fw (M:X.calm=true) (k:CompOk X scope cl N' 1 idx) (hi:IO X g tg iter fi) (B:∀C s0 H0 ex,PG (p7 X N' scope cl C s0 H0 ex) tg (T9 0))
  (U:∀C s0 H0 ex g',aA (p7 X N' scope cl C s0 H0 ex) g' ifs fc) (J:∀C s0 H0 ex g',EO (p7 X N' scope cl C s0 H0 ex) g' elt fe) (hs:∀x,foldedSetIterable iter X.env x=pure x:=by intro _;rfl) :
  FO X g (.ListComp elt [#[tg,iter,ifs,0]] scope pos) (E7 idx fi fc fe):=by
 exact FO.w (ya (tc:=fun σ H Q=>∃g',liftT X.K g' fc σ H Q) (te:=fun σ H Q=>∃g',liftE X.K g' fe σ H Q) M k hi.pe B (fun C s0 H0 ex pins s σ H Q I ⟨g',h⟩=>U C s0 H0 ex g' pins s σ H Q I h) (fun C s0 H0 ex pins s σ H Q I ⟨g',h⟩=>(J C s0 H0 ex g').pe pins s σ H Q I h) hs) (rE k)
end
end DL
variable {d:DL.D}{ds:DL.vD_}{fs':DL.vO_}{sl:List DL.Sl}{mk:List DL.Sl->DL.D->Option (List DL.Sl)}{s1 s2 s':DL.DS}{g:DL.Gh}{fe:DL.DE}{fc:DL.DT}{f fi:DL.DA}{r:DL.Fl × DL.DS}{m m00 m02:DL.a8}{tab:List (PySem.Str × DL.a8)}
namespace HT2
open PySem PyProof.Rows
def cat_tup0 {w:World}{t b:Addr}{Z:vV_}{Q:vQ_}(ht:IsTup s.heap t ([]:vV_).toArray) (hb:IsTup s.heap b Z.toArray)
  (h:Q (.ref b) s):wpAny (model prog w) A (binaryOp .Add (.ref t) (.ref b)) Q E s:=by
 obtain⟨⟨cls,dd,data,sl⟩,ho,hc,n,hd⟩:=id ht;obtain⟨⟨cls2,U,W,Y⟩,B,J,n2,M⟩:=id hb;simp only at hc hd J M;subst hc hd J M;exact concat_meets #[_,ho,rfl] #[_,B,rfl] Oy seq_tuple_add Oz OA (OB _ _)
  (tuple_addW0 t b _ Z.toArray n n2 dd U sl Y (by simp)) #[ho,B,h]
end HT2
namespace DL
open PySem PySem.Spec L2
def A0 (i:Int):Bool:=decide (i.natAbs.log2<1000000)
def uw {i:Int}(h:A0 i=true):Builtin.Int.intBits i<=2 ^ 20:=by
 have h1:i.natAbs.log2<1000000:=LP h;unfold Builtin.Int.intBits;split
 .exact Lr _
 .have e:(2:Nat) ^ 20=1048576:=by decide
  rw[e];omega
def M4 (j:Int):Bool:=decide (j≠0)&&decide (j.natAbs.log2<9000)
def op_mulB:OpR X (binaryOp .Mult) (rI (fun i j=>A0 i=true/\A0 j=true) fun i j=>.int (i*j)):=jj fun _ _ _ _ _ _ _ B q=>PyProof.Rows.mul_int q (IntMulOk.of_bits (uw B.1) (uw B.2))
def JM:OpR X (binaryOp .FloorDiv) (rI (fun _ j=>M4 j=true) fun i j=>.int (i.fdiv j)):=jj fun i j _ _ _ _ _ J q=>by
 have B:M4 j=true:=J;unfold M4 at B;rw[Ko] at B;exact PyProof.Rows.floordiv_int (LP B.1) q (.inl (PyProof.noPylong_of_log2 (LP B.2)))
def tD (K:vF_):R2:=fun x y H Q=>∃a b ys,x = .ref a/\y = .ref b/\SqT K H a []/\SqT K H b ys/\Q (.ref b) H
def op_catT0:OpR X (binaryOp .Add) (tD X.K):=by
 intro pins s σ H x y v u Q I U W h;obtain⟨a,b,ys,rfl,rfl,ha,hb,q⟩:=h;cases U;cases W;obtain⟨its,M,Y,_⟩:=I.tuple ha;obtain⟨J,Z,B,_⟩:=I.tuple hb;cases M;exact HT2.cat_tup0 Y B #[.ref b,H,I,rfl,q]
def xV (K:vF_):R2:=fun x y H Q=>(V8 (fun i j=>.int (i+j)) x y H Q\/(∃i j,x = .str i/\y = .str j/\i.length+j.length<=sizeLine/\Q (.str (i++j)) H))\/((tD K x y H Q\/pU K x y H Q)\/mO x y H Q)
def Dj:OpR X (binaryOp .Add) (xV X.K):=(op_add.or Bq).or ((op_catT0.or Ih).or kj)
def rM:R2:=fun x y H Q=>rI (fun i j=>A0 i=true/\A0 j=true) (fun i j=>.int (i*j)) x y H Q\/rQ x y H Q
def Cf:OpR X (binaryOp .Mult) rM:=op_mulB.or uA
def j4:D->D->Option D
 |.int i,.int j=>some (.int (i+j))
 |.str x,.str y=>if x.length+y.length<=sizeLine then some (.str (x++y)) else none
 |.tup xs,.tup ys=>if xs.length+ys.length<=sizeLine then some (.tup (xs++ys)) else none
 |.lst xs,.lst ys=>if xs.length+ys.length<=sizeLine then some (.lst (xs++ys)) else none
 |_,_=>none
def t7:D->D->Option D
 |.int i,.int j=>some (.int (i - j))
 |_,_=>none
def j6:D->D->Option D
 |.int i,.int j=>if A0 i&&A0 j then some (.int (i*j)) else none
 |.lst xs,.int k=>if -(2 ^ 63)<=k/\k<2 ^ 63/\xs.length*k.toNat<=sizeLine then some (.lst (List.replicate k.toNat xs).flatten) else none
 |_,_=>none
def G8:D->D->Option D
 |.int i,.int j=>if M4 j then some (.int (i.fdiv j)) else none
 |_,_=>none
def B8:D->D->Option D
 |.int i,.int j=>if j≠0 then some (.int (i.fmod j)) else none
 |_,_=>none
def bh:D->D->Option D
 |.int i,.int j=>if 0<=j/\j<=1000000/\i.natAbs<2 ^ 64 then some (.int (i ^ j.toNat)) else none
 |_,_=>none
def u5:D->Option D
 |.int i=>some (.int (-i))
 |_=>none
def n8 (p:Int->Int->Bool):D->D->Option D
 |.int i,.int j=>some (.bl (p i j))
 |_,_=>none
def oX {K:vF_}(r:Reps K N fa H ds xs):xs=[]↔ds=[]:=by
 have:=r.length;cases xs <;> cases ds <;> simp_all
theorem Reps.flat {K:vF_}(r:Reps K N fa H ds xs):∀k:Nat,Reps K N fa H (List.replicate k ds).flatten (List.replicate k xs).flatten
 |0=>by simp[Reps]
 |k+1=>by
  simp only[Mj,MY];exact Reps.append r (Reps.flat r k)
section
variable {K:vF_}
def Bv:J9 K (xV K) j4:=by
 intro g σ H fa O s x y d1 d2 d Q I M U e k;cases d1 with
 |int i=>
  cases d2 with
  |int j=>
   cases e;simp only[RepB,Rep] at M U;exact .inl (.inl #[i,j,M,U,k _ H StE.refl I (by simp only[Rep])])
  |_=>cases e
 |str a=>
  cases d2 with
  |str b=>
   have e:(if a.length+b.length<=sizeLine then some (D.str (a++b)) else none)=some d:=e;by_cases h:a.length+b.length<=sizeLine
   .rw[gV h] at e;cases e;simp only[RepB,Rep] at M U;refine .inl (.inr #[a,b,M.1,U.1,h,k _ H StE.refl I ?_]);simp only[Rep];exact#[trivial,by rw[strLen_append];exact h]
   .rw[fI h] at e;cases e
  |_=>cases e
 |tup as=>
  cases d2 with
  |tup W=>
   have e:(if as.length+W.length<=sizeLine then some (D.tup (as++W)) else none)=some d:=e;by_cases h:as.length+W.length<=sizeLine
   .rw[gV h] at e;cases e;simp only[RepB,Rep] at M U;obtain⟨a,xs,rfl,Z,J⟩:=M;obtain⟨b,ys,rfl,qb,B⟩:=U;by_cases hx:xs=[]
    .have ha:=(oX J).mp hx;subst hx;subst ha;refine .inr (.inl (.inl #[a,b,ys,rfl,rfl,Z,qb,k _ H StE.refl I ?_]));simp only[Rep,NG];exact#[b,ys,rfl,qb,B]
    .refine .inr (.inl (.inr #[a,b,xs,ys,rfl,rfl,Z,qb,hx,by rw[J.length,B.length];exact h,fun hy=>?_,fun hy p hp=>?_]))
     .have hb:=(oX B).mp hy;subst hy;subst hb;refine k _ H StE.refl I ?_;simp only[Rep,Ls];exact#[a,xs,rfl,Z,J]
     .have Y:StE fa O H fa O (e7 H p (.tup (xs++ys))):=B4 hp;refine k _ _ Y (I.new hp) ?_;simp only[Rep];exact#[p,_,rfl,SqT.of w6,Reps.stp I Y.stp (Reps.append J B)]
   .rw[fI h] at e;cases e
  |_=>cases e
 |lst as=>
  cases d2 with
  |lst W=>
   have e:(if as.length+W.length<=sizeLine then some (D.lst (as++W)) else none)=some d:=e;by_cases h:as.length+W.length<=sizeLine
   .rw[gV h] at e;cases e;obtain⟨a,xs,rfl,_,Z,J⟩:=M;obtain⟨b,ys,rfl,_,qb,B⟩:=U;refine .inr (.inr #[a,b,xs,ys,rfl,rfl,Z,qb,by rw[J.length,B.length];exact h,fun p hp=>?_]);have Y:StE fa O H fa O (e7 H p (.lst (xs++ys))):=B4 hp;have L:=X7 I hp (Reps.append J B);refine k _ _ Y L.gi ?_;simp only[Rep];exact#[p,_,rfl,eN I Y L.gi hp L.nf,w6,Reps.stp I Y.stp (Reps.append J B)]
   .rw[fI h] at e;cases e
  |_=>cases e
 |_=>cases e
def km:D->D->Option (List D)
 |.lst xs,.lst ys=>if xs.length+ys.length<=sizeLine then some (xs++ys) else none
 |_,_=>none
def IW:ly K mO km:=by
 intro g σ H fa O s x y Z Y ds Q I M U e k;cases Z with
 |lst as=>
  cases Y with
  |lst bs=>
   simp only[km] at e;by_cases h:as.length+bs.length<=sizeLine
   .rw[gV h] at e;cases e;obtain⟨a,xs,rfl,_,W,J⟩:=M;obtain⟨b,ys,rfl,_,qb,B⟩:=U;refine#[a,b,xs,ys,rfl,rfl,W,qb,by rw[J.length,B.length];exact h,fun p hp=>?_];exact k p _ _ (B4 hp) (X7 I hp (Reps.append J B)) hp
   .rw[fI h] at e;cases e
  |_=>cases e
 |_=>cases e
def kf {C:Int->Int->Prop}{f:Int->Int->D}{p:D->D->Option D}(hp:∀d1 d2 d,p d1 d2=some d->∃i j,d1 = .int i/\d2 = .int j/\C i j/\d=f i j) (M:∀N fa H i j,Rep K N fa H (f i j) (f' i j)):J9 K (rI C f') p:=by
 intro g σ H fa O s x y d1 d2 d Q I B J e k;obtain⟨i,j,rfl,rfl,c,rfl⟩:=hp d1 d2 d e;simp only[RepB,Rep] at B J;exact#[i,j,B,J,c,k _ H StE.refl I (M _ _ _ _ _)]
def tG {f:Int->Int->D}{p:D->D->Option D}(hp:∀d1 d2 d,p d1 d2=some d->∃i j,d1 = .int i/\d2 = .int j/\d=f i j) (M:∀N fa H i j,Rep K N fa H (f i j) (f' i j)):J9 K (V8 f') p:=by
 intro g σ H fa O s x y d1 d2 d Q I B J e k;obtain⟨i,j,rfl,rfl,rfl⟩:=hp d1 d2 d e;simp only[RepB,Rep] at B J;exact#[i,j,B,J,k _ H StE.refl I (M _ _ _ _ _)]
def nj (F:Int->Int->Option D):D->D->Option D
 |.int i,.int j=>F i j
 |_,_=>none
def tR {F:Int->Int->Option D}(e:nj F d1 d2=some d):∃i j,d1 = .int i/\d2 = .int j/\F i j=some d:=by
 cases d1 with
 |int i=>
  cases d2 with
  |int j=>exact#[i,j,rfl,rfl,e]
  |_=>cases e
 |_=>cases e
def lD {C:Int->Int->Prop}[∀i j,Decidable (C i j)] {f:Int->Int->D}(e:nj (fun i j=>if C i j then some (f i j) else none) d1 d2=some d):∃i j,d1 = .int i/\d2 = .int j/\C i j/\d=f i j:=by
 obtain⟨i,j,h1,h2,B⟩:=tR e;by_cases h:C i j
 .have B:(if C i j then some (f i j) else none)=some d:=B;rw[gV h] at B;exact#[i,j,h1,h2,h,(KN B).symm]
 .have B:(if C i j then some (f i j) else none)=some d:=B;rw[fI h] at B;cases B
def vw {f:Int->Int->D}(e:nj (fun i j=>some (f i j)) d1 d2=some d):∃i j,d1 = .int i/\d2 = .int j/\d=f i j:=by
 obtain⟨i,j,h1,h2,B⟩:=tR e;exact#[i,j,h1,h2,(KN B).symm]
def Hi:J9 K (V8 fun i j=>.int (i - j)) t7:=tG (f:=fun i j=>.int (i - j)) (fun B J d e=>vw (f:=fun i j=>.int (i - j)) e) fun _ _ _ _ _=>by simp only[Rep]
def xk (p:Int->Int->Bool):J9 K (V8 fun i j=>.bl (p i j)) (n8 p):=tG (f:=fun i j=>.bl (p i j)) (fun B J d e=>vw (f:=fun i j=>.bl (p i j)) e) fun _ _ _ _ _=>by simp only[Rep]
def yk:J9 K rM j6:=by
 intro g σ H fa O s x y Z W d Q I J B e k;cases Z with
 |int i=>
  cases W with
  |int j=>
   have e:(if A0 i&&A0 j then some (D.int (i*j)) else none)=some d:=e;by_cases h:(A0 i&&A0 j)=true
   .rw[gV h] at e;cases e;rw[Ko] at h;simp only[RepB,Rep] at J B;exact .inl #[i,j,J,B,h,k _ H StE.refl I (by simp only[Rep])]
   .rw[fI h] at e;cases e
  |_=>cases e
 |lst as=>
  cases W with
  |int j=>
   simp only[j6] at e;by_cases h:-(2 ^ 63)<=j/\j<2 ^ 63/\as.length*j.toNat<=sizeLine
   .rw[gV h] at e;cases e;obtain⟨a,xs,rfl,_,Y,M⟩:=J;simp only[RepB,Rep] at B;subst B;refine .inr #[a,j,xs,rfl,rfl,Y,h.1,h.2.1,by rw[M.length];exact h.2.2,fun p hp=>?_];have U:StE fa O H fa O (e7 H p (.lst (List.replicate j.toNat xs).flatten)):=B4 hp;have L:=X7 I hp (M.flat j.toNat);refine k _ _ U L.gi ?_;simp only[Rep];exact#[p,_,rfl,eN I U L.gi hp L.nf,w6,Reps.stp I U.stp (M.flat j.toNat)]
   .rw[fI h] at e;cases e
  |_=>cases e
 |_=>cases e
def EI:J9 K (rI (fun _ j=>M4 j=true) fun i j=>.int (i.fdiv j)) G8:=kf (f:=fun i j=>.int (i.fdiv j)) (fun J B d e=>lD (C:=fun _ j=>M4 j=true) (f:=fun i j=>.int (i.fdiv j)) e) fun _ _ _ _ _=>by simp only[Rep]
def IE:J9 K (rI (fun _ j=>j≠0) fun i j=>.int (i.fmod j)) B8:=kf (f:=fun i j=>.int (i.fmod j)) (fun J B d e=>lD (C:=fun _ j=>j≠0) (f:=fun i j=>.int (i.fmod j)) e) fun _ _ _ _ _=>by simp only[Rep]
def zK:J9 K (rI nV fun i j=>.int (i ^ j.toNat)) bh:=kf (f:=fun i j=>.int (i ^ j.toNat)) (fun B J d e=>lD (C:=fun i j=>0<=j/\j<=1000000/\i.natAbs<2 ^ 64) (f:=fun i j=>.int (i ^ j.toNat)) e) fun _ _ _ _ _=>by simp only[Rep]
def Cq:rJ K (rU fun i=>.int (-i)) u5:=by
 intro g σ H fa O s x J d Q I B e k;cases J with
 |int i=>cases e;simp only[RepB,Rep] at B;exact#[i,B,k _ H StE.refl I (by simp only[Rep])]
 |_=>cases e
end
section
variable {σ:L2.St}
mutual
theorem V5 (I:Inv X pins σ H s):∀(d:D) (v:V) (u:Value),V1 X.K N fa H d v->RelV v u->d.plain=true->∃as,Reads s.heap u d.py as
 |.non,v,u,r,ru,_=>by
  simp only[V1,Rep] at r;subst r;cases ru;simp only[D.py];exact#[[],.none]
 |.bl b,v,u,r,ru,_=>by
  simp only[V1,Rep] at r;subst r;cases ru;simp only[D.py];exact#[[],.bool b]
 |.int i,v,u,r,ru,_=>by
  simp only[V1,Rep] at r;subst r;obtain⟨t,rfl⟩:=ru;simp only[D.py];exact#[[],.int i t]
 |.str x,v,u,r,ru,_=>by
  simp only[V1,Rep] at r;obtain⟨r,_⟩:=r;subst r;obtain⟨t,rfl⟩:=ru;simp only[D.py];exact#[[],.str x t]
 |.tup ds,v,u,r,ru,hp=>by
  simp only[V1,Rep] at r;obtain⟨a,xs,rfl,q,w⟩:=r;cases ru;obtain⟨its,J,⟨o,h1,h2,n,M⟩,_⟩:=I.tuple q;obtain⟨as,B⟩:=fX I ds xs its w J (by simpa only[D.plain] using hp);simp only[D.py];exact#[as,.tuple h1 h2 M (by simpa using B)]
 |.lst ds,v,u,r,ru,hp=>by
  obtain⟨a,xs,rfl,q,w⟩:=r;cases ru;obtain⟨its,J,⟨o,n,h1,h2,M,h4⟩,_⟩:=I.list (SqL.of q);obtain⟨as,B⟩:=fX I ds xs its w J (by simpa only[D.plain] using hp);simp only[D.py];exact#[_,.list h1 h2 h4 (by simpa using B)]
 |.feed,v,u,r,ru,hp=>by simp only[D.plain] at hp;cases hp
 |.scr _,v,u,r,ru,hp=>by simp only[D.plain] at hp;cases hp
 |.fn _,v,u,r,ru,hp=>by simp only[D.plain] at hp;cases hp
 |.exc _ _,v,u,r,ru,hp=>by simp only[D.plain] at hp;cases hp
theorem fX (I:Inv X pins σ H s):∀(ds:vD_) (xs:List V) (us:vV_),Reps X.K N fa H ds xs->Vals xs us->D.plains ds=true->∃as,ReadsAll s.heap us (D.pys ds) as
 |[],xs,us,r,ru,_=>by
  simp only[Reps] at r;subst r;cases ru;simp only[D.pys];exact#[[],.nil]
 |d::ds,xs,us,r,ru,hp=>by
  simp only[Reps] at r;obtain⟨x,ys,rfl,B,J⟩:=r;cases ru with
  |cons q M=>
   simp only[D.plains,Ko] at hp;obtain⟨as,h1⟩:=V5 I d x _ B.o q hp.1;obtain⟨U,h2⟩:=fX I ds ys _ J M hp.2;simp only[D.pys];exact#[_,.cons h1 h2]
end
end
def v3 (d:D):Bool:=d.plain&&SeqAt.shaped d.py
def B3 (B J:D):Option D:=match B,J with
 |.str x,.str y=>some (.bl (decide (x=y)))
 |B,J=>if v3 B&&v3 J then some (.bl (PyData.eqv B.py J.py)) else none
def F9 (B J:D):Option D:=match B,J with
 |.str x,.str y=>some (.bl (!decide (x=y)))
 |B,J=>if v3 B&&v3 J then some (.bl (!PyData.eqv B.py J.py)) else none
def cW (K:vF_) (f:Bool->Bool):R2:=fun x y H Q=>∃N fa d1 d2,RepB K N fa H d1 x/\RepB K N fa H d2 y/\v3 d1=true/\v3 d2=true/\Q (.bl (f (PyData.eqv d1.py d2.py))) H
section
variable {K:vF_}
def yF (hu:X.A.units+64<cLine):OpR X (compareOp .Eq) (cW X.K id):=by
 intro pins s σ H x y v u Q I W Y h;obtain⟨N,fa,d1,Z,M,U,J,B,q⟩:=h;unfold v3 at J B;rw[Ko] at J B;obtain⟨as,h1⟩:=V5 I d1 x v M.o W J.1;obtain⟨bs,h2⟩:=V5 I Z y u U.o Y B.1;exact PB h1 h2 J.2 B.2 hu #[.bl _,H,I,rfl,q]
def Jl (hu:X.A.units+64<cLine):OpR X (compareOp .NotEq) (cW X.K not):=by
 intro pins s σ H x y v u Q I W Y h;obtain⟨N,fa,d1,Z,M,U,J,B,q⟩:=h;unfold v3 at J B;rw[Ko] at J B;obtain⟨as,h1⟩:=V5 I d1 x v M.o W J.1;obtain⟨bs,h2⟩:=V5 I Z y u U.o Y B.1;exact PyProof.Rows.ne_dataH h1 h2 J.2 B.2 hu #[.bl _,H,I,rfl,q]
def zc (B:X.A.units+64<cLine):OpR X (compareOp .Eq) (fun x y H Q=>kU x y H Q\/cW X.K id x y H Q):=op_eq.or (yF B)
def Jx (B:X.A.units+64<cLine):OpR X (compareOp .NotEq) (fun x y H Q=>jZ x y H Q\/cW X.K not x y H Q):=op_ne.or (Jl B)
def Dq {B J:D}(h:B3 B J=some d):(∃x y,B = .str x/\J = .str y/\d = .bl (decide (x=y)))\/(v3 B=true/\v3 J=true/\d = .bl (PyData.eqv B.py J.py)):=by
 unfold B3 at h;split at h
 .cases h;exact .inl #[_,_,rfl,rfl,rfl]
 .split at h
  .rename_i q;rw[Ko] at q;cases h;exact .inr #[q.1,q.2,rfl]
  .cases h
def HG {B J:D}(h:F9 B J=some d):(∃x y,B = .str x/\J = .str y/\d = .bl (!decide (x=y)))\/(v3 B=true/\v3 J=true/\d = .bl (!PyData.eqv B.py J.py)):=by
 unfold F9 at h;split at h
 .cases h;exact .inl #[_,_,rfl,rfl,rfl]
 .split at h
  .rename_i q;rw[Ko] at q;cases h;exact .inr #[q.1,q.2,rfl]
  .cases h
def xH (x y:Str):decide (V.str x=V.str y)=decide (x=y):=by
 by_cases h:x=y
 .subst h;simp
 .rw[KC h,KC fun z=>h (V.str.inj z)]
def Hz:J9 K (fun x y H Q=>kU x y H Q\/cW K id x y H Q) B3:=by
 intro g σ H fa O s x y U M d Q I B J e k;rcases Dq e with ⟨a,b,rfl,rfl,rfl⟩ | ⟨h1,h2,rfl⟩
 .simp only[RepB,Rep] at B J;obtain⟨rfl,_⟩:=B;obtain⟨rfl,_⟩:=J;exact .inl #[rfl,k _ H StE.refl I (by simp only[Rep,xH])]
 .exact .inr #[_,_,U,M,B,J,h1,h2,k _ H StE.refl I (by simp only[Rep,id])]
def zV:J9 K (fun x y H Q=>jZ x y H Q\/cW K not x y H Q) F9:=by
 intro g σ H fa O s x y U M d Q I B J e k;rcases HG e with ⟨a,b,rfl,rfl,rfl⟩ | ⟨h1,h2,rfl⟩
 .simp only[RepB,Rep] at B J;obtain⟨rfl,_⟩:=B;obtain⟨rfl,_⟩:=J;exact .inl #[rfl,k _ H StE.refl I (by simp only[Rep,xH])]
 .exact .inr #[_,_,U,M,B,J,h1,h2,k _ H StE.refl I (by simp only[Rep])]
def d3:D->D->Option D
 |.tup ds,.int i=>v5 ds i
 |.lst ds,.int i=>v5 ds i
 |_,_=>none
abbrev k0(i:Int):DE:=dC (.int i)
abbrev Qn(i:Nat)(j:Int):DE:=a7 d3 (dL i) (k0 j)
def qG {i:Int}(r:Reps K N fa H ds xs) (h:v5 ds i=some d):∃v,v5 xs i=some v/\Rep K N fa H d v:=by
 unfold v5 at h ⊢;rw[r.length];cases e:P6 ds.length i with
 |none=>rw[e] at h;cases h
 |some j=>
  rw[e] at h;simp only[xr] at h ⊢;exact Reps.get r h
def yy:J9 K (fun x y H Q=>lK K x y H Q\/lZ K x y H Q) d3:=by
 intro g σ H fa O s x y Y W d Q I J B e k;cases Y with
 |tup ds=>
  cases W with
  |int i=>
   simp only[RepB,Rep] at J B;obtain⟨a,xs,rfl,q,w⟩:=J;obtain⟨v,M,U⟩:=qG w (show v5 ds i=some d from e);exact .inr #[a,xs,i,v,rfl,B,q,M,k v H StE.refl I U]
  |_=>cases e
 |lst ds=>
  cases W with
  |int i=>
   obtain⟨a,xs,rfl,_,q,w⟩:=J;simp only[RepB,Rep] at B;obtain⟨v,M,U⟩:=qG w (show v5 ds i=some d from e);exact .inl #[a,xs,i,v,rfl,B,SqL.of q,M,k v H StE.refl I U]
  |_=>cases e
 |_=>cases e
def IG:IxR X (fun x y H Q=>lK X.K x y H Q\/lZ X.K x y H Q):=ix_list.or Ek
end
noncomputable def j7 (p:List D->Option D) (f:DA):DE:=fun s=>(f s).bind fun x=>(p x.1).map fun d=>(d,x.2)
def W9 (p:List D->Option (List D)) (f:DA):DA:=fun s=>(f s).bind fun x=>(p x.1).map fun d=>(d,x.2)
section
variable {p pos:Pos}{t:DA}{id T:String}{r:List V->Hp->VK->Prop}{pr:List D->Option D}{pf:List D->Option (List D)}
def xg (W:W3 X.K r pr) (σ:L2.St) (H:Hp) (Q:VK) (h:liftE X.K g (j7 pr t) σ H Q):fK r (liftBA X.K g t) σ H Q:=by
 obtain⟨f0,O,s,d,s',I,e,k⟩:=h;refine p9 e fun ds s1 h1 h=>?_
 refine F3 h fun B Y h=>?_
 simp only[Kq] at h;obtain⟨e1,e2⟩:=h;subst e1;subst e2;exact#[f0,O,s,ds,s1,I,h1,fun Z H1 f1 O1 a1 I1 J=>W g σ H1 f1 O1 s1 Z ds B Q I1 J Y fun z U M I3 r3=>k z U f1 O1 (a1.trans M) I3 r3]
def wL (Z:iL X.K r pf) (σ:L2.St) (H:Hp) (Q:VK) (h:liftF X.K g (W9 pf t) σ H Q):fK r (liftBA X.K g t) σ H Q:=by
 obtain⟨f0,O,s,d,s',I,e,k⟩:=h;refine p9 e fun ds s1 h1 h=>?_
 refine F3 h fun J h3 h=>?_
 simp only[Kq] at h;obtain⟨e1,e2⟩:=h;subst e1;subst e2;exact#[f0,O,s,ds,s1,I,h1,fun vs H1 f1 O1 B I1 U=>Z g σ H1 f1 O1 s1 vs ds J Q I1 U h3 fun q ys Y W L M=>k q ys Y f1 O1 (B.trans W) L (B.mon _ M)]
def nE (hc:CallR X (.builtin id) r) (U:W3 X.K r pr) (M:Gl X x) (hm:X.mg x=none) (Z:bootBuiltins x=some (.builtin id)) (ha:BAO X g (e::es) t) (W:x ≠ "__name__" := by decide) (B:(x == ("__debug__" : Str))=false:=by decide)
  (Y:starEach (e::es) X.env=(false,eval e X.env)::starEach es X.env:=by rfl) (J:(backTo pos (starEach es X.env)).any (·.1)=false:=by rfl):EO X g (.Call (.Name x p) (e::es) [] pos) (j7 pr t):=
 EO.w (xW hc M hm Z ha.pe W B Y J) (xg U)
def we (hc:CallR X (.type T) r) (U:W3 X.K r pr) (M:Gl X x) (hm:X.mg x=none) (Z:bootBuiltins x=some (.type T)) (ha:BAO X g (e::es) t) (W:x ≠ "__name__" := by decide) (B:(x == ("__debug__" : Str))=false:=by decide)
  (Y:starEach (e::es) X.env=(false,eval e X.env)::starEach es X.env:=by rfl) (J:(backTo pos (starEach es X.env)).any (·.1)=false:=by rfl):EO X g (.Call (.Name x p) (e::es) [] pos) (j7 pr t):=
 EO.w (gs hc M hm Z ha.pe W B Y J) (xg U)
def Jc (hc:CallR X (.type T) r) (U:iL X.K r pf) (M:Gl X x) (hm:X.mg x=none) (Z:bootBuiltins x=some (.type T)) (ha:BAO X g (e::es) t) (W:x ≠ "__name__" := by decide) (B:(x == ("__debug__" : Str))=false:=by decide)
  (Y:starEach (e::es) X.env=(false,eval e X.env)::starEach es X.env:=by rfl) (J:(backTo pos (starEach es X.env)).any (·.1)=false:=by rfl):FO X g (.Call (.Name x p) (e::es) [] pos) (W9 pf t):=
 FO.w (gs hc M hm Z ha.pe W B Y J) (wL U)
end
def uL {K:vF_}(r:aj K N fa H [d] xs):∃x,xs=[x]/\RepB K N fa H d x:=by
 obtain⟨x,ys,rfl,J,B⟩:=r;simp only[aj] at B;subst B;exact#[x,rfl,J]
def one {α:Type}(p:D->Option α):List D->Option α
 |[d]=>p d
 |_=>none
def tY {α:Type}{p:D->Option α}{a:α}(h:one p ds=some a):∃d,ds=[d]/\p d=some a:=by
 cases ds with
 |nil=>cases h
 |cons d r=>
  cases r with
  |nil=>exact#[d,rfl,h]
  |cons _ _=>cases h
def l7:D->Option D
 |.tup ds=>some (.int (ds.length:Nat))
 |.lst ds=>some (.int (ds.length:Nat))
 |.str x=>some (.int (x.length:Nat))
 |_=>none
def X5:D->Option D
 |.int i=>some (.int (if i<0 then -i else i))
 |_=>none
def dX:D->Option D
 |.tup ds=>some (.tup ds)
 |.lst ds=>some (.tup ds)
 |_=>none
def nL:D->Option (List D)
 |.tup ds=>some ds
 |.lst ds=>some ds
 |_=>none
def aD (d:D):Bool:=d.plain&&d.py.showable&&d.py.canLay0&&decide (d.py.depth<=64)&&decide (d.py.shown.length<=sizeLine)
def S9 (d:D):Option D:=if aD d then some (.str d.py.shown) else none
section
variable {K:vF_}
def qR:CallR X (.builtin "len") (fun xs H Q=>(∃p ys,xs=[.ref p]/\(SqL X.K H p ys\/SqT X.K H p ys)/\Q (.int ys.length) H)\/(∃z,xs=[.str z]/\z.length<=sizeLine/\Q (.int z.length) H)):=call_len_seq.or zr
def fJ {r:List V->Hp->VK->Prop}{p:D->Option D}(h:∀(g:Gh) (σ:L2.St) (H:Hp) (fa:vA_) (O:vL_) (s:DS) (x:V) (d1 d:D) (Q:VK),GI K g σ H fa O s->RepB K (NN g.F fa O) fa H d1 x->p d1=some d ->
  (∀v H',StE fa O H fa O H'->GI K g σ H' fa O s->Rep K (NN g.F fa O) fa H' d v->Q v H')->r [x] H Q):W3 K r (one p):=by
 intro g σ H fa O s xs ds d Q I M e k;obtain⟨d1,rfl,J⟩:=tY e;obtain⟨x,rfl,B⟩:=uL M;exact h g σ H fa O s x d1 d Q I B J k
def xP:W3 K (fun xs H Q=>(∃p ys,xs=[.ref p]/\(SqL K H p ys\/SqT K H p ys)/\Q (.int ys.length) H)\/(∃z,xs=[.str z]/\z.length<=sizeLine/\Q (.int z.length) H)) (one l7):=fJ fun g σ H fa O s x B d Q I r e k=>by
 cases B with
 |tup es=>
  cases e;simp only[RepB,Rep] at r;obtain⟨a,ys,rfl,q,w⟩:=r;exact .inl #[a,ys,rfl,.inr q,k _ H StE.refl I (by rw[w.length];simp only[Rep])]
 |lst es=>
  cases e;obtain⟨a,ys,rfl,_,q,w⟩:=r;exact .inl #[a,ys,rfl,.inl (SqL.of q),k _ H StE.refl I (by rw[w.length];simp only[Rep])]
 |str z=>
  cases e;simp only[RepB,Rep] at r;obtain⟨rfl,l⟩:=r;exact .inr #[z,rfl,l,k _ H StE.refl I (by simp only[Rep])]
 |_=>cases e
def ER:W3 K (fun xs H Q=>∃i,xs=[.int i]/\Q (.int (if i<0 then -i else i)) H) (one X5):=fJ fun g σ H fa O s x B d Q I r e k=>by
 cases B with
 |int i=>
  cases e;simp only[RepB,Rep] at r;subst r;exact#[i,rfl,k _ H StE.refl I (by simp only[Rep])]
 |_=>cases e
def qZ:W3 K (fun xs H Q=>∃p ys,xs=[.ref p]/\((SqL K H p ys/\∀l,H l=none->Q (.ref l) (e7 H l (.tup ys)))\/(SqT K H p ys/\Q (.ref p) H))) (one dX):=fJ fun g σ H fa O s x J d Q I r e k=>by
 cases J with
 |tup es=>
  cases e;simp only[RepB,Rep] at r;obtain⟨a,ys,rfl,q,w⟩:=r;exact#[a,ys,rfl,.inr #[q,k _ H StE.refl I (by simp only[Rep];exact#[a,ys,rfl,q,w])]]
 |lst es=>
  cases e;obtain⟨a,ys,rfl,_,q,w⟩:=r;refine#[a,ys,rfl,.inl #[SqL.of q,fun p hp=>?_]];have B:StE fa O H fa O (e7 H p (.tup ys)):=B4 hp;refine k _ _ B (I.new hp) ?_;simp only[Rep];exact#[p,ys,rfl,SqT.of w6,Reps.stp I B.stp w]
 |_=>cases e
def Ct:iL K (fun xs H Q=>∃p ys,xs=[.ref p]/\(SqL K H p ys\/SqT K H p ys)/\∀l,H l=none->Q (.ref l) (e7 H l (.lst ys))) (one nL):=by
 intro g σ H fa O s xs ds es Q I U e k;obtain⟨M,rfl,J⟩:=tY e;obtain⟨x,rfl,r⟩:=uL U;cases M with
 |tup B=>
  cases J;simp only[RepB,Rep] at r;obtain⟨a,ys,rfl,q,w⟩:=r;exact#[a,ys,rfl,.inr q,fun p hp=>k p ys _ (B4 hp) (X7 I hp w) hp]
 |lst B=>
  cases J;obtain⟨a,ys,rfl,_,q,w⟩:=r;exact#[a,ys,rfl,.inl (SqL.of q),fun p hp=>k p ys _ (B4 hp) (X7 I hp w) hp]
 |_=>cases J
def uW (K:vF_):List V->Hp->VK->Prop:=fun xs H Q=>∃N fa d x,xs=[x]/\RepB K N fa H d x/\aD d=true/\Q (.str d.py.shown) H
def Hx (hu:X.A.units+66<cLine) (hg:X.A.guards=some []):CallR X (.builtin "repr") (uW X.K):=by
 intro pins s σ H xs us Q I r h;obtain⟨N,fa,d,x,rfl,B,Y,q⟩:=h;obtain⟨u,rfl,M⟩:=W0 r;unfold aD at Y;simp only[Ko,LU] at Y;obtain⟨⟨⟨⟨hp,hs⟩,hl⟩,hd⟩,W⟩:=Y;obtain⟨as,Z⟩:=V5 I d x u B.o M hp;have J:∀(h':Heap) (U:Nat) (t:Tok),(∀b o,s.heap.get? b=some o->h'.get? b=some o)->EP X pins σ Q (.str d.py.shown t) { s with heap:=h',toks:=U }:=fun h' U t hk=>#[.str d.py.shown,H,I.kept hk,#[t,rfl],q]
 cases d with
 |non=>
  simp only[RepB,Rep] at B;subst B;cases M;exact P.repr_of_none (J s.heap _ _ fun _ _ e=>e)
 |bl b=>
  simp only[RepB,Rep] at B;subst B;cases M;have:=J s.heap (s.toks+1) s.toks fun _ _ e=>e
  refine P.repr_of_bool ?_;cases b <;> simpa only[D.py,PyData.shown] using this
 |int i=>
  simp only[RepB,Rep] at B;subst B;obtain⟨t,rfl⟩:=M;have:=J s.heap (s.toks+1) s.toks fun _ _ e=>e
  simp only[D.py,PyData.showable,LU] at hs;exact P.repr_of_int hs (by simpa only[D.py,PyData.shown] using this)
 |str z=>
  simp only[RepB,Rep] at B;obtain⟨B,_⟩:=B;subst B;obtain⟨t,rfl⟩:=M;have:=J s.heap (s.toks+1) s.toks fun _ _ e=>e
  exact P.repr_of_str (by simpa only[D.py,PyData.shown] using this) (by simpa only[D.py,PyData.shown] using W)
 |tup ds=>
  simp only[RepB,Rep] at B;obtain⟨a,ys,rfl,_⟩:=B;cases M;exact repr_of_reads' Z hs (PyData.noDict_hsm (PyData.hasDict_of_canLay _ hl)) hg ∅ (fun _ _ e=>e) (fun h' t U hk=>J h' U t hk) W
 |lst ds=>
  obtain⟨a,ys,rfl,_⟩:=B;cases M;exact repr_of_reads' Z hs (PyData.noDict_hsm (PyData.hasDict_of_canLay _ hl)) hg ∅ (fun _ _ e=>e) (fun h' t U hk=>J h' U t hk) W
 |feed=>cases hp
 |scr _=>cases hp
 |fn _=>cases hp
 |exc _ _=>cases hp
def Bw:W3 K (uW K) (one S9):=fJ fun g σ H fa O s x B d Q I r e k=>by
 unfold S9 at e;by_cases h:aD B=true
 .rw[gV h] at e;cases e;refine#[_,_,B,x,rfl,r,h,k _ H StE.refl I ?_];simp only[Rep];unfold aD at h;simp only[Ko,LU] at h;exact#[trivial,h.2]
 .rw[fI h] at e;cases e
end
end DL
namespace DL
open PySem PySem.Spec L2
def FS.get (key:Str) (f:FS):Option D:=
 if f.kind=0 then if key = "cells" then some (.lst (f.cells.map .int)) else if key = "at" then some (.int f.pos) else if key = "left" then some (.int f.left) else if key = "turn" then some (.int f.turn) else none else none
def FS.put (key:Str) (n:Int) (f:FS):Option FS:=
 if f.kind=0 then if key = "at" then some { f with pos:=n } else if key = "left" then some { f with left:=n } else if key = "turn" then some { f with turn:=n } else none else none
def Ke (i:Nat) (key:Str):DE:=fun s=>match s.sl[i]? with
 |some (.v .feed)=>s.fs.bind fun f=>(f.get key).map fun d=>(d,s)
 |_=>none
def Kd (i:Nat) (key:Str) (fe:DE):DM:=fun s=>(fe s).bind fun x=>match x.2.sl[i]?,x.1 with
 |some (.v .feed),.int n=>x.2.fs.bind fun f=>(f.put key n).map fun f'=>(.next,{ x.2 with fs:=some f' })
 |_,_=>none
section
variable {key:Str}{pos:Pos}
def CT (xs:List V) (h:xs.length<=63):S7 xs none (some 63)=xs:=by
 unfold S7;have J:HT.sIx xs.length 0 none=0:=rfl;have B:HT.sIx xs.length xs.length (some 63)=xs.length:=by
  have:=HT.sIx_nat xs.length xs.length 63;rw[show ((63:Nat):Int)=63 from rfl] at this;rw[this];omega
 rw[J,B,MZ,Ml,List.take_length]
end
def FS.tget (n:Int) (f:FS):Option D:=
 if f.kind=0 then none else if n=0 then some (.lst (f.cells.map .int)) else if n=1 then some (.int f.pos) else if n=2 then some (.int f.left) else if n=3/\f.kind≠1 then some (.int f.turn) else none
def FS.tput (n v:Int) (f:FS):Option FS:=
 if f.kind=0 then none else if n=1 then some { f with pos:=v } else if n=2 then some { f with left:=v } else if n=3/\f.kind≠1 then some { f with turn:=v } else none
def B7 (i:Nat) (n:Int):DE:=fun s=>match s.sl[i]? with
 |some (.v .feed)=>s.fs.bind fun f=>(f.tget n).map fun d=>(d,s)
 |_=>none
def R0 (i:Nat) (n:Int) (fe:DE):DM:=fun s=>(fe s).bind fun x=>match x.2.sl[i]?,x.1 with
 |some (.v .feed),.int v=>x.2.fs.bind fun f=>(f.tput n v).map fun f'=>(.next,{ x.2 with fs:=some f' })
 |_,_=>none
def FS.tget_val {n:Int}{f:FS}(h:f.tget n=some d) (c:Addr):∃v,v5 (K5 c f) n=some v/\((v = .ref c/\d = .lst (f.cells.map .int))\/∃i,v = .int i/\d = .int i)/\f.kind≠0:=by
 unfold FS.tget at h;split at h
 .cases h
 rename_i hk;unfold K5;split at h
 .rename_i e;subst e;cases h;refine#[.ref c,?_,.inl #[rfl,rfl],hk];split <;> rfl
 split at h
 .rename_i e;subst e;cases h;refine#[.int f.pos,?_,.inr #[_,rfl,rfl],hk];split <;> rfl
 split at h
 .rename_i e;subst e;cases h;refine#[.int f.left,?_,.inr #[_,rfl,rfl],hk];split <;> rfl
 split at h
 .rename_i e;obtain⟨e,B⟩:=e;subst e;cases h;refine#[.int f.turn,?_,.inr #[_,rfl,rfl],hk];rw[fI B];rfl
 .cases h
def FS.tput_val {n v:Int}{f f':FS}(h:f.tput n v=some f') (c:Addr):∃j,P6 (K5 c f).length n=some j/\(K5 c f).set j (.int v)=K5 c f'/\f'.cells=f.cells/\f.kind≠0/\f'.kind≠0:=by
 unfold FS.tput at h;split at h
 .cases h
 rename_i hk;split at h
 .rename_i e;subst e;cases h;refine#[1,?_,?_,rfl,hk,hk]
  .unfold K5;split <;> rfl
  .by_cases z:f.kind=1
   .simp[K5,z]
   .simp[K5,z]
 split at h
 .rename_i e;subst e;cases h;refine#[2,?_,?_,rfl,hk,hk]
  .unfold K5;split <;> rfl
  .by_cases z:f.kind=1
   .simp[K5,z]
   .simp[K5,z]
 split at h
 .rename_i e;obtain⟨e,B⟩:=e;subst e;cases h;refine#[3,?_,?_,rfl,hk,hk]
  .unfold K5;rw[fI B];rfl
  .simp[K5,B]
 .cases h
section
variable {n:Int}{pos:Pos}
def Jn (W:PE X (.Name x p1) (J8 i)):EO X g (.Subscript (.Name x p1) (.Constant (.int n) j p2) pos) (B7 i n):=
 EO.w (xK ix_list W aU (fun _ _=>rfl)) fun σ H Q Z=>by
  refine Z.elim fun fa O s d s' I e k=>?_
  unfold B7 at e;cases q:s.sl[i]? with
  |none=>rw[q] at e;cases e
  |some z=>
   rw[q] at e;cases z with
   |no=>cases e
   |dct _=>cases e
   |own _=>cases e
   |v dz=>
    cases dz with
    |feed=>
     refine C8 e fun f h1 h2=>?_
     refine F3 h2 fun d' M h4=>?_
     cases h4;obtain⟨u,U,r⟩:=SlR.val I.sl q;simp only[Rep] at r;obtain⟨a,ha,rfl⟩:=r;have fd:=I.fd;rw[h1,ha] at fd;obtain⟨_,c,J,Y,lc⟩:=fd;obtain⟨v,B,hd,hk⟩:=FS.tget_val M c;rw[jh hk] at J;refine#[_,U,a,_,n,v,rfl,rfl,SqL.of J,B,k v H fa O StE.refl I ?_];rcases hd with ⟨rfl,rfl⟩ | ⟨n,rfl,rfl⟩
     .simp only[Rep];exact#[c,_,rfl,by rw[ha];exact Y,lc,Reps.ints]
     .simp only[Rep]
    |_=>cases e
def Gg {e:Expr}{fe:DE}(hv:PE X (.Name x p1) (J8 i)) (he:EO X g e fe) (hs:swapsWithSole [.Subscript (.Name x p1) (.Constant (.int n) j p2) pos'] e pos.line X.env=pure false:=by rfl) (hw:swappedStores [.Subscript (.Name x p1) (.Constant (.int n) j p2) pos'] e X.env=pure none:=by rfl) :
  SO X g (.Assign [.Subscript (.Name x p1) (.Constant (.int n) j p2) pos'] e pos) (R0 i n fe):=
 SO.w (jS he.pe (nR hv aU ym) hs hw) fun E σ H hQ=>by
  refine hQ.elim fun fa O s fl s' I q k=>?_
  refine p9 q fun d s1 h1 h2=>?_
  simp only[] at h2;cases q1:s1.sl[i]? with
  |none=>rw[q1] at h2;cases h2
  |some z=>
   rw[q1] at h2;cases z with
   |no=>cases h2
   |dct _=>cases h2
   |own _=>cases h2
   |v dz=>
    cases dz with
    |feed=>
     cases d with
     |int w=>
      simp only[] at h2;refine C8 h2 fun f h3 h4=>?_
      refine F3 h4 fun f' h5 h6=>?_
      cases h6;refine#[fa,O,s,.int w,s1,I,h1,fun v H1 f1 O1 a1 B r=>?_];simp only[Rep] at r;subst r;obtain⟨u,e1,ru⟩:=SlR.val B.sl q1;simp only[Rep] at ru;obtain⟨a,ha,rfl⟩:=ru;have fd:=B.fd;rw[h3,ha] at fd;obtain⟨U,c,hc,nc,lc⟩:=fd;obtain⟨m,Z,M,J,hk,hk'⟩:=FS.tput_val h5 c;rw[jh hk] at hc;refine#[_,e1,a,_,n,m,rfl,rfl,hc,Z,?_];rw[M];have W:StE f1 O1 H1 f1 O1 (e7 H1 a (.lst (K5 c f'))):=#[fun _ h=>h,.inl rfl,fun b w e Y=>by rw[k9 (fun z=>Y (by rw[z];exact ha))];exact e,fun b z=>by
       by_cases hb:b=a
       .subst hb;rw[w6] at z;cases z
       .rw[k9 hb] at z;exact z]
      have cr:=B.car W.stp;refine k σ _ f1 O1 (a1.stp.trans W.stp) #[B.nd,SlR.go cr (fun b xs hb e=>W.same b _ e fun z=>B.nf b z hb) B.sl,B.fr,?_,B.tr,B.ff,?_,B.nf]
      .refine#[fun b hb=>(by cases hb),B.st.fe,fun b w e _ Y=>?_,fun b z=>B.st.mon b (W.mon b z)];refine W.same b w (B.st.same b w e (by simp) Y) fun z=>?_
       rcases B.st.fe with y | ⟨y,y2⟩
       .rw[y] at z;exact Y z
       .rw[y2 b z] at e;cases e
      .rw[ha];refine#[by rw[J];exact U,c,by rw[jh hk',w6],nc,?_];rw[k9 (fun z=>nc (.inr (.inr (by rw[z])))),J];exact lc
     |_=>cases h2
    |_=>cases h2
end
structure Cal (P:Program) (w:World) (K:vF_) (mg:vG_) (base:Heap) (k:Nat) (x:Str) (ps:List Str) (m:a8):Prop where
 ex:∃(f:Addr) (fd:FuncData),bN P w K mg base k f fd ps m/\mg x=some (.ref f)/\PySem.W.keepIn K (.ref f)=true/\Binds K fd ps []
structure Blt (mg:vG_):Prop where
 len:mg "len" = none
 range:mg "range" = none
 abs:mg "abs" = none
 tuple:mg "tuple" = none
 list:mg "list" = none
 int:mg "int" = none
 bool:mg "bool" = none
 str:mg "str" = none
 repr:mg "repr" = none
 all:mg "all" = none
 isinstance:mg "isinstance" = none
 zip:mg "zip" = none
 enumerate:mg "enumerate" = none
 min:mg "min" = none
 max:mg "max" = none
 reversed:mg "reversed" = none
 any:mg "any" = none
 sum:mg "sum" = none
 sorted:mg "sorted" = none
section
variable {ps:List Str}{p pos:Pos}{t:DA}
def gx (C:Cal X.prog X.w X.K X.mg X.base k x ps m) (k':Nat) (W:Room k' X.A) (hk:k<=k') (U:Gl X x)
  (ha:AO X g (e::es) t) (Z:∀s ds s',t s=some (ds,s')->ds.length=ps.length) (J:(x == ("__debug__" : Str))=false:=by decide) (Y:starEach (e::es) X.env=(false,eval e X.env)::starEach es X.env:=by rfl) (B:(backTo pos (starEach es X.env)).any (·.1)=false:=by rfl) :
  EO X g (.Call (.Name x p) (e::es) [] pos) (d4 m t):=by
 obtain⟨f,fd,F,hm,M,hb⟩:=C.ex;exact Dy F (W.mono hk) U hm M hb ha Z J Y B
end
def BP {w:World}{K:vF_}{st:Stmt}{f:Addr}{N ps:List Str}{b:DM}(F:Fun K x x st f fd) (hm:mg x=some (.ref f)) (hb:Binds K fd ps []) (S:FnScope N ps (D3 st))
  (B:∀(cdv:Value) (A:Around) (outer:List Env) (s:Shared) (H:Hp) (E:XK) (g:Gh),Room k (A.deeper (PyProof.Rows.envOfC x (D3 st) s.heap.objs.size f cdv))->SSO (X6 V0 P w K mg base N x (D3 st) f cdv A outer s H E).nox g (Q0 st) b) :
  Cal P w K mg base (k+1) x ps (o8 N.length b):=#[f,fd,oo F S B,hm,F.kp,hb]
def Z7 (B:Room k A):A.units+64<cLine:=by have:=B.un;omega
def Fn (B:Room k A):A.units+66<cLine:=by have:=B.un;omega
def xC:bootBuiltins ("len" : Str)=some (.builtin "len"):=by decide +kernel
def BQ:bootBuiltins ("abs" : Str)=some (.builtin "abs"):=by decide +kernel
def Kc:bootBuiltins ("repr" : Str)=some (.builtin "repr"):=by decide +kernel
def Iq:bootBuiltins ("isinstance" : Str)=some (.builtin "isinstance"):=by decide +kernel
def wM:bootBuiltins ("tuple" : Str)=some (.type "tuple"):=by decide +kernel
def iK:bootBuiltins ("list" : Str)=some (.type "list"):=by decide +kernel
def tV:bootBuiltins ("int" : Str)=some (.type "int"):=by decide +kernel
theorem fU {κ:Type}[BEq κ] [LawfulBEq κ] {β:Type}:∀{l:List (κ × β)}{x:κ}{v:β},l.lookup x=some v->(x,v)∈l
 |[],_,_,h=>by simp at h
 |(a,b)::r,x,v,h=>by
  rw[List.lookup_cons] at h;cases e:x == a with
  |true=>
   rw[e] at h;cases h;rw[eq_of_beq e];exact iR ..
  |false=>
   rw[e] at h;exact td _ (fU h)
def hasAll (B:List (Str × NameKind)) (cl:List (Str × Addr)):Bool:=B.all fun p=>!(p.2 == .cell||p.2 == .free)||(cl.lookup p.1).isSome
def uB {B:List (Str × NameKind)}(h:hasAll B cl=true):∀x,(B.lookup x=some .cell\/B.lookup x=some .free)->∃c,cl.lookup x=some c:=fun x M=>by
 have key:∀J,B.lookup x=some J->(J == NameKind.cell||J == NameKind.free)=true->∃c,cl.lookup x=some c:=fun J e q=>by
  have m:=fU e;have z:=LH.mp h _ m;simp only[q,Na,Bool.false_or] at z;exact Pr.mp z
 rcases M with e | e
 .exact key _ e rfl
 .exact key _ e rfl
inductive CapL (X:Cx) (scope:Scope):List Nat->List Str->Prop where
 | nil:CapL X scope [] []
 | cons {i:Nat}{y:Str}{r:List Nat}{ys:List Str}(h1:X.N[i]? = some y) (h2:X.env.scope.names.lookup y=some .cell\/X.env.scope.names.lookup y=some .free)
   (h3:(relabel scope X.env).names.lookup y=some .cell\/(relabel scope X.env).names.lookup y=some .free) (t:CapL X scope r ys):CapL X scope (i::r) (y::ys)
def CapL.len :∀{idx:List Nat}{ys:List Str},CapL X scope idx ys->ys.length=idx.length
:= by
 intro idx ys h;induction h with
 |nil=>rfl
 |cons _ _ _ t ih=>rw[Kh,Kh,ih]
def CapL.at :∀{idx:List Nat}{ys:List Str},CapL X scope idx ys->∀(j i:Nat) (y:Str),idx[j]? = some i->ys[j]? = some y ->
  X.N[i]? = some y/\(X.env.scope.names.lookup y=some .cell\/X.env.scope.names.lookup y=some .free)/\((relabel scope X.env).names.lookup y=some .cell\/(relabel scope X.env).names.lookup y=some .free)
:= by
 intro idx ys h;induction h with
 |nil=>intro j i y h;cases h
 |cons h1 h2 h3 t ih=>
  intro j i y e1 e2;cases j with
  |zero=>
   cases e1;cases e2;exact#[h1,h2,h3]
  |succ j=>exact ih j i y e1 e2
inductive SubL (cells:List (Str × Addr)):List (Str × Addr)->Prop where
 | nil:SubL cells []
 | cons {x:Str}{c:Addr}{r:List (Str × Addr)}(h:cells.lookup x=some c) (t:SubL cells r):SubL cells ((x,c)::r)
def SubL.mem {B:List (Str × Addr)}:∀{cl:List (Str × Addr)},SubL B cl->∀x c,(x,c)∈cl->B.lookup x=some c
:= by
 intro cl h;induction h with
 |nil=>intro x c h;cases h
 |cons e t ih=>
  intro x c h;rcases tx.mp h with z | z
  .cases z;exact e
  .exact ih x c z
def au (J:closureFor scope X.env=pure cl) (U:SubL X.env.cells cl) (cell:∀y∈scope.names,y.2 ≠ .cell) (kind:scope.kind = .function)
  (names:∀y∈scope.names,y.2 = .local->scope.names.lookup y.1=some .local) (M:hasAll (relabel scope X.env).names cl=true) (B:CapL X scope idx caps):CompOk X scope cl (x::caps) 1 idx:=
 #[J,fun y c e=>U.mem y c (fU e),cell,kind,names,uB M,by rw[Kh,B.len,LO],fun j i y Y W=>B.at j i y Y (by rw[LO] at W;simpa using W)]
def w5 (i j:Nat) (f:DA):DM:=fun s=>(f s).bind fun x=>match x.1 with
 |[a,b]=>some (.next,{ x.2 with sl:=(x.2.sl.set i (.v a)).set j (.v b) })
 |_=>none
def Kb {i j:Nat}{x y:Str}{a b:Expr}{f:DA}{px py pt pos:Pos}{kt k2 pt2} (hc:X.calm=true) (Z:X.N.Nodup) (hi:X.N[i]? = some x) (hj:X.N[j]? = some y) (M:i≠j)
  (hx:X.env.scope.names.lookup x=some .local) (Y:X.env.scope.names.lookup y=some .local) (ha:AO X g [a,b] f)
  (hw:swappedStores [.Tuple [.Name x px,.Name y py] kt pt] (.Tuple [a,b] k2 pt2) X.env=pure (some [x,y]))
  (hs:swapsWithSole [.Tuple [.Name x px,.Name y py] kt pt] (.Tuple [a,b] k2 pt2) pos.line X.env=pure false:=by rfl) :
  SO X g (.Assign [.Tuple [.Name x px,.Name y py] kt pt] (.Tuple [a,b] k2 pt2) pos) (w5 i j f):=SO.w (ID hc Z hi hj M hx Y ha.pe hw hs) fun E σ H hQ=>by
 refine hQ.elim fun fa O s fl s' I q k=>?_
 refine p9 q fun ds s1 h1 h2=>?_
 refine#[fa,O,s,ds,s1,I,h1,fun vs H1 f1 O1 a1 U r=>?_]
 match ds,h2,r with
 |[d1,d2],h2,r=>
  simp only[KP,Kq] at h2;obtain⟨e1,e2⟩:=h2;subst e1;subst e2;simp only[Reps] at r;obtain⟨v,ys,rfl,rv,u,zs,rfl,ru,rfl⟩:=r;refine#[v,u,rfl,?_];obtain⟨P,J,I2⟩:=U.put i rv;have W:StE f1 O1 H1 f1 P H1:=ie J;obtain⟨P3,B,I3⟩:=I2.put j (Rep.stp U W.stp ru);exact k _ H1 f1 P3 (a1.stp.trans (W.stp.trans (ie B).stp)) I3
def walkD {l:PySem.W.OpenLaw}{d:DefRec}{K:Params->PySem.W.Frag}(Y:l.most=some 63) (J:d.params.defaults=[]) (Z:Room k callerA)
  (U:∀(w:World) (h:Heap),YP w h->(K w.params).In h)
  (F:∀(w:World) (mg:vG_) (fa:Addr) (h:Heap),(K w.params).In h->h.Ns mainGlobals mg->mg d.name=some (.ref fa) ->
   ∃fd:FuncData,(∀(s:Shared) (u:Value),BindsTo s fd #[[u],[]] [("_law_script",u)])/\∀base:Heap,(K w.params).In base->base.Ns mainGlobals mg->FnOk l.prog w (K w.params) mg base V0 k fa fd ["_law_script"] (ao (K w.params) 1 m))
  (B:∀ns:List Int,ns.length<=63->∃fs',m [.scr ns] none=some (.bl true,fs')) :
  PySem.W.WalkO q loose XP YP l.row.toRowW d [] (fun f vs=>PySem.call f vs):=
 L2.walk_of (n:=63) (k:=k) (x := "_law_script") (CX:=fun _=>V0) (sp:=fun w=>ao (K w.params) 1 m) Y #[] J Z U F (fun w H a ns hl M hS=>by
  obtain⟨fs',e⟩:=B ns hl;refine#[fun _=>False,none,[.scr ns],none,.bl true,fs',fun b z=>z.elim,fun a z=>(by cases z),?_,trivial,e,rfl,fun v H' fa' _ _ r=>by simpa only[Rep] using r];simp only[Reps,Rep];refine#[_,_,rfl,#[hl,a,rfl,?_],rfl];rcases hS with (z | ⟨o,z⟩) | z
  .rcases M a with y | ⟨o,xs,y⟩ <;> · rw[z] at y;cases y
  .exact .inl #[o,z]
  .exact .inr z) fun _ _ _ _ _ z=>z
def uJ:D->Option String
 |.non=>some "NoneType"
 |.bl _=>some "bool"
 |.int _=>some "int"
 |.str _=>some "str"
 |.tup _=>some "tuple"
 |.lst _=>some "list"
 |_=>none
def ee (T C:String):Bool:=T == C||(T == "bool" && C == "int")
def rm (C:String) (d:D):Option D:=(uJ d).map fun T=>.bl (ee T C)
def lW (K:vF_) (C:String):Prop:=∀T,T = "NoneType" \/ T = "bool" \/ T = "int" \/ T = "str" \/ T = "tuple" \/ T = "list" -> PySem.W.kitOne K (.type T) (.type C)=some (ee T C)
def Ha {K:vF_}:lW K "list" := by rintro T (rfl | rfl | rfl | rfl | rfl | rfl) <;> rfl
def DK (K:vF_) (C:String):List V->Hp->VK->Prop:=fun xs H Q=>∃N fa d T x,xs=[x,.ty C]/\RepB K N fa H d x/\uJ d=some T/\Q (.bl (ee T C)) H
def Gj (hk:lW X.K C):CallR X (.builtin "isinstance") (DK X.K C):=by
 intro pins s σ H xs us Q I r h;obtain⟨N,fa,d,T,x,rfl,J,M,q⟩:=h;obtain⟨u,c,rfl,U,rc⟩:=BG r;cases (show c=Value.type C from rc);have B:∀Y,EP X pins σ Q (.bool (ee T C)) { s with toks:=Y }:=fun Y=>#[.bl (ee T C),H,I.tok Y,rfl,q]
 cases d with
 |non=>
  cases M;simp only[RepB,Rep] at J;subst J;cases U;exact MA PySem.W.kitx_none I.kIn True.intro (hk _ (by simp)) (fun z=>nomatch z) B
 |bl b=>
  cases M;simp only[RepB,Rep] at J;subst J;cases U;exact MA PySem.W.kitx_bool I.kIn True.intro (hk _ (by simp)) (fun z=>nomatch z) B
 |int i=>
  cases M;simp only[RepB,Rep] at J;subst J;obtain⟨t,rfl⟩:=U;exact MA PySem.W.kitx_int I.kIn True.intro (hk _ (by simp)) (fun z=>nomatch z) B
 |str i=>
  cases M;simp only[RepB,Rep] at J;obtain⟨J,_⟩:=J;subst J;obtain⟨t,rfl⟩:=U;exact MA PySem.W.kitx_str I.kIn True.intro (hk _ (by simp)) (fun z=>nomatch z) B
 |tup ds=>
  cases M;simp only[RepB,Rep] at J;obtain⟨a,ys,rfl,Z,_⟩:=J;cases U;obtain⟨its,_,⟨o,h1,h2,_⟩,_⟩:=I.tuple Z;exact MA PySem.W.kitx_tuple I.kIn #[o,h1,h2] (hk _ (by simp)) (fun z=>nomatch z) B
 |lst ds=>
  cases M;obtain⟨a,ys,rfl,_,Z,_⟩:=J;cases U;obtain⟨its,_,⟨o,n,h1,h2,_⟩,_⟩:=I.list (SqL.of Z);exact MA PySem.W.kitx_list I.kIn #[o,h1,h2] (hk _ (by simp)) (fun z=>nomatch z) B
 |feed=>cases M
 |scr _=>cases M
 |fn _=>cases M
 |exc _ _=>cases M
section
variable {a b:Expr}{fa fb fc:DE}{pos:Pos}
def JE {p p2:Pos}(hk:lW X.K C) (hg:Gl X "isinstance") (hm:X.mg "isinstance" = none) (J:Gl X cn) (B:X.mg cn=none) (U:bootBuiltins cn=some (.type C)) (ha:BO X g a fa)
  (hn:cn ≠ "__name__" := by decide) (hd:(cn == ("__debug__" : Str))=false:=by decide) (W:starEach [.Name cn p2] X.env=(false,eval (.Name cn p2) X.env)::starEach [] X.env:=by rfl)
  (Y:starEach [a,.Name cn p2] X.env=(false,eval a X.env)::starEach [.Name cn p2] X.env:=by rfl) (M:(backTo pos (starEach [.Name cn p2] X.env)).any (·.1)=false:=by rfl) :
  EO X g (.Call (.Name "isinstance" p) [a,.Name cn p2] [] pos) (t9 (rm C) fa):=
 EO.w (xW (Gj hk) hg hm Iq (Q7 ha.pe (Q7 (CD (v:=.ty C) J B U rfl hn hd) X0 W) Y) #[] #[] Y M) fun σ H Q hQ=>by
  refine hQ.elim fun f0 O s d s' I e k=>?_
  refine p9 e fun x s1 h1 h=>?_
  refine F3 h fun d' h3 h=>?_
  simp only[Kq] at h;obtain⟨e1,e2⟩:=h;subst e1;subst e2;refine F3 h3 fun T h4 h5=>?_
  subst h5;exact#[f0,O,s,x,s1,I,h1,fun v H1 f1 O1 a1 I1 Z=>#[_,_,x,T,v,rfl,Z,h4,k _ H1 f1 O1 a1 I1 (by simp only[Rep])]]
abbrev DO:=DS->Option (Option Int × DS)
def liftO (K:vF_) (g:Gh) (f:DO):L2.TO:=fun σ H Q=>∃fa O s d s',GI K g σ H fa O s/\f s=some (d,s')/\∀H' fa' O',StE fa O H fa' O' H'->GI K g σ H' fa' O' s'->Q d H'
def liftO.elim {K:vF_}{σ:L2.St}{f:DO}{Q:Option Int->Hp->Prop}(h:liftO K g f σ H Q) (k:∀fa O s d s',GI K g σ H fa O s->f s=some (d,s')->(∀H' fa' O',StE fa O H fa' O' H'->GI K g σ H' fa' O' s'->Q d H')->G):G:=by
 obtain⟨fa,O,s,d,s',a,b,c⟩:=h;exact k fa O s d s' a b c
structure OO (X:Cx) (g:Gh) (e:Option Expr) (f:DO):Prop where
 pe:PO X e (liftO X.K g f)
def K0:DO:=fun s=>some (none,s)
def K1 (f:DE):DO:=fun s=>(f s).bind fun x=>match x.1 with | .int i=>some (some i,x.2) | _=>none
def Ab {e:Option Expr}{t t':L2.TO}(h:PO X e t) (w:∀σ H Q,t' σ H Q->t σ H Q):PO X e t':=fun pins s σ H Q I q=>h pins s σ H Q I (w σ H Q q)
theorem OO.w {e:Option Expr}{f:DO}{t:L2.TO}(h:PO X e t) (w:∀σ H Q,liftO X.K g f σ H Q->t σ H Q):OO X g e f:=#[Ab h w]
def FJ:OO X g none K0:=OO.w pW fun σ H Q B=>by
 refine B.elim fun f0 O s d s' I e k=>?_
 cases e;exact k H f0 O StE.refl I
def Cg (h:BO X g a fa):OO X g (some a) (K1 fa):=OO.w (vh h.pe) fun σ H Q J=>by
 refine J.elim fun f0 O s d s' I e k=>?_
 refine p9 e fun x s1 h1 e=>?_
 cases x with
 |int i=>
  simp only[KP,Kq] at e;obtain⟨W,U⟩:=e;subst W;subst U;exact#[f0,O,s,.int i,s1,I,h1,fun v H1 f1 O1 Y M B=>#[i,by simpa only[RepB,Rep] using B,k H1 f1 O1 Y M]]
 |_=>cases e
def E4 (xs:vD_) (lo hi:Option Int):List D:=(xs.drop (HT.sIx xs.length 0 lo)).take (HT.sIx xs.length xs.length hi - HT.sIx xs.length 0 lo)
def mC {K:vF_}{fa:vA_}(r:Reps K N fa H ds xs) (lo hi:Option Int):Reps K N fa H (E4 ds lo hi) (S7 xs lo hi):=by
 unfold E4 S7;rw[r.length];exact(r.drop _).take _
end
end DL
namespace HT2
open PySem PyProof.Rows HT
section
variable {w:World}
def getItem_tuple_whole {t sl:Addr}{lo hi:Option Int}{Q:vQ_}(J:IsTup s.heap t items) (hs:s.heap.IsSliceOf sl vl vu .none) (pl:IsPart vl lo) (Z:IsPart vu hi)
  (Y:sIx items.size 0 lo=0/\sIx items.size items.size hi=items.size) (h:Q (.ref t) s):wpAny (model prog w) A (getItem (.ref t) (.ref sl)) Q E s:=by
 obtain⟨os,M,W,hds⟩:=id hs;have U:s.TypeIs (.ref sl) "slice" := #[os,M,W]
 unfold getItem
 try with_reducible refine Lk ?_
 first | refine fx (iO ?_) | skip
 refine fx (wpAny_sequenceKey J.typeIs #[] ?_);refine fx (Lu (name:=Str.ofString "__getitem__") J.typeIs Mu
  (KY Mu J.typeIs entry_tuple_getitem ?_ (args_tuple_getitem _ _)))
 show wpAny _ _ (Builtin.Tuple.tupleItemsOf (.ref t) >>= _) _ _ s;refine fx (tupleItemsOf_ J ?_);refine fx (MX U ?_);rw[gV #[]];refine fx (pA hs pl Z ?_);have B:(((sIx items.size 0 lo:Nat):Int) == 0&&(1:Int) == 1&&(sIx items.size items.size hi - sIx items.size 0 lo) == items.size)=true:=by
  rw[Y.1,Y.2];simp
 show wpAny _ _ (if (((sIx items.size 0 lo:Nat):Int) == 0&&(1:Int) == 1&&(sIx items.size items.size hi - sIx items.size 0 lo) == items.size)=true then _ else _) _ _ s;rw[gV B];refine fx (m:=Builtin.Tuple.tupleIsExact _) (fx (MX J.typeIs (iO ?_)));rw[gV #[]]
 first
  | exact fx (Lp (fx (iO (iO #[_,rfl,iO h]))))
  | exact fx (Lp (iO #[_,rfl,iO h]))
  | exact fx (Lp (fx (iO #[_,rfl,iO h])))
end
end HT2
namespace DL
open PySem PySem.Spec L2
section
variable {a:Expr}{fa:DE}{pos:Pos}
def Bc (K:vF_):V->Option Int->Option Int->Hp->VK->Prop:=fun x lo hi H Q=>∃a xs,x = .ref a/\SqT K H a xs/\(HT.sIx xs.length 0 lo=0/\HT.sIx xs.length xs.length hi=xs.length)/\Q (.ref a) H
def Gx:L2.SlR X (Bc X.K):=by
 intro pins s σ H x v vl vu lo hi sl Q I Y hs U Z h;obtain⟨a,xs,rfl,M,W,q⟩:=h;cases Y;obtain⟨its,r,J,hz⟩:=I.tuple M;have B:its.toArray.size=xs.length:=by rw[Kl];exact r.length.symm
 refine#["tuple",_,Mu.lookup,J.typeIs,?_];exact HT2.getItem_tuple_whole J hs U Z (by rw[B];exact W) #[.ref a,H,I,rfl,q]
def BE {xs:vD_}{lo hi:Option Int}(h:HT.sIx xs.length 0 lo=0/\HT.sIx xs.length xs.length hi=xs.length):E4 xs lo hi=xs:=by
 unfold E4;rw[h.1,h.2,MZ,Ml,List.take_length]
noncomputable def D8 (f:DE) (lo hi:DO):DE:=fun s=>(f s).bind fun x=>(lo x.2).bind fun l=>(hi l.2).bind fun h=>match x.1 with
 |.tup ds=>some (.tup (E4 ds l.1 h.1),h.2)
 |.lst ds=>some (.lst (E4 ds l.1 h.1),h.2)
 |_=>none
def FP {x r:D}{F:List D->List D}{t z:DS}(e:(match x with
 |.tup ds=>some (D.tup (F ds),t)
 |.lst ds=>some (D.lst (F ds),t)
 |_=>none)=some (r,z)):t=z/\((∃ds,x = .lst ds/\r = .lst (F ds))\/∃ds,x = .tup ds/\r = .tup (F ds)):=by
 cases x with
 |tup ds=>cases e;exact#[rfl,.inr #[ds,rfl,rfl]]
 |lst ds=>cases e;exact#[rfl,.inl #[ds,rfl,rfl]]
 |_=>cases e
def Ec {lo hi:Option Expr}{fl fh:DO}(ha:BO X g a fa) (hl:OO X g lo fl) (hh:OO X g hi fh):EO X g (.Subscript a (.Slice lo hi none p2) pos) (D8 fa fl fh):=
 EO.w (pZ (L2.SlR.or (L2.SlR.or zO Gx) rC) ha.pe hl.pe hh.pe) fun σ H Q hQ=>by
  refine hQ.elim fun f0 O s d s' I e k=>?_
  refine p9 e fun x s1 h1 e=>?_
  refine p9 e fun l s2 h2 e=>?_
  refine p9 e fun h s3 h3 e=>?_
  obtain⟨rfl,c⟩:=FP (F:=fun ds=>E4 ds l h) e;refine#[f0,O,s,x,s1,I,h1,fun v H1 f1 O1 a1 I1 r1=>#[f1,O1,s1,l,s2,I1,h2,fun H2 f2 O2 a2 I2=>#[f2,O2,s2,h,s3,I2,h3,fun W J B Y M=>?_]]];have r3:=RepB.stp I2 Y (RepB.stp I1 a2 r1);rcases c with ⟨ds,rfl,rfl⟩ | ⟨ds,rfl,rfl⟩
  .obtain⟨c,xs,rfl,_,q,w⟩:=r3;refine .inr #[c,xs,rfl,SqL.of q,fun p hp=>?_];have U:StE J B W J B (e7 W p (.lst (S7 xs l h))):=B4 hp;have L:=X7 M hp (mC w l h);refine k _ _ J B (a1.trans (a2.trans (Y.trans U))) L.gi ?_;simp only[Rep];exact#[p,_,rfl,eN M U L.gi hp L.nf,w6,Reps.stp M U.stp (mC w l h)]
  .simp only[RepB,Rep] at r3;obtain⟨c,xs,rfl,q,w⟩:=r3;by_cases Z:HT.sIx xs.length 0 l=0/\HT.sIx xs.length xs.length h=xs.length
   .refine .inl (.inr #[c,xs,rfl,q,Z,k _ W J B (a1.trans (a2.trans Y)) M ?_]);rw[w.length] at Z;rw[BE Z];simp only[Rep];exact#[c,xs,rfl,q,w]
   .refine .inl (.inl #[c,xs,rfl,q,Z,fun p hp=>?_]);have U:StE J B W J B (e7 W p (.tup (S7 xs l h))):=B4 hp;refine k _ _ J B (a1.trans (a2.trans (Y.trans U))) (M.new hp) ?_;simp only[Rep];exact#[p,_,rfl,SqT.of w6,Reps.stp M U.stp (mC w l h)]
end
end DL
namespace HT3
open PySem PyProof.Rows HT
section
variable {w:World}
def pick_rev (xs:vR_):((List.range xs.size).filterMap fun (m:Nat)=>xs[(((xs.size:Int) - 1)+(m:Int)*(-1)).toNat]?).toArray=xs.toList.reverse.toArray:=by
 congr 1;have e:((List.range xs.size).filterMap fun (m:Nat)=>xs[(((xs.size:Int) - 1)+(m:Int)*(-1)).toNat]?)=((List.range xs.size).filterMap fun (m:Nat)=>xs.toList.reverse[m]?):=by
  have M:∀(l:List Nat) (f g:Nat->Option Value),(∀m∈l,f m=g m)->l.filterMap f=l.filterMap g:=by
   intro l f g;induction l with
   |nil=>intro _;rfl
   |cons a r J=>intro h;rw[Mf,Mf,h a (iR ..),J fun m hm=>h m (td _ hm)]
  refine M _ _ _ fun m hm=>?_
  have B:m<xs.size:=LF.mp hm;have:(((xs.size:Int) - 1)+(m:Int)*(-1)).toNat=xs.size - 1 - m:=by omega
  rw[this,PD (by simpa using B)];simp
 rw[e];have hl:xs.size=xs.toList.reverse.length:=by simp
 rw[hl];generalize xs.toList.reverse=l;clear e hl;induction l with
 |nil=>rfl
 |cons a r J=>
  rw[Kh,List.range_succ_eq_map,Mf];simp only[List.getElem?_cons_zero,OC];congr 1
end
end HT3
namespace DL
open PySem PySem.Spec L2 PyProof.Rows
def Ik {w:World}{K:vF_}{f:Addr}{ps:List Str}:bN P w K mg base k f fd ps (fun _ _=>none):=by
 refine#[fun M H Q E h=>?_,fun A B s H J us M Q E _ _ _ _ h=>?_] <;> (obtain⟨F,fa,ds,fs,d,fs',_,_,_,_,e,_⟩:=h;cases e)
end DL
namespace DL
open PySem PySem.Spec L2
def ko:Expr->Bool
 |.Starred _ _=>false
 |_=>true
def sF {a:Expr}{B:Env}(h:ko a=true):starEach (a::es) B=(false,eval a B)::starEach es B:=by
 cases a <;> first | rfl | (cases h)
section
variable {a:Expr}{fa:DE}{fr:DA}
def ac (ha:EO X g a fa) (B:AO X g es fr) (hs:ko a=true:=by rfl):AO X g (a::es) (a0 fa fr):=jM ha B (sF hs)
def bc (ha:BO X g a fa) (B:BAO X g es fr) (hs:ko a=true:=by rfl):BAO X g (a::es) (a0 fa fr):=AQ ha B (sF hs)
end
end DL
namespace DL
open PySem PySem.Spec L2 PyProof.Rows
def T4 (x:D) (ds:vD_):Bool:=(D.pys ds).any fun y=>PyData.eqv y x.py
def aZ (f:Bool->Bool) (x c:D):Option D:=match c with
 |.lst ds=>if v3 x&&v3 (.lst ds) then some (.bl (f (T4 x ds))) else none
 |.tup ds=>if v3 x&&v3 (.tup ds) then some (.bl (f (T4 x ds))) else none
 |_=>none
def W7 (x c:D):Option D:=aZ id x c
def cD (x c:D):Option D:=aZ not x c
def dF (K:vF_) (f:Bool->Bool):R2:=fun x y H Q=>∃N fa d1 d2 ds,RepB K N fa H d1 x/\RepB K N fa H d2 y/\(d2 = .lst ds\/d2 = .tup ds)/\v3 d1=true/\v3 d2=true/\Q (.bl (f (T4 d1 ds))) H
section
variable {K:vF_}
def fV {u a b:Nat}(h:u+64<cLine) (ha:a+1<=64):u+1+min a b<cLine:=by
 have:min a b<=a:=MB _ _;omega
def wk (U:X.A.units+64<cLine):OpR X (compareOp .In) (dF X.K id):=by
 intro pins s σ H x y v u Q I Z ry h;obtain⟨N,fa,d1,d2,ds,W,Y,hd,J,B,q⟩:=h;unfold v3 at J B;rw[Ko] at J B;obtain⟨as,h1⟩:=V5 I d1 x v W.o Z J.1;obtain⟨bs,h2⟩:=V5 I d2 y u Y.o ry B.1;have l2:=MC B.2;have M:=SeqAt.depth_of_shaped B.2;rcases hd with rfl | rfl
 .simp only[D.py,PyData.canLay0,PyData.depth] at h2 l2 M;exact SeqAt.in_list_reads h2 h1 l2 (MC J.2) (fV U M) #[.bl _,H,I,rfl,q]
 .simp only[D.py,PyData.canLay0,PyData.depth] at h2 l2 M;exact SeqAt.in_tuple_reads h2 h1 l2 (MC J.2) (fV U M) #[.bl _,H,I,rfl,q]
def IT (U:X.A.units+64<cLine):OpR X (compareOp .NotIn) (dF X.K not):=by
 intro pins s σ H x y v u Q I Z ry h;obtain⟨N,fa,d1,d2,ds,W,Y,hd,J,B,q⟩:=h;unfold v3 at J B;rw[Ko] at J B;obtain⟨as,h1⟩:=V5 I d1 x v W.o Z J.1;obtain⟨bs,h2⟩:=V5 I d2 y u Y.o ry B.1;have l2:=MC B.2;have M:=SeqAt.depth_of_shaped B.2;rcases hd with rfl | rfl
 .simp only[D.py,PyData.canLay0,PyData.depth] at h2 l2 M;exact SeqAt.notIn_list_reads h2 h1 l2 (MC J.2) (fV U M) #[.bl _,H,I,rfl,q]
 .simp only[D.py,PyData.canLay0,PyData.depth] at h2 l2 M;exact SeqAt.notIn_tuple_reads h2 h1 l2 (MC J.2) (fV U M) #[.bl _,H,I,rfl,q]
def Cy {f:Bool->Bool}{x c:D}(h:aZ f x c=some d):∃ds,(c = .lst ds\/c = .tup ds)/\v3 x=true/\v3 c=true/\d = .bl (f (T4 x ds)):=by
 unfold aZ at h;cases c with
 |lst ds=>
  simp only at h;split at h
  .rename_i q;rw[Ko] at q;cases h;exact#[ds,.inl rfl,q.1,q.2,rfl]
  .cases h
 |tup ds=>
  simp only at h;split at h
  .rename_i q;rw[Ko] at q;cases h;exact#[ds,.inr rfl,q.1,q.2,rfl]
  .cases h
 |_=>cases h
def rk (f:Bool->Bool):J9 K (dF K f) (aZ f):=by
 intro g σ H fa O s x y Z W d Q I B M e k;obtain⟨ds,U,Y,J,rfl⟩:=Cy e;exact#[_,fa,Z,W,ds,B,M,U,Y,J,k _ H StE.refl I (by simp only[Rep])]
def uV:J9 K (dF K id) W7:=rk id
def Es:J9 K (dF K not) cD:=rk not
end
end DL
namespace DL
open PySem PySem.Spec L2
def kr (i:Nat) (s:DS):DS:=match s.sl[i]? with
 |some (.own ds)=>{ s with sl:=s.sl.set i (.v (.lst ds)) }
 |_=>s
def iV:List Nat->DS->DS
 |[],s=>s
 |i::r,s=>iV r (kr i s)
section
variable {K:vF_}{σ:L2.St}{s:DS}
def JG (i:Nat) (I:GI K g σ H fa O s):∃P,StE fa O H fa P H/\GI K g σ H fa P (kr i s):=by
 unfold kr;cases q:s.sl[i]? with
 |none=>exact#[O,StE.refl,I]
 |some z=>
  cases z with
  |no=>exact#[O,StE.refl,I]
  |dct _=>exact#[O,StE.refl,I]
  |v d'=>exact#[O,StE.refl,I]
  |own ds=>
   simp only;obtain⟨a,xs,M,m,e2,r⟩:=SlR.own I.sl q
   let N1:Addr->Prop:=fun b=>NN g.F fa O b/\b≠a
   have J:Car K (NN g.F fa O) fa H N1 fa H:=#[fun b ys n z=>#[z,fun y=>n y.1],fun _ _ z=>z,fun _ _ z=>z,fun _ z=>z]
   have S1:=SlR.go J (fun _ _ _ z=>z) I.sl;have Z:Rep K N1 fa H (.lst ds) (.ref a):=by
    simp only[Rep];exact#[a,xs,rfl,fun z=>z.2 rfl,e2,Reps.go J ds xs r]
   obtain⟨P,hs,Y,hn⟩:=SlR.put i S1 Z;have na:a ∉ P:=hn I.nd a (by rw[q];rfl) #[ds,q] M;have eσ:σ.set i (some (V.ref a))=σ:=by
    apply OM;intro j;by_cases U:j=i
    .subst U;rw[M,NA (KH.mp M).1]
    .rw[Mg (Ki U)]
   rw[eσ] at Y;have B:∀b∈P,b∈O:=fun b hb=>hs.subset hb
   have a1:StE fa O H fa P H:=#[B,.inl rfl,fun _ _ z _=>z,fun _ z=>z]
   have W:Car K N1 fa H (NN g.F fa P) fa H:=#[fun b ys n z=>#[z,fun y=>n #[by
     rcases y with y | y | y
     .exact .inl y
     .exact .inr (.inl (B b y))
     .exact .inr (.inr y),fun w=>by
     subst w;rcases y with y | y | y
     .exact I.tr b y (I.fr b m)
     .exact na y
     .exact I.nf b y m]],fun _ _ z=>z,fun _ _ z=>z,fun _ z=>z]
   exact#[P,a1,hs.nodup I.nd,SlR.go W (fun _ _ _ z=>z) Y,fun b hb=>I.fr b (B b hb),I.st,I.tr,I.ff,(I.fd.car J fun _ _=>rfl).car W fun _ _=>rfl,fun b z y=>I.nf b z (B b y)]
theorem sE:∀(is:List Nat) {O:vL_}{s:DS},GI K g σ H fa O s->∃P,StE fa O H fa P H/\GI K g σ H fa P (iV is s)
 |[],O,s,I=>#[O,StE.refl,I]
 |i::r,O,s,I=>by
  obtain⟨P,a,J⟩:=JG i I;obtain⟨M,B,U⟩:=sE r J;exact#[M,a.trans B,U]
end
def iB (is:List Nat) (f:DA):DA:=fun s=>f (iV is s)
def X8 (idx:List Nat) (sl:List Sl):D->Option (List Sl)
 |.tup [a,b]=>some (.v a :: .v b::Q5 idx sl)
 |_=>none
def Bp {r:List Sl}(h:X8 idx sl d=some r):∃a b,d = .tup [a,b]/\r = .v a :: .v b::Q5 idx sl:=by
 cases d with
 |tup ds=>
  match ds,h with
  |[a,b],h=>cases h;exact#[a,b,rfl,rfl]
 |_=>cases h
noncomputable def V3 (idx:List Nat) (fi:DA) (fc:DT) (fe:DE):DA:=fun s=>(fi s).bind fun x=>if x.1.length<=sizeLine then (B9 (X8 idx x.2.sl) fc fe x.1 x.2.fs).map fun y=>(y.1,{ x.2 with fs:=y.2 }) else none
section
variable {pos:Pos}
def ue {G:TG}(k:CompOk X scope cl N' 2 idx)
  (hG:∀(a:Addr) (x y:V) (σ:L2.St) (H:Hp) (Q:L2.St->Hp->Prop),SqT X.K H a [x,y]->Q ((σ.set 0 (some x)).set 1 (some y)) H->G (.ref a) σ H Q):∀σ H Q,liftF X.K g (V3 idx fi fc fe) σ H Q->cU 2 idx (liftI X.K g fi) G (fun σ H Q=>∃g',liftT X.K g' fc σ H Q) (fun σ H Q=>∃g',liftE X.K g' fe σ H Q) σ H Q:=
 uS (mk:=X8 idx) fun N fa sl d sl0 x σ H Q hm U hc kk=>by
  obtain⟨da,db,rfl,rfl⟩:=Bp hm;simp only[Rep,Reps] at U;obtain⟨ad,Y,rfl,J,u,ys0,rfl,ru,w,Z,rfl,M,rfl⟩:=U;refine hG ad u w _ _ _ J (kk _ #[by simp,fun j v B=>?_] ?_)
  .cases j with
   |zero=>simp[F1] at B
   |succ j=>
    cases j with
    |zero=>simp[F1] at B
    |succ j=>rw[Mg (by simp),Mg (by simp)];exact B
  .have W:((F1 2 idx σ).set 0 (some u)).set 1 (some w)=some u::some w::idx.map fun i=>(σ[i]?).join:=by simp[F1]
   rw[W];simp only[SlR];exact#[u,_,rfl,ru,w,_,rfl,M,hc]
def Bl {G:TG}(M:X.calm=true) (k:CompOk X scope cl N' 2 idx) (hi:IO X g tg iter fi) (B:∀C s0 H0 ex,PG (p7 X N' scope cl C s0 H0 ex) tg G)
  (U:∀(a:Addr) (x y:V) (σ:L2.St) (H:Hp) (Q:L2.St->Hp->Prop),SqT X.K H a [x,y]->Q ((σ.set 0 (some x)).set 1 (some y)) H->G (.ref a) σ H Q)
  (W:∀C s0 H0 ex g',aA (p7 X N' scope cl C s0 H0 ex) g' ifs fc) (J:∀C s0 H0 ex g',EO (p7 X N' scope cl C s0 H0 ex) g' elt fe) (hs:∀x,foldedSetIterable iter X.env x=pure x:=by intro _;rfl) :
  FO X g (.ListComp elt [#[tg,iter,ifs,0]] scope pos) (V3 idx fi fc fe):=by
 exact FO.w (ya (tc:=fun σ H Q=>∃g',liftT X.K g' fc σ H Q) (te:=fun σ H Q=>∃g',liftE X.K g' fe σ H Q) M k hi.pe B (fun C s0 H0 ex pins s σ H Q I ⟨g',h⟩=>W C s0 H0 ex g' pins s σ H Q I h) (fun C s0 H0 ex pins s σ H Q I ⟨g',h⟩=>(J C s0 H0 ex g').pe pins s σ H Q I h) hs) (ue k U)
def kH {y:Str}(J:closureFor scope X.env=pure cl) (U:SubL X.env.cells cl) (cell:∀y∈scope.names,y.2 ≠ .cell) (kind:scope.kind = .function)
  (names:∀y∈scope.names,y.2 = .local->scope.names.lookup y.1=some .local) (M:hasAll (relabel scope X.env).names cl=true) (B:CapL X scope idx caps):CompOk X scope cl (x::y::caps) 2 idx:=
 #[J,fun y c e=>U.mem y c (fU e),cell,kind,names,uB M,by rw[Kh,Kh,B.len];omega,fun j i y Y W=>B.at j i y Y (by
  rw[show 2+j=j+1+1 by omega] at W;simpa using W)]
end
def RwIt (h:Heap) (i l:Addr) (xs:vR_) (k:Nat):Prop:=(h.IsListIter i l k/\h.IsList l xs)\/(h.IsTupleIter i l k/\h.IsTuple l xs)
section
variable {i:Addr}{xs:vR_}
def RwIt.at (x:RwIt h i l xs k) (J:∀o,h.get? i=some o->h'.get? i=some o) (B:∀o,h.get? l=some o->h'.get? l=some o):RwIt h' i l xs k:=by
 rcases x with ⟨⟨o,q,r⟩,⟨p,u,v⟩⟩ | ⟨⟨o,q,r⟩,⟨p,u,v⟩⟩
 .exact .inl #[#[o,J o q,r],#[p,B p u,v]]
 .exact .inr #[#[o,J o q,r],#[p,B p u,v]]
def RwIt.lt (x:RwIt h i l xs k):i<h.objs.size:=by
 rcases x with ⟨⟨o,q,r⟩,_⟩ | ⟨⟨o,q,r⟩,_⟩ <;> exact xu q
end
section
variable {w:World}
def Gd {it t:Addr}{i:Nat}{items:vR_}{x:Value}{Q:vQ_}(B:s.heap.IsTupleIter it t i) (ht:s.heap.IsTuple t items) (Y:items[i]? = some x)
  (Z:∀h',h'.IsTupleIter it t (i+1)->Heap.SameBut it s.heap h'->Q x { s with heap:=h' }):wpAny (model prog w) A (Builtin.SmallTypes.nextOf (.ref it)) Q E s:=by
 obtain⟨o,M,hc,J⟩:=id B;obtain⟨ol,W,_,nl,U⟩:=ht;unfold Builtin.SmallTypes.nextOf;refine fx (Lu (name:=Str.ofString "__next__") B.typeIs NL (KY NL B.typeIs PF ?_ (PH _)));show wpAny _ _ (field (.ref it) 0 >>= _) _ _ s;refine fx (KJ M J (x:=.ref t) rfl ?_);show wpAny _ _ (if (Value.ref t == Value.none)=true then _ else _) _ _ s;rw[fI (show ¬ ((Value.ref t == Value.none)=true) from Kn)];show wpAny _ _ (field (.ref it) 1 >>= _) _ _ s;refine fx (KJ M J (x:=.int i 0) rfl ?_);show wpAny _ _ (seqItems? (.ref t) >>= _) _ _ s;refine fx (Ll W U ?_);simp only[LC,Y];refine fx (NM M J (by simp) (iO #[x,rfl,iO (Z _ ?_ (NO ..))]));exact#[_,LG _ M (Obj.isFreed_of_fields (NP J _)),(Obj.cls_mapFields ..).trans hc,by rw[NP J];simp[rawInt]]
def Ds {it t:Addr}{i:Nat}{items:vR_}{Q:vQ_}(Y:A.handled=none) (B:s.heap.IsTupleIter it t i) (ht:s.heap.IsTuple t items) (hx:items[i]? = none)
  (Z:∀h' e,Heap.ExtBut it s.heap h'->(∃o,h'.get? e=some o/\o.cls = .type "StopIteration")->E (.ref e) { s with heap:=h' }):wpAny (model prog w) A (Builtin.SmallTypes.nextOf (.ref it)) Q E s:=by
 obtain⟨o,J,hc,U⟩:=id B;obtain⟨ol,W,_,nl,M⟩:=ht;unfold Builtin.SmallTypes.nextOf;refine fx (Lu (name:=Str.ofString "__next__") B.typeIs NL (KY NL B.typeIs PF ?_ (PH _)));show wpAny _ _ (field (.ref it) 0 >>= _) _ _ s;refine fx (KJ J U (x:=.ref t) rfl ?_);show wpAny _ _ (if (Value.ref t == Value.none)=true then _ else _) _ _ s;rw[fI (show ¬ ((Value.ref t == Value.none)=true) from Kn)];show wpAny _ _ (field (.ref it) 1 >>= _) _ _ s;refine fx (KJ J U (x:=.int i 0) rfl ?_);show wpAny _ _ (seqItems? (.ref t) >>= _) _ _ s;refine fx (Ll W M ?_);simp only[LC,hx];refine fx (Lp (fx (NM J U (by simp) ?_)));show wpAny _ _ (newExc (.type "StopIteration") [] >>= _) _ _ _;refine fx ?_;simp only[newExc,newTuple];refine fx (LA ?_ (by size_fits));refine fx (m:=firstArgMember _ _) (wpAny_of_eq (a:=Value.none) (by first | rfl | (simp only[firstArgMember];rfl)) ?_);refine LA ?_ (by size_fits);simp only[raiseNew];refine fx (wpAny_handled ?_)
 first | rw[show A.in1.handled=none from Y] | rw[Y]
 refine fx (iO (wpAny_throw ?_));exact Z _ _ (((NO ..).extBut.push _).push _) #[_,Ky _ rfl,rfl]
def dj {it l:Addr}{i:Nat}{xs:vR_}{x:Value}{Q:vQ_}(r:RwIt s.heap it l xs i) (hl:l≠it) (J:xs[i]? = some x)
  (M:∀h',RwIt h' it l xs (i+1)->Heap.SameBut it s.heap h'->Q x { s with heap:=h' }):wpAny (model prog w) A (Builtin.SmallTypes.nextOf (.ref it)) Q E s:=by
 rcases r with ⟨a,b⟩ | ⟨a,b⟩
 .exact wpAny_nextOf_list_item a b J fun h' B hs=>M h' (.inl #[B,b.extBut hs.extBut hl]) hs
 .exact Gd a b J fun h' B hs=>M h' (.inr #[B,b.extBut hs.extBut hl]) hs
def iM {it l:Addr}{i:Nat}{xs:vR_}{Q:vQ_}(J:A.handled=none) (r:RwIt s.heap it l xs i) (M:xs[i]? = none)
  (B:∀h' e,Heap.ExtBut it s.heap h'->(∃o,h'.get? e=some o/\o.cls = .type "StopIteration")->E (.ref e) { s with heap:=h' }):wpAny (model prog w) A (Builtin.SmallTypes.nextOf (.ref it)) Q E s:=by
 rcases r with ⟨a,b⟩ | ⟨a,b⟩
 .exact wpAny_nextOf_list_end J a b M B
 .exact Ds J a b M B
abbrev D7 (h:Heap) (z TI TO:Addr) (f0 f1:Value):Prop:=h.get? z=some { cls:=.type "zip",dict:=none,data:=.fields #v[f0,f1,.bool false,.ref TI,.ref TO],slots:=#v[] }
variable {z TI TO i1 i2 l1 l2:Addr}{xs ys:vR_}
def wx {x y a b:Value}{Q:vQ_}(D:ZipApart z TI TO i1 i2 l1 l2)
  (hz:D7 s.heap z TI TO .none (.bool false)) (hTI:IsPair s.heap TI (.ref i1) (.ref i2)) (hTO:IsPair s.heap TO a b) (h1:RwIt s.heap i1 l1 xs k) (h2:RwIt s.heap i2 l2 ys k) (hx:xs[k]? = some x) (hy:ys[k]? = some y)
  (hQ:∀h',D7 h' z TI TO (rawInt s.heap.objs.size) (.bool false)->RwIt h' i1 l1 xs (k+1)->RwIt h' i2 l2 ys (k+1)->IsPair h' s.heap.objs.size x y ->
   (∀c o,c≠z->c≠TO->c≠i1->c≠i2->s.heap.get? c=some o->h'.get? c=some o)->IsPair h' TO x y->Q (.ref s.heap.objs.size) { s with heap:=h' }) :
  wpAny (model prog w) A (Builtin.«zip.__next__» #[[.ref z],[]]) (fun fin s'=>∃v,fin = .done (.ret v)/\Q v s') E s:=by
 show wpAny _ _ (field (.ref z) 2 >>= _) _ _ _;refine fx (KJ hz rfl (x:=.bool false) rfl ?_);show wpAny _ _ (field (.ref z) 3 >>= _) _ _ _;refine fx (KJ hz rfl (x:=.ref TI) rfl ?_);refine fx (Ll hTI rfl ?_);show wpAny _ _ (Builtin.SmallTypes.ownedTupleIsFree (.ref z) >>= _) _ _ _;refine fx ?_;unfold Builtin.SmallTypes.ownedTupleIsFree;refine fx (KJ hz rfl (x:=.none) rfl (iO ?_));simp only[KG];refine fx (Lp ?_);refine fx (KJ hz rfl (x:=.ref TO) rfl ?_);refine fx (LV hz (by simp) fun g1 z1 W=>?_)
 replace z1:D7 g1 z TI TO .ellipsis (.bool false):=z1
 refine fx ?_;simp only[List.zipIdx_cons,List.zipIdx_nil,MD,Nb];refine fx (fx (NQ ?_));show wpAny _ _ (Builtin.SmallTypes.nextOf (.ref i1) >>= _) _ _ _;refine fx (dj (h1.at (fun o e=>W.extBut _ o D.i1z e) fun o e=>W.extBut _ o D.l1z e) D.l1i1 hx fun g2 r2 Z=>iO ?_);have o2:IsPair g2 TO a b:=Z.extBut _ _ D.TOi1 (W.extBut _ _ D.TOz hTO);refine fx (Ll o2 rfl ?_);refine fx (OP o2 fun g3 o3 J=>?_)
 replace o3:IsPair g3 TO x b:=o3
 refine fx (Nc (iO ?_));refine fx (fx (NQ ?_));show wpAny _ _ (Builtin.SmallTypes.nextOf (.ref i2) >>= _) _ _ _;refine fx (dj (h2.at (fun o e=>J.extBut _ o D.TOi2.symm (Z.extBut _ o D.i12.symm (W.extBut _ o D.i2z e))) fun o e=>J.extBut _ o D.l2TO (Z.extBut _ o D.l2i1 (W.extBut _ o D.l2z e))) D.l2i2 hy fun g4 r4 Y=>iO ?_);have o4:IsPair g4 TO x b:=Y.extBut _ _ D.TOi2 o3;refine fx (Ll o4 rfl ?_);refine fx (OP o4 fun B o5 M=>?_)
 replace o5:IsPair B TO x y:=o5
 refine fx (Nc (iO (iO ?_)));refine fx (Ll o5 rfl ?_);refine fx (wpAny_newTuple ?_);have sz:B.objs.size=s.heap.objs.size:=by rw[M.1,Y.1,J.1,Z.1,W.1]
 have z5:D7 B z TI TO .ellipsis (.bool false):=M.extBut _ _ D.TOz.symm (Y.extBut _ _ D.i2z.symm (J.extBut _ _ D.TOz.symm (Z.extBut _ _ D.i1z.symm z1)));have q5:∀c o,c≠z->c≠TO->c≠i1->c≠i2->s.heap.get? c=some o->B.get? c=some o:=fun c o U c2 c3 c4 e=>
  M.extBut _ _ c2 (Y.extBut _ _ c4 (J.extBut _ _ c2 (Z.extBut _ _ c3 (W.extBut _ _ U e))))
 have p1:RwIt B i1 l1 xs (k+1):=r2.at (fun o e=>M.extBut _ o D.TOi1.symm (Y.extBut _ o D.i12 (J.extBut _ o D.TOi1.symm e))) fun o e=>M.extBut _ o D.l1TO (Y.extBut _ o D.l1i2 (J.extBut _ o D.l1TO e))
 have p2:RwIt B i2 l2 ys (k+1):=r4.at (fun o e=>M.extBut _ o D.TOi2.symm e) fun o e=>M.extBut _ o D.l2TO e
 have zl:z<B.objs.size:=xu z5;show wpAny _ _ (Builtin.SmallTypes.ownedTupleHandOut (.ref z) (.ref B.objs.size) >>= _) _ _ _;refine fx ?_;unfold Builtin.SmallTypes.ownedTupleHandOut;have z6:D7 (B.push { cls:=.type "tuple",data:=.seq #v[x,y] }) z TI TO .ellipsis (.bool false):=Kg _ z5;refine fx (LV z6 (by simp) fun g7 z7 k7=>?_)
 replace z7:D7 g7 z TI TO (rawInt B.objs.size) (.bool false):=z7
 refine LV z7 (by simp) fun g8 z8 k8=>?_
 replace z8:D7 g8 z TI TO (rawInt B.objs.size) (.bool false):=z8
 have up:∀c o,c≠z->B.get? c=some o->g8.get? c=some o:=fun c o U e=>k8.extBut _ _ U (k7.extBut _ _ U (Kg _ e))
 have t8:IsPair g8 B.objs.size x y:=k8.extBut _ _ (Lj zl) (k7.extBut _ _ (Lj zl) (Ky _ rfl));rw[sz] at z8 t8;refine iO #[_,rfl,?_];show Q (.ref B.objs.size) _;rw[sz];exact hQ g8 z8 (p1.at (fun o e=>up _ o D.i1z e) fun o e=>up _ o D.l1z e) (p2.at (fun o e=>up _ o D.i2z e) fun o e=>up _ o D.l2z e) t8 (fun c o U c2 c3 c4 e=>up c o U (q5 c o U c2 c3 c4 e)) (up _ _ D.TOz o5)
def uu {a b:Value}{Q:Fin->Shared->Prop}(hh:A.handled=none) (D:ZipApart z TI TO i1 i2 l1 l2)
  (hz:D7 s.heap z TI TO .none (.bool false)) (hTI:IsPair s.heap TI (.ref i1) (.ref i2)) (hTO:IsPair s.heap TO a b) (h1:RwIt s.heap i1 l1 xs k) (h2:RwIt s.heap i2 l2 ys k) (Z:xs[k]? = none\/ys[k]? = none)
  (hE:∀h' e,(∀c o,c≠z->c≠TO->c≠i1->c≠i2->s.heap.get? c=some o->h'.get? c=some o)->(∃o,h'.get? e=some o/\o.cls = .type "StopIteration")->E (.ref e) { s with heap:=h' }) :
  wpAny (model prog w) A (Builtin.«zip.__next__» #[[.ref z],[]]) Q E s:=by
 show wpAny _ _ (field (.ref z) 2 >>= _) _ _ _;refine fx (KJ hz rfl (x:=.bool false) rfl ?_);show wpAny _ _ (field (.ref z) 3 >>= _) _ _ _;refine fx (KJ hz rfl (x:=.ref TI) rfl ?_);refine fx (Ll hTI rfl ?_);show wpAny _ _ (Builtin.SmallTypes.ownedTupleIsFree (.ref z) >>= _) _ _ _;refine fx ?_;unfold Builtin.SmallTypes.ownedTupleIsFree;refine fx (KJ hz rfl (x:=.none) rfl (iO ?_));simp only[KG];refine fx (Lp ?_);refine fx (KJ hz rfl (x:=.ref TO) rfl ?_);refine fx (LV hz (by simp) fun g1 z1 M=>?_)
 replace z1:D7 g1 z TI TO .ellipsis (.bool false):=z1
 refine fx ?_;simp only[List.zipIdx_cons,List.zipIdx_nil,MD,Nb];refine fx (fx (NQ ?_));show wpAny _ _ (Builtin.SmallTypes.nextOf (.ref i1) >>= _) _ _ _;cases hx:xs[k]? with
 |none=>
  refine fx (iM hh (h1.at (fun o e=>M.extBut _ o D.i1z e) fun o e=>M.extBut _ o D.l1z e) hx fun g2 e U he=>?_);obtain⟨oe,B,J⟩:=he;have z2:D7 g2 z TI TO .ellipsis (.bool false):=U _ _ D.i1z.symm z1;have Y:e≠z:=fun x=>by subst x;rw[z2] at B;cases B;simp at J
  exact LV z2 (by simp) fun g3 _ W=>hE g3 e (fun c o c1 _ c3 _ x=>W.extBut _ _ c1 (U _ _ c3 (M.extBut _ _ c1 x))) #[oe,W.extBut _ _ Y B,J]
 |some x=>
  have hy:ys[k]? = none:=by
   rcases Z with h | h
   .rw[hx] at h;cases h
   .exact h
  refine fx (dj (h1.at (fun o e=>M.extBut _ o D.i1z e) fun o e=>M.extBut _ o D.l1z e) D.l1i1 hx fun g2 r2 U=>iO ?_);have o2:IsPair g2 TO a b:=U.extBut _ _ D.TOi1 (M.extBut _ _ D.TOz hTO);refine fx (Ll o2 rfl ?_);refine fx (OP o2 fun g3 o3 W=>?_);refine fx (Nc (iO ?_));refine fx (fx (NQ ?_));show wpAny _ _ (Builtin.SmallTypes.nextOf (.ref i2) >>= _) _ _ _;refine fx (iM hh (h2.at (fun o e=>W.extBut _ o D.TOi2.symm (U.extBut _ o D.i12.symm (M.extBut _ o D.i2z e))) fun o e=>W.extBut _ o D.l2TO (U.extBut _ o D.l2i1 (M.extBut _ o D.l2z e))) hy fun g4 e k4 he=>?_);obtain⟨oe,B,J⟩:=he;have z4:D7 g4 z TI TO .ellipsis (.bool false):=k4 _ _ D.i2z.symm (W.extBut _ _ D.TOz.symm (U.extBut _ _ D.i1z.symm z1));have Y:e≠z:=fun x=>by subst x;rw[z4] at B;cases B;simp at J
  exact LV z4 (by simp) fun g5 _ k5=>hE g5 e (fun c o c1 c2 c3 c4 x=>k5.extBut _ _ c1 (k4 _ _ c4 (W.extBut _ _ c2 (U.extBut _ _ c3 (M.extBut _ _ c1 x))))) #[oe,k5.extBut _ _ Y B,J]
end
section
variable {w:World}
variable {z TI TO i1 i2 l1 l2:Addr}{xs ys:vR_}
def yL {o:Obj}{Q:Option Obj->Shared->Prop}(B:s.heap.get? a=some o) (h:Q (some o) s):wpAny (model prog w) A (loadIfAlive a) Q E s:=by
 have h':Q (s.heap.get? a) s:=by rw[B];exact h
 exact fun _ _ _=>h'
def xA {T:Addr}{f:Bool}{U:Obj}{Q:Bool->Shared->Prop}(hz:D7 s.heap z TI TO (rawInt T) (.bool f)) (W:s.heap.get? T=some U)
  (B:∀h',D7 h' z TI TO (rawInt T) (.bool true)->Heap.SameBut z s.heap h'->Q false { s with heap:=h' }):wpAny (model prog w) A (Builtin.SmallTypes.ownedTupleIsFree (.ref z)) Q E s:=by
 unfold Builtin.SmallTypes.ownedTupleIsFree;refine fx (KJ hz rfl (x:=rawInt T) rfl ?_);show wpAny _ _ (loadIfAlive ((T:Int).toNat) >>= _) _ _ _;rw[LC];refine fx (yL W ?_);simp only[Option.isNone_some,KQ,Kv];refine fx (KJ hz rfl (x:=.bool f) rfl ?_);cases f with
 |true=>
  rw[fI (show ¬ ((Value.bool true != Value.bool true)=true) from Kn)];exact iO (B s.heap hz (Heap.SameBut.refl _ _))
 |false=>
  rw[gV (show (Value.bool false != Value.bool true)=true from rfl)];exact fx (LV hz (by simp) fun g J M=>iO (B g J M))
def EX {x y:Value}{T:Addr}{f:Bool}{oT:Obj}{Q:vQ_}(D:ZipApart z TI TO i1 i2 l1 l2)
  (hz:D7 s.heap z TI TO (rawInt T) (.bool f)) (hT:s.heap.get? T=some oT) (Z:IsPair s.heap TI (.ref i1) (.ref i2)) (h1:RwIt s.heap i1 l1 xs k) (h2:RwIt s.heap i2 l2 ys k) (hx:xs[k]? = some x) (hy:ys[k]? = some y)
  (hQ:∀h',D7 h' z TI TO (rawInt T) (.bool true)->RwIt h' i1 l1 xs (k+1)->RwIt h' i2 l2 ys (k+1)->IsPair h' s.heap.objs.size x y ->
   (∀c o,c≠z->c≠TO->c≠i1->c≠i2->s.heap.get? c=some o->h'.get? c=some o)->Q (.ref s.heap.objs.size) { s with heap:=h' }) :
  wpAny (model prog w) A (Builtin.«zip.__next__» #[[.ref z],[]]) (fun fin s'=>∃v,fin = .done (.ret v)/\Q v s') E s:=by
 show wpAny _ _ (field (.ref z) 2 >>= _) _ _ _;refine fx (KJ hz rfl (x:=.bool false) rfl ?_);show wpAny _ _ (field (.ref z) 3 >>= _) _ _ _;refine fx (KJ hz rfl (x:=.ref TI) rfl ?_);refine fx (Ll Z rfl ?_);show wpAny _ _ (Builtin.SmallTypes.ownedTupleIsFree (.ref z) >>= _) _ _ _;refine fx (xA hz hT fun g1 z1 B=>?_);simp only[KQ,Kv];simp only[List.forIn_toArray,MD,Nb];refine fx (fx (fx (Lk ?_)));show wpAny _ _ (Builtin.SmallTypes.nextOf (.ref i1) >>= _) _ _ _;refine fx (dj (h1.at (fun o e=>B.extBut _ o D.i1z e) fun o e=>B.extBut _ o D.l1z e) D.l1i1 hx fun g2 r2 J=>iO ?_);refine iO ?_;refine fx (fx (Lk ?_));show wpAny _ _ (Builtin.SmallTypes.nextOf (.ref i2) >>= _) _ _ _;refine fx (dj (h2.at (fun o e=>J.extBut _ o D.i12.symm (B.extBut _ o D.i2z e)) fun o e=>J.extBut _ o D.l2i1 (B.extBut _ o D.l2z e)) D.l2i2 hy fun W r4 M=>iO ?_);refine iO (iO ?_);show wpAny _ _ (newTuple [x,y] >>= _) _ _ _;refine fx (wpAny_newTuple (items:=[x,y]) ?_ (show 2<=sizeLine by decide));have sz:W.objs.size=s.heap.objs.size:=by rw[M.1,J.1,B.1]
 have q4:∀c o,c≠z->c≠i1->c≠i2->s.heap.get? c=some o->W.get? c=some o:=fun c o c1 U Y e=>M.extBut _ _ Y (J.extBut _ _ U (B.extBut _ _ c1 e))
 refine iO #[_,rfl,?_];show Q (.ref W.objs.size) _;rw[sz];refine hQ _ (Kg _ (M.extBut _ _ D.i2z.symm (J.extBut _ _ D.i1z.symm z1)))
  (r2.at (fun o e=>Kg _ (M.extBut _ o D.i12 e)) fun o e=>Kg _ (M.extBut _ o D.l1i2 e))
  (r4.at (fun o e=>Kg _ e) fun o e=>Kg _ e) ?_ fun c o c1 c2 U Y e=>Kg _ (q4 c o c1 U Y e)
 rw[<-sz];exact Ky _ rfl
def Ht {T:Addr}{f:Bool}{oT:Obj}{Q:Fin->Shared->Prop}(hh:A.handled=none) (D:ZipApart z TI TO i1 i2 l1 l2)
  (hz:D7 s.heap z TI TO (rawInt T) (.bool f)) (hT:s.heap.get? T=some oT) (Z:IsPair s.heap TI (.ref i1) (.ref i2)) (h1:RwIt s.heap i1 l1 xs k) (h2:RwIt s.heap i2 l2 ys k) (J:xs[k]? = none\/ys[k]? = none)
  (hE:∀h' e,(∀c o,c≠z->c≠TO->c≠i1->c≠i2->s.heap.get? c=some o->h'.get? c=some o)->(∃o,h'.get? e=some o/\o.cls = .type "StopIteration")->E (.ref e) { s with heap:=h' }) :
  wpAny (model prog w) A (Builtin.«zip.__next__» #[[.ref z],[]]) Q E s:=by
 show wpAny _ _ (field (.ref z) 2 >>= _) _ _ _;refine fx (KJ hz rfl (x:=.bool false) rfl ?_);show wpAny _ _ (field (.ref z) 3 >>= _) _ _ _;refine fx (KJ hz rfl (x:=.ref TI) rfl ?_);refine fx (Ll Z rfl ?_);show wpAny _ _ (Builtin.SmallTypes.ownedTupleIsFree (.ref z) >>= _) _ _ _;refine fx (xA hz hT fun g1 z1 B=>?_);simp only[KQ,Kv];simp only[List.forIn_toArray,MD,Nb];refine fx (fx (fx (Lk ?_)));show wpAny _ _ (Builtin.SmallTypes.nextOf (.ref i1) >>= _) _ _ _;cases W:xs[k]? with
 |none=>
  refine fx (iM hh (h1.at (fun o e=>B.extBut _ o D.i1z e) fun o e=>B.extBut _ o D.l1z e) W fun g2 e M Y=>?_);exact hE g2 e (fun c o c1 _ U _ x=>M _ _ U (B.extBut _ _ c1 x)) Y
 |some x=>
  have hy:ys[k]? = none:=by
   rcases J with h | h
   .rw[W] at h;cases h
   .exact h
  refine fx (dj (h1.at (fun o e=>B.extBut _ o D.i1z e) fun o e=>B.extBut _ o D.l1z e) D.l1i1 W fun g2 r2 M=>iO ?_);refine iO ?_;refine fx (fx (Lk ?_));show wpAny _ _ (Builtin.SmallTypes.nextOf (.ref i2) >>= _) _ _ _;refine fx (iM hh (h2.at (fun o e=>M.extBut _ o D.i12.symm (B.extBut _ o D.i2z e)) fun o e=>M.extBut _ o D.l2i1 (B.extBut _ o D.l2z e)) hy fun g4 e k4 Y=>?_);exact hE g4 e (fun c o c1 c2 U c4 x=>k4 _ _ c4 (M.extBut _ _ U (B.extBut _ _ c1 x))) Y
structure ZSt (h:Heap) (z TI TO i1 i2 l1 l2 S:Addr) (xs ys:vR_) (k:Nat):Prop where
 ti:IsPair h TI (.ref i1) (.ref i2)
 r1:RwIt h i1 l1 xs k
 r2:RwIt h i2 l2 ys k
 zz:(D7 h z TI TO .none (.bool false)/\∃a b,IsPair h TO a b)\/∃(T:Addr) (f:Bool) (oT:Obj),D7 h z TI TO (rawInt T) (.bool f)/\h.get? T=some oT/\T≠z/\T≠TO/\T≠i1/\T≠i2/\T≠S
def Ib {S:Addr}{x y:Value}{Q:Option Value->Shared->Prop}(D:ZipApart z TI TO i1 i2 l1 l2) (st:ZSt s.heap z TI TO i1 i2 l1 l2 S xs ys k) (hS:S<s.heap.objs.size) (hTO:TO<s.heap.objs.size) (hx:xs[k]? = some x) (hy:ys[k]? = some y)
  (hQ:∀h',ZSt h' z TI TO i1 i2 l1 l2 S xs ys (k+1)->IsPair h' s.heap.objs.size x y->(∀c o,c ∉ [z,TO,i1,i2]->s.heap.get? c=some o->h'.get? c=some o)->Q (some (.ref s.heap.objs.size)) { s with heap:=h' }) :
  wpAny (model prog w) A (pyNext (.ref z)) Q E s:=by
 obtain⟨W,Z,r2,zz⟩:=st;have K:∀{h':Heap},(∀c o,c≠z->c≠TO->c≠i1->c≠i2->s.heap.get? c=some o->h'.get? c=some o)->∀c o,c ∉ [z,TO,i1,i2]->s.heap.get? c=some o->h'.get? c=some o:=fun k c o U e=>by
  simp only[tx,KR,KZ,not_or] at U;exact k c o U.1 U.2.1 U.2.2.1 U.2.2.2 e
 unfold pyNext;rcases zz with ⟨J,a,b,ho⟩ | ⟨T,f,oT,J,hT,t1,t2,t3,t4,t5⟩
 .have M:s.TypeIs (.ref z) "zip" := #[_,J,rfl]
  exact fx (LX (Lu (name:=Str.ofString "__next__") M Lf (KY Lf M ME
   (wx D J W ho Z r2 hx hy fun h' a1 a2 a3 Y B _=>iO (hQ h' #[B _ _ D.TIz D.TITO D.TIi1 D.TIi2 W,a2,a3,.inr #[_,_,_,a1,Y,Lj (xu J),Lj hTO,Lj Z.lt,Lj r2.lt,Lj hS]] Y (K B))) (MF _))))
 .have M:s.TypeIs (.ref z) "zip" := #[_,J,rfl]
  exact fx (LX (Lu (name:=Str.ofString "__next__") M Lf (KY Lf M ME
   (EX D J hT W Z r2 hx hy fun h' a1 a2 a3 Y B=>iO (hQ h' #[B _ _ D.TIz D.TITO D.TIi1 D.TIi2 W,a2,a3,.inr #[T,true,oT,a1,B _ _ t1 t2 t3 t4 hT,t1,t2,t3,t4,t5]] Y (K B))) (MF _))))
def AH {S:Addr}{Q:Option Value->Shared->Prop}(hh:A.handled=none) (D:ZipApart z TI TO i1 i2 l1 l2) (st:ZSt s.heap z TI TO i1 i2 l1 l2 S xs ys k) (J:xs[k]? = none\/ys[k]? = none)
  (hQ:∀h',(∀c o,c ∉ [z,TO,i1,i2]->s.heap.get? c=some o->h'.get? c=some o)->Q none { s with heap:=h' }):wpAny (model prog w) A (pyNext (.ref z)) Q E s:=by
 obtain⟨ti,Z,r2,zz⟩:=st;have K:∀{h':Heap},(∀c o,c≠z->c≠TO->c≠i1->c≠i2->s.heap.get? c=some o->h'.get? c=some o)->∀c o,c ∉ [z,TO,i1,i2]->s.heap.get? c=some o->h'.get? c=some o:=fun k c o B e=>by
  simp only[tx,KR,KZ,not_or] at B;exact k c o B.1 B.2.1 B.2.2.1 B.2.2.2 e
 unfold pyNext;rcases zz with ⟨M,a,b,W⟩ | ⟨T,f,oT,M,hT,t1,t2,t3,t4,t5⟩
 .have U:s.TypeIs (.ref z) "zip" := #[_,M,rfl]
  refine fx (LX (Lu (name:=Str.ofString "__next__") U Lf (KY Lf U ME (uu hh D M ti W Z r2 J fun h' e hk Y=>?_) (MF _))));obtain⟨o,W,B⟩:=Y;refine fx (MG (T := "StopIteration") (b:=true) #[o,W,B] NR ?_);exact iO (hQ _ (K hk))
 .have U:s.TypeIs (.ref z) "zip" := #[_,M,rfl]
  refine fx (LX (Lu (name:=Str.ofString "__next__") U Lf (KY Lf U ME (Ht hh D M hT ti Z r2 J fun h' e hk Y=>?_) (MF _))));obtain⟨o,W,B⟩:=Y;refine fx (MG (T := "StopIteration") (b:=true) #[o,W,B] NR ?_);exact iO (hQ _ (K hk))
end
structure LW (prog:Program) (w:World) (A:Around) (I S:Addr) (wr:vL_) (n:Nat) (P:Nat->Value->Heap->Prop) (St:Nat->Heap->Prop):Prop where
 item:∀(i:Nat) (s:Shared) (Q:Option Value->Shared->Prop) (E:vQ_),i<n->St i s.heap->S<s.heap.objs.size ->
  (∀v h',P i v h'->St (i+1) h'->(∀j u,P j u s.heap->u≠v)->(∀b o,b ∉ wr->s.heap.get? b=some o->h'.get? b=some o)->Q (some v) { s with heap:=h' })->wpAny (model prog w) A (pyNext (.ref I)) Q E s
 done:∀(s:Shared) (Q:Option Value->Shared->Prop) (E:vQ_),St n s.heap->(∀h',(∀b o,b ∉ wr->s.heap.get? b=some o->h'.get? b=some o)->Q none { s with heap:=h' })->wpAny (model prog w) A (pyNext (.ref I)) Q E s
 stay:∀i h h',St i h->(∀b o,b≠S->h.get? b=some o->h'.get? b=some o)->St i h'
 pay:∀i v h h',P i v h->(∀b o,b≠S->b ∉ wr->h.get? b=some o->h'.get? b=some o)->P i v h'
 self:∀(A:Around) (s:Shared) (Q:vQ_) (E:vQ_),St 0 s.heap->Q (.ref I) s->wpAny (model prog w) A (pyIter (.ref I)) Q E s
 out:S ∉ wr
section
variable {w:World}{I:Addr}{wr:vL_}{P:Nat->Value->Heap->Prop}{St:Nat->Heap->Prop}{R:Result->Shared->Prop}
def dD (P:Nat->Value->Heap->Prop) (h:Heap) (acc:vR_) (i:Nat):Prop:=acc.size=i/\(∀j v,acc[j]? = some v->P j v h)/\acc.toList.Nodup
abbrev T7 (h:Heap) (S:Addr) (acc:vR_) (c:Nat):Prop:=h.get? S=some { cls:=.type "list",dict:=none,data:=.seq acc c,slots:=#v[] }
def IM (W:LW prog w A.in1 I S wr n P St) (hn:n<=sizeLine) (res:Value) {h₁:Heap}
  (hR:∀h' acc c,(∀b o,b≠S->b ∉ wr->h₁.get? b=some o->h'.get? b=some o)->T7 h' S acc c->dD P h' acc n->R (.ok (.ret res)) { s with heap:=h' }) :
  ∀(k i:Nat) (h:Heap) (c:Nat) (acc:vR_),n - i=k->i<=n->St i h->(∀b o,b≠S->b ∉ wr->h₁.get? b=some o->h.get? b=some o)->T7 h S acc c->dD P h acc i ->
   codeAny (model prog w) A (.builtin "list.extend.loop" #[[.ref S,.ref I,res],[]]) R { s with heap:=h }:=by
 intro k;induction k with
 |zero=>
  intro i h c acc hk hi U kp hS M;have e:i=n:=by omega
  subst e;refine codeAny_builtin PJ ?_;rw[Around.under_plainId Nd _];show wpAny _ A.in1 (pyNext (.ref I) >>= _) _ _ _;refine fx (W.done { s with heap:=h } _ _ U fun h' J=>?_);exact iO (hR h' acc c (fun b o h1 h2 e=>J b o h2 (kp b o h1 h2 e)) (J S _ W.out hS) #[M.1,fun j v e=>W.pay j v h h' (M.2.1 j v e) fun b o _ h2 e=>J b o h2 e,M.2.2])
 |succ k ih=>
  intro i h c acc hk hi U kp hS M;have hlt:i<n:=by omega
  refine codeAny_builtin PJ ?_;rw[Around.under_plainId Nd _];show wpAny _ A.in1 (pyNext (.ref I) >>= _) _ _ _;refine fx (W.item i { s with heap:=h } _ _ hlt U (xu hS) fun v h' hP hst' Z J=>?_)
  dsimp only at J Z ⊢
  have hS':T7 h' S acc c:=J S _ W.out hS;have up:∀b o,b≠S->h'.get? b=some o->(h'.update S (Obj.mapSeq (·.push v))).get? b=some o:=fun b o hb e=>(LN _ _ (Ki hb)).trans e
  show wpAny _ A.in1 (updateSeq S (·.push v) >>= _) _ _ _;refine fx ?_;have B:=M.1;refine Mm hS' rfl (iO #[plainId_quiet Nd _,ih (i+1) _ _ (acc.push v) ∅ hlt (W.stay _ h' _ hst' up)
   (fun b o h1 h2 e=>up b o h1 (J b o h2 (kp b o h1 h2 e))) (LG _ hS' rfl) #[by rw[Array.size_push,B],fun j x Y=>?_,?_]]) (by rw[B];omega) (by show (acc.push v).size<=sizeLine+1;rw[Array.size_push,B];omega)
  .rw[Array.getElem?_push] at Y;split at Y
   .rename_i e;cases Y;rw[e,B];exact W.pay i v h' _ hP fun b o h1 _ e=>up b o h1 e
   .exact W.pay j x h _ (M.2.1 j x Y) fun b o h1 h2 e=>up b o h1 (J b o h2 e)
  .rw[Array.toList_push];refine Nf.mpr #[M.2.2,by simp,fun a ha b hb=>?_];have e:b=v:=by simpa using hb
   subst e;obtain⟨j,Y⟩:=NS.mp ha;exact Z j a (M.2.1 j a (by simpa using Y))
def DH (W:LW prog w A.in1 I S wr n P St) (hn:n<=sizeLine) (Z:s.TypeIs (.ref I) T) (hl:(Value.type T == Value.type "list")=false) (ht:(Value.type T == Value.type "tuple")=false)
  (nl:typeLookup (.type T) "__len__" = pure none) (nh:typeLookup (.type T) "__length_hint__" = pure none) (J:St 0 s.heap) (Y:S≠I) (res:Value) (c₀:Nat) (hS:T7 s.heap S #v[] c₀)
  (hR:∀h' acc c,(∀b o,b≠S->b ∉ wr->s.heap.get? b=some o->h'.get? b=some o)->T7 h' S acc c->dD P h' acc n->R (.ok (.ret res)) { s with heap:=h' }) :
  wpAny (model prog w) A.in1 (Builtin.List.listExtendWith (.ref S) (.ref I) res)
   (fun fin s'=>match fin with | .done f=>R (.ok f) s' | .again c'=>c'.quiet=true/\codeAny (model prog w) A c' R s') (fun e s'=>R (.error e) s') s:=by
 have key:∀(h:Heap) (c₁:Nat),(∀b o,b≠S->s.heap.get? b=some o->h.get? b=some o)->T7 h S #v[] c₁ ->
   codeAny (model prog w) A (.builtin "list.extend.loop" #[[.ref S,.ref I,res],[]]) R { s with heap:=h }:=fun h c₁ hk M=>
  IM (h₁:=s.heap) W hn res hR n 0 h c₁ #v[] (Ml _) (Lr _) (W.stay 0 _ h J hk) (fun b o h1 _ e=>hk b o h1 e) M #[rfl,fun j v e=>by simp at e,by simp]
 unfold Builtin.List.listExtendWith;refine fx (MX Z ?_);have h1:Builtin.List.listSameRef (.ref S) (.ref I)=false:=by simp[Builtin.List.listSameRef,Y]
 simp only[h1,hl,ht,NT,KQ,Kv];refine fx (W.self _ _ _ _ J ?_);refine fx (Lk ?_);unfold Builtin.List.listLengthHint;refine fx (Ng Z nl ?_);show wpAny _ A.in1 (specialOf (Value.ref I) (Str.ofString "__length_hint__") >>= _) _ _ _;refine fx (Ng Z nh ?_);refine iO ?_;show wpAny _ A.in1 (rule "list.extend.makes-room" >>= fun _=>Builtin.List.listTouch (.ref S) >>= fun _=>
  again (.builtin "list.extend.loop" #[[.ref S,.ref I,res],[]])) _ _ _
 refine fx (Lp ?_);refine fx ?_;show wpAny _ A.in1 (updateSeq S (·.push .none) >>= fun _=>updateSeq S (·.pop)) _ _ _;refine fx (Mm hS rfl ?_);have B:=LG (Obj.mapSeq (·.push Value.none)) hS rfl;refine Mm (hz:=by seq_fits) B rfl ?_;have U:=LG (Obj.mapSeq (·.pop)) B rfl;refine iO #[plainId_quiet Nd _,key _ _ (fun b o hb e=>?_) U];exact(LN _ _ (Ki hb)).trans ((LN _ _ (Ki hb)).trans e)
def DJ {E:vQ_}{Q:vQ_}(W:LW prog w A.in1.in1 I s.heap.objs.size wr n P St) (hn:n<=sizeLine) (hT:s.TypeIs (.ref I) T) (hl:(Value.type T == Value.type "list")=false) (ht:(Value.type T == Value.type "tuple")=false)
  (nl:typeLookup (.type T) "__len__" = pure none) (nh:typeLookup (.type T) "__length_hint__" = pure none) (Z:St 0 s.heap)
  (hQ:∀h' acc c,(∀b o,b ∉ wr->s.heap.get? b=some o->h'.get? b=some o)->T7 h' s.heap.objs.size acc c->dD P h' acc n->Q (.ref s.heap.objs.size) { s with heap:=h' }) :
  wpAny (model prog w) A (call (.type "list") [.ref I]) Q E s:=by
 refine callType_codes (Q₁:=fun J s₁=>J = .ref s.heap.objs.size/\s₁={ s with heap:=s.heap.push { cls:=.type "list",data:=.seq #v[] } }) PySem.F.called_list (PK _) PL
  (code_list_new _ #[rfl,rfl]) fun J s₁ h₁=>?_
 obtain⟨rfl,rfl⟩:=h₁;have hS:(s.heap.push { cls:=.type "list",data:=.seq #v[] }).get? s.heap.objs.size=some { cls:=.type "list",data:=.seq #v[] }:=Ky _ rfl;obtain⟨oI,M,Y⟩:=id hT;have hI:I<s.heap.objs.size:=xu M;refine#[#[_,hS,rfl],PM _ _,?_];show wpAny _ _ (do let old <-Builtin.List.listItems (.ref s.heap.objs.size);Builtin.List.listUpdate (.ref s.heap.objs.size) (fun _=>#v[]);letGo old.toList.reverse;Builtin.List.listExtendWith (.ref s.heap.objs.size) (.ref I) .none) _ _ _;refine fx ?_;unfold Builtin.List.listItems;refine fx (Ll hS rfl (iO ?_));show wpAny _ _ (updateSeq s.heap.objs.size (fun _=>#v[]) >>= fun _=>letGo (#v[]:vR_).toList.reverse >>= fun _=>Builtin.List.listExtendWith (.ref s.heap.objs.size) (.ref I) .none) _ _ _;refine fx (Mm hS rfl ?_);have U:=LG (Obj.mapSeq (fun _=>(#v[]:vR_))) hS rfl;have B:∀b o,b≠s.heap.objs.size->s.heap.get? b=some o->((s.heap.push { cls:=.type "list",data:=.seq #v[] }).update s.heap.objs.size (Obj.mapSeq (fun _=>(#v[]:vR_)))).get? b=some o:=
  fun b o hb e=>(LN _ _ (Ki hb)).trans (Kg _ e)
 refine fx (Nc ?_);refine DH (A:=A.in1) W hn #[oI,B I _ (Kr hI) M,Y] hl ht nl nh (W.stay 0 s.heap _ Z B) (Lj hI) .none _ U fun h' acc c hk hS' hG=>?_
 exact#[rfl,hQ h' acc c (fun b o h2 e=>hk b o (Kr (xu e)) h2 (B b o (Kr (xu e)) e)) hS' hG]
end
def FD:typeLookup (.type "zip") "__len__" = pure none:=by rw[typeLookup_type,builtinLookup_eq_fast];kernel_rfl
def BV:typeLookup (.type "zip") "__length_hint__" = pure none:=by rw[typeLookup_type,builtinLookup_eq_fast];kernel_rfl
def Ax {w:World}{z TI TO i1 i2 l1 l2:Addr}{xs ys:vR_}(hh:A.handled=none) (D:ZipApart z TI TO i1 i2 l1 l2) (Z:TO<S) (hS:S ∉ [z,TI,TO,i1,i2,l1,l2]) (i9:∀b∈[z,TO,i1,i2],b<S) :
  LW prog w A z S [z,TO,i1,i2] (min xs.size ys.size) (fun j v h=>∃a x y,v = .ref a/\S<=a/\a≠S/\xs[j]? = some x/\ys[j]? = some y/\IsPair h a x y) (fun k h=>ZSt h z TI TO i1 i2 l1 l2 S xs ys k) where
 item:=fun i s Q E hi st hs J=>by
  have U:i<xs.size:=Ks hi (MB ..);have M:i<ys.size:=Ks hi (Nat.min_le_right ..);exact Ib D st hs (Nat.lt_trans Z hs) (LY U) (LY M) fun h' a1 a2 a3=>J _ h' #[_,_,_,rfl,Nz hs,Lj hs,LY U,LY M,a2] a1 (fun j u ⟨a,x,y,e,_,_,_,_,q⟩ z=>by
   rw[e] at z;cases z;exact absurd (xu q) (LK _)) a3
 done:=fun s Q E st J=>by
  have W:xs[min xs.size ys.size]? = none\/ys[min xs.size ys.size]? = none:=by
   rcases Nat.le_total xs.size ys.size with h | h
   .exact .inl (by rw[Ma h];exact Nh (iU _))
   .exact .inr (by rw[Ni h];exact Nh (iU _))
  exact AH hh D st W J
 stay:=fun i h h' st k=>by
  simp only[tx,KR,KZ,not_or] at hS;obtain⟨n1,n2,n3,n4,n5,n6,n7⟩:=hS;obtain⟨ti,r1,r2,zz⟩:=st;refine#[k _ _ (Ki n2) ti,r1.at (fun o e=>k _ o (Ki n4) e) (fun o e=>k _ o (Ki n6) e),r2.at (fun o e=>k _ o (Ki n5) e) (fun o e=>k _ o (Ki n7) e),?_];rcases zz with ⟨B,a,b,ho⟩ | ⟨T,f,oT,B,hT,t1,t2,t3,t4,t5⟩
  .exact .inl #[k _ _ (Ki n1) B,a,b,k _ _ (Ki n3) ho]
  .exact .inr #[T,f,oT,k _ _ (Ki n1) B,k _ _ t5 hT,t1,t2,t3,t4,t5]
 pay:=fun i v h h' p k=>by
  obtain⟨a,x,y,e,ha,na,hx,hy,q⟩:=p;refine#[a,x,y,e,ha,na,hx,hy,k _ _ na (fun hb=>?_) q];exact absurd (Ks (i9 a hb) ha) (LK _)
 self:=fun A s Q E st J=>by
  have Y:s.TypeIs (.ref z) "zip":= by
   rcases st.zz with ⟨B,_⟩ | ⟨T,f,oT,B,_⟩ <;> exact#[_,B,rfl]
  refine NU Y MH (KY MH Y OQ ?_ (OS _));show wpAny _ _ (ret (.ref z)) _ _ s;exact iO #[_,rfl, "zip",_,Y,Lf.lookup,J]
 out:=fun h=>hS (by
  simp only[tx,KR,KZ] at h ⊢;rcases h with h | h | h | h <;> simp[h])
def X3 (t:Bool) (l:Addr):Obj:={ cls:=.type (if t then "tuple_iterator" else "list_iterator"),data:=.fields #v[.ref l,.int 0 0] }
def RwB (t:Bool) (h:Heap) (l:Addr) (xs:vR_):Prop:=if t then h.IsTuple l xs else h.IsList l xs
section
variable {w:World}
def oV {t:Bool}{l:Addr}{xs:vR_}{Q:vQ_}(h:RwB t s.heap l xs) (B:Q (.ref s.heap.objs.size) { s with heap:=s.heap.push (X3 t l) }):wpAny (model prog w) A (pyIter (.ref l)) Q E s:=by
 cases t with
 |true=>exact wpAny_pyIter_tuple h B
 |false=>exact wpAny_pyIter_list h B
end
abbrev jz (h:Heap) (t1:Bool) (l1:Addr):Heap:=h.push (X3 t1 l1)
abbrev fZ (h:Heap) (t1 t2:Bool) (l1 l2:Addr):Heap:=(jz h t1 l1).push (X3 t2 l2)
abbrev jo (h:Heap) (t1 t2:Bool) (l1 l2:Addr):Heap:=(fZ h t1 t2 l1 l2).push { cls:=.type "tuple",data:=.seq #v[.ref h.objs.size,.ref (jz h t1 l1).objs.size] }
abbrev jA (h:Heap) (t1 t2:Bool) (l1 l2:Addr):Heap:=(jo h t1 t2 l1 l2).push { cls:=.type "tuple",data:=.seq #v[.none,.none] }
abbrev aK (h:Heap) (t1 t2:Bool) (l1 l2:Addr):Heap:=(jA h t1 t2 l1 l2).push { cls:=.type "zip",data:=.fields #v[.none,.bool false,.bool false,.ref (fZ h t1 t2 l1 l2).objs.size,.ref (jo h t1 t2 l1 l2).objs.size] }
theorem RwB.push {t:Bool}{xs:vR_}(x:RwB t h l xs) (o:Obj):RwB t (h.push o) l xs:=by
 cases t with
 |true=>exact Heap.IsTuple.push x o
 |false=>exact Heap.IsList.push x o
def HI (B J:Bool) (l1 l2:Addr) (xs ys:vR_) :
  Meets (Builtin.«zip.__new__» #[[.type "zip",.ref l1,.ref l2],[]]) (fun _ R s=>RwB B s.heap l1 xs/\RwB J s.heap l2 ys /\
   R (.ok (.ret (.ref (jA s.heap B J l1 l2).objs.size))) { s with heap:=aK s.heap B J l1 l2 }):=
 .of_wp fun prog w A R s h=>by
  obtain⟨hp,g,d,tk,os⟩:=s;obtain⟨M,U,h⟩:=h;have Z:=sub_zip;have W:RwB B (Shared.heap #[hp,g,d,tk,os]) l1 xs:=M;have Y:RwB J (Shared.heap #[hp.push (X3 B l1),g,d,tk,os]) l2 ys:=RwB.push U _
  wp_walk using oV W,oV Y
  exact#[_,rfl,h]
section
variable {w:World}
def RwB.it {t:Bool}{i:Addr}{xs:vR_}(x:RwB t h l xs) (e:h.get? i=some (X3 t l)):RwIt h i l xs 0:=by
 cases t with
 |true=>exact .inr #[#[_,e,rfl,rfl],x]
 |false=>exact .inl #[#[_,e,rfl,rfl],x]
def RwB.at {t:Bool}{xs:vR_}(x:RwB t h l xs) (e:∀o,h.get? l=some o->h'.get? l=some o):RwB t h' l xs:=by
 cases t with
 |true=>obtain⟨o,q,r⟩:=x;exact#[o,e o q,r]
 |false=>obtain⟨o,q,r⟩:=x;exact#[o,e o q,r]
def RwB.lt {t:Bool}{xs:vR_}(x:RwB t h l xs):l<h.objs.size:=by
 cases t with
 |true=>obtain⟨o,q,r⟩:=x;exact xu q
 |false=>obtain⟨o,q,r⟩:=x;exact xu q
def ql (h:Heap) (m:Nat) (xs ys:vR_):Prop:=∃l1 l2,ZipApart (m+4) (m+2) (m+3) m (m+1) l1 l2/\l1<m/\l2<m/\h.objs.size=m+5/\∀S,m+5<=S->ZSt h (m+4) (m+2) (m+3) m (m+1) l1 l2 S xs ys 0
def JN (h:Heap) (m:Nat) (J B:Bool) (l1 l2:Addr):Prop:=ZipApart (m+4) (m+2) (m+3) m (m+1) l1 l2/\h.get? m=some (X3 J l1)/\h.get? (m+1)=some (X3 B l2)/\IsPair h (m+2) (.ref m) (.ref (m+1))/\D7 h (m+4) (m+2) (m+3) .none (.bool false)/\∃a b,IsPair h (m+3) a b
def rj {B J:Bool}{xs ys:vR_}{Q:vQ_}(h1:RwB B s.heap l1 xs) (h2:RwB J s.heap l2 ys)
  (h:∀h',ql h' s.heap.objs.size xs ys->(∀c o,s.heap.get? c=some o->h'.get? c=some o)->JN h' s.heap.objs.size B J l1 l2->Q (.ref (s.heap.objs.size+4)) { s with heap:=h' }) :
  wpAny (model prog w) A (call (.type "zip") [.ref l1,.ref l2]) Q E s:=by
 refine callType_new PySem.F.called_zip #[] (PySem.F.typeCall_zip_2 _ _) (PySem.F.newCall_zip_2 _ _) (fun W=>PySem.F.args_object_init_3 W _ _) PySem.F.entry_zip_new
  (HI B J l1 l2 xs ys) #[h1,h2,?_]
 have z1:(jz s.heap B l1).objs.size=s.heap.objs.size+1:=My ..;have z2:(fZ s.heap B J l1 l2).objs.size=s.heap.objs.size+2:=by rw[My,z1]
 have U:(jo s.heap B J l1 l2).objs.size=s.heap.objs.size+3:=by rw[My,z2]
 have Z:(jA s.heap B J l1 l2).objs.size=s.heap.objs.size+4:=by rw[My,U]
 have z5:(aK s.heap B J l1 l2).objs.size=s.heap.objs.size+5:=by rw[My,Z]
 have fr:∀t l,(X3 t l).isFreed=false:=fun t l=>rfl
 have M:(aK s.heap B J l1 l2).get? (jA s.heap B J l1 l2).objs.size=some _:=Ky _ rfl;have g4:(aK s.heap B J l1 l2).get? (jo s.heap B J l1 l2).objs.size=some _:=Kg _ (Ky _ rfl);have g3:(aK s.heap B J l1 l2).get? (fZ s.heap B J l1 l2).objs.size=some _:=Kg _ (Kg _ (Ky _ rfl));have g2:(aK s.heap B J l1 l2).get? (jz s.heap B l1).objs.size=some (X3 J l2):=Kg _ (Kg _ (Kg _ (Ky _ (fr _ _))));have g1:(aK s.heap B J l1 l2).get? s.heap.objs.size=some (X3 B l1):=Kg _ (Kg _ (Kg _ (Kg _ (Ky _ (fr _ _)))));show _/\_;rw[z2,U,Z] at M;rw[z1,z2] at g3;rw[U] at g4;rw[z1] at g2;rw[Z];have Y:∀c o,s.heap.get? c=some o->(aK s.heap B J l1 l2).get? c=some o:=fun c o x=>
  Kg _ (Kg _ (Kg _ (Kg _ (Kg _ x))))
 refine#[#[_,M,rfl],h _ #[l1,l2,PN h1.lt h2.lt,h1.lt,h2.lt,z5,fun S hS=>#[g3,(h1.at fun o e=>Y _ o e).it g1,(h2.at fun o e=>Y _ o e).it g2,.inl #[M,_,_,g4]]] Y #[PN h1.lt h2.lt,g1,g2,g3,M,_,_,g4]]
structure LZ (h h':Heap) (S:Addr) (xs ys:vR_) (as:vL_) (c:Nat):Prop where
 keep:∀b o,h.get? b=some o->h'.get? b=some o
 low:h.objs.size<=S
 lst:T7 h' S (as.map Value.ref).toArray c
 len:as.length=min xs.size ys.size
 new:∀a∈as,h.objs.size<=a/\a≠S
 nd:as.Nodup
 at':∀(j:Nat) a,as[j]? = some a->∃x y,xs[j]? = some x/\ys[j]? = some y/\IsPair h' a x y
def Hr {P:Nat->Value->Heap->Prop}{acc:vR_}(g:dD P h acc n) (hp:∀j v,P j v h->∃a,v = .ref a):∃as:List Addr,acc=(as.map Value.ref).toArray:=by
 have:∀l:List Value,(∀v∈l,∃a,v=Value.ref a)->∃as:List Addr,l=as.map Value.ref:=by
  intro l;induction l with
  |nil=>exact fun _=>#[[],rfl]
  |cons v r U=>
   intro B;obtain⟨a,e⟩:=B v (.head _);obtain⟨as,M⟩:=U fun u W=>B u (.tail _ W)
   exact#[a::as,by rw[e,M];rfl]
 obtain⟨as,e⟩:=this acc.toList fun v B=>by
  obtain⟨j,J⟩:=NS.mp B;exact hp j v (g.2.1 j v (by simpa using J))
 exact#[as,by rw[<-e,Array.toArray_toList]]
def Ay {m:Nat}{h₀:Heap}{xs ys:vR_}{Q:vQ_}(hh:A.handled=none) (Z:ql s.heap m xs ys) (k₀:∀c o,h₀.get? c=some o->s.heap.get? c=some o) (hm:h₀.objs.size=m) (hn:xs.size<=sizeLine)
  (hQ:∀S h' as c,LZ h₀ h' S xs ys as c->Q (.ref S) { s with heap:=h' }):wpAny (model prog w) A (call (.type "list") [.ref (m+4)]) Q E s:=by
 obtain⟨l1,l2,D,b1,b2,sz,st⟩:=Z;have B:=st s.heap.objs.size ∅;have tz:s.TypeIs (.ref (m+4)) "zip":= by
  rcases B.zz with ⟨Y,_⟩ | ⟨T,f,oT,Y,_⟩ <;> exact#[_,Y,rfl]
 refine DJ (T := "zip") (Ax (A:=A.in1.in1) hh D (show (m+3:Nat)<s.heap.objs.size by omega) (by
  simp only[tx,KR,KZ,not_or];have W:m<=s.heap.objs.size:=by omega
  exact#[show (s.heap.objs.size:Nat)≠m+4 by omega,show (s.heap.objs.size:Nat)≠m+2 by omega,show (s.heap.objs.size:Nat)≠m+3 by omega,show (s.heap.objs.size:Nat)≠m by omega,show (s.heap.objs.size:Nat)≠m+1 by omega,
   Lj (Ks b1 W),Lj (Ks b2 W)]) (by
  simp only[tx,KR,KZ];intro b hb;have J:∀j,j<=4->m+j<s.heap.objs.size:=fun j _=>by omega
  rcases hb with e | e | e | e
  .rw[e];exact J 4 ∅
  .rw[e];exact J 3 ∅
  .rw[e];exact J 0 ∅
  .rw[e];exact J 1 ∅)) (Kf (MB ..) hn) tz #[] #[] FD BV B fun h' acc c k l g=>?_
 obtain⟨as,ea⟩:=Hr g fun j v ⟨a,_,_,e,_⟩=>#[a,e]
 subst ea;refine hQ _ h' as c #[fun b o e=>k b o (fun hb=>?_) (k₀ b o e),by omega,l,by simpa using g.1,fun a ha=>?_,?_,fun j a e=>?_]
 .have hl:b<m:=hm▸xu e;simp only[tx,KR,KZ] at hb;have M:∀j:Nat,¬ (m+j<m):=fun j=>by omega
  rcases hb with e | e | e | e
  .exact M 4 (e▸hl)
  .exact M 3 (e▸hl)
  .exact M 0 (e▸hl)
  .exact M 1 (e▸hl)
 .obtain⟨j,hj⟩:=NS.mp ha;obtain⟨a',x,y,e,q1,q2,_⟩:=g.2.1 j (.ref a) (by simp[hj]);cases e;exact#[Kf (show (h₀.objs.size:Nat)<=s.heap.objs.size by omega) q1,q2]
 .have U:=g.2.2;simp only[List.toList_toArray] at U;exact(List.pairwise_map.mp U).imp fun h e=>h (by rw[e])
 .obtain⟨a',x,y,e',q1,q2,q3,q4,q5⟩:=g.2.1 j (.ref a) (by simp[e]);cases e';exact#[x,y,q3,q4,q5]
end
def P7 (H:Hp):List (Addr × List V)->Hp
 |[]=>H
 |(a,p)::r=>e7 (P7 H r) a (.tup p)
theorem fB:∀{ps:List (Addr × List V)}{b:Addr},(∀q∈ps,q.1≠b)->P7 H ps b=H b
 |[],b,h=>rfl
 |(a,p)::r,b,h=>by
  show e7 (P7 H r) a (.tup p) b=H b;rw[k9 (Ki (h _ (.head _)))];exact fB fun q B=>h q (.tail _ B)
theorem rH:∀{ps:List (Addr × List V)}{b:Addr}{u:HO},P7 H ps b=some u->(∃p,(b,p)∈ps/\u = .tup p)\/H b=some u
 |[],b,u,h=>.inr h
 |(a,p)::r,b,u,h=>by
  replace h:e7 (P7 H r) a (.tup p) b=some u:=h
  by_cases hb:b=a
  .subst hb;rw[w6] at h;cases h;exact .inl #[p,.head _,rfl]
  .rw[k9 hb] at h;rcases rH h with ⟨p',q,e⟩ | e
   .exact .inl #[p',.tail _ q,e]
   .exact .inr e
theorem vI:∀{ps:List (Addr × List V)}{b:Addr}{p:List V},(ps.map (·.1)).Nodup->(b,p)∈ps->P7 H ps b=some (.tup p)
 |(a,p')::r,b,p,nd,h=>by
  show e7 (P7 H r) a (.tup p') b=_;rcases tx.mp h with e | h
  .cases e;exact w6
  .have B:=Kz.mp nd;have hb:b≠a:=fun e=>B.1 (e▸Kw.mpr #[(b,p),h,rfl])
   rw[k9 hb];exact vI B.2 h
def zE {fs ex:vL_}(k:∀b u,h.get? b=some u->h'.get? b=some u) (B:∀b,b<h.objs.size->H' b=H b) (hs:∀b u,H b=some u->H' b=some u):Un fs ex H H' h h' where
 keep:=fun b u q _ _ _=>k b u q
 slot:=fun b u q _ _ _=>#[u.slots,k b u q]
 free:=fun b u q n _=>by rw[B b (xu q)];exact n
 there:=fun b u q _=>#[u,k b u q]
 tups:=fun b xs q=>hs b _ q
 frzs:=fun b u xs q=>hs b _ q
 tbls:=fun b ps q=>#[#v[],by rw[hs b _ q];simp]
def E9 (xs ys:List V):List (List V):=List.zipWith (fun x y=>[x,y]) xs ys
def FK {p:List V}(e:(E9 xs ys)[j]? = some p):∃x y,xs[j]? = some x/\ys[j]? = some y/\p=[x,y]:=by
 unfold E9 at e;rw[PQ] at e;cases B:xs[j]? with
 |none=>rw[B] at e;simp at e
 |some x=>
  cases J:ys[j]? with
  |none=>rw[B,J] at e;simp at e
  |some y=>rw[B,J] at e;simp at e;exact#[x,y,rfl,rfl,e.symm]
def Sq (K:vF_) (H:Hp) (a:Addr) (xs:List V):Prop:=SqL K H a xs\/SqT K H a xs
def qx (K:vF_):List V->Hp->VK->Prop:=fun B H Q=>∃p q xs ys,B=[.ref p,.ref q]/\Sq K H p xs/\Sq K H q ys /\
 ∀S as,(S::as).Nodup->(∀a∈S::as,H a=none)->as.length=(E9 xs ys).length->Q (.ref S) (e7 (P7 H (as.zip (E9 xs ys))) S (.lst (as.map V.ref)))
def uq (I:Inv X pins σ H s) (h:Sq X.K H p xs):∃(t:Bool) (its:vV_),Vals xs its/\RwB t s.heap p its.toArray/\xs.length<=sizeLine:=by
 rcases h with h | h
 .obtain⟨its,r,⟨o,n,e,c,_,d⟩,z⟩:=I.list h;exact#[false,its,r,#[o,e,c,n,d],z]
 .obtain⟨its,r,⟨o,e,c,n,d⟩,z⟩:=I.tuple h;exact#[true,its,r,#[o,e,c,n,d],z]
def vo {as:vL_}{ps:List (List V)}(h:as.length=ps.length):(as.zip ps).map (·.1)=as:=by
 rw[List.map_fst_zip ∅]
def Inv.lz {it W:vV_}{as:vL_}{c:Nat}(I:Inv X pins σ H s) (rx:Vals xs it) (ry:Vals ys W) (zx:xs.length<=sizeLine) (Z:LZ s.heap h' S it.toArray W.toArray as c) :
  (S::as).Nodup/\(∀a∈S::as,H a=none)/\as.length=(E9 xs ys).length/\Inv X pins σ (e7 (P7 H (as.zip (E9 xs ys))) S (.lst (as.map V.ref))) { s with heap:=h' }:=by
 have hl:as.length=(E9 xs ys).length:=by
  have e:=Z.len;simp only[Kl] at e;rw[e,E9,OT,rx.length,ry.length]
 have fr:∀a∈S::as,s.heap.objs.size<=a:=fun a ha=>by
  rcases tx.mp ha with e | e
  .rw[e];exact Z.low
  .exact(Z.new a e).1
 have nn:∀a∈S::as,H a=none:=fun a ha=>I.hok.fresh (fr a ha)
 have nd:(S::as).Nodup:=Kz.mpr #[fun h=>(Z.new S h).2 rfl,Z.nd];have ky:=vo hl;have ndz:((as.zip (E9 xs ys)).map (·.1)).Nodup:=by rw[ky];exact Z.nd
 have J:∀q∈as.zip (E9 xs ys),q.1∈as:=fun q B=>(LL B).1
 refine#[nd,nn,hl,?_];have hs:∀b u,H b=some u->e7 (P7 H (as.zip (E9 xs ys))) S (.lst (as.map V.ref)) b=some u:=fun b u e=>by
  have n:∀a∈S::as,a≠b:=fun a ha z=>by rw[z] at ha;rw[nn b ha] at e;cases e
  rw[k9 (Ki (n S (.head _))),fB fun q B=>n _ (.tail _ (J q B))];exact e
 refine I.un (t':=s.toks) (zE Z.keep (fun b hb=>?_) hs) fun b u e=>?_
 .have n:∀a∈S::as,a≠b:=fun a ha z=>absurd (Ks hb (z▸fr a ha)) (LK _)
  rw[k9 (Ki (n S (.head _))),fB fun q B=>n _ (.tail _ (J q B))]
 .by_cases hb:b=S
  .subst hb;rw[w6] at e;cases e;refine#[?_,as.map Value.ref,c,?_,Z.lst]
   .rw[xo,hl,E9,OT];exact Kf (MB ..) zx
   .have:∀l:List Addr,Vals (l.map V.ref) (l.map Value.ref):=fun l=>by
     induction l with
     |nil=>exact .nil
     |cons a r ih=>exact .cons rfl ih
    exact this as
  .rw[k9 hb] at e;rcases rH e with ⟨p,hp,rfl⟩ | e0
   .obtain⟨j,hj⟩:=NS.mp hp;obtain⟨ha,M⟩:=Nj.mp hj;obtain⟨x,y,ex,ey,rfl⟩:=FK M;obtain⟨x',y',ex',U,q⟩:=Z.at' j b ha;obtain⟨Y,f1,g1⟩:=rx.get ex;obtain⟨u2,f2,g2⟩:=ry.get ey;have e1:Y=x':=by simpa [f1] using ex'
    have e2:u2=y':=by simpa [f2] using U
    subst e1;subst e2;exact#[show 2<=sizeLine by decide,[Y,u2],.cons g1 (.cons g2 .nil),#[_,q,rfl,_,rfl]]
   .exact(I.hok b u e0).stay (fun c v _ q=>Z.keep c v q) (fun c q=>hs c _ q) fun c xs q=>hs c _ q
section
variable {p p' pos:Pos}{t:TA}
def BJ (hc:X.calm=true) (hgl:Gl X "list") (M:X.mg "list" = none) (U:Gl X "zip") (hmz:X.mg "zip" = none) (ha:PA X (e::es) t)
  (he:starEach (e::es) X.env=(false,eval e X.env)::starEach es X.env:=by rfl) (W:(backTo pos' (starEach es X.env)).any (·.1)=false:=by rfl)
  (J:starEach [.Call (.Name "zip" p') (e::es) [] pos'] X.env=[(false,eval (.Call (.Name "zip" p') (e::es) [] pos') X.env)]:=by rfl) :
  PE X (.Call (.Name "list" p) [.Call (.Name "zip" p') (e::es) [] pos'] [] pos) (fK (qx X.K) t):=by
 intro pins s σ H Q I h;refine LS (Y7 I hgl M (show bootBuiltins ("list" : Str)=some (.type "list") by decide +kernel) ?_ #[] #[]);refine Mi ?_ J rfl;rw[J];show wpAny _ _ (spliced [(false,eval (.Call (.Name "zip" p') (e::es) [] pos') X.env)]) _ _ s;refine Calls.spliced_cons ?_;refine LS (Y7 I U hmz (show bootBuiltins ("zip" : Str)=some (.type "zip") by decide +kernel) ?_ #[] #[]);refine Mi (j9 (ha pos' pins s σ H _ I h) fun us s1 ⟨vs,H1,Y,B,q1⟩=>?_) he W;obtain⟨a,b,xs,ys,rfl,qa,qb,k⟩:=q1;obtain⟨u1,u2,rfl,e1,e2⟩:∃u1 u2,us=[u1,u2]/\u1=Value.ref a/\u2=Value.ref b:=by
  cases B with
  |cons h1 B=>
   cases B with
   |cons h2 B=>cases B;exact#[_,_,rfl,h1,h2]
 subst e1;subst e2;obtain⟨ta,it,rx,wa,za⟩:=uq Y qa;obtain⟨tb,jt,ry,wb,zb⟩:=uq Y qb;refine rj wa wb fun h1 Z1 k1 _=>?_
 refine Calls.spliced_nil ?_;refine Ay (h₀:=s1.heap) (I.ok.hd hc) Z1 k1 rfl (by simpa [<-rx.length] using za) fun S h2 as c Z=>?_
 obtain⟨nd,nn,hl,I2⟩:=Inv.lz Y rx ry za Z;exact#[.ref S,_,I2,rfl,k S as nd nn hl]
end
def P9:D->Option (List D)
 |.tup ds=>some ds
 |.lst ds=>some ds
 |_=>none
def M7 (x y:D):D:=.tup [x,y]
def aM:List D->Option (List D)
 |[a,b]=>(P9 a).bind fun xs=>(P9 b).map fun ys=>List.zipWith M7 xs ys
 |_=>none
theorem qK {K:vF_}{s:DS}(I:GI K g σ H fa O s):∀(ps:List (Addr × List V)),(ps.map (·.1)).Nodup->(∀q∈ps,H q.1=none)->GI K g σ (P7 H ps) fa O s/\StE fa O H fa O (P7 H ps)
 |[],_,_=>#[I,StE.refl]
 |(a,p)::r,nd,h=>by
  have B:=Kz.mp nd;obtain⟨U,s1⟩:=qK I r B.2 fun q J=>h q (.tail _ J)
  have M:P7 H r a=none:=by
   rw[fB fun q J z=>B.1 (Kw.mpr #[q,J,z])];exact h _ (.head _)
  exact#[U.new M,s1.trans (B4 M)]
theorem tf {K:vF_}:∀{ds es:vD_}{xs ys:List V}{as:vL_},Reps K N fa H ds xs->Reps K N fa H es ys->as.length=(E9 xs ys).length->(∀q∈as.zip (E9 xs ys),H q.1=some (.tup q.2)) ->
  Reps K N fa H (List.zipWith M7 ds es) (as.map V.ref)
 |[],es,xs,ys,as,h,q,l,k=>by
  simp only[Reps] at h;subst h;simp only[E9,PR,Lg] at l;rw[PU l];simp only[PR,Mx,Reps]
 |d::r,[],xs,ys,as,h,q,l,k=>by
  simp only[Reps] at q;subst q;simp only[E9,PV,Lg] at l;rw[PU l];simp only[PV,Mx,Reps]
 |d::r,e::f,xs,ys,as,h,q,l,k=>by
  simp only[Reps] at h q;obtain⟨x,B,rfl,h1,h2⟩:=h;obtain⟨y,J,rfl,Y,M⟩:=q;cases as with
  |nil=>simp[E9] at l
  |cons a as=>
   have W:(a::as).zip (E9 (x::B) (y::J))=(a,[x,y])::as.zip (E9 B J):=rfl;rw[W] at k;simp only[PX,Ku,Reps];refine#[_,_,rfl,?_,tf h2 M (by simpa [E9] using l) fun q U=>k q (.tail _ U)];simp only[M7,Rep,Reps];exact#[a,[x,y],rfl,SqT.of (k _ (.head _)),x,[y],rfl,h1,y,[],rfl,Y,rfl]
def rh {K:vF_}{v:V}(r:RepB K N fa H d v) (e:P9 d=some ds):∃a xs,v = .ref a/\Sq K H a xs/\Reps K N fa H ds xs:=by
 cases d with
 |tup es=>
  cases e;simp only[RepB,Rep] at r;obtain⟨a,ys,rfl,q,w⟩:=r;exact#[a,ys,rfl,.inr q,w]
 |lst es=>
  cases e;obtain⟨a,ys,rfl,_,q,w⟩:=r;exact#[a,ys,rfl,.inl (SqL.of q),w]
 |_=>cases e
def Di {K:vF_}:iL K (qx K) aM:=by
 intro g σ H fa O s xs ds es Q I Z e k
 match ds,e with
 |[d1,d2],e=>
  refine C8 (show (P9 d1).bind (fun xs=>(P9 d2).map fun ys=>List.zipWith M7 xs ys)=some es from e) fun xs1 e1 e=>?_
  refine F3 e fun ys1 e2 e=>?_
  subst e;simp only[aj] at Z;obtain⟨x,zs,rfl,r1,y,zs',rfl,r2,rfl⟩:=Z;obtain⟨a,U,rfl,q1,w1⟩:=rh r1 e1;obtain⟨b,us,rfl,q2,w2⟩:=rh r2 e2;refine#[a,b,U,us,rfl,q1,q2,fun S as nd Y hl=>?_];have J:=Kz.mp nd;have ky:=vo hl;have W:∀q∈as.zip (E9 U us),q.1∈as:=fun q B=>(LL B).1
  have M:((as.zip (E9 U us)).map (·.1)).Nodup:=by rw[ky];exact J.2
  obtain⟨I1,s1⟩:=qK I (as.zip (E9 U us)) M fun q B=>Y _ (.tail _ (W q B))
  have hS:P7 H (as.zip (E9 U us)) S=none:=by
   rw[fB fun q B (z:q.1=S)=>J.1 (by rw[<-z];exact W q B)];exact Y S (.head _)
  have rp:=tf (Reps.stp I s1.stp w1) (Reps.stp I s1.stp w2) hl fun q B=>vI (b:=q.1) (p:=q.2) M B
  exact k S (as.map V.ref) _ (s1.trans (B4 hS)) (X7 I1 hS rp) (Y S (.head _))
section
variable {p p' pos:Pos}{t:DA}
def pF (hc:X.calm=true) (Y:Gl X "list") (J:X.mg "list" = none) (M:Gl X "zip") (B:X.mg "zip" = none) (ha:BAO X g (e::es) t)
  (Z:starEach (e::es) X.env=(false,eval e X.env)::starEach es X.env:=by rfl) (U:(backTo pos' (starEach es X.env)).any (·.1)=false:=by rfl)
  (W:starEach [.Call (.Name "zip" p') (e::es) [] pos'] X.env=[(false,eval (.Call (.Name "zip" p') (e::es) [] pos') X.env)]:=by rfl) :
  FO X g (.Call (.Name "list" p) [.Call (.Name "zip" p') (e::es) [] pos'] [] pos) (W9 aM t):=
 FO.w (BJ hc Y J M B ha.pe Z U W) (wL Di)
end
section
variable {pos:Pos}{y:Str}{px py pp:Pos}{kt:Nat}
def vM (U:X.calm=true) (k:CompOk X scope cl (x::y::caps) 2 idx) (hi:IO X g (.Tuple [.Name x px,.Name y py] kt pp) iter fi) (M:(x::y::caps).Nodup)
  (J:∀C s0 H0 ex,(p7 X (x::y::caps) scope cl C s0 H0 ex).env.scope.names.lookup x=some .local) (B:∀C s0 H0 ex,(p7 X (x::y::caps) scope cl C s0 H0 ex).env.scope.names.lookup y=some .local)
  (Y:∀C s0 H0 ex g',aA (p7 X (x::y::caps) scope cl C s0 H0 ex) g' ifs fc) (W:∀C s0 H0 ex g',EO (p7 X (x::y::caps) scope cl C s0 H0 ex) g' elt fe) (hs:∀x,foldedSetIterable iter X.env x=pure x:=by intro _;rfl) :
  FO X g (.ListComp elt [#[.Tuple [.Name x px,.Name y py] kt pp,iter,ifs,0]] scope pos) (V3 idx fi fc fe):=
 Bl (G:=mM X.K 2 (eJ (T9 0) (eJ (T9 1) nC))) U k hi (fun C s0 H0 ex=>kD (X:=p7 X (x::y::caps) scope cl C s0 H0 ex) (n:=2) U (fN (X:=p7 X (x::y::caps) scope cl C s0 H0 ex) (Q3 (X:=p7 X (x::y::caps) scope cl C s0 H0 ex) (i:=0) M rfl (Or.inl (J C s0 H0 ex)) (Or.inr (J C s0 H0 ex))) (fN (X:=p7 X (x::y::caps) scope cl C s0 H0 ex) (Q3 (X:=p7 X (x::y::caps) scope cl C s0 H0 ex) (i:=1) M rfl (Or.inl (B C s0 H0 ex)) (Or.inr (B C s0 H0 ex))) jT)))
  (fun a x y σ H Q h q=>#[a,[x,y],rfl,h,rfl,x,[y],rfl,y,[],rfl,rfl,q]) Y W hs
end
def PC (X:Cx) (e:Expr) (te:TE):Prop:=∀(i:Nat) (y:Str) (py spos:Pos),X.N.Nodup->X.N[i]? = some y->Loc X.env.scope y->swapsWith e (some (.Name y py)) spos.line X.env=pure true->(X.fn y=true\/X.env.scope.names.lookup y=some .local)->PS X (.Assign [.Name y py] e spos) (eS te (T9 i))
structure CO (X:Cx) (g:Gh) (e:Expr) (f:DA):Prop where
 pe:PC X e (liftF X.K g f)
theorem CO.w {t:TE}(h:PC X e t) (w:∀σ H Q,liftF X.K g f σ H Q->t σ H Q):CO X g e f:=
 #[fun i y py B h1 h2 J h4 M pins s σ H D I q=>h i y py B h1 h2 J h4 M pins s σ H D I (w σ H _ q)]
section
variable {pos:Pos}
def lI (Y:X.calm=true) (k:CompOk X scope cl N' 1 idx) (hi:IO X g tg iter fi) (J:∀C s0 H0 ex,PG (p7 X N' scope cl C s0 H0 ex) tg (T9 0))
  (Z:∀C s0 H0 ex g',aA (p7 X N' scope cl C s0 H0 ex) g' ifs fc) (W:∀C s0 H0 ex g',EO (p7 X N' scope cl C s0 H0 ex) g' elt fe) (hs:∀x,foldedSetIterable iter X.env x=pure x:=by intro _;rfl) :
  CO X g (.ListComp elt [#[tg,iter,ifs,0]] scope pos) (E7 idx fi fc fe):=
 CO.w (fun i y py B h1 h2 U h4 M=>vS (tc:=fun σ H Q=>∃g',liftT X.K g' fc σ H Q) (te:=fun σ H Q=>∃g',liftE X.K g' fe σ H Q) h1 h2 U Y k hi.pe J (fun C s0 H0 ex pins s σ H Q I ⟨g',h⟩=>Z C s0 H0 ex g' pins s σ H Q I h) (fun C s0 H0 ex pins s σ H Q I ⟨g',h⟩=>(W C s0 H0 ex g').pe pins s σ H Q I h) hs h4 M) (rE k)
def JH {G:TG}(Y:X.calm=true) (k:CompOk X scope cl N' 2 idx) (hi:IO X g tg iter fi) (J:∀C s0 H0 ex,PG (p7 X N' scope cl C s0 H0 ex) tg G)
  (Z:∀(a:Addr) (x y:V) (σ:L2.St) (H:Hp) (Q:L2.St->Hp->Prop),SqT X.K H a [x,y]->Q ((σ.set 0 (some x)).set 1 (some y)) H->G (.ref a) σ H Q)
  (ht:∀C s0 H0 ex g',aA (p7 X N' scope cl C s0 H0 ex) g' ifs fc) (W:∀C s0 H0 ex g',EO (p7 X N' scope cl C s0 H0 ex) g' elt fe) (hs:∀x,foldedSetIterable iter X.env x=pure x:=by intro _;rfl) :
  CO X g (.ListComp elt [#[tg,iter,ifs,0]] scope pos) (V3 idx fi fc fe):=
 CO.w (fun i y py B h1 h2 U h4 M=>vS (tc:=fun σ H Q=>∃g',liftT X.K g' fc σ H Q) (te:=fun σ H Q=>∃g',liftE X.K g' fe σ H Q) h1 h2 U Y k hi.pe J (fun C s0 H0 ex pins s σ H Q I ⟨g',h⟩=>ht C s0 H0 ex g' pins s σ H Q I h) (fun C s0 H0 ex pins s σ H Q I ⟨g',h⟩=>(W C s0 H0 ex g').pe pins s σ H Q I h) hs h4 M) (ue k Z)
def Gm (is:List Nat) (h:CO X g e f):CO X g e (iB is f):=CO.w h.pe fun σ H Q B=>by
 refine B.elim fun fa O s d s' I q k=>?_
 obtain⟨P,a,J⟩:=sE is I;exact#[fa,P,iV is s,d,s',J,q,fun p xs H' f1 O1 M L U=>k p xs H' f1 O1 (a.trans M) L U]
def fY {e:Expr}{i:Nat}{x:Str}{f:DA}{pos':Pos}(J:X.N.Nodup) (hi:X.N[i]? = some x) (Y:Loc X.env.scope x) (M:CO X g e f) (hs:swapsWith e (some (.Name x pos')) pos.line X.env=pure true:=by rfl) (U:X.fn x=true\/X.env.scope.names.lookup x=some .local:=by first | exact .inl rfl | exact .inr rfl | assumption) :
  SO X g (.Assign [.Name x pos'] e pos) (C1 i f):=SO.w (M.pe i x pos' pos J hi Y hs U) fun E σ H Z=>by
 refine Z.elim fun fa O s fl s' I q k=>?_
 refine p9 q fun ds s1 h1 h2=>?_
 by_cases hl:i<s1.sl.length
 .simp only[] at h2;rw[gV hl] at h2;cases h2;refine#[fa,O,s,ds,s1,I,h1,fun p xs H1 f1 O1 B L hp=>?_];have np:p ∉ O1:=fun z=>by
   obtain⟨ys,e⟩:=I.owned (B.sub p z);rw[hp] at e;cases e
  obtain⟨P,sub,W⟩:=L.put i hl (I.st.mon p hp) np;refine k _ H1 f1 P #[fun b hb=>?_,B.fe,fun b u e _ n=>B.same b u e n,B.mon] W;rcases sub b hb with y | y
  .exact .inr (by rw[y];exact hp)
  .exact .inl (B.sub b y)
 .simp only[] at h2;rw[fI hl] at h2;cases h2
end
section
variable {pos:Pos}{y:Str}{px py pp:Pos}{kt:Nat}
def GP (U:X.calm=true) (k:CompOk X scope cl (x::y::caps) 2 idx) (hi:IO X g (.Tuple [.Name x px,.Name y py] kt pp) iter fi) (M:(x::y::caps).Nodup)
  (J:∀C s0 H0 ex,(p7 X (x::y::caps) scope cl C s0 H0 ex).env.scope.names.lookup x=some .local) (B:∀C s0 H0 ex,(p7 X (x::y::caps) scope cl C s0 H0 ex).env.scope.names.lookup y=some .local)
  (Y:∀C s0 H0 ex g',aA (p7 X (x::y::caps) scope cl C s0 H0 ex) g' ifs fc) (W:∀C s0 H0 ex g',EO (p7 X (x::y::caps) scope cl C s0 H0 ex) g' elt fe) (hs:∀x,foldedSetIterable iter X.env x=pure x:=by intro _;rfl) :
  CO X g (.ListComp elt [#[.Tuple [.Name x px,.Name y py] kt pp,iter,ifs,0]] scope pos) (V3 idx fi fc fe):=
 JH (G:=mM X.K 2 (eJ (T9 0) (eJ (T9 1) nC))) U k hi (fun C s0 H0 ex=>kD (X:=p7 X (x::y::caps) scope cl C s0 H0 ex) (n:=2) U (fN (X:=p7 X (x::y::caps) scope cl C s0 H0 ex) (Q3 (X:=p7 X (x::y::caps) scope cl C s0 H0 ex) (i:=0) M rfl (Or.inl (J C s0 H0 ex)) (Or.inr (J C s0 H0 ex))) (fN (X:=p7 X (x::y::caps) scope cl C s0 H0 ex) (Q3 (X:=p7 X (x::y::caps) scope cl C s0 H0 ex) (i:=1) M rfl (Or.inl (B C s0 H0 ex)) (Or.inr (B C s0 H0 ex))) jT)))
  (fun a x y σ H Q h q=>#[a,[x,y],rfl,h,rfl,x,[y],rfl,y,[],rfl,rfl,q]) Y W hs
end
theorem mP:∀ns:List Int,D.plains (ns.map .int)=true
 |[]=>rfl
 |n::r=>by simp only[Ku,D.plains,D.plain,mP r,Lw]
theorem vP:∀ns:List Int,PyData.canLayAll0 (D.pys (ns.map .int))=true
 |[]=>rfl
 |n::r=>by simp only[Ku,D.pys,D.py,PyData.canLayAll0,PyData.canLay0,vP r,Lw]
theorem qV:∀ns:List Int,PyData.depthAll (D.pys (ns.map .int))=0
 |[]=>rfl
 |n::r=>by simp only[Ku,D.pys,D.py,PyData.depthAll,PyData.depth,qV r,Nat.max_self]
def vy (B:List Int):v3 (.lst (B.map .int))=true:=by
 simp[v3,D.plain,mP,D.py,SeqAt.shaped,PyData.canLay0,vP,PyData.depth,qV]
def yu (B:List Int):PyData.eqv (D.py (.lst (B.map .int))) (D.py (.lst []))=decide (B=[]):=by
 cases B with
 |nil=>rfl
 |cons n r=>simp[D.py,D.pys,PyData.eqv,PyData.eqvAll]
def zw (hu:X.A.units+64<cLine):OpR X (compareOp .Eq) (fun x y H Q=>∃a ns b,x = .ref a/\y = .ref b/\SqL X.K H a ((ns:List Int).map V.int)/\H b=some (.lst [])/\Q (.bl (decide (ns=[]))) H):=by
 intro pins s σ H x y v u Q I W Y h;obtain⟨a,ns,b,rfl,rfl,sq,hb,q⟩:=h;cases W;have M:=vy ns;have J:v3 (.lst [])=true:=vy [];unfold v3 at M J;rw[Ko] at M J;obtain⟨its,rv,⟨o,n,h1,h2,h3,h4⟩,_⟩:=I.list sq;obtain⟨as,Z⟩:=fX (N:=fun _=>False) (fa:=none) I (ns.map .int) (ns.map V.int) its Reps.ints rv (mP ns);have B:∃as,Reads s.heap (.ref a) (D.py (.lst (ns.map .int))) as:=by
  simp only[D.py];exact#[_,.list h1 h2 h4 (by simpa using Z)]
 obtain⟨as1,B⟩:=B;obtain⟨bs,U⟩:=V5 I (.lst []) (.ref b) u (show V1 X.K (fun _=>False) none H (.lst []) (.ref b) from #[b,[],rfl,hb,Reps.nil]) Y rfl;rw[<-yu] at q;exact PB B U M.2 J.2 hu #[.bl _,H,I,rfl,q]
def SqF.new {K:vF_}{o:HO}(h:SqF K H a xs) (hp:H p=none):SqF K (e7 H p o) a xs:=by
 rcases h with ⟨o',h⟩ | h
 .exact .inl #[o',by rw[k9 (S3 h hp)];exact h]
 .exact .inr h
def DU {K:vF_}{s:DS}(I:GI K g σ H none O s) (hf:s.fs=none) (f:FS) (hk:f.kind≠0) (Y:f.cells.length<=63) {c:Addr}(J:H c=none) (B:e7 H c (.lst (f.cells.map V.int)) p=none) :
  StE none O H (some p) O (e7 (e7 H c (.lst (f.cells.map V.int))) p (.lst (K5 c f)))/\GI K g σ (e7 (e7 H c (.lst (f.cells.map V.int))) p (.lst (K5 c f))) (some p) O { s with fs:=some f }:=by
 have U:c≠p:=fun z=>by rw[<-z,w6] at B;cases B
 have hp:H p=none:=by rw[k9 (Ki U)] at B;exact B
 have M:∀b u,H b=some u->b≠p/\b≠c:=fun b u e=>#[S3 e hp,S3 e J]
 have W:StE none O H (some p) O (e7 (e7 H c (.lst (f.cells.map V.int))) p (.lst (K5 c f))):=by
  refine#[fun _ h=>h,.inr #[rfl,fun b z=>by cases z;exact hp],fun b u e _=>?_,fun b z=>?_]
  .obtain⟨n1,Z⟩:=M b u e;rw[k9 n1,k9 Z];exact e
  .by_cases h1:b=p
   .subst h1;exact hp
   .by_cases h2:b=c
    .subst h2;exact J
    .rw[k9 h1,k9 h2] at z;exact z
 have cr:=I.car W.stp;refine#[W,#[I.nd,SlR.go cr (fun b xs hb e=>W.same b _ e (by simp)) I.sl,I.fr,I.st.trans #[fun b hb=>(by cases hb),W.fe,fun b u e _ n=>W.same b u e n,W.mon],I.tr,I.ff,?_,I.nf_step W.fe]];refine#[Y,c,by rw[jh hk,w6],?_,?_]
 .rintro(z | z | z)
  .exact I.trF z J
  .obtain⟨xs,e⟩:=I.owned z;rw[J] at e;cases e
  .exact U (KN z).symm
 .rw[k9 U,w6]
def O5 (B:List Int):List Int:=B++(List.replicate (if B=[] then 1 else 0) [0]).flatten
def iI (i:Nat):DE:=fun s=>match s.sl[i]?,s.fs with
 |some (.v (.scr B)),none=>if (O5 B).length<=63 then some (.feed,{ s with fs:=some #[O5 B,0,0,0,2] }) else none
 |_,_=>none
def BC {i:Nat}{x W U:Str}{p1 Z pl pi pos q1 q2 q3 q4 q5 q6 q7 q8 q9 q10 q11 q12 q13 q14:Pos}{j63 j0 j1 j2 j3:Nat}(hu:X.A.units+64<cLine) (hv:PE X (.Name x p1) (J8 i)) (hv':PE X (.Name x Z) (J8 i))
  (hgl:Gl X W) (hml:X.mg W=none) (hbl:bootBuiltins W=some (.type "list")) (hgi:Gl X U) (hmi:X.mg U=none) (hbi:bootBuiltins U=some (.type "int"))
  (hnl:W ≠ "__name__" := by decide) (hdl:(W == ("__debug__" : Str))=false:=by decide) (hni:U ≠ "__name__" := by decide) (hdi:(U == ("__debug__" : Str))=false:=by decide) :
  EO X g (.List [.BinOp (.Call (.Name W pl) [.Subscript (.Name x p1) (.Slice none (some (.Constant (.int 63) j63 q1)) none q2) q3] [] q4) .Add (.BinOp (.List [.Constant (.int 0) j0 q5] q6) .Mult (.Call (.Name U pi) [.Compare (.Name x Z) [.Eq] [.List [] q7] q8] [] q9) q10) q11,.Constant (.int 0) j1 q12,.Constant (.int 0) j2 q13,.Constant (.int 0) j3 q14] pos) (iI i):=
 EO.w (gW (Q7 (jf kj (gs nM hgl hml hbl (Q7 (pZ rC hv pW (vh aU)) X0) hnl hdl) (jf uA (gW (Q7 aU X0)) (gs Dc hgi hmi hbi (Q7 (vt (zw hu) hv' (gW X0) (iC _)) X0) hni hdi))) (Q7 aU (Q7 aU (Q7 aU X0))))) fun σ H Q hQ=>by
  refine hQ.elim fun fa O s d s' I e k=>?_
  unfold iI at e;cases q:s.sl[i]? with
  |none=>rw[q] at e;cases e
  |some z=>
   rw[q] at e;cases z with
   |no=>cases e
   |dct _=>cases e
   |own _=>cases e
   |v dz=>
    cases dz with
    |scr B=>
     cases hf:s.fs with
     |some f=>rw[hf] at e;cases e
     |none=>
      rw[hf] at e;simp only[] at e;split at e
      case isFalse=>cases e
      rename_i l4;cases e;obtain⟨u,e1,r⟩:=SlR.val I.sl q;simp only[Rep] at r;obtain⟨l63,a,rfl,sq⟩:=r;have fd:=I.fd;rw[hf] at fd;have fan:fa=none:=by cases fa with | none=>rfl | some _=>exact fd.elim
      subst fan;refine#[_,e1,63,rfl,a,_,rfl,sq.sq,fun c1 h1=>?_];rw[CT _ (by rw[xo];exact l63)];have I1:=I.new (o:=.lst (B.map V.int)) h1;have sq1:=sq.new (o:=.lst (B.map V.int)) h1;refine#[c1,_,rfl,.inl (SqL.of w6),fun c2 h2=>?_];have I2:=I1.new (o:=.lst (B.map V.int)) h2;have sq2:=sq1.new (o:=.lst (B.map V.int)) h2;refine#[by show 1<=sizeLine;decide,fun c3 Y=>?_];have I3:=I2.new (o:=.lst [V.int 0]) Y;have sq3:=sq2.new (o:=.lst [V.int 0]) Y;refine#[_,e1,by show 0<=sizeLine;decide,fun c4 h4=>?_];have I4:=I3.new (o:=.lst []) h4;have sq4:=sq3.new (o:=.lst []) h4;refine#[a,B,c4,rfl,rfl,sq4.sq,w6,.inr #[decide (B=[]),rfl,?_]];have n34:c3≠c4:=fun z=>by rw[<-z,w6] at h4;cases h4
      have M:c2≠c3:=fun z=>by rw[<-z,w6] at Y;cases Y
      have n24:c2≠c4:=fun z=>by rw[<-z,k9 M,w6] at h4;cases h4
      refine#[c3,if decide (B=[]) then 1 else 0,[V.int 0],rfl,rfl,by rw[k9 n34,w6],by split <;> decide,by split <;> decide,by split <;> decide,fun c5 h5=>?_];have I5:=I4.new (o:=.lst (List.replicate (if decide (B=[]) then (1:Int) else 0).toNat [V.int 0]).flatten) h5;have n25:c2≠c5:=fun z=>by rw[<-z,k9 n24,k9 M,w6] at h5;cases h5
      have J:B.map V.int++(List.replicate (if decide (B=[]) then (1:Int) else 0).toNat [V.int 0]).flatten=(O5 B).map V.int:=by
       unfold O5;cases B with
       |nil=>rfl
       |cons n r=>simp
      have l4':((O5 B).map V.int).length<=sizeLine:=by rw[xo];exact Kf l4 #[]
      refine#[c2,c5,_,_,rfl,rfl,by rw[k9 n25,k9 n24,k9 M,w6],w6,by rw[<-Km,J];exact l4',fun c6 h6=>?_];rw[J];refine#[by show 4<=sizeLine;decide,fun p hp=>?_];obtain⟨a6,I6⟩:=DU I5 hf #[O5 B,0,0,0,2] (show (2:Nat)≠0 by decide) l4 h6 hp;have aa:=(((((B4 (fa:=none) (O:=O) (o:=.lst (B.map V.int)) h1).trans (B4 h2)).trans (B4 Y)).trans (B4 h4)).trans (B4 h5)).trans a6;exact k _ _ (some p) O aa I6 (by simp only[Rep];exact#[p,rfl,rfl])
    |_=>cases e
end DL
namespace DL
open PySem PySem.Spec L2 PyProof.Rows
section
variable {a st:Expr}{fa fs:DE}{pos:Pos}
def Hh (its:vV_):slicePick its.toArray none none (some (-1))=its.reverse.toArray:=by
 have e:=HT3.pick_rev its.toArray;have B:sliceRange ((its.toArray.size:Int) - 1) (-1) (-1)=(List.range its.toArray.size).map fun (k:Nat)=>(((its.toArray.size:Int) - 1)+(-1)*(k:Int)).toNat:=by
  unfold sliceRange;have h1:¬ ((-1:Int)>0):=by omega
  simp only[h1,Kv];have h2:(if (its.toArray.size:Int) - 1 > -1 then ((its.toArray.size:Int) - 1 - -1 - -1 - 1) / - -1 else 0).toNat=its.toArray.size:=by
   have e:-(-1:Int)=1:=rfl;rw[e,Int.ediv_one];split <;> omega
  rw[h2]
 show ((sliceRange ((its.toArray.size:Int) - 1) (-1) (-1)).filterMap (its.toArray[·]?)).toArray=_;rw[B,OC];refine Eq.trans ?_ e;congr 2;funext k;show its.toArray[(((its.toArray.size:Int) - 1)+(-1)*(k:Int)).toNat]? = its.toArray[(((its.toArray.size:Int) - 1)+(k:Int)*(-1)).toNat]?;rw[MI]
def JO (K:vF_) (te B:TE):TE:=fun σ H Q=>te σ H fun x H1=>B σ H1 fun y H2=>y = .int (-1)/\∃p xs,x = .ref p/\SqL K H2 p xs/\∀l,H2 l=none->Q (.ref l) (e7 H2 l (.lst xs.reverse))
def HE (he:PE X a te) (hs:PE X st ts):PE X (.Subscript a (.Slice none none (some st) p2) pos) (JO X.K te ts):=by
 intro pins s σ H Q I h;refine Subscript_ (j9 (he pins s σ H _ I h) fun v s1 ⟨x,H1,I1,W,q1⟩=>?_);refine wpAny_Slice ?_;rw[evalPart_none];refine iO (iO ?_);rw[evalPart_some];refine j9 (hs pins s1 σ H1 _ I1 q1) fun u s3 ⟨y,Z,I3,r3,q3⟩=>?_
 obtain⟨rfl,p,xs,rfl,Y,q⟩:=q3;obtain⟨B,rfl⟩:=r3;cases W;have J:Inv X pins σ Z { s3 with heap:=s3.heap.push { cls:=.type "slice",data:=.fields #v[.none,.none,.int (-1) B] } }:=I3.kept (t':=s3.toks) fun b ob q=>Kg _ q
 obtain⟨its,r,U,hz⟩:=J.list Y;have M:=r.length;show wpAny (model X.prog X.w) X.A (subscriptTail a (.Slice none none (some st) p2) (.ref p) (.ref s3.heap.objs.size)) (EP X pins σ Q) X.xe { s3 with heap:=s3.heap.push { cls:=.type "slice",data:=.fields #v[.none,.none,.int (-1) B] } };refine tail_any (ops:=[.ref p,.ref s3.heap.objs.size]) U.isList.typeIs OD.lookup ?_ (by with_unfolding_all rfl);refine wpAny_getItem_list_slice U.isList (Heap.IsSliceOf.new ..) .none .none (.int _ _) (by simp) ?_ (by rw[Kl] <;> omega);rw[Hh];refine#[.ref (s3.heap.push { cls:=.type "slice",data:=.fields #v[.none,.none,.int (-1) B] }).objs.size,_,J.laid (t':=s3.toks) (o:=.lst xs.reverse) (fun b ob q=>Kg _ q) (iU _) ?_,rfl,q _ (J.hok.fresh (iU _))];exact#[by rw[OU];exact hz,_,0,r.reverse,Ky _ rfl]
def iJ (f h:DE):DE:=fun s=>(f s).bind fun x=>(h x.2).bind fun y=>match x.1,y.1 with
 |.lst ds,.int i=>if i = -1 then some (.lst ds.reverse,y.2) else none
 |_,_=>none
def Br (ha:BO X g a fa) (hs:BO X g st fs):EO X g (.Subscript a (.Slice none none (some st) p2) pos) (iJ fa fs):=EO.w (HE ha.pe hs.pe) fun σ H Q hQ=>by
 refine hQ.elim fun f0 O s d s' I e k=>?_
 refine p9 e fun x s1 h1 e=>?_
 refine p9 e fun y s2 h2 e=>?_
 refine#[f0,O,s,x,s1,I,h1,fun v H1 f1 O1 a1 Y r1=>#[f1,O1,s1,y,s2,Y,h2,fun u H2 B J Z M W=>?_]];have r3:=RepB.stp Y Z r1;cases x with
 |lst ds=>
  cases y with
  |int i=>
   by_cases hi:i = -1
   .simp only[hi,KG,KP,Kq] at e;obtain⟨e1,e2⟩:=e;subst e1;subst e2;subst hi;simp only[RepB,Rep] at W;subst W;obtain⟨c,xs,rfl,_,q,w⟩:=r3;refine#[rfl,c,xs,rfl,SqL.of q,fun l hl=>?_];have U:StE B J H2 B J (e7 H2 l (.lst xs.reverse)):=B4 hl;have L:=X7 M hl (Reps.reverse w);refine k _ _ B J (a1.trans (Z.trans U)) L.gi ?_;simp only[Rep];exact#[l,_,rfl,eN M U L.gi hl L.nf,w6,Reps.stp M U.stp (Reps.reverse w)]
   .simp only[hi,Kv] at e;cases e
  |_=>cases e
 |_=>cases y <;> cases e
end
def az:List D->Option (List Int)
 |[]=>some []
 |.int i::r=>(az r).map fun l=>i::l
 |_::_=>none
def Q9:List Int->Int
 |[]=>0
 |i::r=>r.foldl min i
def mi:D->Option D
 |.lst ds=>(az ds).bind fun is=>if 0<is.length then some (.int (Q9 is)) else none
 |_=>none
theorem vN:∀is:List Int,az (is.map D.int)=some is
 |[]=>rfl
 |i::r=>by rw[Ku,az,vN r];rfl
theorem qF:∀{ds:vD_}{is:List Int},az ds=some is->ds=is.map D.int
 |[],is,h=>by cases h;rfl
 |.int i::r,is,h=>by
  rw[az] at h;refine F3 h fun l h1 h2=>?_
  rw[<-h2,qF h1];rfl
 |.bl _::r,is,h=>by cases h
 |.non::r,is,h=>by cases h
 |.str _::r,is,h=>by cases h
 |.tup _::r,is,h=>by cases h
 |.lst _::r,is,h=>by cases h
 |.feed::r,is,h=>by cases h
 |.scr _::r,is,h=>by cases h
 |.fn _::r,is,h=>by cases h
 |.exc _ _::r,is,h=>by cases h
theorem gF:∀(l:List Int) (i:Int),(l.foldl min i=i\/l.foldl min i∈l)/\l.foldl min i<=i/\∀x∈l,l.foldl min i<=x
 |[],i=>#[.inl rfl,Int.le_refl _,fun x B=>by cases B]
 |y::r,i=>by
  obtain⟨a,b,c⟩:=gF r (min i y);rw[List.foldl_cons];refine#[?_,by omega,fun x B=>?_]
  .rcases a with a | a
   .rw[a];rcases Int.le_total i y with h | h
    .exact .inl (Int.min_eq_left h)
    .exact .inr (by rw[Int.min_eq_right h];exact iR ..)
   .exact .inr (td _ a)
  .rcases tx.mp B with rfl | B
   .omega
   .exact c x B
def FT {l:List Int}(h:0<l.length):Q9 l∈l/\∀x∈l,Q9 l<=x:=by
 cases l with
 |nil=>cases h
 |cons i r=>
  obtain⟨a,b,c⟩:=gF r i;refine#[?_,fun x B=>?_]
  .rcases a with a | a
   .show r.foldl min i∈_;rw[a];exact iR ..
   .exact td _ a
  .rcases tx.mp B with rfl | B
   .exact b
   .exact c x B
theorem rN:∀{is:List Int}{us:vV_},Vals (is.map V.int) us->∃ps:List (Int × Tok),us=(intItems ps.toArray).toList/\ps.map (·.1)=is
 |[],_,.nil=>#[[],by simp[intItems],rfl]
 |i::r,_,.cons q t=>by
  obtain⟨ps,M,B⟩:=rN t;obtain⟨k,J⟩:=(show ∃k,_=Value.int i k from q)
  exact#[(i,k)::ps,by rw[J,M];simp[intItems],by rw[Ku,B]]
def vi {ps:List (Int × Tok)}(h:ps.map (·.1)=is) {x:Int}(B:is[j]? = some x):numAt ps.toArray j=x:=by
 rw[<-h,KO] at B;unfold numAt;rw[List.getElem?_toArray,B];rfl
theorem sW {val:Nat->Int}:∀k:Nat,argBest (fun i j=>decide (val i<val j)) k<=k/\∀j,j<=k->val (argBest (fun i j=>decide (val i<val j)) k)<=val j
 |0=>#[iU _,fun j B=>by
  have e:j=0:=Nat.le_zero.mp B;subst e;exact Int.le_refl _]
 |k+1=>by
  obtain⟨a,b⟩:=sW (val:=val) k;unfold argBest;by_cases c:val (k+1)<val (argBest (fun i j=>decide (val i<val j)) k)
  .rw[gV (Kp c)];refine#[iU _,fun j B=>?_];by_cases e:j=k+1
   .subst e;exact Int.le_refl _
   .have:=b j ∅;omega
  .rw[fI (by rw[KC c];exact Kn)];refine#[by omega,fun j B=>?_];by_cases e:j=k+1
   .subst e;omega
   .exact b j ∅
def vF:bootBuiltins ("min" : Str)=some (.builtin "min"):=by decide +kernel
section
variable {K:vF_}
def mJ (K:vF_) (f:List Int->Int) (c:List Int->Prop):List V->Hp->VK->Prop:=fun xs H Q=>∃(a:Addr) (is:List Int),xs=[.ref a]/\SqL K H a (is.map V.int)/\c is/\Q (.int (f is)) H
def qt (hc:X.calm=true):CallR X (.builtin "min") (mJ X.K Q9 fun is=>0<is.length):=by
 intro pins s σ H xs us Q I r h;obtain⟨a,is,rfl,hq,B,q⟩:=h;obtain⟨u,rfl,Z⟩:=W0 r;cases Z;obtain⟨its,U,p,_⟩:=I.list hq;obtain⟨ps,e,hp⟩:=rN U;have hl:s.heap.IsList a (intItems ps.toArray):=by
  have:=p.isList;rw[e] at this;simpa using this
 have W:ps.toArray.size=is.length:=by rw[<-hp];simp
 refine min_intList (I.ok.hd hc) hl (by rw[W];exact B) fun v h' tk hv hk=>?_
 obtain⟨t,rfl⟩:=intItems_at hv;obtain⟨b1,b2⟩:=sW (val:=numAt ps.toArray) (ps.toArray.size - 1);have Y:numAt ps.toArray (argBest (fun i j=>decide (numAt ps.toArray i<numAt ps.toArray j)) (ps.toArray.size - 1))=Q9 is:=by
  generalize argBest (fun i j=>decide (numAt ps.toArray i<numAt ps.toArray j)) (ps.toArray.size - 1)=k at *;obtain⟨m1,m2⟩:=FT B;have hk:is[k]? = some (is[k]'∅):=Le ∅;have k1:=vi hp hk;have k2:=m2 _ (LM hk);obtain⟨j,J⟩:=Mn m1;have M:=b2 j (by have:=(KH.mp J).1;omega);rw[vi hp J] at M;omega
 rw[Y];exact#[.int _,H,I.kept hk,#[t,rfl],q]
theorem qr :∀{is:List Int}{xs:List V},Reps K N fa H (is.map D.int) xs->xs=is.map V.int
 |[],xs,h=>by simpa only[Mx,Reps] using h
 |b::r,xs,h=>by
  simp only[Ku,Reps,Rep] at h;obtain⟨x,ys,rfl,rfl,h⟩:=h;rw[qr h];rfl
def ye {p:D->Option D}{f:List Int->Int}{c:List Int->Prop}(hp:∀d1 d,p d1=some d->∃is:List Int,d1 = .lst (is.map D.int)/\c is/\d = .int (f is)):W3 K (mJ K f c) (one p):=fJ fun g σ H fa O s x d1 d Q I r e k=>by
 obtain⟨is,rfl,B,rfl⟩:=hp _ _ e;obtain⟨a,ys,rfl,_,q,w⟩:=r;have:=qr w;subst this;exact#[a,is,rfl,SqL.of q,B,k _ H StE.refl I (by simp only[Rep])]
def xQ:W3 K (mJ K Q9 fun is=>0<is.length) (one mi):=ye fun B d e=>by
 cases B with
 |lst es=>
  refine C8 (show (az es).bind (fun is=>if 0<is.length then some (D.int (Q9 is)) else none)=some d from e) fun is h1 h2=>?_
  by_cases h:0<is.length
  .rw[gV h] at h2;cases h2;exact#[is,by rw[qF h1],h,rfl]
  .rw[fI h] at h2;cases h2
 |_=>cases e
end
end DL
namespace L2
open PySem PySem.Spec PyProof.Rows
section
variable {σ:List (Option V)}
def Inv.turned2 {t':Nat}{b:Addr}(I:Inv X pins σ H s) (k:∀c o,c≠a->c≠b->s.heap.get? c=some o->h'.get? c=some o) (fa:N3 X pins H a) (fb:N3 X pins H b):Inv X pins σ H { s with heap:=h',toks:=t' }:=by
 have M:∀c u,H c=some u->c≠a:=fun c u e z=>by rw[z,fa.1] at e;cases e
 have J:∀c u,H c=some u->c≠b:=fun c u e z=>by rw[z,fb.1] at e;cases e
 refine I.step (g':=s.gens) (d':=s.drawn) (ch:=[a,b]) (fun c B=>?_) (fun c o _ _ B e _=>k c o (fun z=>B (by simp[z])) (fun z=>B (by simp[z])) e) (fun c o _ _ B e _=>#[o.slots,k c o (fun z=>B (by simp[z])) (fun z=>B (by simp[z])) e]) (fun _ _ _ _ n=>n)
  (fun c o B e=>#[o,k c o (fun z=>B (by simp[z])) (fun z=>B (by simp[z])) e]) (fun _ _ e=>e) (fun _ _ _ e=>e) (fun c ps e=>#[#v[],by rw[e];simp]) (fun m hm=>?_) (fun c u e=>?_) I.bare
 .simp only[tx,KR,KZ] at B;rcases B with rfl | rfl
  .exact#[fa.2.2.2.1,fa.2.1,fa.2.2.2.2.1,fa.2.2.2.2.2]
  .exact#[fb.2.2.2.1,fb.2.1,fb.2.2.2.2.1,fb.2.2.2.2.2]
 .obtain⟨o,es,ep,W,r⟩:=hm;exact#[o,es,ep,k _ o (Ki fa.2.1) (Ki fb.2.1) W,r]
 .refine(I.hok c u e).stay (fun d v U q=>k d v ?_ ?_ q) (fun _ q=>q) fun _ _ q=>q
  .rcases U with z | z
   .rw[z];exact M c u e
   .exact M d _ z
  .rcases U with z | z
   .rw[z];exact J c u e
   .exact J d _ z
end
def fL (K:vF_) (a:Addr):It:=
 #[fun i H=>∃xs x,SqL K H a xs/\xs[i]? = some x,fun i H v H'=>∃p x,H p=none/\v = .ref p/\H'=e7 H p (.tup [.int (i:Int),x])/\∀xs,SqL K H a xs->xs[i]? = some x,fun i H=>∃xs,SqL K H a xs/\xs.length<=i]
def FZ {w:World}{K:vF_}{x1} {pos:Pos}(a e it:Addr) (U:e≠it):Turn P w K (.Tuple elts x1 pos) (fL K a) [e,it] e (fun i h=>(∃old,IsEnum h e it ((i:Nat):Int) old)/\h.IsListIter it a i) where
 mem:=by simp
 obj:=fun i h st b hb=>by
  obtain⟨⟨old,J⟩,hi⟩:=st;simp only[tx,KR,KZ] at hb;rcases hb with rfl | rfl
  .exact#[_,J,fun v z=>by
    have z':Data.fields _=Data.cell v:=z;cases z']
  .obtain⟨o,q,c,d⟩:=hi;exact#[o,q,fun v z=>by rw[d] at z;cases z]
 keep:=fun i h h' st k=>#[let ⟨old,J⟩:=st.1;#[old,k e (by simp) _ J],st.2.at fun o q=>k it (by simp) o q]
 item:=by
  intro X hP hw hK hc i pins s σ H E I hf st hg;subst hP hw hK;obtain⟨xs,x,hq,hx⟩:=hg;obtain⟨⟨old,J⟩,M⟩:=st;obtain⟨its,rv,p,hz⟩:=I.list hq;obtain⟨u,hu,ru⟩:=rv.get hx;have fe:=hf e (by simp);have fi:=hf it (by simp);have hx':its.toArray[i]? = some u:=by simpa using hu
  have W:e<s.heap.objs.size:=xu J;have Z:it<s.heap.objs.size:=by obtain⟨o,q,_⟩:=id M;exact xu q
  refine wpAny_pyNext_enum_item J M p.isList hx' U fun h₁ heo Y ht₁ hz₁ hk₁=>?_
  refine#[_,rfl,wpAny_letOwnedTupleGo_enum heo fun h₂ he₂ B=>?_]
  replace B:Heap.SameBut e h₁ h₂:=B
  have hn:H s.heap.objs.size=none:=I.hok.fresh (iU _);have I1:Inv X pins σ (e7 H s.heap.objs.size (.tup [.int (i:Int),x])) { s with heap:=s.heap.push { cls:=.type "tuple",data:=.seq #v[.int i s.toks,u] },toks:=s.toks }:=
   I.laid (t':=s.toks) (fun b o q=>Kg _ q) (iU _) #[by show 2<=sizeLine;decide,[.int i s.toks,u],.cons #[_,rfl] (.cons ru .nil),#[_,Ky _ rfl,rfl,_,rfl]]
  have up:∀b,b<s.heap.objs.size->N3 X pins H b->N3 X pins (e7 H s.heap.objs.size (.tup [.int (i:Int),x])) b:=fun b hb f=>#[by rw[k9 (Kr hb)];exact f.1,f.2]
  have I2:=I1.turned2 (h':=h₂) (t':=s.toks+1) (a:=e) (b:=it) (fun c o ce ci q=>by
   rcases Heap.get?_push_cases q with ⟨rfl,rfl⟩ | q1
   .exact(B.2 _ ce).trans ht₁
   .exact(B.2 _ ce).trans (hk₁ c o ce ci q1)) (up e W fe) (up it Z fi)
  refine#[.ref s.heap.objs.size,_,I2,rfl,#[_,x,hn,rfl,rfl,fun ys hy=>by rw[I.list_inj hy hq];exact hx],#[#[u,?_],Y.extBut B.extBut (Ki U)],fun b hb=>?_]
  .have:((i+1:Nat):Int)=(i:Int)+1:=by push_cast;rfl
   rw[this];exact he₂
  .simp only[tx,KR,KZ] at hb;rcases hb with rfl | rfl
   .exact(up _ W fe).1
   .exact(up _ Z fi).1
 done:=by
  intro X hP hw hK hc i pins s σ H E I hf st hg;subst hP hw hK;obtain⟨xs,hq,hx⟩:=hg;obtain⟨⟨old,J⟩,M⟩:=st;obtain⟨its,rv,p,hz⟩:=I.list hq;obtain⟨f0,f1,f2,f3,f4,f5⟩:=hf it (by simp);have hl:=rv.length;exact wpAny_pyNext_enum_end (I.ok.hd hc) J M p.isList (by simp;omega) fun h' eb=>#[rfl,I.turned (t':=s.toks) (fun b o hb q=>eb b o hb q) f0 f1 f3 f4 f5]
 self:=fun _ _ _ _ _ st h=>by obtain⟨⟨old,J⟩,_⟩:=st;exact wpAny_pyIter_enum J h
def Jp (K:vF_) (ta:TA):TI:=fun σ H R=>ta σ H fun B H1=>∃a,B=[.ref a]/\(∃xs,SqL K H1 a xs)/\R (fL K a) H1
def Cb:bootBuiltins ("enumerate" : Str)=some (.type "enumerate"):=by decide +kernel
def HU {a:Expr}{ta:TA}{p pos pt:Pos}{elts:List Expr}{x1} (Y:Gl X "enumerate") (hm:X.mg "enumerate" = none) (ha:PA X [a] ta) (hs:starEach [a] X.env=[(false,eval a X.env)]:=by rfl):PI X (.Tuple elts x1 pt) (.Call (.Name "enumerate" p) [a] [] pos) (Jp X.K ta):=by
 intro pins s σ H R I h;refine Call_ (Y7 I Y hm Cb (Mi (j9 (ha pos pins s σ H _ I h) fun us s1 ⟨vs,H1,B,U,q1⟩=>?_) hs rfl));obtain⟨l,e,⟨xs,hq⟩,q⟩:=q1;subst e;cases U with
 |cons r Z=>
  cases Z;cases r;obtain⟨its,rv,pp,hz⟩:=B.list hq;refine call_enumerate_list pp.isList fun h' M J W hk=>wpAny_pyIter_enum M ?_
  refine#[s1.heap.objs.size+1,[s1.heap.objs.size+1,s1.heap.objs.size],_,_,H1,rfl,B.kept (t':=s1.toks) hk,FZ l (s1.heap.objs.size+1) s1.heap.objs.size (Nat.succ_ne_self _),#[#[_,M],J],fun b hb=>?_,q];simp only[tx,KR,KZ] at hb;rcases hb with rfl | rfl
  .exact B.fpOk (Nat.le_succ _) (B.hok.fresh (Nat.le_succ _))
  .exact B.fpOk (iU _) (B.hok.fresh (iU _))
def CL {K:vF_}{a:Addr}{xs:List V}{g:TG}{tb:TS}{D:Ends}{H:Hp}(B:Nat->St->Hp->Prop) (M:B 0 σ H) (hl:∀i σ H,i<=xs.length->B i σ H->SqL K H a xs)
  (hs:∀i x p σ H,xs[i]? = some x->H p=none->B i σ H->g (.ref p) σ (e7 H p (.tup [.int (i:Int),x])) fun σ2 H2=>tb { D with nx:=B (i+1),ct:=B (i+1),bk:=D.nx } σ2 H2) (U:∀σ H,B xs.length σ H->D.nx σ H) :
  ∃W:Nat->Nat->St->Hp->Prop,(∃m,W 0 m σ H)/\∀i m σ H,W i m σ H ->
   ((fL K a).stop i H/\D.nx σ H)\/((fL K a).go i H/\∃N:St->Hp->Prop,(∀σ' H',N σ' H'->∃m',m'<m/\W (i+1) m' σ' H')/\∀x H',(fL K a).yld i H x H'->g x σ H' fun σ2 H2=>tb { D with nx:=N,ct:=N,bk:=D.nx } σ2 H2):=by
 refine#[fun i m σ H=>m=xs.length - i/\i<=xs.length/\B i σ H,#[xs.length,by simp,Lr _,M],?_];rintro i m σ H ⟨rfl,hi,p⟩;have q:=hl i σ H hi p;by_cases J:i<xs.length
 .refine .inr #[#[xs,xs[i],q,by simp[J]],B (i+1),fun σ' H' p'=>#[xs.length - (i+1),by omega,rfl,J,p'],fun v H' y=>?_];obtain⟨pp,x,hp,rfl,rfl,y⟩:=y;exact hs i x pp σ _ (y xs q) hp p
 .have e:i=xs.length:=by omega
  subst e;exact .inl #[#[xs,q,iU _],U σ H p]
def Jb:V->List V->Hp->VK->Prop:=fun x B H Q=>∃l xs i y,x = .ref l/\B=[.int i,y]/\H l=some (.lst xs)/\0<=i/\i<=xs.length/\xs.length<sizeLine/\Q .non (e7 H l (.lst (xs.take i.toNat++y::xs.drop i.toNat)))
def HP:gK X "list.insert" Jb:=by
 intro pins s σ H x Y v us Q I M W h;obtain⟨l,xs,i,y,rfl,rfl,B,h0,h1,Z,q⟩:=h;cases M;cases W with
 |cons J U=>
  cases U with
  |@cons _ u _ _ r2 r3=>
   cases r3;obtain⟨t,rfl⟩:=J;obtain⟨z,its,n,r,hl,e⟩:=I.lstM B;have hb:sizeLine<2 ^ 62:=by decide
   refine Mw F.slot_list_insert #[_,e,rfl] F.entry_list_insert (F.args_list_insert_3 _ _ _) (AutoSeq1.list_insert_list_int_val_1 l its.toArray n i t u (by
    rw[show Builtin.List.listFitsIndex i=true from fitsIndex_both ∅ ∅];decide) (by rw[Kl];omega)) #[e,?_]
   have hk:¬ i<0:=by omega
   have hm:min i.toNat its.length=i.toNat:=Ma ∅;refine#[.non,_,I.lset (its':=its.take i.toNat++u::its.drop i.toNat) B e ?_ ((Vals.take i.toNat r).append (.cons r2 (Vals.drop i.toNat r))) ?_,rfl,q]
   .show ((its.toArray.extract 0 (if i<0 then (i+(its.toArray.size:Int)).toNat else min i.toNat its.toArray.size)).push u++its.toArray.extract (if i<0 then (i+(its.toArray.size:Int)).toNat else min i.toNat its.toArray.size))=_;rw[fI hk,Kl,hm];apply Array.toList_inj.mp;simp;exact MJ (by simp)
   .rw[Km,Kh,Ld,Kt];omega
end L2
namespace DL
open PySem PySem.Spec L2 PyProof.Rows
def Q8 (ds:vD_):List D:=ds.zipIdx.map fun p=>.tup [.int (p.2:Int),p.1]
def Bu (h:ds[i]? = some d):(Q8 ds)[i]? = some (.tup [.int (i:Int),d]):=by
 unfold Q8;rw[KO,List.getElem?_zipIdx,h];simp
def dt (f:DA) (t:D->DS->Option DS) (b:DM):DM:=fun s=>(f s).bind fun x=>match x.1 with
 |[.lst ds]=>u6 t b (Q8 ds) x.2
 |_=>none
def R3 (s:DS) (i:Nat):Option (List D):=match s.sl[i]? with
 |some (.own ds)=>some ds
 |_=>none
def qH:List D->Option (Int × D)
 |[.int k,d]=>some (k,d)
 |_=>none
def bO (i:Nat) (f:DA):DM:=fun s=>(R3 s i).bind fun _=>(f s).bind fun x=>(qH x.1).bind fun y=>(R3 x.2 i).bind fun ds=>
 if 0<=y.1/\y.1<=ds.length/\ds.length<sizeLine then some (.next,{ x.2 with sl:=x.2.sl.set i (.own (ds.take y.1.toNat++y.2::ds.drop y.1.toNat)) }) else none
def eB {s:DS}(h:R3 s i=some ds):s.sl[i]? = some (.own ds):=by
 unfold R3 at h;cases q:s.sl[i]? with
 |none=>rw[q] at h;cases h
 |some z=>
  rw[q] at h;cases z with
  |own ds=>cases h;rfl
  |no=>cases h
  |dct _=>cases h
  |v _=>cases h
def Em {xs:vD_}{y:Int × D}(h:qH xs=some y):xs=[.int y.1,y.2]:=by
 cases xs with
 |nil=>cases h
 |cons d xs=>
  cases d with
  |int k=>
   cases xs with
   |nil=>cases h
   |cons e xs=>
    cases xs with
    |nil=>cases h;rfl
    |cons _ _=>cases h
  |_=>cases h
def zq {t:D->DS->Option DS}{b:DM}{s:DS}(q:dt f t b s=some r):∃ds s1,f s=some ([.lst ds],s1)/\u6 t b (Q8 ds) s1=some r:=by
 refine p9 q fun xs s1 h1 h2=>?_
 cases xs with
 |nil=>cases h2
 |cons d xs=>
  cases xs with
  |cons _ _=>cases d <;> cases h2
  |nil=>
   cases d with
   |lst ds=>exact#[ds,s1,h1,h2]
   |_=>cases h2
def GL {s:DS}(q:bO i f s=some r):∃ds0 k d ds s1,s.sl[i]? = some (.own ds0)/\f s=some ([.int k,d],s1)/\s1.sl[i]? = some (.own ds)/\(0<=k/\k<=ds.length/\ds.length<sizeLine)/\(Fl.next,{ s1 with sl:=s1.sl.set i (.own (ds.take k.toNat++d::ds.drop k.toNat)) })=r:=by
 refine C8 q fun ds0 J q=>?_
 refine p9 q fun as s1 h1 q=>?_
 refine p9 q fun k d h2 q=>?_
 refine C8 q fun ds B q=>?_
 have h2:=Em h2;have h2:as=[.int k,d]:=h2;subst h2;by_cases hl:0<=k/\k<=ds.length/\ds.length<sizeLine
 .have q:=(gV hl).symm.trans q;exact#[ds0,k,d,ds,s1,eB J,h1,eB B,hl,KN q]
 .have q:=(fI hl).symm.trans q;cases q
section
variable {t:D->DS->Option DS}{b:DM}{pos pt:Pos}{x1:Nat}
def IV (hp:PassesOwn (model X.prog X.w) X.A X.env X.xe) (hc:X.calm=true) (U:Gl X "enumerate") (hm:X.mg "enumerate" = none) (he:AO X g [e] f) (hg:GO X g (.Tuple elts x1 pt) t) (hb:SSO X g body b)
  (M:starEach [e] X.env=[(false,eval e X.env)]:=by rfl) (hs:∀x,foldedSetIterable (.Call (.Name "enumerate" p1) [e] [] p2) X.env x=pure x:=by intro _;rfl) :
  SO X g (.For (.Tuple elts x1 pt) (.Call (.Name "enumerate" p1) [e] [] p2) body [] pos) (dt f t b):=SO.w (jy hp hc (HU U hm he.pe M) hg.pe hb.pe hs) fun E σ H hQ=>by
 refine hQ.elim fun fa O s fl sf I q k=>?_
 obtain⟨ds,s1,h1,h2⟩:=zq q;refine#[fa,O,s,_,s1,I,h1,fun vs H1 f1 O1 a1 J r=>?_];have Y:=k.shift a1.stp
 .simp only[Reps,Rep] at r;obtain⟨v,ys,rfl,⟨a,xs,rfl,na,q,w⟩,rfl⟩:=r;refine#[a,rfl,#[xs,SqL.of q],CL (xs:=xs) (U6 X.K g f1 O1 H1 t b (Q8 ds) fl sf) #[f1,O1,s1,Stp.refl,J,h2] ?_ ?_ ?_]
  .rintro i σ' H' _ ⟨fa',O',s',st,W,e⟩;exact SqL.of ((J.car st).ls a xs na q).1
  .intro i x p σ' H' hx B h;obtain⟨d,hd,Z⟩:=Reps.get' w hx;have h':U6 X.K g f1 O1 H1 t b (Q8 ds) fl sf i σ' (e7 H' p (.tup [.int (i:Int),x])):=by
    obtain⟨fa',O',s',st,W,e⟩:=h;exact#[fa',O',s',st.trans (B4 B).stp,W.new B,e]
   refine fu Y (Bu hd) (fun fa' O' st=>?_) h';simp only[Rep,Reps];exact#[p,[.int (i:Int),x],rfl,SqT.of w6,_,_,rfl,rfl,_,_,rfl,Rep.stp J st Z,rfl]
  .intro σ' H' h;refine dP Y ?_ h;unfold Q8;rw[xo,List.length_zipIdx,w.length];exact iU _
def pG {i:Nat}{x:Str}(hv:PE X (.Name x p1) (J8 i)) (he:AO X g [e1,e2] f) (J:attributeBase (.Name x p1) ("insert" : Str) X.env (eval (.Name x p1) X.env)=eval (.Name x p1) X.env:=by rfl)
  (W:((backTo p3 (starEach [e1,e2] X.env)).all (fun x=>!x.1)&&(backToKw p3 (keywordEach [] X.env)).all (fun x=>x.1.isSome)
   && decide ([e1,e2].length+([]:List Keyword).length+(if ([]:List Keyword).isEmpty then 0 else 1)<30))=true:=by rfl)
  (M:(p2.endLine == p3.line)=true:=by rfl) (hs:starEach [e1,e2] X.env=(false,eval e1 X.env)::starEach [e2] X.env:=by rfl) (B:(backTo p3 (starEach [e2] X.env)).any (·.1)=false:=by rfl)
  (hsw:swapsWith (.Call (.Attribute (.Name x p1) ("insert" : Str) p2) [e1,e2] [] p3) none p4.line X.env=pure false:=by rfl) :
  SO X g (.Expr (.Call (.Attribute (.Name x p1) ("insert" : Str) p2) [e1,e2] [] p3) p4) (bO i f):=
 SO.w (ji (mT NK PySem.F.slot_list_insert PySem.F.type_list_insert HP hv he.pe J W M hs B) hsw) fun E σ H hQ=>by
  refine hQ.elim fun fa O s fl s' I q k=>?_
  obtain⟨ds0,U,d,ds,s1,q0,h1,q2,hl,e⟩:=GL q;cases e;obtain⟨a,Z,e1,m,e2,_⟩:=SlR.own I.sl q0;refine#[_,e1,.inl #[rfl,Z,SqL.of e2],fa,O,s,_,s1,I,h1,fun vs H1 f1 O1 a1 I1 r=>?_];simp only[Reps,Rep] at r;obtain⟨u,ys,rfl,rfl,v,ys',rfl,r,rfl⟩:=r;obtain⟨b,xs,e3,m1,e4,Y⟩:=SlR.own I1.sl q2;rw[e1] at e3;cases e3;have rl:=Y.length;obtain⟨I2,a2⟩:=I1.rew q2 e1 m1 e4 (Reps.append (Y.take U.toNat) (es:=d::ds.drop U.toNat) (ys:=v::xs.drop U.toNat) (by simp only[Reps];exact#[v,_,rfl,r,Y.drop U.toNat]));exact#[a,xs,U,v,rfl,rfl,e4,hl.1,by rw[rl];exact hl.2.1,by rw[rl];exact hl.2.2,k σ _ f1 O1 (a1.stp.trans a2) I2]
end
end DL
namespace L2
open PySem PySem.Spec PyProof.Rows
section
variable {σ:List (Option V)}
def Inv.turnedL {t':Nat}(I:Inv X pins σ H s) (k:∀c o,c ∉ ch->s.heap.get? c=some o->h'.get? c=some o) (f:∀b∈ch,N3 X pins H b):Inv X pins σ H { s with heap:=h',toks:=t' }:=by
 have J:∀c u,H c=some u->c ∉ ch:=fun c u e B=>by rw[(f c B).1] at e;cases e
 refine I.step (g':=s.gens) (d':=s.drawn) (ch:=ch) (fun c B=>#[(f c B).2.2.2.1,(f c B).2.1,(f c B).2.2.2.2.1,(f c B).2.2.2.2.2]) (fun c o _ _ B e _=>k c o B e) (fun c o _ _ B e _=>#[o.slots,k c o B e]) (fun _ _ _ _ n=>n)
  (fun c o B e=>#[o,k c o B e]) (fun _ _ e=>e) (fun _ _ _ e=>e) (fun c ps e=>#[#v[],by rw[e];simp]) (fun m hm=>?_) (fun c u e=>?_) I.bare
 .obtain⟨o,es,ep,M,r⟩:=hm;exact#[o,es,ep,k _ o (fun z=>(f _ z).2.1 rfl) M,r]
 .refine(I.hok c u e).stay (fun d v U q=>k d v ?_ q) (fun _ q=>q) fun _ _ q=>q
  rcases U with z | z
  .rw[z];exact J c u e
  .exact J d _ z
end
end L2
namespace DL
open PySem PySem.Spec L2 PyProof.Rows
def N6 (K:vF_) (t:Bool) (H:Hp) (a:Addr) (xs:List V):Prop:=if t then SqT K H a xs else SqL K H a xs
def RwI (t:Bool) (h:Heap) (i l:Addr) (k:Nat):Prop:=if t then h.IsTupleIter i l k else h.IsListIter i l k
def RwI.it {t:Bool}{i:Addr}{xs:vR_}(x:RwI t h i l k) (y:RwB t h l xs):RwIt h i l xs k:=by
 cases t with
 |true=>exact .inr #[x,y]
 |false=>exact .inl #[x,y]
def RwI.at {t:Bool}{i:Addr}(x:RwI t h i l k) (e:∀o,h.get? i=some o->h'.get? i=some o):RwI t h' i l k:=by
 cases t with
 |true=>obtain⟨o,q,r⟩:=x;exact#[o,e o q,r]
 |false=>obtain⟨o,q,r⟩:=x;exact#[o,e o q,r]
def RwI.ob {t:Bool}{i:Addr}(x:RwI t h i l k):∃o,h.get? i=some o/\∀v,o.data ≠ .cell v:=by
 cases t with
 |true=>obtain⟨o,q,c,d⟩:=x;exact#[o,q,fun v z=>by rw[d] at z;cases z]
 |false=>obtain⟨o,q,c,d⟩:=x;exact#[o,q,fun v z=>by rw[d] at z;cases z]
def RwIt.kind {t:Bool}{i:Addr}{xs ys:vR_}(x:RwIt h i l xs k) (y:RwB t h l ys):RwI t h i l k:=by
 cases t with
 |true=>
  rcases x with ⟨_,o,q,c,_⟩ | ⟨x,_⟩
  .obtain⟨o',B,J,_⟩:=y;rw[q] at B;cases B;rw[c] at J;exact absurd J #[]
  .exact x
 |false=>
  rcases x with ⟨x,_⟩ | ⟨_,o,q,c,_⟩
  .exact x
  .obtain⟨o',B,J,_⟩:=y;rw[q] at B;cases B;rw[c] at J;exact absurd J #[]
def cw {t:Bool}(I:Inv X pins σ H s) (h:N6 X.K t H p xs):∃its:List Value,Vals xs its/\RwB t s.heap p its.toArray/\xs.length<=sizeLine:=by
 cases t with
 |false=>
  obtain⟨its,r,⟨o,n,e,c,_,d⟩,z⟩:=I.list h;exact#[its,r,#[o,e,c,n,d],z]
 |true=>
  obtain⟨its,r,⟨o,e,c,n,d⟩,z⟩:=I.tuple h;exact#[its,r,#[o,e,c,n,d],z]
def pC {t:Bool}(I:Inv X pins σ H s) (h:N6 X.K t H p xs) (h':N6 X.K t H p ys):xs=ys:=by
 cases t with
 |false=>exact I.list_inj h h'
 |true=>exact I.tuple_inj h h'
section
variable {w:World}{z TI TO i1 i2 l1 l2:Addr}{xs ys:vR_}
def Fw {x y a b:Value}{Q:Option Value->Shared->Prop}(D:ZipApart z TI TO i1 i2 l1 l2) (hz:D7 s.heap z TI TO .none (.bool false)) (J:IsPair s.heap TI (.ref i1) (.ref i2)) (B:IsPair s.heap TO a b) (h1:RwIt s.heap i1 l1 xs k) (h2:RwIt s.heap i2 l2 ys k) (Z:xs[k]? = some x) (Y:ys[k]? = some y)
  (hQ:∀h',D7 h' z TI TO (rawInt s.heap.objs.size) (.bool false)->RwIt h' i1 l1 xs (k+1)->RwIt h' i2 l2 ys (k+1)->IsPair h' s.heap.objs.size x y ->
   (∀c o,c≠z->c≠TO->c≠i1->c≠i2->s.heap.get? c=some o->h'.get? c=some o)->IsPair h' TO x y->Q (some (.ref s.heap.objs.size)) { s with heap:=h' }):wpAny (model prog w) A (pyNext (.ref z)) Q E s:=by
 unfold pyNext;have M:s.TypeIs (.ref z) "zip" := #[_,hz,rfl]
 exact fx (LX (Lu (name:=Str.ofString "__next__") M Lf (KY Lf M ME
  (wx D hz J B h1 h2 Z Y fun h' a1 a2 U a4 W a6=>iO (hQ h' a1 a2 U a4 W a6)) (MF _))))
def Hy {a b:Value}{Q:Option Value->Shared->Prop}(W:A.handled=none) (D:ZipApart z TI TO i1 i2 l1 l2) (hz:D7 s.heap z TI TO .none (.bool false)) (M:IsPair s.heap TI (.ref i1) (.ref i2)) (J:IsPair s.heap TO a b) (h1:RwIt s.heap i1 l1 xs k) (h2:RwIt s.heap i2 l2 ys k) (B:xs[k]? = none\/ys[k]? = none)
  (Y:∀h',(∀c o,c≠z->c≠TO->c≠i1->c≠i2->s.heap.get? c=some o->h'.get? c=some o)->Q none { s with heap:=h' }):wpAny (model prog w) A (pyNext (.ref z)) Q E s:=by
 unfold pyNext;have U:s.TypeIs (.ref z) "zip" := #[_,hz,rfl]
 refine fx (LX (Lu (name:=Str.ofString "__next__") U Lf (KY Lf U ME (uu W D hz M J h1 h2 B fun h' e hk Z=>?_) (MF _))));obtain⟨o,ho,hc⟩:=Z;refine fx (MG (T := "StopIteration") (b:=true) #[o,ho,hc] NR ?_);exact iO (Y _ hk)
def GB {elts:List Expr}{x1} {pos:Pos}{a:Addr}{Q:Unit->Shared->Prop}(hz:D7 s.heap z TI TO (rawInt a) (.bool false))
  (M:∀h',D7 h' z TI TO .none (.bool false)->Heap.SameBut z s.heap h'->Q () { s with heap:=h' }):wpAny (model prog w) A (letOwnedTupleGo (.Tuple elts x1 pos) (.ref z) (.ref a)) Q E s:=by
 unfold letOwnedTupleGo;refine fx (wpAny_load hz ?_);show wpAny _ A (if (["enumerate", "zip", "dict_itemiterator", "dict_reverseitemiterator", "odict_iterator", "itertools.zip_longest", "itertools.pairwise"].contains "zip" &&
   (#v[rawInt a,.bool false,.bool false,.ref TI,.ref TO]:vR_)[0]? == some (rawInt a))=true then _ else _) Q E s
 rw[gV (by simp)];refine fx (Lp ?_);show wpAny _ A (setField (.ref z) 0 .none) Q E s;exact LV hz (by simp) fun h' J B=>M h' J B
end
def dA (K:vF_) (t u:Bool) (a b:Addr):It:=
 #[fun i H=>∃xs ys x y,N6 K t H a xs/\N6 K u H b ys/\xs[i]? = some x/\ys[i]? = some y,fun i H v H'=>∃p x y,H p=none/\v = .ref p/\H'=e7 H p (.tup [x,y])/\(∀xs,N6 K t H a xs->xs[i]? = some x)/\∀ys,N6 K u H b ys->ys[i]? = some y,fun i H=>∃xs ys,N6 K t H a xs/\N6 K u H b ys/\(xs.length<=i\/ys.length<=i)]
def JL (t u:Bool) (z TI TO i1 i2 a b:Addr) (i:Nat) (h:Heap):Prop:=D7 h z TI TO .none (.bool false)/\IsPair h TI (.ref i1) (.ref i2)/\(∃x y,IsPair h TO x y)/\RwI t h i1 a i/\RwI u h i2 b i
def BB {w:World}{K:vF_}{x1} {pos:Pos}{t u:Bool}{z TI TO i1 i2 b:Addr}(D:ZipApart z TI TO i1 i2 a b):Turn P w K (.Tuple elts x1 pos) (dA K t u a b) [z,TI,TO,i1,i2] z (JL t u z TI TO i1 i2 a b) where
 mem:=by simp
 obj:=fun i h st c B=>by
  obtain⟨Z,M,⟨x,y,Y⟩,U,W⟩:=st;simp only[tx,KR,KZ] at B;rcases B with rfl | rfl | rfl | rfl | rfl
  .exact#[_,Z,fun v q=>by
    have q':Data.fields _=Data.cell v:=q;cases q']
  .exact#[_,M,fun v q=>by
    have q':Data.seq _ _=Data.cell v:=q;cases q']
  .exact#[_,Y,fun v q=>by
    have q':Data.seq _ _=Data.cell v:=q;cases q']
  .exact U.ob
  .exact W.ob
 keep:=fun i h h' st k=>by
  obtain⟨Z,M,⟨x,y,Y⟩,U,W⟩:=st;exact#[k z (by simp) _ Z,k TI (by simp) _ M,#[x,y,k TO (by simp) _ Y],U.at fun o q=>k i1 (by simp) o q,W.at fun o q=>k i2 (by simp) o q]
 item:=by
  intro X hP hw hK B i pins s σ H E I hf st hg;subst hP hw hK;obtain⟨xs,ys,x,y,q1,q2,hx,hy⟩:=hg;obtain⟨Z,M,⟨o1,o2,Y⟩,U,W⟩:=st;obtain⟨its,rv,w1,_⟩:=cw I q1;obtain⟨jts,rw_,w2,_⟩:=cw I q2;obtain⟨p,hp,rp⟩:=rv.get hx;obtain⟨q,hq,rq⟩:=rw_.get hy;have hx':its.toArray[i]? = some p:=by simpa using hp
  have hy':jts.toArray[i]? = some q:=by simpa using hq
  have lz:∀c∈[z,TI,TO,i1,i2],c<s.heap.objs.size:=fun c B=>by
   simp only[tx,KR,KZ] at B;rcases B with rfl | rfl | rfl | rfl | rfl
   .exact xu Z
   .exact xu M
   .exact xu Y
   .obtain⟨o,e,_⟩:=U.ob;exact xu e
   .obtain⟨o,e,_⟩:=W.ob;exact xu e
  refine Fw D Z M Y (U.it w1) (W.it w2) hx' hy' fun h1 a1 a2 a3 a4 a5 a6=>?_
  refine#[_,rfl,GB a1 fun h2 hz2 J=>?_]
  replace J:Heap.SameBut z h1 h2:=J
  have hn:H s.heap.objs.size=none:=I.hok.fresh (iU _);have I1:Inv X pins σ (e7 H s.heap.objs.size (.tup [x,y])) { s with heap:=s.heap.push { cls:=.type "tuple",data:=.seq #v[p,q] },toks:=s.toks }:=
   I.laid (t':=s.toks) (fun b o q=>Kg _ q) (iU _) #[by show 2<=sizeLine;decide,[p,q],.cons rp (.cons rq .nil),#[_,Ky _ rfl,rfl,_,rfl]]
  have up:∀c,c<s.heap.objs.size->N3 X pins H c->N3 X pins (e7 H s.heap.objs.size (.tup [x,y])) c:=fun c B f=>#[by rw[k9 (Kr B)];exact f.1,f.2]
  have k2:∀c o,c≠z->c≠TO->c≠i1->c≠i2->s.heap.get? c=some o->h2.get? c=some o:=fun c o c1 c2 c3 c4 e=>(J.2 _ c1).trans (a5 c o c1 c2 c3 c4 e)
  have I2:=I1.turnedL (h':=h2) (t':=s.toks) (ch:=[z,TO,i1,i2]) (fun c o B e=>by
   simp only[tx,KR,KZ,not_or] at B;rcases Heap.get?_push_cases e with ⟨rfl,rfl⟩ | e1
   .exact(J.2 _ B.1).trans a4
   .exact k2 c o B.1 B.2.1 B.2.2.1 B.2.2.2 e1) (fun c B=>by
   have hc':c∈[z,TI,TO,i1,i2]:=by
    simp only[tx,KR,KZ] at B ⊢;rcases B with h | h | h | h <;> simp[h]
   exact up c (lz c hc') (hf c hc'))
  have wa:RwB t h1 a its.toArray:=w1.at fun o e=>a5 a o D.l1z D.l1TO D.l1i1 D.l1i2 e
  have wb:RwB u h1 b jts.toArray:=w2.at fun o e=>a5 b o D.l2z D.l2TO D.l2i1 D.l2i2 e
  refine#[.ref s.heap.objs.size,_,I2,rfl,#[_,x,y,hn,rfl,rfl,fun xs' h=>by rw[pC I h q1];exact hx,fun ys' h=>by rw[pC I h q2];exact hy],#[hz2,k2 _ _ D.TIz D.TITO D.TIi1 D.TIi2 M,#[p,q,(J.2 _ D.TOz).trans a6],(a2.kind wa).at fun o e=>(J.2 _ D.i1z).trans e,(a3.kind wb).at fun o e=>(J.2 _ D.i2z).trans e],fun c B=>(up c (lz c B) (hf c B)).1]
 done:=by
  intro X hP hw hK B i pins s σ H E I hf st hg;subst hP hw hK;obtain⟨xs,ys,q1,q2,hl⟩:=hg;obtain⟨Z,M,⟨o1,o2,Y⟩,U,W⟩:=st;obtain⟨its,rv,w1,_⟩:=cw I q1;obtain⟨jts,rw_,w2,_⟩:=cw I q2;have e1:=rv.length;have e2:=rw_.length;refine Hy (I.ok.hd B) D Z M Y (U.it w1) (W.it w2) (by
   rcases hl with h | h
   .exact .inl (by simp;omega)
   .exact .inr (by simp;omega)) fun h' k=>#[rfl,I.turnedL (t':=s.toks) (ch:=[z,TO,i1,i2]) (fun c o B e=>by
    simp only[tx,KR,KZ,not_or] at B;exact k c o B.1 B.2.1 B.2.2.1 B.2.2.2 e) fun c B=>hf c (by
    simp only[tx,KR,KZ] at B ⊢;rcases B with h | h | h | h <;> simp[h])]
 self:=fun A i s Q E st hQ=>by
  have tz:s.TypeIs (.ref z) "zip" := #[_,st.1,rfl]
  refine NU tz MH (KY MH tz OQ ?_ (OS _));show wpAny _ _ (ret (.ref z)) _ _ s;exact iO #[_,rfl, "zip",_,tz,Lf.lookup,hQ]
def Ck (K:vF_) (ta:TA):TI:=fun σ H R=>ta σ H fun B H1=>∃a b t u,B=[.ref a,.ref b]/\(∃xs,N6 K t H1 a xs)/\(∃ys,N6 K u H1 b ys)/\R (dA K t u a b) H1
def EY {e:Expr}{es:List Expr}{ta:TA}{p pos pt:Pos}{elts:List Expr}{x1} (hg:Gl X "zip") (hm:X.mg "zip" = none) (ha:PA X (e::es) ta) (he:starEach (e::es) X.env=(false,eval e X.env)::starEach es X.env:=by rfl) (W:(backTo pos (starEach es X.env)).any (·.1)=false:=by rfl) :
  PI X (.Tuple elts x1 pt) (.Call (.Name "zip" p) (e::es) [] pos) (Ck X.K ta):=by
 intro pins s σ H R I h;refine LS (Y7 I hg hm (show bootBuiltins ("zip" : Str)=some (.type "zip") by decide +kernel) ?_ #[] #[]);refine Mi (j9 (ha pos pins s σ H _ I h) fun us s1 ⟨vs,H1,J,B,q1⟩=>?_) he W;obtain⟨a,b,t,u,rfl,⟨xs,qa⟩,⟨ys,qb⟩,k⟩:=q1;obtain⟨u1,u2,rfl,e1,e2⟩:∃u1 u2,us=[u1,u2]/\u1=Value.ref a/\u2=Value.ref b:=by
  cases B with
  |cons h1 B=>
   cases B with
   |cons h2 B=>cases B;exact#[_,_,rfl,h1,h2]
 subst e1;subst e2;obtain⟨it,rx,wa,za⟩:=cw J qa;obtain⟨jt,ry,wb,zb⟩:=cw J qb;refine rj wa wb fun h1 _ k1 Z=>?_
 obtain⟨D,Y,g2,g3,g5,x1,x2,g4⟩:=Z;have U:({ s1 with heap:=h1 }:Shared).TypeIs (.ref (s1.heap.objs.size+4)) "zip" := #[_,g5,rfl]
 refine NU U MH (KY MH U OQ ?_ (OS _));show wpAny _ _ (ret (.ref (s1.heap.objs.size+4))) _ _ _;refine iO #[_,rfl, "zip",_,U,Lf.lookup,?_];refine#[s1.heap.objs.size+4,[s1.heap.objs.size+4,s1.heap.objs.size+2,s1.heap.objs.size+3,s1.heap.objs.size,s1.heap.objs.size+1],_,_,H1,rfl,J.kept (t':=s1.toks) k1,BB (t:=t) (u:=u) D,#[g5,g3,#[x1,x2,g4],?_,?_],fun c M=>?_,k]
 .cases t with
  |true=>exact#[_,Y,rfl,rfl]
  |false=>exact#[_,Y,rfl,rfl]
 .cases u with
  |true=>exact#[_,g2,rfl,rfl]
  |false=>exact#[_,g2,rfl,rfl]
 .have M:s1.heap.objs.size<=c:=by
   simp only[tx,KR,KZ] at M;rcases M with h | h | h | h | h <;> rw[h] <;> omega
  exact J.fpOk M (J.hok.fresh M)
def Bm {K:vF_}{t u:Bool}{a b:Addr}{xs ys:List V}{g:TG}{tb:TS}{D:Ends}{H:Hp}(B:Nat->L2.St->Hp->Prop) (Z:B 0 σ H) (hl:∀i σ H,B i σ H->N6 K t H a xs/\N6 K u H b ys)
  (hs:∀i x y p σ H,xs[i]? = some x->ys[i]? = some y->H p=none->B i σ H->g (.ref p) σ (e7 H p (.tup [x,y])) fun σ2 H2=>tb { D with nx:=B (i+1),ct:=B (i+1),bk:=D.nx } σ2 H2) (hd:∀σ H,B (min xs.length ys.length) σ H->D.nx σ H) :
  ∃W:Nat->Nat->L2.St->Hp->Prop,(∃m,W 0 m σ H)/\∀i m σ H,W i m σ H ->
   ((dA K t u a b).stop i H/\D.nx σ H)\/((dA K t u a b).go i H/\∃N:L2.St->Hp->Prop,(∀σ' H',N σ' H'->∃m',m'<m/\W (i+1) m' σ' H')/\∀x H',(dA K t u a b).yld i H x H'->g x σ H' fun σ2 H2=>tb { D with nx:=N,ct:=N,bk:=D.nx } σ2 H2):=by
 refine#[fun i m σ H=>m=min xs.length ys.length - i/\i<=min xs.length ys.length/\B i σ H,#[min xs.length ys.length,by simp,Lr _,Z],?_];rintro i m σ H ⟨rfl,hi,p⟩;obtain⟨M,U⟩:=hl i σ H p;by_cases J:i<min xs.length ys.length
 .have l1:i<xs.length:=by omega
  have l2:i<ys.length:=by omega
  refine .inr #[#[xs,ys,xs[i],ys[i],M,U,by simp[l1],by simp[l2]],B (i+1),fun σ' H' p'=>#[min xs.length ys.length - (i+1),by omega,rfl,J,p'],fun v H' y=>?_];obtain⟨pp,x,y,hp,rfl,rfl,y1,Y⟩:=y;exact hs i x y pp σ _ (y1 xs M) (Y ys U) hp p
 .have e:i=min xs.length ys.length:=by omega
  refine .inl #[#[xs,ys,M,U,by omega],hd σ H ?_];rw[<-e];exact p
def bj (f:DA) (t:D->DS->Option DS) (b:DM):DM:=fun s=>(f s).bind fun x=>match x.1 with
 |[d1,d2]=>(P9 d1).bind fun xs=>(P9 d2).bind fun ys=>u6 t b (List.zipWith M7 xs ys) x.2
 |_=>none
def qO {K:vF_}{v:V}(r:Rep K N fa H d v) (e:P9 d=some ds):∃t a xs,v = .ref a/\N6 K t H a xs/\(t=false->¬ N a/\H a=some (.lst xs))/\Reps K N fa H ds xs:=by
 cases d with
 |tup es=>
  cases e;simp only[Rep] at r;obtain⟨a,ys,rfl,q,w⟩:=r;exact#[true,a,ys,rfl,q,fun z=>(by cases z),w]
 |lst es=>
  cases e;simp only[Rep] at r;obtain⟨a,ys,rfl,B,q,w⟩:=r;exact#[false,a,ys,rfl,SqL.of q,fun _=>#[B,q],w]
 |_=>cases e
def JP {t:D->DS->Option DS}{b:DM}{s:DS}(q:bj f t b s=some r):∃d1 d2 xs ys s1,f s=some ([d1,d2],s1)/\P9 d1=some xs/\P9 d2=some ys/\u6 t b (List.zipWith M7 xs ys) s1=some r:=by
 refine p9 q fun as s1 h1 h2=>?_
 cases as with
 |nil=>cases h2
 |cons d1 as=>
  cases as with
  |nil=>cases h2
  |cons d2 as=>
   cases as with
   |cons _ _=>cases h2
   |nil=>
    refine C8 h2 fun xs J h2=>?_
    refine C8 h2 fun ys B h2=>?_
    exact#[d1,d2,xs,ys,s1,h1,J,B,h2]
section
variable {t:D->DS->Option DS}{b:DM}{pos pt:Pos}{x1:Nat}
def ox (hp:PassesOwn (model X.prog X.w) X.A X.env X.xe) (hc:X.calm=true) (hgl:Gl X "zip") (hm:X.mg "zip" = none) (he:AO X g (e::es) f) (hg:GO X g (.Tuple elts x1 pt) t) (hb:SSO X g body b)
  (hst:starEach (e::es) X.env=(false,eval e X.env)::starEach es X.env:=by rfl) (Z:(backTo p2 (starEach es X.env)).any (·.1)=false:=by rfl) (hs:∀x,foldedSetIterable (.Call (.Name "zip" p1) (e::es) [] p2) X.env x=pure x:=by intro _;rfl) :
  SO X g (.For (.Tuple elts x1 pt) (.Call (.Name "zip" p1) (e::es) [] p2) body [] pos) (bj f t b):=SO.w (jy hp hc (EY hgl hm he.pe hst Z) hg.pe hb.pe hs) fun E σ H hQ=>by
 refine hQ.elim fun fa O s fl sf I q k=>?_
 obtain⟨d1,d2,J,M,s1,h1,e1,e2,h2⟩:=JP q;refine#[fa,O,s,_,s1,I,h1,fun vs H1 f1 O1 a1 U r=>?_];have k1:=k.shift a1.stp
 .simp only[Reps] at r;obtain⟨v1,zs,rfl,r1,v2,zs',rfl,r2,rfl⟩:=r;obtain⟨ta,a,vs,rfl,q1,c1,w1⟩:=qO r1 e1;obtain⟨tb,c,us,rfl,q2,c2,w2⟩:=qO r2 e2;have B:∀{t:Bool}{p:Addr}{xs:List V}{fa' O' H'},Stp f1 O1 H1 fa' O' H'->N6 X.K t H1 p xs->(t=false->¬ NN g.F f1 O1 p/\H1 p=some (.lst xs))->N6 X.K t H' p xs:=fun {t p xs fa' O' H'} st q z=>by
   cases t with
   |true=>exact(U.car st).tp p xs q
   |false=>exact SqL.of ((U.car st).ls p xs (z rfl).1 (z rfl).2).1
  refine#[a,c,ta,tb,rfl,#[vs,q1],#[us,q2],Bm (xs:=vs) (ys:=us) (U6 X.K g f1 O1 H1 t b (List.zipWith M7 J M) fl sf) #[f1,O1,s1,Stp.refl,U,h2] ?_ ?_ ?_]
  .rintro i σ' H' ⟨fa',O',s',st,I',e⟩;exact#[B st q1 c1,B st q2 c2]
  .intro i x y p σ' H' hx hy W h;obtain⟨dx,hdx,rx⟩:=Reps.get' w1 hx;obtain⟨dy,Y,ry⟩:=Reps.get' w2 hy;have h':U6 X.K g f1 O1 H1 t b (List.zipWith M7 J M) fl sf i σ' (e7 H' p (.tup [x,y])):=by
    obtain⟨fa',O',s',st,I',e⟩:=h;exact#[fa',O',s',st.trans (B4 W).stp,I'.new W,e]
   have hd:(List.zipWith M7 J M)[i]? = some (M7 dx dy):=by rw[PQ,hdx,Y]
   refine fu k1 hd (fun fa' O' st=>?_) h';simp only[M7,Rep,Reps];exact#[p,[x,y],rfl,SqT.of w6,_,_,rfl,Rep.stp U st rx,_,_,rfl,Rep.stp U st ry,rfl]
  .intro σ' H' h;refine dP k1 ?_ h;rw[OT,w1.length,w2.length];exact iU _
end
end DL
namespace DL
open PySem PySem.Spec L2
def BZ {α:Type _}{P:List α->Prop}(h:∀a1:α,P [a1]):∀us:List α,us.length=1->P us:=by
 intro us e
 match us,e with | [a1],_=>exact h a1
def jC {α:Type _}{P:List α->Prop}(h:∀a1 a2:α,P [a1,a2]):∀us:List α,us.length=2->P us:=by
 intro us e
 match us,e with | [a1,a2],_=>exact h a1 a2
def Fd {α:Type _}{P:List α->Prop}(h:∀a1 a2 a3:α,P [a1,a2,a3]):∀us:List α,us.length=3->P us:=by
 intro us e
 match us,e with | [a1,a2,a3],_=>exact h a1 a2 a3
def ED {α:Type _}{P:List α->Prop}(h:∀a1 a2 a3 a4:α,P [a1,a2,a3,a4]):∀us:List α,us.length=4->P us:=by
 intro us e
 match us,e with | [a1,a2,a3,a4],_=>exact h a1 a2 a3 a4
structure GF (K:vF_) (mg:vG_) (n:Str) (st:Stmt) (f:Addr) (fd:FuncData):Prop where
 F:Fun K n n st f fd
 m:mg n=some (.ref f)
section
variable {K:vF_}{n:Str}{st:Stmt}{f:Addr}
def gf_mk (X:K.In h) (G:h.Ns mainGlobals mg) {od U:vA_}{M J Z B Y:Value}(a:PySem.W.nsIn K mainGlobals n=some (some (.ref f))) (l:K.lookup f=some #[oc,od,.func (PySem.W.fnOf n n (Z2 st) (Q0 st) (D3 st) .none M J Z U B Y),osl])
  (c:PySem.W.codeIn K B n=true) (k:PySem.W.keepIn K (.ref f)=true):GF K mg n st f (PySem.W.fnOf n n (Z2 st) (Q0 st) (D3 st) .none M J Z U B Y):=#[yP l c k,NV X G a]
def FA (F:Fun K n n st f fd) (q:∀(kV doc pm:Value) (an:vA_) (cdv ct:Value) (s:Shared) (v:Value),BindsTo s (PySem.W.fnOf n n (Z2 st) (Q0 st) (D3 st) .none kV doc pm an cdv ct) #[[v],[]] [(x,v)]):∀(s:Shared) (v:Value),BindsTo s fd #[[v],[]] [(x,v)]:=by
 obtain⟨M,U,kV,doc,pm,an,cdv,ct,osl,rfl,J,B⟩:=F.ex;exact fun s v=>q kV doc pm an cdv ct s v
def blt_mk (X:K.In h) (G:h.Ns mainGlobals mg) (z0:PySem.W.nsIn K mainGlobals "len" = some none) (z1:PySem.W.nsIn K mainGlobals "range" = some none) (z2:PySem.W.nsIn K mainGlobals "abs" = some none) (z3:PySem.W.nsIn K mainGlobals "tuple" = some none) (z4:PySem.W.nsIn K mainGlobals "list" = some none) (z5:PySem.W.nsIn K mainGlobals "int" = some none) (z6:PySem.W.nsIn K mainGlobals "bool" = some none) (z7:PySem.W.nsIn K mainGlobals "str" = some none) (z8:PySem.W.nsIn K mainGlobals "repr" = some none) (z9:PySem.W.nsIn K mainGlobals "all" = some none) (z10:PySem.W.nsIn K mainGlobals "isinstance" = some none) (z11:PySem.W.nsIn K mainGlobals "zip" = some none) (Y:PySem.W.nsIn K mainGlobals "enumerate" = some none) (Z:PySem.W.nsIn K mainGlobals "min" = some none) (M:PySem.W.nsIn K mainGlobals "max" = some none) (B:PySem.W.nsIn K mainGlobals "reversed" = some none) (U:PySem.W.nsIn K mainGlobals "any" = some none) (z17:PySem.W.nsIn K mainGlobals "sum" = some none) (J:PySem.W.nsIn K mainGlobals "sorted" = some none):Blt mg:=#[KS X G z0,KS X G z1,KS X G z2,KS X G z3,KS X G z4,KS X G z5,KS X G z6,KS X G z7,KS X G z8,KS X G z9,KS X G z10,KS X G z11,KS X G Y,KS X G Z,KS X G M,KS X G B,KS X G U,KS X G z17,KS X G J]
def oC {w:World}{N ps:List Str}{b:DM}(F:GF K mg n st f fd) (q:∀(kV doc pm:Value) (an:vA_) (cdv ct:Value) (us:vV_),us.length=ps.length->bindArgs (PySem.W.fnOf n n (Z2 st) (Q0 st) (D3 st) .none kV doc pm an cdv ct) #[us,[]]=pure (ps.zip us)) (S:FnScope N ps (D3 st))
  (B:∀(cdv:Value) (A:Around) (outer:List Env) (s:Shared) (H:Hp) (E:XK) (g:Gh),Room k (A.deeper (PyProof.Rows.envOfC n (D3 st) s.heap.objs.size f cdv))->SSO (X6 V0 P w K mg base N n (D3 st) f cdv A outer s H E).nox g (Q0 st) b) :
  Cal P w K mg base (k+1) n ps (o8 N.length b):=BP F.F F.m (F.F.binds q) S B
end
mutual
def D.flat:D->Bool
 |.non=>true
 |.bl _=>true
 |.int _=>true
 |.str _=>true
 |.tup ds=>D.flats ds
 |.lst _=>false
 |.feed=>false
 |.scr _=>true
 |.fn _=>true
 |.exc _ ds=>D.flats ds
def D.flats:List D->Bool
 |[]=>true
 |d::r=>D.flat d&&D.flats r
end
section
variable {K:vF_}{N':vB_}
mutual
theorem Rep.flt:∀(d:D) (v:V),d.flat=true->Rep K N fa H d v->Rep K N' fa' H d v
 |.non,v,_,h=>by simpa only[Rep] using h
 |.bl b,v,_,h=>by simpa only[Rep] using h
 |.int i,v,_,h=>by simpa only[Rep] using h
 |.str x,v,_,h=>by simpa only[Rep] using h
 |.tup ds,v,q,h=>by
  simp only[Rep] at h ⊢;obtain⟨a,xs,e,s,r⟩:=h;exact#[a,xs,e,s,Reps.flt ds xs q r]
 |.lst ds,v,q,h=>by cases q
 |.feed,v,q,h=>by cases q
 |.scr ns,v,_,h=>by simpa only[Rep] using h
 |.fn x,v,_,h=>by simpa only[Rep] using h
 |.exc c ds,v,q,h=>by
  simp only[Rep] at h ⊢;obtain⟨a,C,xs,e,n,s,r⟩:=h;exact#[a,C,xs,e,n,s,Reps.flt ds xs q r]
theorem Reps.flt:∀(ds:vD_) (xs:List V),D.flats ds=true->Reps K N fa H ds xs->Reps K N' fa' H ds xs
 |[],xs,_,h=>by simpa only[Reps] using h
 |d::r,xs,q,h=>by
  simp only[Reps] at h ⊢;have q:(D.flat d&&D.flats r)=true:=q;rw[Ko] at q;obtain⟨x,ys,e,h1,h2⟩:=h;exact#[x,ys,e,Rep.flt d x q.1 h1,Reps.flt r ys q.2 h2]
end
end
def cZ (y:D × Option FS):Option (List D):=match y with
 |(.lst ds,none)=>if D.flats ds=true then some ds else none
 |_=>none
def Fo {fs:vO_}(h:cZ (d,fs)=some ds):d = .lst ds/\fs=none/\D.flats ds=true:=by
 cases d with
 |lst es=>
  cases fs with
  |none=>
   have h:(if D.flats es=true then some es else none)=some ds:=h;by_cases q:D.flats es=true
   .rw[gV q] at h;cases h;exact#[rfl,rfl,q]
   .rw[fI q] at h;cases h
  |some f=>cases h
 |_=>cases h
def cX (m:a8) (t:DA):DA:=fun s=>(t s).bind fun x=>if D.flats x.1=true then ((m x.1 none).bind cZ).map fun ds=>(ds,x.2) else none
def EW (h:FeedR N H fa none):fa=none:=by
 cases fa with
 |none=>rfl
 |some a=>exact(show False from h).elim
section
variable {f:Addr}{ps:List Str}{p pos:Pos}{t:DA}
def Io (hn:∀s ds s',t s=some (ds,s')->ds.length=n) (σ:L2.St) (H:Hp) (Q:VK) (h:liftF X.K g (cX m t) σ H Q):mV (ao X.K n m) [] E0 (liftA X.K g t) σ H Q:=by
 obtain⟨fa,O,s,ds,s',I,q,k⟩:=h;refine p9 q fun as s1 h1 h2=>?_
 by_cases Y:D.flats as=true
 .have h2:(if D.flats as=true then ((m as none).bind cZ).map fun ds=>(ds,s1) else none)=some (ds,s'):=h2;rw[gV Y] at h2;refine F3 h2 fun ds1 h3 h4=>?_
  cases h4;refine p9 h3 fun d1 fs1 h5 h6=>?_
  obtain⟨rfl,rfl,fl⟩:=Fo h6;refine#[fa,O,s,as,s',I,h1,fun vs H1 f1 O1 a1 B r=>?_];show ao X.K n m (vs++[]) H1 Q E0;rw[Ls];refine#[fun b=>H1 b≠none,none,as,none,_,none,fun b hb=>hb,fun a ha=>(by cases ha),Reps.flt as vs Y r,trivial,h5,hn s as s' h1,fun v H2 f2 W U r2=>?_];cases EW U;simp only[Rep] at r2;obtain⟨p,xs,rfl,np,lp,rp⟩:=r2;have hp:H1 p=none:=MK fun z=>np (.inl z)
  have J:∀b u,H1 b=some u->H2 b=some u:=fun b u e=>W.same b u e (by simp) (by simp)
  have Z:StE f1 O1 H1 f1 O1 H2:=#[fun b hb=>hb,.inl rfl,fun b u e _=>J b u e,W.mon]
  have c:=B.car Z.stp;have c2:Car X.K (NN g.F f1 O1) f1 H1 (fun b=>NN g.F f1 O1 b\/b=p) f1 H2:=#[fun b xs n q=>#[J b _ q,fun z=>by
   rcases z with z | z
   .exact n z
   .rw[z,hp] at q;cases q],c.tp,c.fz,c.fe]
  have ff:∀a,f1=some a->H2 a=H1 a:=fun a ha=>by
   have n:=B.nn_tracked (b:=a) (.inr (.inr ha));cases e:H1 a with
   |none=>exact absurd e n
   |some u=>exact J a u e
  have M:Stp f1 [] H1 f1 [] H2:=#[fun b hb=>(by cases hb),.inl rfl,fun b u e _ _=>J b u e,W.mon]
  have G2:GI X.K g σ H2 f1 O1 s':=#[B.nd,SlR.go c (fun b xs _ e=>J b _ e) B.sl,B.fr,B.st.trans M,B.tr,B.ff,B.fd.car c ff,B.nf]
  refine k p xs H2 f1 O1 (a1.trans Z) #[G2,lp,SlR.go c2 (fun b xs _ e=>J b _ e) B.sl,B.fd.car c2 ff,Reps.flt _ _ fl rp,fun z=>B.nn_tracked (b:=p) (.inr (.inr z)) hp] ?_;exact a1.mon p hp
 .have h2:(if D.flats as=true then ((m as none).bind cZ).map fun ds=>(ds,s1) else none)=some (ds,s'):=h2;rw[fI Y] at h2;cases h2
def zR (F:bN X.prog X.w X.K X.mg X.base k f fd ps m) (U:Room k X.A) (M:Gl X x) (hm:X.mg x=some (.ref f)) (hk:PySem.W.keepIn X.K (.ref f)=true) (hb:Binds X.K fd ps [])
  (ha:AO X g (e::es) t) (Y:∀s ds s',t s=some (ds,s')->ds.length=ps.length) (B:(x == ("__debug__" : Str))=false:=by decide) (Z:starEach (e::es) X.env=(false,eval e X.env)::starEach es X.env:=by rfl) (J:(backTo pos (starEach es X.env)).any (·.1)=false:=by rfl) :
  FO X g (.Call (.Name x p) (e::es) [] pos) (cX m t):=FO.w (nT F U M hm hk hb .nil kS ha.pe B Z J) (Io Y)
def JU (C:Cal X.prog X.w X.K X.mg X.base k x ps m) (k':Nat) (W:Room k' X.A) (hk:k<=k') (U:Gl X x)
  (ha:AO X g (e::es) t) (Z:∀s ds s',t s=some (ds,s')->ds.length=ps.length) (J:(x == ("__debug__" : Str))=false:=by decide) (Y:starEach (e::es) X.env=(false,eval e X.env)::starEach es X.env:=by rfl) (B:(backTo pos (starEach es X.env)).any (·.1)=false:=by rfl) :
  FO X g (.Call (.Name x p) (e::es) [] pos) (cX m t):=by
 obtain⟨f,fd,F,hm,M,hb⟩:=C.ex;exact zR F (W.mono hk) U hm M hb ha Z J Y B
end
end DL
namespace DL
open PySem PySem.Spec L2 PyProof.Rows
def kW (i:Nat):DM:=fun s=>(R3 s i).bind fun ds=>some (.next,{ s with sl:=s.sl.set i (.own []) })
def Ef {s:DS}(q:kW i s=some r):∃ds,s.sl[i]? = some (.own ds)/\(Fl.next,{ s with sl:=s.sl.set i (.own []) })=r:=by
 refine C8 q fun ds h2 q=>?_
 exact#[ds,eB h2,KN q]
section
variable {p3 p4:Pos}
def zv (Z:PE X (.Name x p1) (J8 i)) (B:attributeBase (.Name x p1) ("clear" : Str) X.env (eval (.Name x p1) X.env)=eval (.Name x p1) X.env:=by rfl)
  (J:(p2.endLine == p3.line)=true:=by rfl) (M:swapsWith (.Call (.Attribute (.Name x p1) ("clear" : Str) p2) [] [] p3) none p4.line X.env=pure false:=by rfl) :
  SO X g (.Expr (.Call (.Attribute (.Name x p1) ("clear" : Str) p2) [] [] p3) p4) (kW i):=
 SO.w (ji (yJ NK PySem.F.slot_list_clear PySem.F.type_list_clear Je Z B J) M) fun E σ H Y=>by
  refine Y.elim fun fa O s fl s' I q k=>?_
  obtain⟨ds,h2,e⟩:=Ef q;cases e;obtain⟨b,xs,W,m1,U,r1⟩:=SlR.own I.sl h2;obtain⟨I2,a2⟩:=I.rew h2 W m1 U (show Reps X.K (NN g.F fa O) fa H [] [] from rfl);exact#[_,W,.inl #[rfl,xs,SqL.of U],b,xs,rfl,rfl,U,k σ _ fa O a2 I2]
end
def lr:List D->Option (List D)
 |[.lst es]=>some es
 |_=>none
def JF {xs es:vD_}(h:lr xs=some es):xs=[.lst es]:=by
 cases xs with
 |nil=>cases h
 |cons d xs=>
  cases xs with
  |cons _ _=>cases d <;> cases h
  |nil=>
   cases d with
   |lst ds=>cases h;rfl
   |_=>cases h
def eE (i:Nat) (f:DA):DM:=fun s=>(R3 s i).bind fun _=>(f s).bind fun x=>(lr x.1).bind fun es=>(R3 x.2 i).bind fun ds=>
 if ds.length+es.length<=sizeLine then some (.next,{ x.2 with sl:=x.2.sl.set i (.own (ds++es)) }) else none
def CA {s:DS}(q:eE i f s=some r):∃ds0 es ds s1,s.sl[i]? = some (.own ds0)/\f s=some ([.lst es],s1)/\s1.sl[i]? = some (.own ds)/\ds.length+es.length<=sizeLine/\(Fl.next,{ s1 with sl:=s1.sl.set i (.own (ds++es)) })=r:=by
 refine C8 q fun ds0 J q=>?_
 refine p9 q fun as s1 h1 q=>?_
 refine C8 q fun es h2 q=>?_
 refine C8 q fun ds B q=>?_
 have h2:as=[.lst es]:=JF h2;subst h2;by_cases hl:ds.length+es.length<=sizeLine
 .exact#[ds0,es,ds,s1,eB J,h1,eB B,hl,KN ((gV hl).symm.trans q)]
 .cases (fI hl).symm.trans q
def AI {i:Nat}{x:Str}{p1 p2 p3 p4:Pos}(hv:PE X (.Name x p1) (J8 i)) (he:AO X g [e1] f) (J:attributeBase (.Name x p1) ("extend" : Str) X.env (eval (.Name x p1) X.env)=eval (.Name x p1) X.env:=by rfl)
  (U:((backTo p3 (starEach [e1] X.env)).all (fun x=>!x.1)&&(backToKw p3 (keywordEach [] X.env)).all (fun x=>x.1.isSome)
   && decide ([e1].length+([]:List Keyword).length+(if ([]:List Keyword).isEmpty then 0 else 1)<30))=true:=by rfl)
  (M:(p2.endLine == p3.line)=true:=by rfl) (hs:starEach [e1] X.env=(false,eval e1 X.env)::starEach [] X.env:=by rfl) (B:(backTo p3 (starEach [] X.env)).any (·.1)=false:=by rfl)
  (Y:swapsWith (.Call (.Attribute (.Name x p1) ("extend" : Str) p2) [e1] [] p3) none p4.line X.env=pure false:=by rfl) :
  SO X g (.Expr (.Call (.Attribute (.Name x p1) ("extend" : Str) p2) [e1] [] p3) p4) (eE i f):=
 SO.w (ji (mT NK PySem.F.slot_list_extend PySem.F.type_list_extend Dp hv he.pe J U M hs B) Y) fun E σ H hQ=>by
  refine hQ.elim fun fa O s fl s' I q k=>?_
  obtain⟨ds0,es,ds,s1,q0,h1,q2,hl,e⟩:=CA q;cases e;obtain⟨a,W,e1,m,e2,_⟩:=SlR.own I.sl q0;refine#[_,e1,.inl #[rfl,W,SqL.of e2],fa,O,s,_,s1,I,h1,fun vs H1 f1 O1 a1 I1 r=>?_];simp only[Reps,Rep] at r;obtain⟨u,ys,rfl,⟨b',zs,rfl,nb,lb,r⟩,rfl⟩:=r;obtain⟨b,xs,Z,m1,e4,r1⟩:=SlR.own I1.sl q2;rw[e1] at Z;cases Z;have rl:=r1.length;have rz:=r.length;obtain⟨I2,a2⟩:=I1.rew q2 e1 m1 e4 (Reps.append r1 r);exact#[a,b',xs,zs,rfl,rfl,e4,lb,by rw[rl,rz];exact hl,k σ _ f1 O1 (a1.stp.trans a2) I2]
structure FnV (K:vF_) (mg:vG_) (x:Str):Prop where
 ex:∃a:Addr,mg x=some (.ref a)/\PySem.W.nsIn K mainGlobals x=some (some (.ref a))
structure CalT (P:Program) (w:World) (K:vF_) (mg:vG_) (base:Heap) (k:Nat) (ps:Nat) (tab:List (Str × a8)):Prop where
 ex:∀x m,(x,m)∈tab->∃(j:Nat) (qs:List Str),j<=k/\qs.length=ps/\Cal P w K mg base j x qs m
def X9 (i:Nat) (tab:List (Str × a8)) (t:DA):DE:=fun s=>match s.sl[i]? with
 |some (.v (.fn x))=>(tab.find? fun p=>decide (p.1=x)).bind fun p=>d4 p.2 t s
 |_=>none
def Iz {t:DA}{s:DS}{r:D × DS}(h:X9 i tab t s=some r):∃x m,s.sl[i]? = some (.v (.fn x))/\(x,m)∈tab/\d4 m t s=some r:=by
 unfold X9 at h;cases q:s.sl[i]? with
 |none=>rw[q] at h;cases h
 |some z=>
  rw[q] at h;cases z with
  |no=>cases h
  |dct _=>cases h
  |own _=>cases h
  |v d=>
   cases d with
   |fn x=>
    refine C8 h fun p h1 h2=>?_
    have e:=List.find?_some h1;have m:=List.mem_of_find?_eq_some h1;have e:p.1=x:=LP e;subst e;exact#[p.1,p.2,rfl,m,h2]
   |_=>cases h
section
variable {p pos:Pos}{t:DA}
def vk (V:FnV X.K X.mg x) (B:Gl X x) (U:(x == ("__debug__" : Str))=false:=by decide):EO X g (.Name x pos) (dC (.fn x)):=by
 obtain⟨a,hm,Y⟩:=V.ex;exact EO.w (yH (v:=.ref a) B hm rfl U) fun σ H Q J=>by
  refine J.elim fun fa O s Z s' I e k=>?_
  simp only[dC,KP,Kq] at e;obtain⟨M,W⟩:=e;subst M;subst W;refine k (.ref a) H fa O StE.refl I ?_;simp only[Rep];exact#[a,rfl,Y]
def EG (C:CalT X.prog X.w X.K X.mg X.base k n tab) (hr:Room k X.A) (hv:PE X (.Name x p) (J8 i)) (ha:AO X g (e::es) t) (hn:∀s ds s',t s=some (ds,s')->ds.length=n)
  (he:starEach (e::es) X.env=(false,eval e X.env)::starEach es X.env:=by rfl) (J:(backTo pos (starEach es X.env)).any (·.1)=false:=by rfl) :
  EO X g (.Call (.Name x p) (e::es) [] pos) (X9 i tab t):=#[fun pins s σ H Q I h=>by
 obtain⟨fa,O,s0,d,s',Y,q,kk⟩:=h;obtain⟨y,m,q1,M,q3⟩:=Iz q;obtain⟨j,qs,hj,hl,c⟩:=C.ex y m M;obtain⟨f,fd,F,hm,hk,hb⟩:=c.ex;obtain⟨u,e1,U⟩:=SlR.val Y.sl q1;simp only[Rep] at U;obtain⟨a,rfl,B⟩:=U;have Z:X.mg y=some (.ref a):=NV I.kIn (I.mod.glob.keeps I.bk) B;rw[hm] at Z;obtain rfl:f=a:=by injection Z with z;injection z
 have tc:=xf (X:=X) (g:=g) (m:=m) hn σ H Q #[fa,O,s0,d,s',Y,q3,kk];subst hl;refine LS (j9 (hv pins s σ H (fun v H'=>v = .ref f/\H'=H) I #[_,e1,rfl,rfl]) fun uv s1 ⟨v,H1,I1,r,ev,eh⟩=>?_);subst ev;subst eh;cases r;exact PySem.W.callWith_K (h₀:=X.base) I.ok.mod.kin hk (j9 (ha.pe pos pins s1 σ _ _ I1 tc) fun us s2 ⟨vs,H2,I2,r2,M⟩=>#[I2.kIn,pK F (hr.mono hj) hb .nil kS I2 r2 M]) he J]
end
section
variable {P:Program}{w:World}{K:vF_}
def Fj:CalT P w K mg base k n []:=#[fun _ _ h=>by cases h]
def pV {B:List Str}(C:Cal P w K mg base j x B m) (J:j<=k) (U:B.length=n) (T:CalT P w K mg base k n tab):CalT P w K mg base k n ((x,m)::tab):=#[fun y M h=>by
 rcases tx.mp h with e | e
 .cases e;exact#[j,B,J,U,C]
 .exact T.ex y M e]
end
def RawD (h:Heap) (d:Addr) (es:Array DictEntry) (ep:Nat):Prop:=∃o,h.get? d=some o/\o.ExactDict/\o.data = .dict es ep
section
variable {w:World}{d it:Addr}{es:Array DictEntry}{ep:Nat}
def RawD.ty (x:RawD s.heap d es ep):s.TypeIs (.ref d) "dict" := let ⟨o,a,b,_⟩:=x;#[o,a,b.1]
def GZ {Q:vQ_}(lo:(d == sysModules)=false) (x:RawD s.heap d es ep)
  (k:Q (.ref s.heap.objs.size) { s with heap:=s.heap.push { cls:=.type "dict_keyiterator",data:=.fields #v[.ref d,.int 0 0,.int es.size 0,.int ep 0] } }) :
  wpAny (model prog w) A (pyIter (.ref d)) Q E s:=by
 have ty:=x.ty;obtain⟨o,J,M,B⟩:=x;refine NU ty PY (KY PY ty PySem.F.entry_dict_iter ?_ (PySem.F.args_dict_iter_1 _));unfold Builtin.«dict.__iter__»;refine fx ?_;unfold Builtin.Dict.dictSlotNone;refine fx (wpAny_notOrdered_dict ty ?_);show wpAny _ _ (pure (Value.ref d)) _ _ s;refine iO ?_;show wpAny _ _ (Builtin.Dict.showsAll d >>= _) _ _ s;unfold Builtin.Dict.showsAll;rw[fI (fun z=>by rw[lo] at z;cases z)];refine fx (iO ?_);refine fx (OV J B ?_);refine fx (OW J B ?_);refine fx (LA (iO #[_,rfl, "dict_keyiterator",_,#[_,Ky _ rfl,rfl],Nk.lookup,?_]));simpa [rawInt] using k
def IA {e:DictEntry}{Q:Option Value->Shared->Prop}(y:s.heap.IsKeyIter it d i es.size ep) (x:RawD s.heap d es ep) (U:es[i]? = some e)
  (k:∀h',h'.IsKeyIter it d (i+1) es.size ep->Heap.SameBut it s.heap h'->Q (some e.key) { s with heap:=h' }) :
  wpAny (model prog w) A (pyNext (.ref it)) Q E s:=by
 have B:=y.typeIs;obtain⟨o,M,a2,J⟩:=id y;obtain⟨od,W,g2,Y⟩:=x;unfold pyNext;refine fx (LX (Lu (name:=Str.ofString "__next__") B Nk
  (KY Nk B PZ ?_ (Qa _))))
 refine fx (iO ?_);refine fx ?_;refine fx ?_
 first | refine fx (NW B (iO ?_)) | refine fx (NX B (iO ?_))
 refine fx (wpAny_fieldsOf M J ?_);have ow:Builtin.Dict_items.ownsTuple "dict_keyiterator" = false:=by decide
 simp only[ow,KQ,Kv];show wpAny _ _ (if (Value.ref d == Value.none)=true then _ else _) _ _ s;have nn:¬ ((Value.ref d == Value.none)=true):=Kn;rw[fI nn];refine fx (iO ?_);refine fx (OV W Y ?_);rw[fI (by simp)];refine fx (iO ?_);refine fx (OW W Y ?_);rw[fI (by simp)];refine iO ?_;obtain⟨hlt,he⟩:=Array.getElem?_eq_some_iff.mp U;simp only[show ¬ ((i:Int)<0) from by omega,Kv,LC,U];refine fx ?_
 first | refine fx (NW B (iO ?_)) | refine fx (NX B (iO ?_))
 refine fx (wpAny_isOneOf_keyiter B ?_);show wpAny _ _ (setField (.ref it) 1 (rawInt ((i:Int)+1)) >>= _) _ _ s;refine fx (NM M J (by simp) ?_);have Z:(s.heap.update it (Obj.mapFields (·.setIfInBounds 1 (rawInt ((i:Int)+1))))).IsKeyIter it d (i+1) es.size ep:=
  #[_,LG _ M (Obj.isFreed_of_fields (NP J _)),(Obj.cls_mapFields ..).trans a2,by rw[NP J];simp[rawInt]]
 refine fx (Lk ?_);refine fx (wpAny_isOneOf_keyiter (s:={ s with heap:=s.heap.update it (Obj.mapFields (·.setIfInBounds 1 (rawInt ((i:Int)+1)))) }) Z.typeIs ?_);show wpAny _ _ (pure e.key) _ _ _;exact iO (iO #[_,rfl,iO (k _ Z (NO ..))])
def Jd {Q:Option Value->Shared->Prop}(Z:A.handled=none) (y:s.heap.IsKeyIter it d i es.size ep) (x:RawD s.heap d es ep) (hx:es.size<=i)
  (k:∀h',Heap.ExtBut it s.heap h'->Q none { s with heap:=h' }):wpAny (model prog w) A (pyNext (.ref it)) Q E s:=by
 have B:=y.typeIs;obtain⟨o,W,a2,J⟩:=id y;obtain⟨od,M,g2,U⟩:=x;unfold pyNext;refine fx (LX (Lu (name:=Str.ofString "__next__") B Nk
  (KY Nk B PZ ?_ (Qa _))))
 refine fx (iO ?_);refine fx ?_;refine fx ?_
 first | refine fx (NW B (iO ?_)) | refine fx (NX B (iO ?_))
 refine fx (wpAny_fieldsOf W J ?_);have Y:Builtin.Dict_items.ownsTuple "dict_keyiterator" = false:=by decide
 simp only[Y,KQ,Kv];show wpAny _ _ (if (Value.ref d == Value.none)=true then _ else _) _ _ s;have nn:¬ ((Value.ref d == Value.none)=true):=Kn;rw[fI nn];refine fx (iO ?_);refine fx (OV M U ?_);rw[fI (by simp)];refine fx (iO ?_);refine fx (OW M U ?_);rw[fI (by simp)];refine iO ?_;simp only[show ¬ ((i:Int)<0) from by omega,Kv,LC,Nh hx];refine fx ?_
 first | refine fx (NW B (iO ?_)) | refine fx (NX B (iO ?_))
 show wpAny _ _ (setField (.ref it) 0 .none >>= _) _ _ s;refine fx (NM W J (by simp) ?_);show wpAny _ _ (newExc (.type "StopIteration") [] >>= _) _ _ _;refine fx ?_;simp only[newExc,newTuple];refine fx (LA ?_ (by size_fits));refine fx (m:=firstArgMember _ _) (wpAny_of_eq (a:=Value.none) (by first | rfl | (simp only[firstArgMember];rfl)) ?_);refine LA ?_ (by size_fits);simp only[raiseNew];refine fx (wpAny_handled ?_);rw[show A.in1.handled=none from Z];refine fx (iO (wpAny_throw ?_));refine fx (MG (T := "StopIteration") (b:=true) #[_,Ky _ rfl,rfl] NR ?_);exact iO (k _ (((NO ..).extBut.push _).push _))
def RawD.at_ (x:RawD h d es ep) (e:∀o,h.get? d=some o->h'.get? d=some o):RawD h' d es ep:=let ⟨o,a,r⟩:=x;#[o,e o a,r]
def yV (J:A.handled=none) (M:d≠it):Walks prog w A it [it,d] [it] es.size (fun i v=>∃e,es[i]? = some e/\v=e.key) (fun i h=>h.IsKeyIter it d i es.size ep/\RawD h d es ep) where
 sub:=fun b hb=>by simp at hb;simp[hb]
 frame:=fun _ _ _ st hk=>#[st.1.at fun o e=>hk it (by simp) o e,st.2.at_ fun o e=>hk d (by simp) o e]
 item:=fun i s Q E hi st B=>IA st.1 st.2 (LY hi) fun h' W hs=>
  B _ h' s.toks #[_,LY hi,rfl] #[W,st.2.at_ fun o e=>hs.extBut d o M e] fun b o hb e=>hs.extBut b o (fun h=>hb (by simp[h])) e
 done:=fun s Q E st B=>Jd J st.1 st.2 (iU _) fun h' U=>B h' s.toks fun b o hb e=>U b o (fun h=>hb (by simp[h])) e
 self:=fun _ _ _ _ st B=>wpAny_pyIter_keyiter st.1 B
def CS {R:Result->Shared->Prop}{S:Addr}{c₀:Nat}(hh:A.handled=none) (lo:(d == sysModules)=false) (x:RawD s.heap d es ep) (B:S≠d) (hn:es.size<=sizeLine) (hS:T7 s.heap S #v[] c₀)
  (hR:∀h' tk acc c,(∀b o,b≠S->s.heap.get? b=some o->h'.get? b=some o)->T7 h' S acc c->ItemsOf (fun i v=>∃e,es[i]? = some e/\v=e.key) acc es.size->R (.ok (.ret .none)) { s with heap:=h',toks:=tk }) :
  wpAny (model prog w) A.in1 (Builtin.List.listExtendWith (.ref S) (.ref d) .none)
   (fun fin s'=>match fin with | .done f=>R (.ok f) s' | .again c'=>c'.quiet=true/\codeAny (model prog w) A c' R s') (fun e s'=>R (.error e) s') s:=by
 have hT:=x.ty;unfold Builtin.List.listExtendWith;refine fx (MX hT ?_);have h1:Builtin.List.listSameRef (.ref S) (.ref d)=false:=by simp[Builtin.List.listSameRef,B]
 have h2:(Value.type "dict" == Value.type "list")=false:=by decide
 have h3:(Value.type "dict" == Value.type "tuple")=false:=by decide
 simp only[h1,h2,h3,NT,KQ,Kv];refine fx (GZ lo x ?_);have x₁:RawD (s.heap.push { cls:=.type "dict_keyiterator",data:=.fields #v[.ref d,.int 0 0,.int es.size 0,.int ep 0] }) d es ep:=x.at_ fun o e=>Kg _ e
 refine fx (Lk (PySem.W.kdl_hint_dict (s:={ s with heap:=s.heap.push { cls:=.type "dict_keyiterator",data:=.fields #v[.ref d,.int 0 0,.int es.size 0,.int ep 0] } }) x₁.ty ?_));refine wpAny_ite_split (fun _=>?_) (fun hab=>absurd (by decide +kernel) hab);obtain⟨od,hod,_⟩:=id x;have M:S≠s.heap.objs.size:=Kr (xu hS);have hdI:d≠s.heap.objs.size:=Kr (xu hod);have J:T7 (s.heap.push { cls:=.type "dict_keyiterator",data:=.fields #v[.ref d,.int 0 0,.int es.size 0,.int ep 0] }) S #v[] c₀:=Kg _ hS;have y₁:(s.heap.push { cls:=.type "dict_keyiterator",data:=.fields #v[.ref d,.int 0 0,.int es.size 0,.int ep 0] }).IsKeyIter s.heap.objs.size d 0 es.size ep:=#[_,Ky _ rfl,rfl,rfl]
 have kp₁:∀b o,s.heap.get? b=some o->(s.heap.push { cls:=.type "dict_keyiterator",data:=.fields #v[.ref d,.int 0 0,.int es.size 0,.int ep 0] }).get? b=some o:=fun b o e=>Kg _ e
 generalize s.heap.push { cls:=.type "dict_keyiterator",data:=.fields #v[.ref d,.int 0 0,.int es.size 0,.int ep 0] }=hp at *;refine fx (Lp ?_);refine fx ?_;show wpAny _ A.in1 (updateSeq S (·.push .none) >>= fun _=>updateSeq S (·.pop)) _ _ _;refine fx (Mm J rfl ?_);have U:=LG (Obj.mapSeq (·.push Value.none)) J rfl;refine Mm (hz:=by seq_fits) U rfl ?_;have Y:=LG (Obj.mapSeq (·.pop)) U rfl;have up:∀b o,b≠S->hp.get? b=some o->((hp.update S (Obj.mapSeq (·.push Value.none))).update S (Obj.mapSeq (·.pop))).get? b=some o:=fun b o hb e=>(LN _ _ (Ki hb)).trans ((LN _ _ (Ki hb)).trans e)
 have hin:A.in1.handled=none:=hh;refine iO #[plainId_quiet Nd _,codeAny_extend_loopS (yV (w:=w) (es:=es) (ep:=ep) hin hdI).toS hn S (by simp[M,B]) .none es.size 0 _ #v[] _ (Ml _) (Lr _) #[y₁.at fun o e=>up _ o (Ki M) e,x₁.at_ fun o e=>up d o (Ki B) e] Y (ItemsOf.nil _) fun s' acc c hm hS' hG=>?_];obtain⟨h',g,dr,tk,Z⟩:=s';obtain rfl:g=s.gens:=hm.gens;obtain rfl:dr=s.drawn:=hm.drawn;obtain rfl:Z=s.os:=hm.os;refine hR h' tk acc c (fun b o hb e=>hm.heap b o (fun z=>?_) (up b o hb (kp₁ b o e))) hS' hG;rcases tx.mp z with z | z
 .exact hb z
 .exact absurd (KI.mp z) (Kr (xu e))
def AR {Q:vQ_}(hh:A.handled=none) (lo:(d == sysModules)=false) (x:RawD s.heap d es ep) (hn:es.size<=sizeLine)
  (hQ:∀h' tk c,(∀b o,s.heap.get? b=some o->h'.get? b=some o)->T7 h' s.heap.objs.size (es.toList.map (·.key)).toArray c->Q (.ref s.heap.objs.size) { s with heap:=h',toks:=tk }) :
  wpAny (model prog w) A (call (.type "list") [.ref d]) Q E s:=by
 refine callType_codes (Q₁:=fun M s₁=>M = .ref s.heap.objs.size/\s₁={ s with heap:=s.heap.push { cls:=.type "list",data:=.seq #v[] } }) PySem.F.called_list (PK _) PL
  (code_list_new _ #[rfl,rfl]) fun M s₁ h₁=>?_
 obtain⟨rfl,rfl⟩:=h₁;have hS:(s.heap.push { cls:=.type "list",data:=.seq #v[] }).get? s.heap.objs.size=some { cls:=.type "list",data:=.seq #v[] }:=Ky _ rfl;obtain⟨od,Y,_⟩:=id x;have hd:d<s.heap.objs.size:=xu Y;refine#[#[_,hS,rfl],PM _ _,?_];show wpAny _ _ (do let old <-Builtin.List.listItems (.ref s.heap.objs.size);Builtin.List.listUpdate (.ref s.heap.objs.size) (fun _=>#v[]);letGo old.toList.reverse;Builtin.List.listExtendWith (.ref s.heap.objs.size) (.ref d) .none) _ _ _;refine fx ?_;unfold Builtin.List.listItems;refine fx (Ll hS rfl (iO ?_));show wpAny _ _ (updateSeq s.heap.objs.size (fun _=>#v[]) >>= fun _=>letGo (#v[]:vR_).toList.reverse >>= fun _=>Builtin.List.listExtendWith (.ref s.heap.objs.size) (.ref d) .none) _ _ _;refine fx (Mm hS rfl ?_);have W:=LG (Obj.mapSeq (fun _=>(#v[]:vR_))) hS rfl;have J:∀b o,b≠s.heap.objs.size->s.heap.get? b=some o->((s.heap.push { cls:=.type "list",data:=.seq #v[] }).update s.heap.objs.size (Obj.mapSeq (fun _=>(#v[]:vR_)))).get? b=some o:=
  fun b o hb e=>(LN _ _ (Ki hb)).trans (Kg _ e)
 refine fx (Nc ?_);refine CS (A:=A.in1) hh lo (x.at_ fun o e=>J d o (Kr hd) e) (Lj hd) hn W fun h' tk B c hk U Z=>?_
 have ea:B=(es.toList.map (·.key)).toArray:=by
  refine Array.ext_getElem? fun i=>?_
  by_cases hi:i<es.size
  .have:i<B.size:=by rw[Z.1];exact hi
   rw[LY this];obtain⟨e,he,ek⟩:=Z.2 i _ (LY this);rw[ek];simp[he]
  .rw[Nh (by rw[Z.1];omega),Nh (by simpa using hi)]
 rw[ea] at U;exact#[rfl,hQ h' tk c (fun b o e=>hk b o (Kr (xu e)) (J b o (Kr (xu e)) e)) U]
end
section
variable {σ:L2.St}{b:Addr}{k:List A6}{ks:List (List A6 × Addr)}{r:Value}
def GU (I:Inv X pins σ H s) (h:SqT X.K H b (k.map kV)):(tupleKind (P1 X.prog X.w)).is s.heap k b:=by
 obtain⟨its,B,⟨o,h1,h2,n,J⟩,_⟩:=I.tuple h;exact#[o,its.toArray,n,h1,h2,J,by simpa using tU B]
end
def eW:List D->Option (List Int)
 |[]=>some []
 |.int i::r=>(eW r).map (i :: ·)
 |_::_=>none
def qq:D->Option (List Int)
 |.tup ds=>eW ds
 |_=>none
section
variable {K:vF_}
theorem uG:∀{ds:vD_}{q:List Int}{xs:List V},eW ds=some q->Reps K N fa H ds xs->xs=q.map V.int
 |[],q,xs,h,r=>by cases h;simp only[Reps] at r;subst r;rfl
 |d::r',q,xs,h,r=>by
  cases d with
  |int i=>
   refine F3 h fun B h1 h2=>?_
   subst h2;simp only[Reps,Rep] at r;obtain⟨x,ys,rfl,rfl,r⟩:=r;rw[uG h1 r];rfl
  |_=>cases h
def Ka {q:List Int}{x:V}(h:qq d=some q) (r:Rep K N fa H d x):∃b,x = .ref b/\SqT K H b ((q.map Sum.inl).map kV):=by
 cases d with
 |tup ds=>
  simp only[Rep] at r;obtain⟨a,xs,rfl,s,r⟩:=r;refine#[a,rfl,?_];rw[uG h r] at s;have e:(q.map (Sum.inl (β:=Str))).map kV=q.map V.int:=by rw[ML];rfl
  rw[e];exact s
 |_=>cases h
end
def bp (k:List Int):List A6:=k.map Sum.inl
def GA {a b:List Int}(h:bp a=bp b):a=b:=(List.map_inj_right (fun _ _ z=>Sum.inl.inj z)).mp h
section
variable {P:Program}{w:World}{K:Type}[DecidableEq K] (hk:HeapKind P w K)
inductive RwA (h:Heap):List K->List Value->Prop
 | nil:RwA h [] []
 | cons {k:K}{a:Addr}{ks:List K}{vs:vV_}:hk.is h k a->RwA h ks vs->RwA h (k::ks) (.ref a::vs)
def TtK (h:Heap) (ks:List K) (a:Addr):Prop:=∃o its n,h.get? a=some o/\o.cls = .type "tuple" /\ o.data = .seq its n/\RwA hk h ks its.toList
variable {hk}
theorem RwA.uniq :∀{x y:List K}{vs:vV_},RwA hk h x vs->RwA hk h y vs->x=y
 |_,_,_,.nil,.nil=>rfl
 |_,_,_,.cons a r,.cons b t=>by rw[hk.inj a b,r.uniq t]
theorem RwA.car {d:Addr}{o:Obj}{es ep} (J:h.get? d=some o) (B:o.data = .dict es ep) (M:Heap.SameBut d h h'):∀{x:List K}{vs:vV_},RwA hk h x vs->RwA hk h' x vs
 |_,_,.nil=>.nil
 |_,_,.cons a r=>.cons (hk.keeps a J B M) (r.car J B M)
def TtK.ty (x:TtK hk s.heap ks a):s.TypeIs (.ref a) "tuple":= by
 obtain⟨o,_,_,h1,h2,_⟩:=x;exact#[o,h1,h2]
theorem TtK.uniq {x y:List K}(p:TtK hk h x a) (q:TtK hk h y a):x=y:=by
 obtain⟨o,its,n,h1,_,h2,U⟩:=p;obtain⟨o',B,Y,W,_,J,M⟩:=q;cases h1.symm.trans W;cases h2.symm.trans J;exact U.uniq M
theorem TtK.car {d:Addr}{o:Obj}{es ep} (x:TtK hk h ks a) (M:h.get? d=some o) (B:o.data = .dict es ep) (J:Heap.SameBut d h h'):TtK hk h' ks a:=by
 obtain⟨q,its,n,h1,h2,U,h4⟩:=x;refine#[q,its,n,(J.2 a ?_).trans h1,h2,U,h4.car M B J];rintro rfl;cases h1.symm.trans M;rw[U] at B;cases B
def mK (hk:HeapKind P w K) (ks:List K):Int:=reduceHash (Builtin.Tuple.tupleHashOf (ks.map hk.hash))
def mY (hk:HeapKind P w K) (ks:List K):Nat:=(ks.map hk.draws).sum+1
def Cz {a:Addr}{Q:Int->Shared->Prop}(W:A.units<cLine) (U:hk.room A.in1) (x:TtK hk s.heap ks a) (h:Q (mK hk ks) { s with toks:=s.toks+mY hk ks }):wpAny (model P w) A (pyHash (.ref a)) Q E s:=by
 have ty:=x.ty;obtain⟨o,its,n,h1,_,h2,M⟩:=x;unfold pyHash
 first | unfold pyHashByItsType | skip
 first | refine fx (wpAny_cRoomFor_or (.inr W) ?_) | skip
 refine fx (Ng ty NY.lookup ?_);show wpAny _ _ (if (some (Value.builtin "tuple.__hash__") == some Value.none)=true then _ else _) Q E s;rw[fI (by rw[beq_builtin_none];exact Kn)];refine fx (Ng ty NY.lookup ?_);show wpAny _ _ (callSpecialIfBoundUnlessNone? (.ref a) "__hash__" _ >>= _) Q E s;refine fx (wpAny_callSpecialIfBoundUnlessNone?_slot ty NY (KY NY ty F.entry_tuple_hash ?_ (F.args_tuple_hash_1 _)));show wpAny _ _ (Builtin.Tuple.tupleItemsOf (.ref a) >>= _) _ _ s;refine fx (OX h1 h2 ?_);refine fx ?_;rw[<-Array.forIn_toList];refine OY _ (fun rest (b:Array Int) s'=>∃u v,ks=u++v/\RwA hk s.heap v rest/\b.toList=u.map hk.hash/\s'={ s with toks:=s.toks+(u.map hk.draws).sum }) _ ?_ ?_ _ _ #[[],ks,rfl,M,rfl,rfl]
 .rintro x rest b s' ⟨u,v,rfl,J,hb,rfl⟩;cases J with
  |@cons k c ks' _ hc hv'=>
   refine fx (hk.pyHash (s:={ s with toks:=s.toks+(u.map hk.draws).sum }) U hc ?_)
   first
    | exact iO #[u++[k],ks',by simp,hv',by simp[hb],by simp[NZ]]
    | exact fx (iO (iO #[u++[k],ks',by simp,hv',by simp[hb],by simp[NZ]]))
 .rintro b s' ⟨u,v,rfl,J,hb,rfl⟩;cases J;rw[Ls] at h;show wpAny _ _ (retInt (Builtin.Tuple.tupleHashOf b.toList)) _ _ _;rw[hb];refine wpAny_ret_mkInt ?_;show wpAny _ _ (if (decide (-(2:Int) ^ 63<=Builtin.Tuple.tupleHashOf (u.map hk.hash))&&decide (Builtin.Tuple.tupleHashOf (u.map hk.hash)<2 ^ 63))=true then _ else _) Q E _;unfold mK mY reduceHash at h;by_cases B:(decide (-(2:Int) ^ 63<=Builtin.Tuple.tupleHashOf (u.map hk.hash))&&decide (Builtin.Tuple.tupleHashOf (u.map hk.hash)<2 ^ 63))=true
  .rw[gV B] at h ⊢;exact iO (by simpa [NZ] using h)
  .rw[fI B] at h ⊢;exact fx (Lp (iO (by simpa [NZ] using h)))
def yv {x y:List K}{b:Addr}{R:Fin->Shared->Prop}(hr:hk.room A) (p:TtK hk s.heap x a) (q:TtK hk s.heap y b) (h:R (.done (.ret (.bool (decide (x=y))))) s) :
  wpAny (model P w) A (Builtin.«tuple.__eq__» #[[.ref a,.ref b],[]]) R E s:=by
 have tq:=q.ty;obtain⟨o,xs,n,h1,_,h2,h3⟩:=p;obtain⟨o',ys,n',Z,_,Y,k3⟩:=q;show wpAny _ _ (isInstance (.ref b) (.type "tuple") >>= _) _ _ s;refine fx (MG tq isSubtype_tuple_tuple ?_);simp only[Na,KQ,Kv];refine fx (OX h1 h2 ?_);refine fx (OX Z Y ?_);refine fx ?_;refine OY _ (fun rest r s'=>r.1=none/\s'=s/\∃u v us J,rest=List.zip us J/\RwA hk s.heap u us/\RwA hk s.heap v J/\decide (u=v)=decide (x=y)/\(us.length == J.length)=(xs.size == ys.size)) _ ?_ ?_ _ _ #[rfl,rfl,x,y,xs.toList,ys.toList,rfl,h3,k3,rfl,by simp]
 .rintro⟨c,d⟩ rest r s' ⟨er,rfl,u,v,us,J,B,hu,M,U,el⟩;cases hu with
  |nil=>simp at B
  |@cons Z a1 u' us' g1 hu'=>
   cases M with
   |nil=>simp at B
   |@cons Y a2 v' vs' g2 hv'=>
    simp only[List.zip_cons_cons,Oa,Kq] at B;obtain⟨⟨rfl,rfl⟩,rfl⟩:=B;refine fx (hk.eqBool hr g1 g2 ?_);by_cases e:Z=Y
    .subst e;rw[Kp rfl];simp only[Na,KQ,Kv];refine iO #[rfl,rfl,u',v',us',vs',rfl,hu',hv',?_,by simpa using el];rw[<-U];by_cases e2:u'=v' <;> simp[e2]
    .rw[KC e];simp only[Bool.not_false,KG];have hf:decide (x=y)=false:=by rw[<-U];simp[e]
     rw[hf] at h;exact fx (iO (iO (iO h)))
 .rintro⟨r1,r2⟩ s' ⟨er,rfl,u,v,us,J,B,hu,M,U,el⟩;simp only at er;subst er;refine iO ?_;have W:(xs.size == ys.size)=decide (x=y):=by
   rw[<-U,<-el];cases hu with
   |nil=>cases M <;> simp
   |cons _ _=>
    cases M with
    |nil=>simp
    |cons _ _=>simp at B
  show R (.done (.ret (.bool (xs.size == ys.size)))) s';rw[W];exact h
def Iw {x y:List K}{b:Addr}{Q:Bool->Shared->Prop}(M:A.units<cLine) (J:hk.room A.in1) (p:TtK hk s.heap x a) (q:TtK hk s.heap y b) (h:Q (decide (x=y)) s):wpAny (model P w) A (eqBool (.ref a) (.ref b)) Q E s:=by
 unfold eqBool
 try with_reducible refine Lk ?_
 show wpAny _ _ (if (Value.ref a == Value.ref b)=true then _ else _) Q E s;by_cases B:(Value.ref a == Value.ref b)=true
 .rw[gV B];have e:a=b:=by have:=eq_of_beq B;injection this
  subst e;cases p.uniq q;exact fx (Lp (iO (by simpa using h)))
 .rw[fI B];exact fx (wpAny_richCompare_same_room (op:=.Eq) p.ty q.ty OZ (KY OZ p.ty F.entry_tuple_eq (yv J p q #[_,rfl,(fun e=>nomatch e),Ms h]) (F.args_tuple_eq_2 _ _)) M)
def oq {o:Obj}{its m} {Q:Bool->Shared->Prop}(h1:s.heap.get? a=some o) (h2:o.cls = .type "tuple") (W:o.data = .seq its m) (U:∀v∈its.toList,∀{Q:Bool->Shared->Prop},Q true s->wpAny (model P w) A (eqIsQuiet n v) Q E s) (h:Q true s) :
  wpAny (model P w) A (eqIsQuiet (n+1) (.ref a)) Q E s:=by
 have J:s.TypeIs (.ref a) "tuple" := #[o,h1,h2]
 unfold eqIsQuiet;refine fx (Ng J OZ.lookup ?_);show wpAny _ _ (isInstance (.ref a) (.type "tuple") >>= _) _ _ s;refine fx (MG J isSubtype_tuple_tuple ?_);simp only[Na,KQ,Kv];refine fx (Ll h1 W ?_);refine fx ?_;show wpAny _ _ (forIn its _ _) _ _ s;rw[<-Array.forIn_toList];refine OY _ (fun rest r s'=>r.1=none/\s'=s/\∀v∈rest,v∈its.toList) _ ?_ ?_ _ _ #[rfl,rfl,fun v Y=>Y]
 .rintro v rest r s' ⟨B,rfl,ha⟩;refine fx (U v (ha v iR) ?_);simp only[Na,KQ,Kv];exact iO #[rfl,rfl,fun u M=>ha u (td _ M)]
 .rintro⟨Z,r2⟩ s' ⟨B,rfl,_⟩;simp only at B;subst B;exact iO h
end
section
variable {P:Program}{w:World}{K:Type}[DecidableEq K] (kn:KeyKind P w K)
def FY {k:List K}{Q:Bool->Shared->Prop}(x:(tupleKind kn).is s.heap k a) (h:Q true s):wpAny (model P w) A (eqIsQuiet (n+1) (.ref a)) Q E s:=by
 obtain⟨o,its,m,h1,h2,J,h4⟩:=x;refine oq h1 h2 J (fun v M Q B=>?_) h;rw[eqIsQuiet_byValue _ (h4.byValue v M)];exact iO B
theorem RwA.quiet :∀{x:List (List K)}{vs:vV_},RwA (tupleKind kn) s.heap x vs->∀v∈vs,∀{Q:Bool->Shared->Prop},Q true s->wpAny (model P w) A (eqIsQuiet (n+1) v) Q E s
 |_,_,.nil,v,hv=>by cases hv
 |_,_,.cons a r,v,hv=>fun B=>by
  rcases tx.mp hv with rfl | hv
  .exact FY kn a B
  .exact r.quiet v hv B
def Er:HeapKind P w (List (List K)) where
 is:=TtK (tupleKind kn)
 hash:=mK (tupleKind kn)
 draws:=mY (tupleKind kn)
 room:=fun A=>A.units+1<cLine
 inj:=fun p q=>p.uniq q
 keeps:=fun x W U J=>x.car W U J
 pyHash:=fun B x h=>Cz (Nat.lt_of_succ_lt B) (Pa B) x h
 eqBool:=fun B p q h=>Iw (Nat.lt_of_succ_lt B) (Pa B) p q h
 quiet:=fun x h=>by
  obtain⟨o,its,m,h1,h2,M,h4⟩:=x;exact oq h1 h2 M (h4.quiet kn) h
end
section
variable {κ:Type}[DecidableEq κ]
def G5 (dec:D->Option κ):List D->Option (List κ)
 |[]=>some []
 |d::r=>(dec d).bind fun k=>(G5 dec r).map (k :: ·)
structure KDP (X:Cx) (hk:HeapKind X.prog X.w κ) (dec:D->Option κ):Prop where
 room:∀{A:Around},A.units+64<cLine->hk.room A.in1
 room0:∀{A:Around},A.units+64<cLine->hk.room A
 is:∀{pins:vP_}{σ:L2.St}{H:Hp}{s:Shared}{N:vB_}{fa:vA_}{d:D}{k:κ}{x:V},Inv X pins σ H s->dec d=some k->Rep X.K N fa H d x->∃b,x = .ref b/\hk.is s.heap k b
 hash:∀{d:D}{k:κ},dec d=some k->hk.hash k=bG d
def J6 (ks:List κ) (k:κ) (ds:vD_) (d:D):List D:=if k∈ks then ds else ds++[d]
variable {hk:HeapKind X.prog X.w κ}{dec:D->Option κ}{σ:L2.St}
theorem sA (J:KDP X hk dec) (I:Inv X pins σ H s):∀{ds:vD_}{xs:List V}{es:List DictEntry}{ks:List κ},bM ds xs es->Reps X.K N fa H ds xs->G5 dec ds=some ks ->
  ∃ys:List (κ × Addr × Value),es=ys.map (entryOfKey hk)/\ys.map (·.1)=ks/\xs=ys.map (fun y=>V.ref y.2.1)/\∀y∈ys,hk.is s.heap y.1 y.2.1
 |[],xs,es,ks,h,r,e=>by
  obtain⟨rfl,rfl⟩:=h;cases e;exact#[[],rfl,rfl,rfl,fun y B=>nomatch B]
 |d::ds,xs,es,ks,h,r,e=>by
  obtain⟨c,ys,U,fs,rfl,rfl,h1,h2,h⟩:=h;refine C8 e fun k M q=>?_
  refine F3 q fun Z q2 q3=>?_
  subst q3;simp only[Reps] at r;obtain⟨x,zs,ex,rx,r⟩:=r;cases ex;obtain⟨b,W,hb⟩:=J.is I M rx;cases W;obtain⟨Y,rfl,w2,rfl,w4⟩:=sA J I h r q2;refine#[(k,c,U.val)::Y,?_,by simp[w2],rfl,fun y B=>?_]
  .obtain⟨hh,kk,vv⟩:=U;show _=entryOfKey hk _::_;unfold entryOfKey;simp only at h1 h2;rw[J.hash M,h1,h2]
  .rcases tx.mp B with rfl | B
   .exact hb
   .exact w4 y B
theorem tO (J:KDP X hk dec):∀{ds:vD_}{ys:List (κ × Addr × Value)},G5 dec ds=some (ys.map (·.1))->bM ds (ys.map fun y=>V.ref y.2.1) (ys.map (entryOfKey hk))
 |[],ys,e=>by
  cases ys with
  |nil=>exact#[rfl,rfl]
  |cons y r=>cases e
 |d::ds,ys,e=>by
  refine C8 e fun k Y q=>?_
  refine F3 q fun W M B=>?_
  cases ys with
  |nil=>cases B
  |cons y r=>
   simp only[Ku,Oa] at B;obtain⟨B,U⟩:=B;subst U;exact#[y.2.1,_,entryOfKey hk y,_,rfl,rfl,by rw[<-J.hash Y,B];rfl,rfl,tO J M]
theorem qY:∀{a b:vD_}{ka kb:List κ},G5 dec a=some ka->G5 dec b=some kb->G5 dec (a++b)=some (ka++kb)
 |[],b,ka,kb,h,q=>by cases h;exact q
 |d::r,b,ka,kb,h,q=>by
  refine C8 h fun k B h=>?_
  refine F3 h fun J U M=>?_
  subst M;show (dec d).bind _=_;rw[B,OK];show (G5 dec (r++b)).map _=_;rw[qY U q];rfl
def atKeyG {ys:List (κ × Addr × Value)}{k:κ}:(atKey ys k).isSome=true↔k∈ys.map (·.1):=by
 unfold atKey;rw[Option.isSome_map,List.find?_isSome,Kw];exact#[fun ⟨x,B,e⟩=>#[x,B,LP e],fun ⟨x,B,e⟩=>#[x,B,Kp e]]
def HB {ys:List (κ × Addr × Value)}{k:κ}{b:Addr}{v:Value}:(storedH ys k b v).map (·.1)=(if k∈ys.map (·.1) then ys.map (·.1) else ys.map (·.1)++[k]) /\
  (storedH ys k b v).map (fun y=>V.ref y.2.1)=(if k∈ys.map (·.1) then ys.map (fun y=>V.ref y.2.1) else ys.map (fun y=>V.ref y.2.1)++[V.ref b]):=by
 unfold storedH;by_cases e:k∈ys.map (·.1)
 .rw[gV e,gV e,gV (atKeyG.mpr e),ML,ML];constructor <;> refine List.map_congr_left fun x _=>?_ <;> show _=_ <;> simp only[Function.comp,putAt] <;> split <;> rfl
 .rw[fI e,fI e,fI (fun z=>e (atKeyG.mp z)),Lh,Lh];exact#[rfl,rfl]
def yb (B:HOk X.prog X.w H s.heap) (e:H a=some (E2 a ds xs)):(a == sysModules)=false/\∃o es ep,s.heap.get? a=some o/\o.ExactDict/\o.data = .dict es ep/\bM ds xs es.toList:=
 (show ObjOk X.prog X.w H s.heap a (E2 a ds xs) from B a _ e).1
def jW {o:Obj}{es:Array DictEntry}{ep:Nat}(lo:(a == sysModules)=false) (h1:h.get? a=some o) (h2:o.ExactDict) (B:o.data = .dict es ep) (h4:bM ds xs es.toList) :
  ObjOk X.prog X.w H' h a (E2 a ds xs):=by
 refine#[#[lo,o,es,ep,h1,h2,B,h4],#[o,h1],?_];rintro x y ⟨lo,o,es,ep,h1,r⟩ k;exact#[lo,o,es,ep,k o h1,r]
theorem uh:∀{ds:vD_}{ks:List κ},G5 dec ds=some ks->ks.length=ds.length
 |[],ks,h=>by cases h;rfl
 |d::r,ks,h=>by
  refine C8 h fun k U h=>?_
  refine F3 h fun B M J=>?_
  subst J;simp[uh M]
def pS (B:KDP X hk dec) {ks:List κ}{k:κ}{x:V}(I:Inv X pins σ H s) (e:H a=some (E2 a ds xs)) (r:Reps X.K N fa H ds xs) (rx:Rep X.K N fa H d x) (q:G5 dec ds=some ks) (J:dec d=some k) (Y:ks.Nodup) :
  ∃b ys,x = .ref b/\hk.is s.heap k b/\s.heap.DictOfH hk a ys/\ys.length=ds.length/\∀(v:Value) (h':Heap) (t:Nat),h'.DictOfH hk a (storedH ys k b v)->Heap.SameBut a s.heap h' ->
   Inv X pins σ (e7 H a (E2 a (J6 ks k ds d) (if k∈ks then xs else xs++[x]))) { s with heap:=h',toks:=t }:=by
 obtain⟨lo,o,es,ep,h1,h2,h3,h4⟩:=yb I.hok e;obtain⟨b,rfl,hb⟩:=B.is I J rx;obtain⟨ys,e5,rfl,rfl,e8⟩:=sA B I h4 r q;refine#[b,ys,rfl,hb,#[o,es,ep,h1,h2,h3,e5,e8,Y],by rw[<-uh q,xo],fun v h' t dd hs=>?_];obtain⟨o',U,ep',M,W,Z,k4,_,_⟩:=dd;refine ES I (by rw[e];exact True.intro) hs #[o',M] (jW lo M W Z ?_);obtain⟨z1,z2⟩:=HB (ys:=ys) (k:=k) (b:=b) (v:=v);rw[k4,<-z2];refine tO B ?_;rw[z1];unfold J6;by_cases m:k∈ys.map (·.1)
 .rw[gV m,gV m];exact q
 .rw[fI m,fI m];refine qY q ?_;show (dec d).bind _=_;rw[J];rfl
def AN (X:Cx) (dec:D->Option κ):iy:=fun o i _ H Q=>∃a N fa ds d xs ks k,o = .ref a/\H a=some (E2 a ds xs)/\Reps X.K N fa H ds xs/\Rep X.K N fa H d i/\G5 dec ds=some ks/\dec d=some k/\ks.Nodup/\ds.length<=sizeLine /\
 Q (e7 H a (E2 a (J6 ks k ds d) (if k∈ks then xs else xs++[i])))
def HZ (J:KDP X hk dec) (hu:X.A.units+64<cLine):jV X (AN X dec):=by
 intro pins s σ H o i v ov iv u Q I W Y rv h;obtain⟨a,N,fa,ds,d,xs,ks,k,rfl,e,r,rx,q,qk,M,hl,hq⟩:=h;obtain⟨b,ys,rfl,hb,dd,U,Z⟩:=pS J I e r rx q qk M;cases W;cases Y;exact wpAny_setItem_heap (hsz:=by rw[U];exact hl) (J.room hu) hb dd fun h' B hs=>#[_,Z _ h' _ B hs,hq]
end
section
variable {κ:Type}[DecidableEq κ] {hk:HeapKind X.prog X.w κ}{dec:D->Option κ}{σ:L2.St}{s:DS}{y:Str}{pos pd:Pos}{v0:V}
def DI.rewD {K:vF_}(I:GI K g σ H fa O s) {es:vD_}(M:s.sl[i]? = some (.dct ds)) (J:σ[i]? = some (some (.ref a))) (m:a∈O) (U:H a=some (E2 a ds xs)) (r:Reps K (NN g.F fa O) fa H es ys) :
  GI K g σ (e7 H a (E2 a es ys)) fa O { s with sl:=s.sl.set i (.dct es) }/\Stp fa O H fa O (e7 H a (E2 a es ys)):=by
 have B:Stp fa O H fa O (e7 H a (E2 a es ys)):=#[fun b hb=>.inl hb,.inl rfl,fun b u e n _=>by
  rw[k9 (show b≠a from fun z=>n (by rw[z];exact m))];exact e,fun b z=>by
  by_cases hb:b=a
  .subst hb;rw[w6] at z;cases z
  .rw[k9 hb] at z;exact z]
 have c:=I.car B;have k:∀b u,b≠a->H b=some u->e7 H a (E2 a es ys) b=some u:=fun b u n e=>by rw[k9 n];exact e
 refine#[#[I.nd,SlR.rewG I.sl I.nd (fun b hb=>.inr (.inl hb)) M #[ds,.inr rfl] J c k fun W τ P h=>?_,I.fr,?_,I.tr,I.ff,I.fd.car c fun b hb=>?_,I.nf],B]
 .simp only[SlR];exact#[a,ys,τ,P,rfl,rfl,w6,Reps.go c es ys r,h]
 .refine#[fun b hb=>(by cases hb),I.st.fe,fun b u e n f=>?_,fun b z=>I.st.mon b (B.mon b z)];refine k b u (fun z=>?_) (I.st.same b u e n f);rw[z,I.fr a m] at e;cases e
 .refine k9 fun z=>?_
  subst z;exact I.nf _ hb m
def eG (dec:D->Option κ) (i j:Nat):DM:=fun s=>match s.sl[i]?,s.sl[j]? with
 |some (.dct ds),some (.v d)=>(G5 dec ds).bind fun ks=>(dec d).bind fun k=>if ks.Nodup/\ds.length<=sizeLine then some (.next,{ s with sl:=s.sl.set i (.dct (J6 ks k ds d)) }) else none
 |_,_=>none
def GJ (q:eG dec i j s=some r):∃ds d ks k,s.sl[i]? = some (.dct ds)/\s.sl[j]? = some (.v d)/\G5 dec ds=some ks/\dec d=some k/\ks.Nodup/\ds.length<=sizeLine/\r=(.next,{ s with sl:=s.sl.set i (.dct (J6 ks k ds d)) }):=by
 unfold eG at q;split at q
 .next ds d e1 e2=>
  refine C8 q fun ks h1 q=>C8 q fun k h2 q=>?_
  by_cases h:ks.Nodup/\ds.length<=sizeLine
  .rw[gV h] at q;cases q;exact#[ds,d,ks,k,e1,e2,h1,h2,h.1,h.2,rfl]
  .rw[fI h] at q;cases q
 .cases q
def rF (kd:KDP X hk dec) (hu:X.A.units+64<cLine) (hU:PE X (.Name x p1) (J8 i)) (hO:PE X (.Name y p2) (J8 j)) (Z:PE X e (tC v0)) (hs:swapsWithSole [.Subscript (.Name x p1) (.Name y p2) pos'] e pos.line X.env=pure false:=by rfl) (hw:swappedStores [.Subscript (.Name x p1) (.Name y p2) pos'] e X.env=pure none:=by rfl) :
  SO X g (.Assign [.Subscript (.Name x p1) (.Name y p2) pos'] e pos) (eG dec i j):=
 SO.w (jS Z (nR hU hO (HZ kd hu)) hs hw) fun E σ H hQ=>by
  refine hQ.elim fun fa O s fl s' I q k=>?_
  obtain⟨ds,d,ks,B,h1,h2,Y,h4,h5,h6,er⟩:=GJ q;cases er;obtain⟨a,xs,U,m,M,J⟩:=SlR.dct I.sl h1;obtain⟨vx,e3,W⟩:=SlR.val I.sl h2;refine#[_,U,_,e3,a,_,_,ds,d,xs,ks,B,rfl,M,J,W,Y,h4,h5,h6,?_];obtain⟨I2,a2⟩:=I.rewD h1 U m M (es:=J6 ks B ds d) (ys:=if B∈ks then xs else xs++[vx]) (by
   unfold J6;by_cases z:B∈ks
   .rw[gV z,gV z];exact J
   .rw[fI z,fI z];exact Reps.append J (Reps.one W))
  exact k σ _ fa O a2 I2
def DI.newD {K:vF_}(I:GI K g σ H fa O s) (hi:i<s.sl.length) (hp:H p=none) (r:Reps K (NN g.F fa O) fa H ds xs) :
  ∃P,(∀b∈P,b=p\/b∈O)/\GI K g (σ.set i (some (.ref p))) (e7 H p (E2 p ds xs)) fa P { s with sl:=s.sl.set i (.dct ds) }:=by
 have B:=eR (o:=E2 p ds xs) I hp;have M:p ∉ O:=fun z=>by
  obtain⟨ys,e⟩:=I.owned z;rw[hp] at e;cases e
 have J:=SlR.go B (fun b ys _ e=>by rw[k9 (S3 e hp)];exact e) I.sl;obtain⟨P,h1,h2,S⟩:=SlR.putG i (p:=p) (w:=.dct ds) J hi M I.nd fun U τ P h=>by
  simp only[SlR];exact#[p,xs,τ,P,rfl,rfl,w6,Reps.go B ds xs r,h]
 have c:Car K (fun b=>NN g.F fa O b\/b=p) fa (e7 H p (E2 p ds xs)) (NN g.F fa P) fa (e7 H p (E2 p ds xs)):=kE fun b z=>by
  rcases z with z | z | z
  .exact .inl (.inl z)
  .rcases h1 b z with y | y
   .exact .inr y
   .exact .inl (.inr (.inl y))
  .exact .inl (.inr (.inr z))
 refine#[P,h1,h2,SlR.go c (fun _ _ _ z=>z) S,fun b hb=>?_,(I.new hp).st,I.tr,I.ff,(I.fd.car B (I.fd.same_new hp)).car c fun _ _=>rfl,fun b z hb=>?_]
 .rcases h1 b hb with y | y
  .rw[y];exact I.st.mon p hp
  .exact I.fr b y
 .rcases h1 b hb with y | y
  .rw[y] at z;exact I.fd.tracked z hp
  .exact I.nf b z y
def sH {o:HO}{P:vL_}(hp:H p=none) (B:∀b∈P,b=p\/b∈O):Stp fa O H fa P (e7 H p o):=
 #[fun b hb=>by
  rcases B b hb with y | y
  .exact .inr (by rw[y];exact hp)
  .exact .inl y,.inl rfl,(B4 (O:=O) hp).stp.same,(B4 (fa:=fa) (O:=O) (o:=o) hp).mon]
def mI (i:Nat):DM:=fun s=>if i<s.sl.length then some (.next,{ s with sl:=s.sl.set i (.dct []) }) else none
def JK:PE X (.Dict [] [] pos) (fun _ H Q=>∀p,H p=none->Q (.ref p) (e7 H p (E2 p [] []))):=fun pins s σ H Q I h=>
 wpAny_Dict_empty #[.ref s.heap.objs.size,_,I.laid (a:=s.heap.objs.size) (o:=E2 s.heap.objs.size [] []) (t':=s.toks) (fun _ _ q=>Kg _ q) (iU _)
  (jW (X:=X) (Ov.mpr (Ki (Kr I.big))) (Ky _ rfl) #[rfl,rfl,rfl] rfl #[rfl,rfl]),rfl,h _ (I.hok.fresh (iU _))]
def Dm (U:X.N.Nodup) (hi:X.N[i]? = some x) (J:L2.Loc X.env.scope x) (hs:swapsWith (.Dict [] [] pd) (some (.Name x pos')) pos.line X.env=pure false:=by rfl) (W:X.fn x=true\/X.env.scope.names.lookup x=some .local:=by first | exact .inl rfl | exact .inr rfl | assumption) :
  SO X g (.Assign [.Name x pos'] (.Dict [] [] pd) pos) (mI i):=SO.w (iP U hi J JK hs W) fun E σ H M=>by
 refine M.elim fun fa O s fl s' I q k=>?_
 unfold mI at q;by_cases h:i<s.sl.length
 .rw[gV h] at q;cases q;intro p hp;obtain⟨P,B,Y⟩:=I.newD h hp Reps.nil;exact k _ _ fa P (sH hp B) Y
 .rw[fI h] at q;cases q
def bC (dec:D->Option κ) (i a b:Nat):DM:=fun s=>match s.sl[a]?,s.sl[b]? with
 |some (.v d),some (.v B)=>(dec d).bind fun k=>(dec B).bind fun J=>if i<s.sl.length then some (.next,{ s with sl:=s.sl.set i (.dct (J6 [k] J [d] B)) }) else none
 |_,_=>none
def HV {a b:Nat}(q:bC dec i a b s=some r):∃d d' k k',s.sl[a]? = some (.v d)/\s.sl[b]? = some (.v d')/\dec d=some k/\dec d'=some k'/\i<s.sl.length/\r=(.next,{ s with sl:=s.sl.set i (.dct (J6 [k] k' [d] d')) }):=by
 unfold bC at q;split at q
 .next d d' e1 e2=>
  refine C8 q fun k h1 q=>C8 q fun k' h2 q=>?_
  by_cases h:i<s.sl.length
  .rw[gV h] at q;cases q;exact#[d,d',k,k',e1,e2,h1,h2,h,rfl]
  .rw[fI h] at q;cases q
 .cases q
def pH {s:Shared}(J:KDP X hk dec) (hu:X.A.units+64<cLine) {ks:List κ}{k:κ}{v:V}{r:Value}{Q:Unit->Shared->Prop}(I:Inv X pins σ H s) (e:H a=some (E2 a ds xs)) (rs:Reps X.K N fa H ds xs) (rx:Rep X.K N fa H d v) (W:RelV v u) (q:G5 dec ds=some ks) (Z:dec d=some k) (M:ks.Nodup) (hl:ds.length<=sizeLine)
  (h:∀s',Inv X pins σ (e7 H a (E2 a (J6 ks k ds d) (if k∈ks then xs else xs++[v]))) s'->Q () s'):wpAny (model X.prog X.w) X.A (dictSet a u r) Q E s:=by
 obtain⟨b,ys,rfl,hb,dd,U,Y⟩:=pS J I e rs rx q Z M;cases W;exact wpAny_dictSet_heap (hsz:=by rw[U];exact hl) (J.room0 hu) hb dd fun h' B hs=>h _ (Y _ h' _ B hs)
def DD (X:Cx) (dec:D->Option κ) (B J:Nat):TE:=fun σ H Q=>∃va vb N fa d d' k k',σ[B]? = some (some va)/\σ[J]? = some (some vb)/\dec d=some k/\dec d'=some k'/\(∀p o,H p=none->Rep X.K N fa (e7 H p o) d va/\Rep X.K N fa (e7 H p o) d' vb) /\
 ∀p,H p=none->Q (.ref p) (e7 H p (E2 p (J6 [k] k' [d] d') (if k'∈[k] then [va] else [va,vb])))
def FU {v1:V}{ia ib:Nat}(kd:KDP X hk dec) (hu:X.A.units+64<cLine) (hA:PE X (.Name xa pa) (J8 ia)) (hB:PE X (.Name xb pb) (J8 ib)) (hv:PE X e (tC v0)) (Z:PE X e' (tC v1)) :
  PE X (.Dict [some (.Name xa pa),some (.Name xb pb)] [e,e'] pos) (DD X dec ia ib):=by
 rintro pins s σ H Q I ⟨J,Y,N,fa,d,d',k,k',e1,e2,q1,q2,W,h⟩;have M:=I.hok.fresh (iU s.heap.objs.size);have I1:=I.laid (a:=s.heap.objs.size) (o:=E2 s.heap.objs.size [] []) (h':=s.heap.push { cls:=.type "dict",data:=.dict #v[] }) (t':=s.toks) (fun _ _ q=>Kg _ q) (iU _)
  (jW (X:=X) (Ov.mpr (Ki (Kr I.big))) (Ky _ rfl) #[rfl,rfl,rfl] rfl #[rfl,rfl])
 refine wpAny_Dict_any rfl rfl (by simp) (by simp) (j9 (rO hA hv (rO hB Z II) pins _ σ _ (fun ps H2=>ps=[(J,v0),(Y,v1)]/\H2=_) I1 #[J,e1,#[Y,e2,rfl,rfl]]) fun ws s2 ⟨ps,H2,I2,B,ep,eh⟩=>?_);subst ep;subst eh;cases B with
 |@cons _ w1 _ ws1 r1 B=>
 cases B with
 |@cons _ w2 _ ws2 r2 B=>
 cases B;unfold storeAll;rw[MD];refine fx (fx (pH (d:=d) (k:=k) (ks:=[]) (xs:=[]) (ds:=[]) (v:=J) (N:=N) (fa:=fa) kd hu I2 w6 Reps.nil (W _ _ M).1 r1.1 rfl q1 Mz (Lr _) fun s3 U=>iO ?_))
 dsimp only
 rw[MD];rw[uF] at U;have n1:k ∉ ([]:List κ):=KR;unfold J6 at U;rw[fI n1,fI n1] at U;refine fx (fx (pH (d:=d') (k:=k') (ks:=[k]) (xs:=[J]) (ds:=[d]) (v:=Y) (N:=N) (fa:=fa) kd hu U w6 (Reps.one (W _ _ M).1) (W _ _ M).2 r2.1 (by show (dec d).bind _=_;rw[q1];rfl) q2 (by simp) (by show 1<=_;decide) fun s4 I4=>iO ?_))
 dsimp only
 rw[Nb];rw[uF] at I4;exact iO #[.ref s.heap.objs.size,_,I4,rfl,h _ M]
def zS {v1:V}{ia Z:Nat}(kd:KDP X hk dec) (hu:X.A.units+64<cLine) (hN:X.N.Nodup) (hi:X.N[i]? = some x) (hx:L2.Loc X.env.scope x) (hA:PE X (.Name xa pa) (J8 ia)) (hB:PE X (.Name xb pb) (J8 Z)) (hv:PE X e (tC v0)) (Y:PE X e' (tC v1))
  (hs:swapsWith (.Dict [some (.Name xa pa),some (.Name xb pb)] [e,e'] pd) (some (.Name x pos')) pos.line X.env=pure false:=by rfl) (hf:X.fn x=true\/X.env.scope.names.lookup x=some .local:=by first | exact .inl rfl | exact .inr rfl | assumption) :
  SO X g (.Assign [.Name x pos'] (.Dict [some (.Name xa pa),some (.Name xb pb)] [e,e'] pd) pos) (bC dec i ia Z):=SO.w (iP hN hi hx (FU kd hu hA hB hv Y) hs hf) fun E σ H hQ=>by
 refine hQ.elim fun fa O s fl s' I q k=>?_
 obtain⟨d,d',J,B,h1,h2,h3,h4,hl,er⟩:=HV q;cases er;obtain⟨W,e1,M⟩:=SlR.val I.sl h1;obtain⟨vb,e2,r2⟩:=SlR.val I.sl h2;refine#[W,vb,_,_,d,d',J,B,e1,e2,h3,h4,fun p o hp=>#[Rep.go (I.car (B4 hp).stp) _ _ M,Rep.go (I.car (B4 hp).stp) _ _ r2],fun p hp=>?_];obtain⟨P,U,I2⟩:=I.newD (ds:=J6 [J] B [d] d') (xs:=if B∈[J] then [W] else [W,vb]) hl hp (by
  unfold J6;by_cases z:B∈[J]
  .rw[gV z,gV z];exact Reps.one M
  .rw[fI z,fI z];exact Reps.append (Reps.one M) (Reps.one r2))
 exact k _ _ fa P (sH hp U) I2
def aL (i:Nat):DA:=fun s=>match s.sl[i]? with
 |some (.dct ds)=>if ds.length<=sizeLine then some (ds,s) else none
 |_=>none
def Ga {r:List D × DS}(q:aL i s=some r):∃ds,s.sl[i]? = some (.dct ds)/\ds.length<=sizeLine/\r=(ds,s):=by
 unfold aL at q;split at q
 .next ds e1=>
  by_cases h:ds.length<=sizeLine
  .rw[gV h] at q;cases q;exact#[ds,e1,h,rfl]
  .rw[fI h] at q;cases q
 .cases q
theorem oj:∀{ds:vD_}{xs:List V}{es:List DictEntry},bM ds xs es->Vals xs (es.map (·.key))/\xs.length=ds.length
 |[],xs,es,h=>by obtain⟨rfl,rfl⟩:=h;exact#[.nil,rfl]
 |d::ds,xs,es,h=>by
  obtain⟨r,ys,e,fs,rfl,rfl,_,h2,h⟩:=h;obtain⟨a,b⟩:=oj h;exact#[.cons h2 a,by simp[b]]
def wI {p p':Pos}(hc:X.calm=true) (W:Gl X "list") (B:X.mg "list" = none) (hv:PE X (.Name x p') (J8 i)) (Y:starEach [.Name x p'] X.env=(false,eval (.Name x p') X.env)::starEach [] X.env:=by rfl) :
  FO X g (.Call (.Name "list" p) [.Name x p'] [] pos) (aL i):=#[by
 intro pins s σ H Q I h;refine h.elim fun fa O ds0 d s' J q k=>?_
 obtain⟨ds,h1,hz,er⟩:=Ga q;cases er;obtain⟨a,xs,e1,m,e2,r1⟩:=SlR.dct J.sl h1;refine LS (Y7 I W B (show bootBuiltins ("list" : Str)=some (.type "list") by decide +kernel) ?_ #[] #[]);refine Mi (j9 ((Q7 hv X0 Y) pos pins s σ H (fun Z H'=>Z=[.ref a]/\H'=H) I #[_,e1,rfl,rfl]) fun us s1 ⟨Z,H1,U,rr,q1⟩=>?_) Y rfl;obtain⟨rfl,rfl⟩:=q1;obtain⟨u,rfl,ru⟩:=W0 rr;cases ru;obtain⟨lo,o,es,ep,k1,k2,k3,k4⟩:=yb U.hok e2;obtain⟨vr,vl⟩:=oj k4;have hl:es.size<=sizeLine:=by
  have z:es.toList.length=d.length:=by rw[<-vl,vr.length,xo]
  have y:es.size=es.toList.length:=rfl;omega
 refine AR (I.ok.hd hc) lo #[o,k1,k2,k3] hl fun h' tk c hk hS=>?_
 have M:=U.hok.fresh (iU s1.heap.objs.size);refine#[.ref s1.heap.objs.size,_,U.laid (t':=tk) (o:=.lst xs) (h':=h') hk (iU _) ?_,rfl,k _ _ _ fa O (B4 M) (X7 J M r1) M];exact#[by rw[vl];exact hz,_,c,vr,hS]]
end
def O8 (d:D):Option (List A6):=(qq d).map bp
def bF:D->Option (List (List A6))
 |.tup ds=>G5 O8 ds
 |_=>none
theorem pE:∀{ds:vD_}{q:List Int},eW ds=some q->aG ds=q.map hashInt
 |[],q,h=>by cases h;rfl
 |d::r,q,h=>by
  cases d with
  |int i=>
   refine F3 h fun B h1 h2=>?_
   subst h2;show hashInt i::aG r=_;rw[pE h1];rfl
  |_=>cases h
def HL {k:List A6}(h:O8 d=some k):∃ds q,d = .tup ds/\eW ds=some q/\k=bp q:=by
 refine F3 h fun q h1 h2=>?_
 cases d with
 |tup ds=>exact#[ds,q,rfl,h1,h2.symm]
 |_=>cases h1
def uZ {k:List A6}(h:O8 d=some k):(tupleKind (P1 X.prog X.w)).hash k=bG d:=by
 obtain⟨ds,q,rfl,h1,rfl⟩:=HL h;show reduceHash (Builtin.Tuple.tupleHashOf ((bp q).map _))=reduceHash (Builtin.Tuple.tupleHashOf (aG ds));rw[pE h1];unfold bp;rw[ML];rfl
def sZ {k:List A6}{x:V}(I:Inv X pins σ H s) (h:O8 d=some k) (r:Rep X.K N fa H d x):∃b,x = .ref b/\(tupleKind (P1 X.prog X.w)).is s.heap k b:=by
 refine F3 h fun q h1 h2=>?_
 subst h2;obtain⟨b,e,z⟩:=Ka h1 r;exact#[b,e,GU I z]
def xI:KDP X (tupleKind (P1 X.prog X.w)) O8:=
 #[fun h=>Pa ∅,fun h=>show _<_ by omega,sZ,uZ]
theorem oJ:∀{ds:vD_}{ks:List (List A6)},G5 O8 ds=some ks->aG ds=ks.map (tupleKind (P1 X.prog X.w)).hash
 |[],ks,h=>by cases h;rfl
 |d::r,ks,h=>by
  refine C8 h fun k h1 h=>F3 h fun B h2 J=>?_
  subst J;show bG d::aG r=_::_;rw[uZ (X:=X) h1,oJ h2]
def nG {k:List (List A6)}(h:bF d=some k):∃ds,d = .tup ds/\G5 O8 ds=some k:=by
 cases d with
 |tup ds=>exact#[ds,rfl,h]
 |_=>cases h
theorem tX (I:Inv X pins σ H s):∀{ds:vD_}{ks:List (List A6)}{xs:List V}{us:vV_},G5 O8 ds=some ks->Reps X.K N fa H ds xs->Vals xs us->RwA (tupleKind (P1 X.prog X.w)) s.heap ks us
 |[],ks,xs,us,h,r,v=>by
  cases h;simp only[Reps] at r;subst r;cases v;exact .nil
 |d::r',ks,xs,us,h,r,v=>by
  refine C8 h fun k h1 h=>F3 h fun J h2 M=>?_
  subst M;simp only[Reps] at r;obtain⟨x,ys,rfl,B,r⟩:=r;cases v with
  |cons a b=>
   obtain⟨c,rfl,z⟩:=sZ I h1 B;cases a;exact .cons z (tX I h2 r b)
def yI:KDP X (Er (P1 X.prog X.w)) bF:=by
 refine#[fun {A} h=>show A.units+1+1<cLine by omega,fun h=>show _+1<_ by omega,fun {pins σ H s N fa d k x} I h r=>?_,fun {d k} h=>?_]
 .obtain⟨ds,rfl,h⟩:=nG h;simp only[Rep] at r;obtain⟨a,xs,rfl,q,r⟩:=r;obtain⟨its,J,⟨o,h1,h2,n,B⟩,_⟩:=I.tuple q;exact#[a,rfl,o,its.toArray,n,h1,h2,B,by simpa using tX I h r J]
 .obtain⟨ds,rfl,h⟩:=nG h;show reduceHash (Builtin.Tuple.tupleHashOf (k.map _))=reduceHash (Builtin.Tuple.tupleHashOf (aG ds));rw[oJ (X:=X) h]
end DL
namespace DL
open PySem PySem.Spec L2
def v7 {K:vF_}{n:Str}{st:Stmt}{f:Addr}{w:World}{ps:List Str}{b:DM}(ls:List Str) (F:GF K mg n st f fd) (q:∀(kV doc pm:Value) (an:vA_) (cdv ct:Value) (us:vV_),us.length=ps.length->bindArgs (PySem.W.fnOf n n (Z2 st) (Q0 st) (D3 st) .none kV doc pm an cdv ct) #[us,[]]=pure (ps.zip us)) (S:FnScope (ps++ls) ps (D3 st))
  (B:(ps++ls).Nodup->∀(cdv:Value) (A:Around) (outer:List Env) (s:Shared) (H:Hp) (E:XK) (g:Gh),Room k (A.deeper (PyProof.Rows.envOfC n (D3 st) s.heap.objs.size f cdv))->SSO (X6 V0 P w K mg base (ps++ls) n (D3 st) f cdv A outer s H E).nox g (Q0 st) b) :
  Cal P w K mg base (k+1) n ps (o8 (ps++ls).length b):=oC F q S (B S.nd)
end DL
namespace T
open PySem PySem.Spec L2 DL
abbrev Ai:DM:=(d6 (f7 (a7 B8 (dL 2) (dL 3)) (d5 4)) (d6 (f7 (dV 3) (d5 2)) (f7 (dV 4) (d5 3))))
def iD:DM:=(d6 (f7 (j7 (one X5) (a0 (dL 0) b9)) (d5 2)) (d6 (f7 (j7 (one X5) (a0 (dL 1) b9)) (d5 3)) (d6 (N8 (dB (a7 F9 (dL 3) (k0 0))) (Ai)) (i8 (dV 2)))))
def T3:a8:=o8 5 (iD)
abbrev eM (m0n:a8):DM:=(f7 (d4 m0n (a0 (dV 1) (a0 (dV 2) b9))) (d5 1))
def iY (B:a8):DM:=(d6 (f7 (k0 0) (d5 1)) (d6 (J4 (dV 0) (d5 2) (eM B)) (i8 (dV 1))))
def cO (B:a8):a8:=o8 3 (iY B)
def kz (B:a8):DM:=(d6 (f7 (d4 B (a0 (dV 0) b9)) (d5 1)) (d6 (l5 (dB (a7 (n8 (fun i j=>decide (i<j))) (a7 d3 (dL 0) (t9 u5 (k0 1))) (k0 0))) (f7 (t9 u5 (dL 1)) (d5 1)) n9) (i8 (j7 (one dX) (a0 (o7 (E7 [1] (F6 (dV 0)) D5 (a7 G8 (dL 0) (dL 1)))) b9)))))
def ve (B:a8):a8:=o8 2 (kz B)
def dY:DM:=(d6 (f7 (a7 j6 (Qn 0 0) (Qn 1 2)) (d5 2)) (d6 (f7 (a7 j6 (Qn 1 0) (Qn 0 2)) (d5 3)) (d6 (l5 (dB (a7 F9 (dL 2) (dL 3))) (i8 (a7 (n8 (fun i j=>decide (i<j))) (dL 2) (dL 3))) n9) (i8 (a7 (n8 (fun i j=>decide (i<j))) (a7 j6 (Qn 0 1) (Qn 1 2)) (a7 j6 (Qn 1 1) (Qn 0 2)))))))
def E3:a8:=o8 4 (dY)
def ck:DM:=(d6 (l5 (dB (a7 (n8 (fun i j=>decide (j<i))) (dL 0) (k0 0))) (i8 (k0 1)) n9) (d6 (l5 (dB (a7 (n8 (fun i j=>decide (i<j))) (dL 0) (k0 0))) (i8 (t9 u5 (k0 1))) n9) (i8 (k0 0))))
def mh:a8:=o8 1 (ck)
def dM (J:a8) (B:a8):DM:=(d6 (l5 (dB (a7 (n8 (fun i j=>decide (i<j))) (j7 (one l7) (a0 (dL 0) b9)) (k0 2))) (i8 (o7 (W9 (one nL) (a0 (dL 0) b9)))) n9) (d6 (f7 (a7 G8 (j7 (one l7) (a0 (dL 0) b9)) (k0 2)) (d5 2)) (i8 (d4 J (a0 (d4 B (a0 (D8 (dL 0) K0 (K1 (dL 2))) (a0 (dV 1) b9))) (a0 (d4 B (a0 (D8 (dL 0) (K1 (dL 2)) K0) (a0 (dV 1) b9))) (a0 (dV 1) b9)))))))
def fj (B:a8):Nat->a8
 |0=>fun _ _=>none
 |n+1=>o8 3 (dM B (fj B n))
def bx:DM:=(d6 (l5 (j8 (dL 1)) (i8 (o7 (W9 aM (a0 (dL 0) (a0 (a7 j4 (D8 (dL 0) (K1 (k0 1)) K0) (D8 (dL 0) K0 (K1 (k0 1)))) b9))))) n9) (i8 (o7 (W9 aM (a0 (dL 0) (a0 (D8 (dL 0) (K1 (k0 1)) K0) b9))))))
def U9:a8:=o8 2 (bx)
abbrev Ez:DM:=(w5 0 1 (a0 (dV 1) (a0 (a7 B8 (dL 0) (dL 1)) b9)))
def kB:DM:=(d6 (w5 0 1 (a0 (j7 (one X5) (a0 (dL 0) b9)) (a0 (j7 (one X5) (a0 (dL 1) b9)) b9))) (d6 (N8 (dB (a7 (n8 (fun i j=>decide (j<i))) (dL 1) (k0 0))) (Ez)) (i8 (dV 0))))
def Dw:a8:=o8 2 (kB)
def mF:DM:=(i8 (iI 0))
def cS:a8:=o8 1 (mF)
def aH:DM:=(d6 (R0 0 3 (a7 j4 (B7 0 3) (k0 1))) (d6 (l5 (dB (a7 (n8 (fun i j=>decide (j<i))) (B7 0 2) (k0 0))) (d6 (f7 (a7 B8 (B7 0 2) (dL 1)) (d5 2)) (d6 (R0 0 2 (a7 G8 (B7 0 2) (dL 1))) (i8 (dV 2)))) n9) (d6 (f7 (B7 0 1) (d5 3)) (d6 (R0 0 1 (a7 j4 (dL 3) (k0 1))) (d6 (f7 (a7 d3 (B7 0 0) (a7 B8 (dL 3) (j7 (one l7) (a0 (B7 0 0) b9)))) (d5 4)) (d6 (l5 (r0 (dB (a7 (n8 (fun i j=>decide (j<=i))) (dL 4) (a7 bh (k0 10) (k0 18)))) (dB (a7 (n8 (fun i j=>decide (i<j))) (dL 3) (j7 (one l7) (a0 (B7 0 0) b9))))) (d6 (R0 0 2 (a7 G8 (dL 4) (dL 1))) (i8 (a7 B8 (dL 4) (dL 1)))) n9) (d6 (f7 (a7 B8 (a7 j4 (a7 j4 (a7 j6 (a7 B8 (dL 4) (k0 1000003)) (k0 48271)) (a7 j6 (k0 7919) (B7 0 3))) (k0 104729)) (k0 2147483647)) (d5 5)) (d6 (f7 (a7 B8 (a7 j4 (a7 j4 (a7 j6 (a7 G8 (dL 5) (k0 64)) (k0 69621)) (a7 j6 (a7 j6 (k0 31) (B7 0 3)) (B7 0 3))) (dL 3)) (k0 2147483587)) (d5 5)) (i8 (a7 B8 (a7 G8 (dL 5) (k0 64)) (dL 1)))))))))))
def tH:a8:=o8 6 (aH)
abbrev Ho:DM:=(w5 0 1 (a0 (dV 1) (a0 (a7 B8 (dL 0) (dL 1)) b9)))
def qJ:DM:=(d6 (w5 0 1 (a0 (j7 (one X5) (a0 (dL 0) b9)) (a0 (j7 (one X5) (a0 (dL 1) b9)) b9))) (d6 (N8 (dB (a7 (n8 (fun i j=>decide (j<i))) (dL 1) (k0 0))) (Ho)) (i8 (dV 0))))
def jb:a8:=o8 2 (qJ)
def iE (B:a8):DM:=(d6 (f7 (d4 B (a0 (d4 B (a0 (dV 0) (a0 (dV 1) b9))) (a0 (dV 2) b9))) (d5 3)) (d6 (l5 (dB (a7 (n8 (fun i j=>decide (i<j))) (dL 2) (k0 0))) (f7 (a7 t7 (k0 0) (dL 3)) (d5 3)) n9) (i8 (f9 (a0 (a7 G8 (dL 0) (dL 3)) (a0 (a7 G8 (dL 1) (dL 3)) (a0 (a7 G8 (dL 2) (dL 3)) b9)))))))
def xJ (B:a8):a8:=o8 4 (iE B)
def gR (B:a8):DM:=(i8 (d4 B (a0 (dV 0) (a0 (dC (.bl true)) b9))))
def ux (B:a8):a8:=o8 1 (gR B)
def jB:DM:=(i8 (o7 (E7 [0] (de (a0 (j7 (one l7) (a0 (dL 0) b9)) b9)) D5 (f9 (a0 (a7 d3 (dL 1) (dL 0)) (a0 (a7 d3 (dL 1) (a7 B8 (a7 j4 (dL 0) (k0 1)) (j7 (one l7) (a0 (dL 1) b9)))) b9))))))
def N2:a8:=o8 1 (jB)
def gn:DM:=(d6 (f7 (a7 j6 (Qn 0 0) (a7 t7 (a7 j6 (Qn 1 1) (Qn 2 2)) (a7 j6 (Qn 1 2) (Qn 2 1)))) (d5 3)) (d6 (f7 (a7 j6 (Qn 0 1) (a7 t7 (a7 j6 (Qn 1 0) (Qn 2 2)) (a7 j6 (Qn 1 2) (Qn 2 0)))) (d5 4)) (i8 (a7 j4 (a7 t7 (dL 3) (dL 4)) (a7 j6 (Qn 0 2) (a7 t7 (a7 j6 (Qn 1 0) (Qn 2 1)) (a7 j6 (Qn 1 1) (Qn 2 0))))))))
def S4:a8:=o8 5 (gn)
def iA (B:a8):DM:=(d6 (f7 (a7 j4 (a7 j6 (Qn 0 0) (Qn 1 2)) (a7 j6 (Qn 1 0) (Qn 0 2))) (d5 2)) (i8 (d4 B (a0 (dV 2) (a0 (a7 j4 (a7 j6 (Qn 0 1) (Qn 1 2)) (a7 j6 (Qn 1 1) (Qn 0 2))) (a0 (a7 j6 (a7 j6 (k0 2) (Qn 0 2)) (Qn 1 2)) b9))))))
def wY (B:a8):a8:=o8 3 (iA B)
def kA (B:a8):DM:=(i8 (A5 (j8 (d4 B (a0 (dV 0) (a0 (dV 1) b9)))) (f9 (a0 (dV 0) (a0 (dV 1) b9))) (f9 (a0 (dV 1) (a0 (dV 0) b9)))))
def hV (B:a8):a8:=o8 2 (kA B)
def gY:DM:=(d6 (f7 (a7 t7 (a7 j6 (Qn 0 0) (Qn 1 2)) (a7 j6 (Qn 1 0) (Qn 0 2))) (d5 2)) (i8 (D1 (a7 (n8 (fun i j=>decide (i<j))) (dL 2) (k0 0)) (C9 (a7 B3 (dL 2) (k0 0)) (a7 (n8 (fun i j=>decide (i<j))) (a7 j6 (Qn 0 1) (Qn 1 2)) (a7 j6 (Qn 1 1) (Qn 0 2)))))))
def F5:a8:=o8 3 (gY)
def eI (m00:a8) (m02:a8):DM:=(d6 (l5 (dB (a7 F9 (d4 m02 (a0 (dV 0) (a0 (dV 1) (a0 (dV 2) b9)))) (k0 0))) (i8 (dC (.bl false))) n9) (d6 (f7 (A5 (j8 (d4 m00 (a0 (dV 0) (a0 (dV 1) b9)))) (f9 (a0 (dV 0) (a0 (dV 1) b9))) (f9 (a0 (dV 1) (a0 (dV 0) b9)))) (t6 2 (k6 (d5 3) (k6 (d5 4) u3)))) (i8 (C9 (C5 (d4 m00 (a0 (dV 2) (a0 (dV 3) b9)))) (C5 (d4 m00 (a0 (dV 4) (a0 (dV 2) b9))))))))
def cy (m00:a8) (m02:a8):a8:=o8 5 (eI m00 m02)
def xv:DM:=(i8 (f9 (a0 (a7 t7 (a7 j6 (Qn 0 1) (Qn 1 2)) (a7 j6 (Qn 0 2) (Qn 1 1))) (a0 (a7 t7 (a7 j6 (Qn 0 2) (Qn 1 0)) (a7 j6 (Qn 0 0) (Qn 1 2))) (a0 (a7 t7 (a7 j6 (Qn 0 0) (Qn 1 1)) (a7 j6 (Qn 0 1) (Qn 1 0))) b9)))))
def gQ:a8:=o8 2 (xv)
def tQ (B:a8):DM:=(i8 (d4 B (a0 (dV 0) (a0 (dV 1) b9))))
def nH (B:a8):a8:=o8 2 (tQ B)
def vO (B:a8):DM:=(i8 (d4 B (a0 (a7 j4 (a7 j4 (a7 j6 (Qn 0 0) (Qn 1 0)) (a7 j6 (Qn 0 1) (Qn 1 1))) (a7 j6 (Qn 0 2) (Qn 1 2))) b9)))
def pD (B:a8):a8:=o8 2 (vO B)
def oA (B:a8) (J:a8):DM:=(i8 (d4 B (a0 (d4 J (a0 (dV 0) (a0 (dV 1) b9))) b9)))
def rn (B:a8) (J:a8):a8:=o8 2 (oA B J)
def gJ (B:a8):DM:=(d6 (C1 1 (r8 (a0 (f9 (a0 (k0 1) (a0 (k0 0) (a0 (k0 0) (a0 (k0 1) b9))))) (a0 (f9 (a0 (k0 1) (a0 (t9 u5 (k0 1)) (a0 (k0 1) (a0 (k0 1) b9))))) (a0 (f9 (a0 (k0 3) (a0 (t9 u5 (k0 4)) (a0 (k0 4) (a0 (k0 3) b9))))) (a0 (f9 (a0 (k0 1) (a0 (k0 1) (a0 (k0 0) (a0 (k0 1) b9))))) (a0 (f9 (a0 (k0 0) (a0 (t9 u5 (k0 1)) (a0 (k0 1) (a0 (k0 0) b9))))) (a0 (f9 (a0 (k0 2) (a0 (k0 1) (a0 (k0 1) (a0 (k0 1) b9))))) b9)))))))) (d6 (f7 (a7 d3 (dL 1) (d4 B (a0 (dV 0) (a0 (k0 6) b9)))) (d5 2)) (d6 (f7 (a7 t7 (d4 B (a0 (dV 0) (a0 (k0 19) b9))) (k0 9)) (d5 3)) (d6 (f7 (a7 t7 (d4 B (a0 (dV 0) (a0 (k0 19) b9))) (k0 9)) (d5 4)) (i8 (a7 j4 (dL 2) (f9 (a0 (dV 3) (a0 (dV 4) (a0 (a7 d3 (o7 (r8 (a0 (k0 1) (a0 (k0 2) (a0 (k0 3) (a0 (k0 7) b9)))))) (d4 B (a0 (dV 0) (a0 (k0 4) b9)))) b9))))))))))
def uI (B:a8):a8:=o8 5 (gJ B)
def gC (B:a8):DM:=(d6 (f7 (a7 j4 (a7 j4 (a7 j6 (Qn 0 0) (dL 1)) (a7 j6 (Qn 0 1) (dL 2))) (Qn 0 4)) (d5 3)) (i8 (d4 B (a0 (dV 3) (a0 (a7 j4 (a7 j4 (a7 j6 (Qn 0 2) (dL 1)) (a7 j6 (Qn 0 3) (dL 2))) (Qn 0 5)) (a0 (Qn 0 6) b9))))))
def vE (B:a8):a8:=o8 4 (gC B)
def gA (B:a8):DM:=(d6 (w5 1 2 (a0 (a7 j4 (k0 1) (d4 B (a0 (dV 0) (a0 (k0 4) b9)))) (a0 (a7 j4 (k0 1) (d4 B (a0 (dV 0) (a0 (k0 4) b9)))) b9))) (d6 (C1 3 (r8 (a0 (f9 (a0 (f9 (a0 (k0 0) (a0 (k0 0) b9))) (a0 (f9 (a0 (dV 1) (a0 (k0 0) b9))) (a0 (f9 (a0 (dV 1) (a0 (dV 2) b9))) (a0 (f9 (a0 (k0 0) (a0 (dV 2) b9))) b9))))) (a0 (f9 (a0 (f9 (a0 (k0 0) (a0 (k0 0) b9))) (a0 (f9 (a0 (dV 1) (a0 (k0 0) b9))) (a0 (f9 (a0 (k0 0) (a0 (dV 2) b9))) b9)))) (a0 (f9 (a0 (f9 (a0 (k0 0) (a0 (k0 0) b9))) (a0 (f9 (a0 (dV 1) (a0 (k0 0) b9))) (a0 (f9 (a0 (dV 1) (a0 (dV 2) b9))) b9)))) b9))))) (d6 (C1 3 (dS km (dL 3) (o7 (r8 (a0 (f9 (a0 (f9 (a0 (k0 0) (a0 (k0 0) b9))) (a0 (f9 (a0 (dV 1) (a0 (dV 2) b9))) (a0 (f9 (a0 (k0 0) (a0 (dV 2) b9))) b9)))) (a0 (f9 (a0 (f9 (a0 (k0 0) (a0 (k0 0) b9))) (a0 (f9 (a0 (a7 j4 (dL 1) (k0 1)) (a0 (k0 1) b9))) (a0 (f9 (a0 (k0 1) (a0 (a7 j4 (dL 2) (k0 1)) b9))) b9)))) (a0 (f9 (a0 (f9 (a0 (k0 0) (a0 (k0 0) b9))) (a0 (f9 (a0 (dV 1) (a0 (k0 0) b9))) (a0 (f9 (a0 (dV 1) (a0 (dV 2) b9))) (a0 (f9 (a0 (k0 0) (a0 (dV 2) b9))) b9))))) b9))))))) (d6 (J2 3 (f9 (a0 (f9 (a0 (k0 0) (a0 (dV 2) b9))) (a0 (f9 (a0 (dV 1) (a0 (k0 0) b9))) (a0 (f9 (a0 (a7 j6 (k0 2) (dL 1)) (a0 (dV 2) b9))) (a0 (f9 (a0 (dV 1) (a0 (a7 j6 (k0 2) (dL 2)) b9))) b9)))))) (d6 (J2 3 (f9 (a0 (f9 (a0 (k0 0) (a0 (k0 1) b9))) (a0 (f9 (a0 (k0 1) (a0 (k0 0) b9))) (a0 (f9 (a0 (a7 j4 (dL 1) (k0 1)) (a0 (k0 0) b9))) (a0 (f9 (a0 (a7 j4 (dL 1) (k0 2)) (a0 (k0 1) b9))) (a0 (f9 (a0 (a7 j4 (dL 1) (k0 1)) (a0 (k0 2) b9))) (a0 (f9 (a0 (k0 1) (a0 (k0 2) b9))) b9)))))))) (i8 (a7 d3 (dL 3) (d4 B (a0 (dV 0) (a0 (k0 8) b9))))))))))
def sj (B:a8):a8:=o8 4 (gA B)
abbrev pz (m00:a8):DM:=(l5 (j8 (d4 m00 (a0 (a7 d3 (dL 0) (dL 2)) (a0 (a7 d3 (dL 0) (dL 1)) b9)))) (f7 (dV 2) (d5 1)) n9)
def gG (m00:a8):DM:=(d6 (f7 (k0 0) (d5 1)) (d6 (bB (a0 (j7 (one l7) (a0 (dL 0) b9)) b9) (d5 2) (pz m00)) (i8 (j7 (one dX) (a0 (a7 j4 (D8 (dL 0) (K1 (dL 1)) K0) (D8 (dL 0) K0 (K1 (dL 1)))) b9)))))
def sk (m00:a8):a8:=o8 3 (gG m00)
abbrev bZ (m01:a8) (m0o:a8) (m0p:a8) (m0q:a8):DM:=(d6 (f7 (f9 (a0 (a7 j4 (dL 3) (d4 m01 (a0 (dV 0) (a0 (k0 6) b9)))) (a0 (d4 m01 (a0 (dV 0) (a0 (k0 6) b9))) b9))) (t6 2 (k6 (d5 6) (k6 (d5 7) u3)))) (d6 (C1 8 (V3 [1,6,7] (F6 (d4 m0p (a0 (dV 0) b9))) D5 (d4 m0q (a0 (dV 2) (a0 (a7 j4 (dL 0) (dL 3)) (a0 (a7 j4 (dL 1) (dL 4)) b9)))))) (l5 (r0 (dB (a7 F9 (dL 4) (o7 (r8 b9)))) (dB (a7 B3 (d4 m01 (a0 (dV 0) (a0 (k0 9) b9))) (k0 0)))) (J2 4 (Qn 4 0)) (J2 4 (d4 m0o (a0 (dV 8) b9))))))
def mz (B:a8) (M:a8) (U:a8) (J:a8):DM:=(d6 (C1 4 (r8 b9)) (d6 (bB (a0 (a7 j4 (k0 1) (d4 B (a0 (dV 0) (a0 (dV 2) b9)))) b9) (d5 5) (bZ B M U J)) (i8 (j7 (one dX) (a0 (dL 4) b9)))))
def wZ (M:a8) (J:a8) (U:a8) (B:a8):a8:=o8 9 (mz M J U B)
def lY (B:a8) (m02:a8):DM:=(i8 (a7 (n8 (fun i j=>decide (j<=i))) (j7 (one mi) (a0 (o7 (V3 [1] (F6 (d4 B (a0 (dV 0) b9))) D5 (d4 m02 (a0 (dV 0) (a0 (dV 1) (a0 (dV 2) b9)))))) b9)) (k0 0)))
def uE (B:a8) (m02:a8):a8:=o8 2 (lY B m02)
def mU (B:a8):DM:=(i8 (a7 W7 (dC (.bl true)) (o7 (E7 [1] (F6 (dV 0)) D5 (d4 B (a0 (dV 0) (a0 (dV 1) b9)))))))
def xE (B:a8):a8:=o8 2 (mU B)
def fS (B:a8) (m02:a8):DM:=(d6 (w5 4 5 (a0 (d4 m02 (a0 (dV 0) (a0 (dV 1) (a0 (dV 2) b9)))) (a0 (d4 m02 (a0 (dV 0) (a0 (dV 1) (a0 (dV 3) b9)))) b9))) (d6 (f7 (a7 t7 (a7 j6 (dL 5) (Qn 2 0)) (a7 j6 (dL 4) (Qn 3 0))) (d5 6)) (i8 (d4 B (a0 (dV 6) (a0 (a7 t7 (a7 j6 (dL 5) (Qn 2 1)) (a7 j6 (dL 4) (Qn 3 1))) (a0 (a7 t7 (a7 j6 (dL 5) (Qn 2 2)) (a7 j6 (dL 4) (Qn 3 2))) b9)))))))
def kO (B:a8) (m02:a8):a8:=o8 7 (fS B m02)
abbrev yh (mt:a8):DM:=(l5 (dB (a7 F9 (dL 2) (dL 3))) (i8 (d4 mt (a0 (dV 2) (a0 (dV 3) b9)))) n9)
def lU (B:a8):DM:=(d6 (bj (a0 (dV 0) (a0 (dV 1) b9)) (t6 2 (k6 (d5 2) (k6 (d5 3) u3))) (yh B)) (i8 (a7 (n8 (fun i j=>decide (i<j))) (j7 (one l7) (a0 (dL 0) b9)) (j7 (one l7) (a0 (dL 1) b9)))))
def uN (B:a8):a8:=o8 4 (lU B)
abbrev kI (mt:a8) (m0i:a8):DM:=(d6 (J2 3 (a7 d3 (dL 1) (dL 4))) (f7 (a7 j4 (dL 4) (k0 1)) (d5 4)))
abbrev lj (mt:a8) (m0i:a8):DM:=(d6 (N8 (r0 (dB (a7 (n8 (fun i j=>decide (i<j))) (dL 4) (j7 (one l7) (a0 (dL 1) b9)))) (j8 (X9 2 [("is_lesser",mt),("row_goes_ahead",m0i)] (a0 (a7 d3 (dL 1) (dL 4)) (a0 (dV 5) b9))))) (kI mt m0i)) (J2 3 (dV 5)))
def lP (J:a8) (B:a8):DM:=(d6 (C1 3 (r8 b9)) (d6 (f7 (k0 0) (d5 4)) (d6 (J4 (dV 0) (d5 5) (lj J B)) (i8 (a7 j4 (dL 3) (D8 (dL 1) (K1 (dL 4)) K0))))))
def dh (J:a8) (B:a8):a8:=o8 6 (lP J B)
abbrev dW (m0r:a8) (m06:a8):DM:=(l5 (dB (a7 B3 (dL 5) (k0 0))) (J2 3 (a7 d3 (dL 1) (dL 4))) (l5 (dB (a7 B3 (a7 j4 (dL 5) (a7 d3 (dL 2) (a7 t7 (dL 4) (k0 1)))) (k0 0))) (J2 3 (d4 m0r (a0 (dV 0) (a0 (d4 m06 (a0 (a7 d3 (dL 1) (a7 t7 (dL 4) (k0 1))) (a0 (a7 d3 (dL 1) (dL 4)) b9))) b9)))) n9))
def lB (B:a8) (J:a8):DM:=(d6 (C1 3 (r8 b9)) (d6 (dt (a0 (dV 2) b9) (t6 2 (k6 (d5 4) (k6 (d5 5) u3))) (dW B J)) (i8 (dV 3))))
def vK (B:a8) (J:a8):a8:=o8 6 (lB B J)
abbrev tL (mt:a8):DM:=(l5 (r0 (u9 (j8 (d4 mt (a0 (Qn 0 0) (a0 (dV 2) b9))))) (u9 (j8 (d4 mt (a0 (dV 3) (a0 (Qn 0 1) b9)))))) (i8 (dC (.bl true))) n9)
def gM (B:a8):DM:=(d6 (J4 (dV 1) (t6 2 (k6 (d5 2) (k6 (d5 3) u3))) (tL B)) (i8 (dC (.bl false))))
def wG (B:a8):a8:=o8 4 (gM B)
abbrev tP (m0j:a8) (m07:a8) (m03:a8) (m0h:a8) (mt:a8) (m0k:a8) (m0l:a8) (m06:a8):DM:=(l5 (r0 (j8 (d4 mt (a0 (Qn 3 0) (a0 (dV 10) b9)))) (j8 (d4 mt (a0 (dV 10) (a0 (Qn 3 1) b9))))) (eG O8 5 10) n9)
abbrev gN (m0j:a8) (m07:a8) (m03:a8) (m0h:a8) (mt:a8) (m0k:a8) (m0l:a8) (m06:a8):DM:=(d6 (C1 8 (E7 [4] (F6 (dV 7)) D5 (d4 m0l (a0 (dV 1) (a0 (dV 0) b9))))) (d6 (f7 (d4 m0k (a0 (dV 4) (a0 (dV 7) (a0 (dV 8) b9)))) (d5 9)) (d6 (J4 (dV 9) (d5 10) (tP m0j m07 m03 m0h mt m0k m0l m06)) (l5 (r0 (dB (a7 B3 (j7 (one l7) (a0 (dL 9) b9)) (k0 2))) (dB (a7 W7 (t9 u5 (k0 1)) (dL 8)))) (J2 6 (d4 m0h (a0 (Qn 9 0) (a0 (Qn 9 1) b9)))) n9))))
def lq (U:a8) (B:a8) (J:a8) (M:a8) (mt:a8) (Y:a8) (Z:a8) (W:a8):DM:=(d6 (f7 (d4 M (a0 (dV 0) (a0 (dV 1) b9))) (d5 3)) (d6 (f7 (d4 W (a0 (dV 0) (a0 (dV 1) b9))) (d5 4)) (d6 (bC O8 5 0 1) (d6 (C1 6 (r8 b9)) (d6 (J4 (dV 2) (d5 7) (gN U B J M mt Y Z W)) (d6 (f7 (d4 B (a0 (d4 J (a0 (o7 (aL 5)) (a0 (dC (.fn "is_lesser")) b9))) (a0 (dC (.bl false)) b9))) (d5 11)) (d6 (C1 12 (iB [6] (E7 [6] (F6 (dV 11)) (u9 (j8 (d4 U (a0 (dV 0) (a0 (dV 1) b9))))) (dV 0)))) (d6 (l5 (dB (a7 B3 (Qn 3 0) (dL 0))) (i8 (dV 12)) n9) (i8 (o7 (V3 [] (F6 (dV 12)) D5 (f9 (a0 (dV 1) (a0 (dV 0) b9))))))))))))))
def qN (Y:a8) (B:a8) (U:a8) (W:a8) (mt:a8) (J:a8) (M:a8) (Z:a8):a8:=o8 13 (lq Y B U W mt J M Z)
abbrev jO (m03:a8) (m0f:a8) (m0g:a8):DM:=(eG bF 1 5)
abbrev kv (m03:a8) (m0f:a8) (m0g:a8):DM:=(J4 (d4 m0f (a0 (dV 3) (a0 (dV 4) (a0 (dV 0) b9)))) (d5 5) (jO m03 m0f m0g))
abbrev kX (m03:a8) (m0f:a8) (m0g:a8):DM:=(J4 (d4 m0g (a0 (dV 2) b9)) (t6 2 (k6 (d5 3) (k6 (d5 4) u3))) (kv m03 m0f m0g))
def md (B:a8) (J:a8) (M:a8):DM:=(d6 (mI 1) (d6 (J4 (dV 0) (d5 2) (kX B J M)) (i8 (d4 B (a0 (o7 (aL 1)) (a0 (dC (.fn "row_goes_ahead")) b9))))))
def sO (J:a8) (B:a8) (M:a8):a8:=o8 6 (md J B M)
abbrev iw (m00:a8):DM:=(d6 (C1 4 (E7 [2,3] (F6 (dL 1)) (A3 (j8 (d4 m00 (a0 (Qn 0 0) (a0 (dV 1) b9)))) (r0 (dB (a7 B3 (Qn 0 0) (dL 1))) (j8 (d4 m00 (a0 (Qn 0 1) (a0 (dV 2) b9)))))) (dV 0))) (bO 1 (a0 (j7 (one l7) (a0 (dL 4) b9)) (a0 (f9 (a0 (dV 2) (a0 (dV 3) b9))) b9))))
def lR (m00:a8):DM:=(d6 (C1 1 (r8 b9)) (d6 (J4 (dV 0) (t6 2 (k6 (d5 2) (k6 (d5 3) u3))) (iw m00)) (i8 (dV 1))))
def oU (m00:a8):a8:=o8 5 (lR m00)
abbrev jx (m00:a8):DM:=(l5 (dB (a7 cD (dL 4) (dL 3))) (bO 3 (a0 (j7 (one l7) (a0 (o7 (E7 [4] (F6 (dL 3)) (j8 (d4 m00 (a0 (dV 0) (a0 (dV 1) b9)))) (dV 0))) b9)) (a0 (dV 4) b9))) n9)
def nk (m00:a8):DM:=(d6 (C1 3 (r8 b9)) (d6 (J4 (dV 2) (d5 4) (jx m00)) (i8 (A5 (j8 (d4 m00 (a0 (dV 0) (a0 (dV 1) b9)))) (dV 3) (iJ (dL 3) (t9 u5 (k0 1)))))))
def og (m00:a8):a8:=o8 5 (nk m00)
def fW:DM:=(d6 (f7 (a7 bh (k0 10) (k0 60)) (d5 4)) (d6 (f7 (a7 t7 (a7 j6 (Qn 1 0) (Qn 0 2)) (a7 j6 (Qn 0 0) (Qn 1 2))) (d5 5)) (d6 (f7 (a7 t7 (a7 j6 (Qn 1 1) (Qn 0 2)) (a7 j6 (Qn 0 1) (Qn 1 2))) (d5 6)) (i8 (f9 (a0 (a7 t7 (a7 j6 (Qn 2 0) (dL 4)) (a7 j6 (a7 j6 (dL 3) (dL 6)) (Qn 2 2))) (a0 (a7 j4 (a7 j6 (Qn 2 1) (dL 4)) (a7 j6 (a7 j6 (dL 3) (dL 5)) (Qn 2 2))) (a0 (a7 j6 (Qn 2 2) (dL 4)) b9))))))))
def R5:a8:=o8 7 (fW)
def kN (B:a8) (J:a8) (m02:a8):DM:=(d6 (w5 4 5 (a0 (d4 m02 (a0 (dV 0) (a0 (dV 1) (a0 (dV 2) b9)))) (a0 (d4 m02 (a0 (dV 0) (a0 (dV 1) (a0 (dV 3) b9)))) b9))) (d6 (l5 (r0 (dB (a7 B3 (dL 4) (k0 0))) (dB (a7 B3 (dL 5) (k0 0)))) (i8 (o7 (E7 [0,1] (F6 (f9 (a0 (dV 2) (a0 (dV 3) b9)))) (j8 (d4 B (a0 (dV 1) (a0 (dV 2) (a0 (dV 0) b9))))) (dV 0)))) n9) (d6 (l5 (dB (a7 (n8 (fun i j=>decide (j<i))) (a7 j6 (dL 4) (dL 5)) (k0 0))) (i8 (o7 (r8 b9))) n9) (d6 (f7 (d4 J (a0 (dV 0) (a0 (dV 1) (a0 (dV 2) (a0 (dV 3) b9))))) (d5 6)) (i8 (A5 (j8 (d4 B (a0 (dV 0) (a0 (dV 1) (a0 (dV 6) b9))))) (o7 (r8 (a0 (dV 6) b9))) (o7 (r8 b9))))))))
def rT (J:a8) (B:a8) (m02:a8):a8:=o8 7 (kN J B m02)
abbrev qU (m08:a8) (m09:a8) (m0a:a8) (m0b:a8) (m0c:a8) (m0d:a8) (m04:a8):DM:=(eE 6 (a0 (d4 m0d (a0 (dV 4) (a0 (dV 5) (a0 (dV 8) (a0 (dV 9) b9))))) b9))
abbrev sY (m08:a8) (m09:a8) (m0a:a8) (m0b:a8) (m0c:a8) (m0d:a8) (m04:a8):DM:=(J4 (d4 m04 (a0 (dV 7) b9)) (t6 2 (k6 (d5 8) (k6 (d5 9) u3))) (qU m08 m09 m0a m0b m0c m0d m04))
abbrev gy (m08:a8) (m09:a8) (m0a:a8) (m0b:a8) (m0c:a8) (m0d:a8) (m04:a8):DM:=(d6 (f7 (d4 m0a (a0 (dV 4) (a0 (dV 5) (a0 (d4 m0b (a0 (dV 10) (a0 (dV 11) b9))) (a0 (t9 u5 (k0 1)) b9))))) (d5 12)) (l5 (r0 (u9 (j8 (d4 m09 (a0 (dV 3) (a0 (dV 12) b9))))) (dB (a7 cD (f9 (a0 (dV 10) (a0 (dV 11) b9))) (dL 1)))) (J2 1 (f9 (a0 (dV 10) (a0 (dV 11) b9)))) n9))
abbrev iZ (m08:a8) (m09:a8) (m0a:a8) (m0b:a8) (m0c:a8) (m0d:a8) (m04:a8):DM:=(d6 (C1 6 (r8 (a0 (dV 4) (a0 (dV 5) b9)))) (d6 (J4 (dV 3) (d5 7) (sY m08 m09 m0a m0b m0c m0d m04)) (d6 (f7 (d4 m0c (a0 (dV 4) (a0 (dV 5) (a0 (dV 6) b9)))) (d5 6)) (bj (a0 (dV 6) (a0 (D8 (dL 6) (K1 (k0 1)) K0) b9)) (t6 2 (k6 (d5 10) (k6 (d5 11) u3))) (gy m08 m09 m0a m0b m0c m0d m04)))))
abbrev gw (m08:a8) (m09:a8) (m0a:a8) (m0b:a8) (m0c:a8) (m0d:a8) (m04:a8):DM:=(d6 (f7 (a7 j4 (D8 (dL 0) K0 (K1 (dL 2))) (D8 (dL 0) (K1 (a7 j4 (dL 2) (k0 1))) K0)) (d5 3)) (J4 (d4 m04 (a0 (a7 d3 (dL 0) (dL 2)) b9)) (t6 2 (k6 (d5 4) (k6 (d5 5) u3))) (iZ m08 m09 m0a m0b m0c m0d m04)))
def lh (B:a8) (U:a8) (Y:a8) (W:a8) (Z:a8) (M:a8) (J:a8):DM:=(d6 (C1 1 (r8 b9)) (d6 (bB (a0 (j7 (one l7) (a0 (dL 0) b9)) b9) (d5 2) (gw B U Y W Z M J)) (i8 (d4 B (a0 (dV 1) b9)))))
def wV (W:a8) (M:a8) (Y:a8) (U:a8) (Z:a8) (J:a8) (B:a8):a8:=o8 13 (lh W M Y U Z J B)
abbrev lH (m0m:a8) (m0s:a8) (m0t:a8) (m0u:a8) (m0v:a8):DM:=(d6 (f7 (d4 m0t (a0 (dV 1) (a0 (d4 m0u (a0 (dV 1) b9)) (a0 (k0 3) (a0 (k0 0) b9))))) (d5 3)) (d6 (f7 (j7 (one S9) (a0 (dL 3) b9)) (d5 4)) (d6 (C1 5 (cX m0m (a0 (dV 3) b9))) (d6 (f7 (j7 (one S9) (a0 (d4 m0s (a0 (dV 3) b9)) b9)) (d5 6)) (d6 (l5 (A3 (u9 (j8 (t9 (rm "list") (dL 5)))) (A3 (dB (a7 F9 (j7 (one S9) (a0 (dL 5) b9)) (dL 6))) (dB (a7 F9 (j7 (one S9) (a0 (dL 3) b9)) (dL 4))))) (i8 (dC (.bl false))) n9) (d6 (kW 5) (l5 (r0 (dB (a7 B3 (dL 2) (k0 0))) (dB (a7 F9 (j7 (one S9) (a0 (d4 m0m (a0 (dV 3) b9)) b9)) (dL 6)))) (i8 (dC (.bl false))) n9)))))))
def jE (B:a8) (U:a8) (M:a8) (W:a8) (J:a8):DM:=(d6 (f7 (d4 J (a0 (dV 0) b9)) (d5 1)) (d6 (bB (a0 (k0 2) b9) (d5 2) (lH B U M W J)) (i8 (a7 B3 (d4 B (a0 (f9 b9) b9)) (o7 (r8 b9))))))
def jH (J:a8) (M:a8) (B:a8) (W:a8) (U:a8):a8:=o8 7 (jE J M B W U)
end T
namespace DL
open PySem L2
def eF (hk:0<k) (h:n<2 ^ k):n.log2<k:=by
 by_cases B:n=0
 .subst B;simpa using hk
 .exact(Nat.log2_lt B).mpr h
def gE {i:Int}(h:i.natAbs<2 ^ 200):A0 i=true:=by
 have:=eF #[] h;exact Kp ∅
def DR {j:Int}(B:j≠0) (h:j.natAbs<2 ^ 200):M4 j=true:=by
 have:=eF #[] h;unfold M4;rw[Kp B,MM];exact Kp ∅
def wU (i:Int):v3 (.int i)=true:=by simp[v3,D.plain,D.py,SeqAt.shaped,PyData.canLay0,PyData.depth]
def cJ (i j:Int):F9 (.int i) (.int j)=some (.bl (!decide (i=j))):=by
 simp only[F9,wU,Lw,KG,D.py,PyData.eqv,Nl]
def U0 (i j:Int):B3 (.int i) (.int j)=some (.bl (decide (i=j))):=by
 simp only[B3,wU,Lw,KG,D.py,PyData.eqv,Nl]
def BR (x y:Str):F9 (.str x) (.str y)=some (.bl (!decide (x=y))):=rfl
def HD {i:Int}(h:i.natAbs.log2<1920):(PySem.Str.ofString (toString i)).length<=1921:=PyProof.Rows.int_text_len_1921 h
def Fz (h:aD d=true):S9 d=some (.str d.py.shown):=by unfold S9;rw[gV h]
def jG {α:Type}{xs:List α}{i:Int}(B:0<=i) (h1:i<xs.length):v5 xs i=xs[i.toNat]?:=by
 unfold v5 P6;rw[gV B,gV h1];rfl
def ak {a b:Int}(h:0<b):0<=a.fmod b/\a.fmod b<b:=by
 rw[Ob a ∅];exact#[Int.emod_nonneg a ∅,Int.emod_lt_of_pos a h]
def B2 {a b:DM}{s:DS}(h:a s=some (.next,s1)):d6 a b s=b s1:=by simp[d6,h,A8]
def Z5 {a b:DM}{s:DS}(h:a s=some (.ret d,s1)):d6 a b s=some (.ret d,s1):=by simp[d6,h,A8]
def fQ {a:DA}{s:DS}{xs:vD_}{fs:vO_}(ha:a s=some (xs,s1)) (hm:m xs s1.fs=some (d,fs)):d4 m a s=some (d,{ s1 with fs:=fs }):=by
 unfold d4;rw[ha,xr,hm];rfl
def c7 {p:D->D->Option D}{a b:DE}{s:DS}{x y z:D}(h1:a s=some (x,s1)) (h2:b s1=some (y,s2)) (B:p x y=some z):a7 p a b s=some (z,s2):=by
 unfold a7;rw[h1,xr,h2,xr,B];rfl
def L0 {a:DE}{b:DA}{s:DS}{x:D}{xs:vD_}(h1:a s=some (x,s1)) (h2:b s1=some (xs,s2)):a0 a b s=some (x::xs,s2):=by
 unfold a0;rw[h1,xr,h2];rfl
def A7 {f:DE}{t:D->DS->Option DS}{s:DS}(h1:f s=some (d,s1)) (h2:t d s1=some s2):f7 f t s=some (.next,s2):=by
 unfold f7;rw[h1,xr,h2];rfl
def M6 {c:DT}{a b:DM}{s:DS}(h:c s=some (true,s1)):l5 c a b s=a s1:=by simp[l5,h]
def J0 {c:DT}{a b:DM}{s:DS}(h:c s=some (false,s1)):l5 c a b s=b s1:=by simp[l5,h]
def v8 {f:DE}{s:DS}(h:f s=some (d,s1)):i8 f s=some (.ret d,s1):=by simp[i8,h]
def Y5 {p:D->D->Option D}{a b:DE}{s:DS}{x y:D}(h1:a s=some (x,s1)) (h2:b s1=some (y,s2)) (B:p x y=some d):a7 p a b s=some (d,s2):=by simp[a7,h1,h2,B]
def C4 {f:DE}{s:DS}{b:Bool}(h:f s=some (.bl b,s1)):dB f s=some (b,s1):=by simp[dB,h]
def u4 {b:DM}{fs:vO_}{s:DS}(h:b #[ds.map .v++List.replicate (n - ds.length) .no,fs]=some (.ret d,s)):o8 n b ds fs=some (d,s.fs):=by simp[o8,h]
def o6 {a:DA}{fs:vO_}{xs:vD_}(ha:a #[sl,fs]=some (xs,#[sl,fs])) (hm:m xs fs=some (d,fs)):d4 m a #[sl,fs]=some (d,#[sl,fs]):=fQ (s1:=#[sl,fs]) ha hm
def R6 {a:DA}{fs:vO_}{xs:vD_}(ha:a #[sl,fs]=some (xs,#[sl,fs])) (hm:m xs fs=some (d,fs')):d4 m a #[sl,fs]=some (d,#[sl,fs']):=fQ (s1:=#[sl,fs]) ha hm
def cc {a:DA}{fs B:vO_}{xs:vD_}(ha:a #[sl,fs]=some (xs,#[sl',fs'])) (hm:m xs fs'=some (d,B)):d4 m a #[sl,fs]=some (d,#[sl',B]):=fQ (s1:=#[sl',fs']) ha hm
def JB {a b c:DE}{s B:DS}{x y z:D}(h1:a s=some (x,s1)) (h2:b s1=some (y,s2)) (J:c s2=some (z,B)):f9 (a0 a (a0 b (a0 c b9))) s=some (.tup [x,y,z],B):=by
 unfold f9;rw[L0 h1 (L0 h2 (L0 J rfl)),xr];exact gV (e:=(none:Option (D × DS))) (show 3<=sizeLine by decide)
def M3 {t:D->DS->Option DS}{b:DM}{r:vD_}{s:DS}(h1:t d s=some s1) (h2:b s1=some (.next,s2)):u6 t b (d::r) s=u6 t b r s2:=by
 rw[u6,h1,xr,h2];rfl
def kY {a b:DE}{s:DS}{x y:D}(h1:a s=some (x,s1)) (h2:b s1=some (y,s2)):f9 (a0 a (a0 b b9)) s=some (.tup [x,y],s2):=by
 unfold f9;rw[L0 h1 (L0 h2 rfl),xr];exact gV (e:=(none:Option (D × DS))) (show 2<=sizeLine by decide)
def sG {i j:Nat}{f:DA}{s s1 s2:DS}{a b:D}(h:f s=some ([a,b],s1)) (e:{ s1 with sl:=(s1.sl.set i (.v a)).set j (.v b) }=s2):w5 i j f s=some (.next,s2):=by
 unfold w5;rw[h];exact congrArg (fun z=>some (Fl.next,z)) e
def O9 {f:DE}{s:DS}{b:Bool}(h:f s=some (.bl b,s1)):j8 f s=some (b,s1):=by
 unfold j8;rw[h];rfl
def fG {a:DT}{s:DS}{b:Bool}(h:a s=some (b,s1)):u9 a s=some (!b,s1):=by
 unfold u9;rw[h];rfl
def Q1 {a b:DT}{s:DS}{r:Option (Bool × DS)}(h1:a s=some (true,s1)) (h2:b s1=r):r0 a b s=r:=by
 unfold r0;rw[h1,xr,gV rfl];exact h2
def Z9 {a b:DT}{s:DS}(h1:a s=some (false,s1)):r0 a b s=some (false,s1):=by
 unfold r0;rw[h1,xr,fI Kn]
def zW {a b:DT}{s:DS}(h1:a s=some (true,s1)):A3 a b s=some (true,s1):=by
 unfold A3;rw[h1,xr,gV rfl]
def et {c:DT}{a:DM}{s:DS}(h:c s=some (false,s1)):l5 c a n9 s=some (.next,s1):=by
 rw[J0 h];rfl
def Q2 {s:DS}(h:f s=some (ds,s1)) (hi:i<s1.sl.length):C1 i f s=some (.next,{ s1 with sl:=s1.sl.set i (.own ds) }):=by
 unfold C1;rw[h,xr,gV hi]
def mB {s:DS}{R:vD_}(h:fi s=some (ds,s1)) (hz:ds.length<=sizeLine) (c:B9 (X8 idx s1.sl) fc fe ds s1.fs=some (R,fs')):V3 idx fi fc fe s=some (R,{ s1 with fs:=fs' }):=by
 unfold V3;rw[h,xr,gV hz,c];rfl
def kR {s:DS}(h:f s=some (ds,s1)):o7 f s=some (.lst ds,s1):=by
 unfold o7;rw[h];rfl
def AK {s:DS}{R:vD_}(h:fi s=some (ds,s1)) (hz:ds.length<=sizeLine) (c:B9 (fun d=>some (.v d::Q5 idx s1.sl)) fc fe ds s1.fs=some (R,s1.fs)):E7 idx fi fc fe s=some (R,s1):=by
 unfold E7;rw[h,xr,gV hz,c];rfl
def V4 {f:DE}{s:DS}{ds0:vD_}(B:s.sl[i]? = some (.own ds0)) (h:f s=some (d,s1)) (h1:s1.sl[i]? = some (.own ds)) (hl:ds.length<sizeLine):J2 i f s=some (.next,{ s1 with sl:=s1.sl.set i (.own (ds++[d])) }):=by
 unfold J2;rw[B];show (f s).bind _=_;rw[h,xr];show (match s1.sl[i]? with | some (.own ds)=>_ | _=>_)=_;rw[h1];exact gV hl
def Y4 {p:D->Option D}{a:DE}{s:DS}{x:D}(h:a s=some (x,s1)) (hp:p x=some d):j7 (one p) (a0 a b9) s=some (d,s1):=by
 unfold j7;rw[L0 h rfl,xr];show (p x).map _=_;rw[hp];rfl
def pI {c:DT}{a b:DE}{s:DS}(h:c s=some (true,s1)):A5 c a b s=a s1:=by
 unfold A5;rw[h];rfl
def vD {c:DT}{a b:DE}{s:DS}(h:c s=some (false,s1)):A5 c a b s=b s1:=by
 unfold A5;rw[h];rfl
def fr (p:Rat):D:=.tup [.int p.num,.int p.den]
def Sz (k:Nat) (p:Rat):Prop:=p.num.natAbs<2 ^ k/\p.den<2 ^ k
def Sz.mono {l:Nat}{p:Rat}(h:Sz k p) (hl:k<=l):Sz l p:=
 #[Ks h.1 (Pb #[] hl),Ks h.2 (Pb #[] hl)]
def vc {a b:Int}(hb:b≠0):(Rat.divInt a b).num.natAbs<=a.natAbs/\(Rat.divInt a b).den<=b.natAbs:=by
 constructor
 .rw[Rat.num_divInt,Int.natAbs_ediv_of_dvd (Int.dvd_mul_of_dvd_right (Pc ..))];rw[Pd,Int.natAbs_sign_of_ne_zero hb,Nat.one_mul];exact Nat.div_le_self _ _
 .rw[Rat.den_divInt,fI hb];exact Nat.div_le_self _ _
def Sz.of_divInt {a b:Int}(hb:b≠0) (h1:a.natAbs<2 ^ k) (h2:b.natAbs<2 ^ k):Sz k (Rat.divInt a b):=
 #[KU (vc hb).1 h1,KU (vc hb).2 h2]
def qE {a b l:Nat}(h1:a<2 ^ k) (h2:b<2 ^ l):a*b<2 ^ (k+l):=by
 rw[Nat.pow_add];exact Nat.mul_lt_mul_of_lt_of_lt h1 h2
def yC {a b:Nat}(h1:a<2 ^ k) (h2:b<2 ^ k):a+b<2 ^ (k+1):=by
 rw[Pe];omega
def Bd (k:Nat) (i:Int):Prop:=i.natAbs<2 ^ k
def Bd.mono {l:Nat}{i:Int}(h:Bd k i) (hl:k<=l):Bd l i:=Ks h (Pb #[] hl)
def Bd.mul {l:Nat}{i j:Int}(h1:Bd k i) (h2:Bd l j):Bd (k+l) (i*j):=by
 unfold Bd;rw[Pd];exact qE h1 h2
def Bd.add {l:Nat}{i j:Int}(h1:Bd k i) (h2:Bd l j):Bd (max k l+1) (i+j):=
 KU (Int.natAbs_add_le i j) (yC (h1.mono (Nat.le_max_left ..)) (h2.mono (Nat.le_max_right ..)))
def Bd.neg {i:Int}(h1:Bd k i):Bd k (-i):=by unfold Bd;rw[Int.natAbs_neg];exact h1
def Bd.sub {l:Nat}{i j:Int}(h1:Bd k i) (h2:Bd l j):Bd (max k l+1) (i - j):=by rw[Int.sub_eq_add_neg];exact h1.add h2.neg
theorem Bd.gcd {i:Int}{j:Int}(h:Bd k j) (B:j≠0):Bd k (Int.gcd i j:Int):=by
 have:Int.gcd i j<=j.natAbs:=Nat.le_of_dvd ∅ (Nat.gcd_dvd_right i.natAbs j.natAbs);exact KU this h
def Bd.bits {i:Int}(h:Bd k i) (hk:k<=8000):A0 i=true:=by
 have:=eF (k:=8000) #[] (h.mono hk);exact Kp ∅
def Bd.div {i:Int}(h:Bd k i) (B:i≠0) (hk:k<=8000):M4 i=true:=by
 have:=eF (k:=8000) #[] (h.mono hk);unfold M4;rw[Kp B,MM];exact Kp ∅
def Bd.lit {i:Int}(h:decide (i.natAbs<2 ^ k)=true):Bd k i:=by unfold Bd;exact LP h
theorem Sz.num {p:Rat}(h:Sz k p):Bd k p.num:=h.1
def Fi (p:Rat):(p.den:Int)≠0:=by have:=p.den_nz;omega
def BF (p:Rat):(0:Int)<p.den:=by have:=p.den_nz;omega
end DL
namespace T
open PySem L2 DL
abbrev gT:DT:=dB (a7 F9 (dL 3) (k0 0))
abbrev gB:DM:=d6 (f7 (a7 B8 (dL 2) (dL 3)) (d5 4)) (d6 (f7 (dV 3) (d5 2)) (f7 (dV 4) (d5 3)))
def qQ (a b:Sl) (g r:Int) (x:Sl) (fs:vO_):gT #[[a,b,.v (.int g),.v (.int r),x],fs]=some (!decide (r=0),#[[a,b,.v (.int g),.v (.int r),x],fs]):=by
 simp[dB,a7,dL,dC,k0,Qn,cJ]
def Ar (a b:Sl) (g r:Int) (x:Sl) (fs:vO_) (h:r≠0):gB #[[a,b,.v (.int g),.v (.int r),x],fs] =
  some (.next,#[[a,b,.v (.int r),.v (.int (g.fmod r)),.v (.int (g.fmod r))],fs]):=by
 simp[d6,A8,f7,a7,dL,dV,d5,B8,h]
def zH (a b:Sl) (fs:vO_) (r:Nat):∀(g:Nat) (x:Sl),∃y,N8 gT gB #[[a,b,.v (.int g),.v (.int r),x],fs]=some (.next,#[[a,b,.v (.int (Nat.gcd g r)),.v (.int 0),y],fs]):=by
 induction r using Nat.strongRecOn with
 |ind r M=>
  intro g x;by_cases h:r=0
  .subst h;refine#[x,?_];rw[Nat.gcd_zero_right];exact fR (by rw[qQ];rfl)
  .have e:((g:Int).fmod (r:Int))=((g % r:Nat):Int):=by rw[Ob _ ∅];rfl
   obtain⟨y,B⟩:=M (g % r) (Li _ ∅) r (.v (.int ((g:Int).fmod (r:Int))));refine#[y,?_];have J:Nat.gcd g r=Nat.gcd r (g % r):=by rw[Oc g r,Nat.gcd_rec,Oc]
   rw[J];refine kK (s1:=#[[a,b,.v (.int g),.v (.int r),x],fs]) (by rw[qQ,KC ∅];rfl) (Ar _ _ _ _ _ _ ∅) ?_;rw[e] at B ⊢;exact B
def nA (a:Int):(if a<0 then -a else a)=((a.natAbs:Nat):Int):=by split <;> omega
def yD (a b:Int) (fs:vO_):T3 [.int a,.int b] fs=some (.int (Int.gcd a b),fs):=by
 obtain⟨y,B⟩:=zH (.v (.int a)) (.v (.int b)) fs b.natAbs a.natAbs .no;refine u4 (s:=#[[.v (.int a),.v (.int b),.v (.int (Int.gcd a b)),.v (.int 0),y],fs]) ?_;show iD #[[.v (.int a),.v (.int b),.no,.no,.no],fs]=_;unfold iD;rw[B2 (s1:=#[[.v (.int a),.v (.int b),.v (.int a.natAbs),.no,.no],fs]) (by simp[f7,j7,a0,b9,dL,one,X5,d5,nA])];rw[B2 (s1:=#[[.v (.int a),.v (.int b),.v (.int a.natAbs),.v (.int b.natAbs),.no],fs]) (by simp[f7,j7,a0,b9,dL,one,X5,d5,nA])];rw[B2 B];exact v8 (by simp[dV,Int.gcd])
def zA (a:Int):Int.gcd 0 a=a.natAbs:=by simp[Int.gcd]
def CB (a b:Int):Int.gcd ((a.natAbs:Nat):Int) b=Int.gcd a b:=by simp[Int.gcd]
def mj (P:D) (acc x:Int) (x2:Sl) (r:vD_) (fs:vO_):u6 (d5 2) (eM T3) (.int x::r) #[[.v P,.v (.int acc),x2],fs]=u6 (d5 2) (eM T3) r #[[.v P,.v (.int (Int.gcd acc x)),.v (.int x)],fs]:=M3 (s1:=#[[.v P,.v (.int acc),.v (.int x)],fs]) rfl (A7 (o6 rfl (yD acc x fs)) rfl)
def Cu {g:Int}{fs:vO_}(h:u6 (d5 2) (eM T3) ds #[[.v (.tup ds),.v (.int 0),.no],fs]=some (.next,#[[.v (.tup ds),.v (.int g),x2],fs])):cO T3 [.tup ds] fs=some (.int g,fs):=by
 refine u4 (s:=#[[.v (.tup ds),.v (.int g),x2],fs]) ?_;show iY T3 #[[.v (.tup ds),.no,.no],fs]=_;unfold iY;have B:J4 (dV 0) (d5 2) (eM T3) #[[.v (.tup ds),.v (.int 0),.no],fs]=some (.next,#[[.v (.tup ds),.v (.int g),x2],fs]):=h;rw[B2 (s1:=#[[.v (.tup ds),.v (.int 0),.no],fs]) (A7 rfl rfl),B2 B];exact v8 rfl
def zY (a b c:Int) (fs:vO_):cO T3 [.tup [.int a,.int b,.int c]] fs=some (.int (Int.gcd (Int.gcd a b:Int) c),fs):=Cu (x2:=.v (.int c)) (by
 rw[mj,mj,mj,zA,CB];rfl)
def cT {a g c:Int}(B:g≠0) (e:a=g*c):a.fdiv g=c:=by subst e;exact Int.mul_fdiv_cancel_left c B
def Eo {a b:Int}(hb:b≠0) (h:Bd k b) (hk:k<=8000):M4 (if b<0 then -(Int.gcd a b:Int) else (Int.gcd a b:Int))=true:=by
 have B:0<Int.gcd a b:=Qb a hb;split
 .exact(Bd.gcd h hb).neg.div ∅ hk
 .exact(Bd.gcd h hb).div ∅ hk
def jg:(2:Nat)<=sizeLine:=by decide
def zj (a b c:D):v5 [a,b,c] (-1)=some c:=nt [a,b] c
def lV (a b c:D):v5 [a,b,c] 0=some a:=rfl
def mH (a b c:D):v5 [a,b,c] 1=some b:=rfl
def jD (a b c:D):v5 [a,b,c] 2=some c:=rfl
abbrev FL:a8:=ve (cO T3)
theorem rK {B:Int}(J:M4 B=true) (fs:vO_):∀xs:List Int,B9 (fun d=>some [.v d,.v (.int B)]) D5 (a7 G8 (dL 0) (dL 1)) (xs.map .int) fs=some (xs.map (fun x=>.int (x.fdiv B)),fs)
 |[]=>rfl
 |x::r=>by
  have e:a7 G8 (dL 0) (dL 1) #[[.v (.int x),.v (.int B)],fs]=some (.int (x.fdiv B),#[[.v (.int x),.v (.int B)],fs]):=c7 rfl rfl (gV J);have M:=rK J fs r;rw[Ku,B9,xr];show ((a7 G8 (dL 0) (dL 1) #[[.v (.int x),.v (.int B)],fs]).bind _)=_;rw[e,xr];show (B9 _ D5 _ (r.map .int) fs).map _=_;rw[M];rfl
def Js {d g:Int}(h:v5 ds (-1)=some (.int d)) (fs:vO_):l5 (dB (a7 (n8 (fun i j=>decide (i<j))) (a7 d3 (dL 0) (t9 u5 (k0 1))) (k0 0))) (f7 (t9 u5 (dL 1)) (d5 1)) n9 #[[.v (.tup ds),.v (.int g)],fs]=some (.next,#[[.v (.tup ds),.v (.int (if d<0 then -g else g))],fs]):=by
 have t:dB (a7 (n8 (fun i j=>decide (i<j))) (a7 d3 (dL 0) (t9 u5 (k0 1))) (k0 0)) #[[.v (.tup ds),.v (.int g)],fs]=some (decide (d<0),#[[.v (.tup ds),.v (.int g)],fs]):=C4 (c7 (c7 rfl rfl (show d3 (.tup ds) (.int (-1))=some (.int d) from h)) rfl rfl);by_cases B:d<0
 .rw[Kp B] at t;rw[gV B,M6 t];rfl
 .rw[KC B] at t;rw[fI B,J0 t];rfl
def Gv {xs:List Int}{d g:Int}(fs:vO_) (hl:xs.length<=10) (U:cO T3 [.tup (xs.map .int)] fs=some (.int g,fs)) (h:v5 (xs.map D.int) (-1)=some (.int d)) (B:M4 (if d<0 then -g else g)=true):FL [.tup (xs.map .int)] fs=some (.tup (xs.map fun x=>.int (x.fdiv (if d<0 then -g else g))),fs):=by
 have W:=Js (g:=g) h fs;have M:=rK B fs xs;have J:(xs.map D.int).length<=sizeLine:=Kf (by rw[xo];exact hl) (show 10<=sizeLine by decide);generalize xs.map D.int=ds at *;generalize (if d<0 then -g else g)=gg at *;refine u4 (s:=#[[.v (.tup ds),.v (.int gg)],fs]) ?_;show kz (cO T3) #[[.v (.tup ds),.no],fs]=_;unfold kz;rw[B2 (s1:=#[[.v (.tup ds),.v (.int g)],fs]) (A7 (o6 rfl U) rfl),B2 W];exact v8 (Y4 (p:=dX) (kR (AK (idx:=[1]) (ds:=ds) (s1:=#[[.v (.tup ds),.v (.int gg)],fs]) rfl J M)) rfl)
def Cr (a:Int) {b:Int}(h:M4 b=true):G8 (.int a) (.int b)=some (.int (a.fdiv b)):=by simp[G8,h]
def Y8 {a b:Int}(h1:A0 a=true) (h2:A0 b=true):j6 (.int a) (.int b)=some (.int (a*b)):=by simp[j6,h1,h2]
def lG {α:Type}{xs:List α}{r:Int}(B:0<=r) (h1:r<xs.length):∃x,x∈xs/\v5 xs r=some x:=by
 refine#[xs[r.toNat]'∅,Od _,?_];rw[jG B h1,Le]
end T
namespace DL
open PySem L2
abbrev Pt:=Rat × Rat
variable {Ss Rs:List (List Pt)}{Cv:List (Pt × Pt)}
abbrev vT_:=List Pt
variable {C L:vT_}
def pL (a:Pt):Int:=((Nat.lcm a.1.den a.2.den:Nat):Int)
def pX (a:Pt):Int:=a.1.num*((Nat.lcm a.1.den a.2.den / a.1.den:Nat):Int)
def pY (a:Pt):Int:=a.2.num*((Nat.lcm a.1.den a.2.den / a.2.den:Nat):Int)
def pt (a:Pt):D:=.tup [.int (pX a),.int (pY a),.int (pL a)]
theorem lcm_pos (p q:Rat):0<Nat.lcm p.den q.den:=Nat.lcm_pos (by have:=p.den_nz;omega) (by have:=q.den_nz;omega)
def eu (a:Pt):0<pL a:=by have:=lcm_pos a.1 a.2;unfold pL;omega
def Gu (a:Pt):pL a≠0:=by have:=eu a;omega
def E8 (a:Pt):(0:Rat)<(pL a:Rat):=Rat.intCast_pos.mpr (eu a)
def eZ (a:Pt):(pL a:Rat)≠0:=fun h=>Gu a (Nm.mp h)
def lC (p:Rat):(p.num:Rat)=p*((p.den:Int):Rat):=by
 have e:=Rat.num_divInt_den p;rw[MN] at e;have B:((p.den:Int):Rat)≠0:=fun h=>Fi p (Nm.mp h)
 have:(p.num:Rat) / ((p.den:Int):Rat)*((p.den:Int):Rat)=(p.num:Rat):=Oe B;rw[e] at this;exact this.symm
theorem L3 (a:Pt):(pX a:Rat)=a.1*(pL a:Rat):=by
 unfold pX pL;obtain⟨c,B⟩:=Nat.dvd_lcm_left a.1.den a.2.den;have J:=a.1.den_nz;have e:Nat.lcm a.1.den a.2.den / a.1.den=c:=Qc ∅ B;rw[e,B,Nn,Kk,Kk,lC];grind
theorem L5 (a:Pt):(pY a:Rat)=a.2*(pL a:Rat):=by
 unfold pY pL;obtain⟨c,B⟩:=Nat.dvd_lcm_right a.1.den a.2.den;have J:=a.2.den_nz;have e:Nat.lcm a.1.den a.2.den / a.2.den=c:=Qc ∅ B;rw[e,B,Nn,Kk,Kk,lC];grind
theorem rb {x d:Int}{p:Rat}(W:0<d) (h:(x:Rat)=p*(d:Rat)):∃c:Int,d=p.den*c/\x=p.num*c:=by
 have h1:x*p.den=p.num*d:=by
  have e:=lC p;have:((x*p.den:Int):Rat)=((p.num*d:Int):Rat):=by
   rw[Kk,Kk,h,e];grind
  exact Pf.mp this
 have U:(p.den:Int)∣p.num*d:=#[x,by rw[<-h1,MI]]
 have B:p.den∣p.num.natAbs*d.natAbs:=by
  have:=Int.natAbs_dvd_natAbs.mpr U
  rwa [Pd,Int.natAbs_natCast] at this
 have J:p.den∣d.natAbs:=Nat.Coprime.dvd_of_dvd_mul_left (Nat.Coprime.symm p.reduced) B;obtain⟨c,M⟩:(p.den:Int)∣d:=Int.dvd_natAbs.mp (Of.mpr J);refine#[c,M,?_];have hp:=BF p;have:(p.den:Int)*x=p.den*(p.num*c):=by rw[MI,h1,M];grind
 exact Int.eq_of_mul_eq_mul_left ∅ this
theorem oZ {x d:Int}{a:Pt}(U:0<d) (hg:Int.gcd (Int.gcd x y:Int) d=1) (J:(x:Rat)=a.1*(d:Rat)) (B:(y:Rat)=a.2*(d:Rat)):x=pX a/\y=pY a/\d=pL a:=by
 obtain⟨c1,e1,f1⟩:=rb U J;obtain⟨c2,e2,f2⟩:=rb U B;obtain⟨D,rfl⟩:=Qd (show 0<=d by omega);have Z:Nat.lcm a.1.den a.2.den∣D:=Nat.lcm_dvd (Of.mp #[c1,e1]) (Of.mp #[c2,e2]);obtain⟨m,hm⟩:=Z;have key:∀z:Int,∀r:Rat,(z:Rat)=r*((D:Int):Rat)->∀w:Int,(w:Rat)=r*(pL a:Rat)->z=w*m:=by
  intro z r h1 w h2;have:(z:Rat)=((w*m:Int):Rat):=by
   rw[h1,Kk,h2,hm];have:(((Nat.lcm a.1.den a.2.den*m:Nat):Int):Rat)=(pL a:Rat)*((m:Int):Rat):=by
    rw[Nn,Kk];rfl
   rw[this];grind
  exact Pf.mp this
 have M:=key x a.1 J (pX a) (L3 a);have W:=key y a.2 B (pY a) (L5 a);have Y:(D:Int)=pL a*m:=by rw[hm,Nn];rfl
 have m1:(m:Int)∣1:=by
  have h:(m:Int)∣(Int.gcd (Int.gcd x y:Int) (D:Int):Int):=by
   refine Int.dvd_coe_gcd (Int.dvd_coe_gcd ?_ ?_) ?_
   .exact#[pX a,by rw[M,MI]]
   .exact#[pY a,by rw[W,MI]]
   .exact#[pL a,by rw[Y,MI]]
  rwa [hg] at h
 have m2:m=1:=Nat.eq_one_of_dvd_one (Of.mp m1);subst m2;exact#[by rw[M];simp,by rw[W];simp,by rw[Y];simp]
structure Ps (k:Nat) (a:Pt):Prop where
 x:Bd k (pX a)
 y:Bd k (pY a)
 l:Bd k (pL a)
theorem Ps.mono {l:Nat}{a:Pt}(h:Ps k a) (hl:k<=l):Ps l a:=#[h.x.mono hl,h.y.mono hl,h.l.mono hl]
def Ps.of {l:Nat}{a:Pt}(h1:Sz k a.1) (h2:Sz l a.2):Ps (k+l) a:=by
 have hl:Nat.lcm a.1.den a.2.den<=a.1.den*a.2.den:=Nat.le_of_dvd (Nat.mul_pos (by have:=a.1.den_nz;omega) (by have:=a.2.den_nz;omega)) (Nat.lcm_dvd_mul ..);have b:=qE h1.2 h2.2;have B:Nat.lcm a.1.den a.2.den / a.1.den<=a.2.den:=by
  rw[Qe (by have:=a.1.den_nz;omega)];omega
 have J:Nat.lcm a.1.den a.2.den / a.2.den<=a.1.den:=by
  rw[Qe (by have:=a.2.den_nz;omega),Nat.mul_comm a.2.den];omega
 refine#[?_,?_,?_]
 .exact Bd.mul h1.num (show Bd l ((_:Nat):Int) from KU B h2.2)
 .have:=Bd.mul h2.num (show Bd k ((_:Nat):Int) from KU J h1.2);rw[LO];exact this
 .exact KU hl b
def a9 (a b c:Pt):Rat:=(b.1 - a.1)*(c.2 - a.2) - (b.2 - a.2)*(c.1 - a.1)
def A1 (r:Rat):Int:=if 0<r then 1 else if r<0 then -1 else 0
def R7 (n:Int):Int:=if 0<n then 1 else if n<0 then -1 else 0
def jk {n:Int}{c r:Rat}(B:0<c) (h:(n:Rat)=c*r):R7 n=A1 r:=by
 unfold R7 A1;have h1:0<n↔0<r:=by
  rw[<-Rat.intCast_pos,h];exact Pg B
 have h2:n<0↔r<0:=by
  rw[<-Rat.intCast_neg_iff,h];exact Rat.mul_neg_iff_of_pos_left B
 simp only[h1,h2]
def f6 (a b:Pt):Bool:=decide (a.1<b.1)||(decide (a.1=b.1)&&decide (a.2<b.2))
end DL
variable {Ss Rs:List (List DL.Pt)}{Cv:List (DL.Pt × DL.Pt)}{C L:DL.vT_}
namespace T
open PySem L2 DL
theorem gD (x y d:Int) (hd:d≠0):let G:Nat:=Int.gcd (Int.gcd x y:Int) d
  let g:Int:=if d<0 then -(G:Int) else (G:Int)
  g≠0/\x.fdiv g=pX (Rat.divInt x d,Rat.divInt y d)/\y.fdiv g=pY (Rat.divInt x d,Rat.divInt y d)/\d.fdiv g=pL (Rat.divInt x d,Rat.divInt y d):=by
 intro G g;have g0:0<G:=Qb _ hd;obtain⟨B,W⟩:=Pc (Int.gcd x y:Int) d;have h1:=Int.gcd_dvd_left (Int.gcd x y:Int) d;obtain⟨M,ex⟩:=Int.dvd_trans h1 (Int.gcd_dvd_left ..);obtain⟨J,U⟩:=Int.dvd_trans h1 (Pc ..)
 replace W:d=(G:Int)*B:=W
 replace ex:x=(G:Int)*M:=ex
 replace U:y=(G:Int)*J:=U
 have Z:Int.gcd (Int.gcd M J:Int) B=1:=by
  have e1:Int.gcd x y=G*Int.gcd M J:=by
   have:=Int.gcd_mul_left (m:=(G:Int)) (n:=M) (k:=J);rw[<-ex,<-U] at this;exact this
  have e2:Int.gcd (Int.gcd x y:Int) d=G*Int.gcd (Int.gcd M J:Int) B:=by
   have:=Int.gcd_mul_left (m:=(G:Int)) (n:=(Int.gcd M J:Int)) (k:=B);rw[<-W,<-Nn,<-e1] at this;exact this
  have e3:G*Int.gcd (Int.gcd M J:Int) B=G*1:=by rw[<-e2,Nat.mul_one]
  exact Nat.eq_of_mul_eq_mul_left g0 e3
 have hdr:(d:Rat)≠0:=fun h=>hd (Nm.mp h)
 have hGr:((G:Int):Rat)≠0:=fun h=>by have:=Nm.mp h;omega
 have vx:∀z z':Int,z=(G:Int)*z'->(z':Rat)=Rat.divInt z d*(B:Rat):=fun z z' e=>by
  rw[MN];have Y:(d:Rat)=((G:Int):Rat)*(B:Rat):=by rw[<-Kk];exact congrArg _ W
  have ez':(z:Rat)=((G:Int):Rat)*(z':Rat):=by rw[<-Kk];exact congrArg _ e
  have hd'r:(B:Rat)≠0:=fun h=>hdr (by rw[Y,h];grind)
  rw[ez',Y];grind
 by_cases h:d<0
 .have eg:g = -(G:Int):=gV h;have dn:0 < -B:=by
   rcases Int.lt_or_le B 0 with z | z
   .omega
   .have:0<=(G:Int)*B:=Og ∅ z;omega
  obtain⟨q1,q2,q3⟩:=oZ (x:=-M) (y:=-J) (d:=-B) (a:=(Rat.divInt x d,Rat.divInt y d)) dn (by
   have:Int.gcd (-M) (-J)=Int.gcd M J:=by simp[Int.gcd]
   rw[this];have:Int.gcd (Int.gcd M J:Int) (-B)=Int.gcd (Int.gcd M J:Int) B:=by simp[Int.gcd]
   rw[this];exact Z) (by rw[Oh,Oh,vx x M ex];grind) (by rw[Oh,Oh,vx y J U];grind)
  rw[eg,<-q1,<-q2,<-q3];exact#[by omega,cT ∅ (by grind),cT ∅ (by grind),cT ∅ (by grind)]
 .have eg:g=(G:Int):=fI h;have dp:0<B:=by
   rcases Int.lt_or_le 0 B with z | z
   .exact z
   .have:(G:Int)*B<=G*0:=Oi z ∅;omega
  obtain⟨q1,q2,q3⟩:=oZ (x:=M) (y:=J) (d:=B) (a:=(Rat.divInt x d,Rat.divInt y d)) dp Z (vx x M ex) (vx y J U);rw[eg,<-q1,<-q2,<-q3];exact#[by omega,cT ∅ ex,cT ∅ U,cT ∅ W]
def wA {x d:Int}(B:d≠0) (h:Bd k d) (hk:k<=8000):M4 (if d<0 then -(Int.gcd (Int.gcd x y:Int) d:Int) else (Int.gcd (Int.gcd x y:Int) d:Int))=true:=Eo (a:=(Int.gcd x y:Int)) B h hk
def AY (x y d:Int) (fs:vO_) (B:d≠0) (h:Bd k d) (hk:k<=8000):FL [.tup [.int x,.int y,.int d]] fs=some (pt (Rat.divInt x d,Rat.divInt y d),fs):=by
 obtain⟨J,p1,p2,p3⟩:=gD x y d B;have e:=Gv (xs:=[x,y,d]) (d:=d) fs (show 3<=10 by decide) (zY x y d fs) (zj _ _ _) (wA (x:=x) (y:=y) B h hk);unfold pt;rw[<-p1,<-p2,<-p3];exact e
end T
namespace DL
def E1 (x y:Rat):Prop:=0<x\/(x=0/\0<y)
theorem T6 (a b:Pt):f6 a b=true↔E1 (b.1 - a.1) (b.2 - a.2):=by
 unfold f6 E1;rw[Ph,Ko,Lm,Lm,Lm];constructor
 .rintro(h | ⟨h1,h2⟩)
  .left;grind
  .right;constructor <;> grind
 .rintro(h | ⟨h1,h2⟩)
  .left;grind
  .right;constructor <;> grind
theorem wQ (x y:Rat) (h:¬ (x=0/\y=0)):E1 x y\/E1 (-x) (-y):=by
 unfold E1;grind
theorem mD (x y:Rat) (h:E1 x y):¬ E1 (-x) (-y):=by
 unfold E1 at *;grind
def tT {x y s:Rat}(hs:0<s):E1 (s*x) (s*y)↔E1 x y:=by
 unfold E1;have h1:0<s*x↔0<x:=Pg hs;have h2:0<s*y↔0<y:=Pg hs;have B:s*x=0↔x=0:=by
  rw[La];constructor
  .rintro(h | h)
   .rw[h] at hs;exact absurd hs Np
   .exact h
  .exact fun h=>.inr h
 rw[h1,h2,B]
theorem oB:¬ E1 0 0:=by unfold E1;grind
theorem ix {x y:Rat}(h:E1 x y) (s:Rat):E1 (s*x) (s*y)↔0<s:=by
 constructor
 .intro q;rcases Rat.le_total (a:=s) (b:=0) with z | z
  .rcases(Rat.le_iff_lt_or_eq).mp z with z | z
   .have:E1 (-s*x) (-s*y):=(tT (by grind)).mpr h;rw[Rat.neg_mul,Rat.neg_mul] at this;exact absurd this (mD _ _ q)
   .rw[z,Mb,Mb] at q;exact absurd q oB
  .rcases(Rat.le_iff_lt_or_eq).mp z with z | z
   .exact z
   .rw[<-z,Mb,Mb] at q;exact absurd q oB
 .intro hs;exact(tT hs).mpr h
def E6 (a b c:Pt):Bool:=decide (a9 a b c=0)&&(if f6 a b then !f6 c a && !f6 b c else !f6 c b && !f6 a c)
def d8 (a b:Pt) (s:Rat):Pt:=(a.1+s*(b.1 - a.1),a.2+s*(b.2 - a.2))
theorem T2 (a b:Pt) (s:Rat):a9 a b (d8 a b s)=0:=by
 unfold a9 d8;grind
theorem wO {a b:Pt}(hab:a≠b) (s:Rat):E6 a b (d8 a b s)=(decide (0<=s)&&decide (s<=1)):=by
 have e1:∀c,c=d8 a b s->(f6 c a=true↔E1 (-s*(b.1 - a.1)) (-s*(b.2 - a.2))):=fun c M=>by
  rw[T6,M];unfold d8;have B:a.1 - (a.1+s*(b.1 - a.1)) = -s*(b.1 - a.1):=by grind
  have J:a.2 - (a.2+s*(b.2 - a.2)) = -s*(b.2 - a.2):=by grind
  simp only[B,J]
 have Z:∀c,c=d8 a b s->(f6 a c=true↔E1 (s*(b.1 - a.1)) (s*(b.2 - a.2))):=fun c M=>by
  rw[T6,M];unfold d8;have B:(a.1+s*(b.1 - a.1)) - a.1=s*(b.1 - a.1):=by grind
  have J:(a.2+s*(b.2 - a.2)) - a.2=s*(b.2 - a.2):=by grind
  simp only[B,J]
 have U:∀c,c=d8 a b s->(f6 b c=true↔E1 ((s - 1)*(b.1 - a.1)) ((s - 1)*(b.2 - a.2))):=fun c M=>by
  rw[T6,M];unfold d8;have B:(a.1+s*(b.1 - a.1)) - b.1=(s - 1)*(b.1 - a.1):=by grind
  have J:(a.2+s*(b.2 - a.2)) - b.2=(s - 1)*(b.2 - a.2):=by grind
  simp only[B,J]
 have e4:∀c,c=d8 a b s->(f6 c b=true↔E1 ((1 - s)*(b.1 - a.1)) ((1 - s)*(b.2 - a.2))):=fun c M=>by
  rw[T6,M];unfold d8;have B:b.1 - (a.1+s*(b.1 - a.1))=(1 - s)*(b.1 - a.1):=by grind
  have J:b.2 - (a.2+s*(b.2 - a.2))=(1 - s)*(b.2 - a.2):=by grind
  simp only[B,J]
 have Y:¬ (b.1 - a.1=0/\b.2 - a.2=0):=fun h=>hab (KA (by grind) (by grind))
 unfold E6;rw[Kp (T2 a b s),MM];rw[LB];rcases wQ _ _ Y with h | h
 .rw[gV ((T6 a b).mpr h)];simp only[Ko,Lx,<-Bool.not_eq_true,e1 _ rfl,U _ rfl,ix h,Lm];constructor
  .rintro⟨B,J⟩;constructor <;> grind
  .rintro⟨B,J⟩;constructor <;> grind
 .have hn:¬ f6 a b=true:=fun z=>mD _ _ ((T6 a b).mp z) h
  rw[fI hn];have W:∀r:Rat,E1 (r*(b.1 - a.1)) (r*(b.2 - a.2))↔0 < -r:=fun r=>by
   rw[<-ix h (-r)];have B:-r * -(b.1 - a.1)=r*(b.1 - a.1):=by grind
   have J:-r * -(b.2 - a.2)=r*(b.2 - a.2):=by grind
   rw[B,J]
  simp only[Ko,Lx,<-Bool.not_eq_true,Z _ rfl,e4 _ rfl,W,Lm];constructor
  .rintro⟨B,J⟩;constructor <;> grind
  .rintro⟨B,J⟩;constructor <;> grind
def sV (a b:Pt):d8 a b 0=a:=by unfold d8;simp[Rat.add_zero]
theorem qf (a b:Pt):d8 a b 1=b:=by unfold d8;exact KA (by grind) (by grind)
def Iy {a b:Pt}(hab:a≠b):E6 a b a=true:=by
 have:=wO hab 0;rw[sV] at this;rw[this];decide
def zp {a b:Pt}(hab:a≠b):E6 a b b=true:=by
 have:=wO hab 1;rw[qf] at this;rw[this];decide
theorem S5 {a b c:Pt}(hab:a≠b) (h:a9 a b c=0):∃s,c=d8 a b s:=by
 unfold a9 at h;by_cases h1:b.1 - a.1=0
 .have h2:b.2 - a.2≠0:=fun z=>hab (KA (by grind) (by grind))
  refine#[(c.2 - a.2) / (b.2 - a.2),?_];unfold d8;refine KA ?_ ?_
  .show c.1=_;have:(b.2 - a.2)*(c.1 - a.1)=0:=by grind
   rcases La.mp this with z | z
   .exact absurd z h2
   .grind
  .show c.2=_;grind
 .refine#[(c.1 - a.1) / (b.1 - a.1),?_];unfold d8;refine KA ?_ ?_
  .show c.1=_;grind
  .show c.2=_;have e:(b.1 - a.1)*(c.2 - a.2)=(b.2 - a.2)*(c.1 - a.1):=by grind
   have:c.2 - a.2=(c.1 - a.1) / (b.1 - a.1)*(b.2 - a.2):=by grind
   grind
theorem aw (x:Rat):0<=x*x:=by
 rcases Rat.le_total (a:=0) (b:=x) with h | h
 .exact Kx h h
 .have:=Kx (a:=-x) (b:=-x) (by grind) (by grind);grind
def dH {x:Rat}(h:x≠0):0<x*x:=Rat.lt_of_le_of_ne (aw x) (fun z=>h (by
 rcases La.mp z.symm with q | q <;> exact q))
end DL
namespace T
open PySem L2 DL
def Jk (n:Int) (fs:vO_):mh [.int n] fs=some (.int (R7 n),fs):=by
 refine u4 (s:=#[[.v (.int n)],fs]) ?_;show ck #[[.v (.int n)],fs]=_;unfold R7;by_cases h1:0<n
 .simp![ck,d3,h1]
 .by_cases h2:n<0
  .simp![ck,d3,h1,h2]
  .simp![ck,d3,h1,h2]
def yq {a b c:Rat}(ha:0<a) (hb:0<b) (B:0<c):0<a*b*c:=Kj (Kj ha hb) B
theorem vj {x:Int}{p q c:Rat}(B:0<c) (M:(x:Rat)=c*p) (J:(y:Rat)=c*q):(x<y↔p<q)/\(x=y↔p=q):=by
 constructor
 .rw[<-Rat.intCast_lt_intCast,M,J];exact Rat.mul_lt_mul_left B
 .rw[<-Pf,M,J];constructor
  .intro h;have:c≠0:=fun z=>by rw[z] at B;exact absurd B Np
   grind
  .intro h;rw[h]
theorem Hu (a b:Pt):(pX a*pL b<pX b*pL a↔a.1<b.1)/\(pX a*pL b=pX b*pL a↔a.1=b.1):=
 vj (Kj (E8 a) (E8 b)) (by rw[Kk,L3];grind) (by rw[Kk,L3];grind)
theorem Fv (a b:Pt):(pY a*pL b<pY b*pL a↔a.2<b.2)/\(pY a*pL b=pY b*pL a↔a.2=b.2):=
 vj (Kj (E8 a) (E8 b)) (by rw[Kk,L5];grind) (by rw[Kk,L5];grind)
def ay (a b:Pt) (fs:vO_) (ha:Ps k a) (hb:Ps k b) (hk:k<=2000):E3 [pt a,pt b] fs=some (.bl (f6 a b),fs):=by
 have Y:=ha.x.bits ∅;have W:=ha.y.bits ∅;have M:=ha.l.bits ∅;have B:=hb.x.bits ∅;have U:=hb.y.bits ∅;have J:=hb.l.bits ∅;obtain⟨x1,x2⟩:=Hu a b;obtain⟨Z,y2⟩:=Fv a b;refine u4 (s:=#[[.v (pt a),.v (pt b),.v (.int (pX a*pL b)),.v (.int (pX b*pL a))],fs]) ?_;show dY #[[.v (pt a),.v (pt b),.no,.no],fs]=_;by_cases h:a.1=b.1
 .have h':=x2.mpr h;have n1:¬ a.1<b.1:=by rw[h];exact Np
  simp![dY,d3,pt,lV,mH,jD,j6,Y,W,M,B,U,J,cJ,h',f6,n1,h,Z]
 .have h':¬ pX a*pL b=pX b*pL a:=fun z=>h (x2.mp z)
  simp![dY,d3,pt,lV,mH,jD,j6,Y,W,M,B,U,J,cJ,h',f6,h,x1]
end T
namespace DL
open PySem L2
theorem bP {t:D->DS->Option DS}{b:DM}(P:Nat->DS->Prop):∀(ds:vD_) (n:Nat) (s:DS),P n s->(∀i d s,ds[i]? = some d->P (n+i) s->∃s1 s2,t d s=some s1/\(b s1=some (.next,s2)\/b s1=some (.cont,s2))/\P (n+i+1) s2) ->
  ∃s',u6 t b ds s=some (.next,s')/\P (n+ds.length) s'
 |[],n,s,h,_=>#[s,rfl,h]
 |d::r,n,s,h,k=>by
  obtain⟨s1,s2,U,B,h2⟩:=k 0 d s rfl h;obtain⟨s',J,W⟩:=bP P r (n+1) s2 h2 (fun i M s Y hp=>by
   have:=k (i+1) M s (by simpa using Y) (by rwa [show n+1+i=n+(i+1) by omega] at hp)
   rwa [show n+(i+1)+1=n+1+i+1 by omega] at this)
  refine#[s',?_,by rw[Kh,show n+(r.length+1)=n+1+r.length by omega];exact W];rw[u6,U];rcases B with B | B <;> simp[B,J]
def iG {t:D->DS->Option DS}{b:DM}{s:DS}{xs:vD_}(h1:f s=some (xs,s1)) (h2:V6 xs=some ds):bB f t b s=u6 t b ds s1:=by
 simp only[bB,h1,xr,h2]
def U3 {f:DE}{t:D->DS->Option DS}{b:DM}{s:DS}(h1:f s=some (.lst ds,s1)):J4 f t b s=u6 t b ds s1:=by
 simp only[J4,h1,xr]
def eU {f:DE}{t:D->DS->Option DS}{b:DM}{s:DS}(h1:f s=some (.tup ds,s1)):J4 f t b s=u6 t b ds s1:=by
 simp only[J4,h1,xr]
def fE {lo:Int}(h:(B0 lo n)[i]? = some d):d = .int (lo+i)/\i<n:=by
 have hi:i<n:=by have:=(KH.mp h).1;rwa [eA] at this
 rw[mX hi] at h;cases h;exact#[rfl,hi]
def fA (h:n<2 ^ 30):V6 [.int (n:Int)]=some (B0 0 n):=by
 have:-(2 ^ 62)<=(n:Int)/\(n:Int)<2 ^ 62:=by omega
 simp only[V6,gV this,LC]
end DL
namespace T
open PySem L2 DL
structure PtS (k:Nat) (a:Pt):Prop where
 x:Sz k a.1
 y:Sz k a.2
def PtS.ps {a:Pt}(h:PtS k a):Ps (k+k) a:=Ps.of h.x h.y
section
variable {α β:Type}
def N5 (lt:α->α->Bool):List α->List α->List α
 |[],ys=>ys
 |x::xs,ys=>ys.takeWhile (fun y=>lt y x)++x::N5 lt xs (ys.dropWhile (fun y=>lt y x))
def J5 (lt:α->α->Bool):Nat->List α->List α
 |0,l=>l
 |n+1,l=>if l.length<2 then l else N5 lt (J5 lt n (l.take (l.length / 2))) (J5 lt n (l.drop (l.length / 2)))
variable {lt:α->α->Bool}{lt':β->β->Bool}{t:α->α->α->Bool}{t':β->β->β->Bool}{f:α->β}
theorem lO:∀xs ys:List α,(N5 lt xs ys).length=xs.length+ys.length
 |[],ys=>by simp[N5]
 |x::xs,ys=>by
  have h:=congrArg List.length (MO (p:=fun y=>lt y x) (l:=ys));simp only[N5,Km,Kh,lO xs] at h ⊢;omega
theorem kF:∀{xs ys:List α}{z:α},z∈N5 lt xs ys->z∈xs\/z∈ys
 |[],ys,z,h=>.inr h
 |x::xs,ys,z,h=>by
  simp only[N5] at h;rcases KD.mp h with h | h
  .exact .inr (List.takeWhile_subset _ h)
  .rcases tx.mp h with h | h
   .exact .inl (h▸iR ..)
   .rcases kF h with h | h
    .exact .inl (td _ h)
    .exact .inr (Pj _ h)
theorem bQ:∀(n:Nat) (l:List α),(J5 lt n l).length=l.length
 |0,l=>rfl
 |n+1,l=>by
  simp only[J5];split
  .rfl
  .rw[lO,bQ n,bQ n,Ld,Kt];omega
theorem W2:∀(n:Nat) {l:List α}{z:α},z∈J5 lt n l->z∈l
 |0,l,z,h=>h
 |n+1,l,z,h=>by
  simp only[J5] at h;split at h
  .exact h
  .rcases kF h with h | h
   .exact Nq (W2 n h)
   .exact Mo (W2 n h)
end
section
variable {α:Type}{lt:α->α->Bool}
abbrev M0 (lt:α->α->Bool) (l:List α):Prop:=l.Pairwise fun a b=>lt a b=true
structure Ord (lt:α->α->Bool):Prop where
 irr:∀a,lt a a=false
 tr:∀a b c,lt a b=true->lt b c=true->lt a c=true
 tot:∀a b,lt a b=false->a≠b->lt b a=true
theorem jd:∀{xs ys:List α}{z:α},z∈xs\/z∈ys->z∈N5 lt xs ys
 |[],ys,z,h=>by rcases h with h | h;cases h;exact h
 |x::xs,ys,z,h=>by
  simp only[N5];have J:∀{z},z∈ys->z∈ys.takeWhile (fun y=>lt y x)\/z∈ys.dropWhile (fun y=>lt y x):=fun {z} B=>by
   rw[<-MO (p:=fun y=>lt y x) (l:=ys)] at B;exact KD.mp B
  rcases h with h | h
  .rcases tx.mp h with h | h
   .exact KD.mpr (.inr (h▸iR ..))
   .exact KD.mpr (.inr (td _ (jd (.inl h))))
  .rcases J h with h | h
   .exact KD.mpr (.inl h)
   .exact KD.mpr (.inr (td _ (jd (.inr h))))
theorem sR {p:α->Bool}:∀{l:List α}{z:α},z∈l.takeWhile p->p z=true
 |[],z,h=>by cases h
 |a::r,z,h=>by
  rw[Pk] at h;by_cases q:p a=true
  .rw[gV q] at h;rcases tx.mp h with e | e
   .exact e▸q
   .exact sR e
  .rw[fI q] at h;cases h
theorem qC {p:α->Bool}:∀{l:List α}{a:α}{r:List α},l.dropWhile p=a::r->p a=false
 |[],a,r,h=>by cases h
 |b::l,a,r,h=>by
  rw[List.dropWhile_cons] at h;by_cases q:p b=true
  .rw[gV q] at h;exact qC h
  .rw[fI q] at h;cases h;simpa using q
theorem yc (O:Ord lt):∀{xs ys:List α},M0 lt xs->M0 lt ys->(∀x∈xs,x ∉ ys)->M0 lt (N5 lt xs ys)
 |[],ys,h1,h2,_=>h2
 |x::xs,ys,h1,h2,d=>by
  obtain⟨Y,Z⟩:=Ly.mp h1;have J:=MO (p:=fun y=>lt y x) (l:=ys);have hs:M0 lt (ys.takeWhile (fun y=>lt y x)++ys.dropWhile (fun y=>lt y x)):=by rw[J];exact h2
  obtain⟨s1,s2,s3⟩:=List.pairwise_append.mp hs;have dw:∀z∈ys.dropWhile (fun y=>lt y x),lt x z=true:=by
   cases e:ys.dropWhile (fun y=>lt y x) with
   |nil=>intro z B;cases B
   |cons a r=>
    rw[e] at s2;have ha:lt a x=false:=qC (p:=fun y=>lt y x) e;have W:a∈ys:=Pj _ (e▸iR ..);have U:lt x a=true:=O.tot a x ha fun z=>d x (iR ..) (z▸W)
    intro z B;rcases tx.mp B with q | q
    .exact q▸U
    .exact O.tr _ _ _ U ((Ly.mp s2).1 z q)
  have rest:∀z∈N5 lt xs (ys.dropWhile (fun y=>lt y x)),lt x z=true:=fun z B=>by
   rcases kF B with q | q
   .exact Y z q
   .exact dw z q
  simp only[N5];refine List.pairwise_append.mpr #[s1,Ly.mpr #[rest,yc O Z s2 fun a ha hb=>d a (td _ ha) (Pj _ hb)],fun a ha b hb=>?_];have M:lt a x=true:=sR (p:=fun y=>lt y x) ha;rcases tx.mp hb with q | q
  .exact q▸M
  .exact O.tr _ _ _ M (rest b q)
theorem gU:∀(n:Nat) {l:List α}{z:α},z∈l->z∈J5 lt n l
 |0,l,z,h=>h
 |n+1,l,z,h=>by
  simp only[J5];split
  .exact h
  .rw[<-Nr (l.length / 2) l] at h;rcases KD.mp h with h | h
   .exact jd (.inl (gU n h))
   .exact jd (.inr (gU n h))
theorem je (O:Ord lt):∀(n:Nat) (l:List α),l.length<=2 ^ n->l.Nodup->M0 lt (J5 lt (n+1) l)
 |n,l,hl,nd=>by
  simp only[J5];split
  .rename_i h
   match l,h with
   |[],_=>exact List.Pairwise.nil
   |[a],_=>exact List.pairwise_singleton _ _
   |a::b::r,h=>exact absurd h (by simp only[Kh];omega)
  .rename_i h;cases n with
   |zero=>exact absurd hl ∅
   |succ n=>
    have p2:2 ^ (n+1)=2 ^ n+2 ^ n:=by rw[Pe];omega
    rw[<-Nr (l.length / 2) l] at nd;obtain⟨W,M,B⟩:=Nf.mp nd;refine yc O (je O n _ (by rw[Ld];omega) W) (je O n _ (by rw[Kt];omega) M) fun x U J=>?_
    exact B x (W2 _ U) x (W2 _ J) rfl
theorem kG (O:Ord lt):∀{xs ys:List α},M0 lt xs->M0 lt ys->(∀z,z∈xs↔z∈ys)->xs=ys
 |[],[],_,_,_=>rfl
 |[],b::bs,_,_,h=>by have:=(h b).mpr (iR ..);cases this
 |a::as,[],_,_,h=>by have:=(h a).mp (iR ..);cases this
 |a::as,b::bs,h1,h2,h=>by
  obtain⟨M,W⟩:=Ly.mp h1;obtain⟨J,U⟩:=Ly.mp h2;have e:a=b:=by
   rcases tx.mp ((h a).mp (iR ..)) with q | q
   .exact q
   .rcases tx.mp ((h b).mpr (iR ..)) with q2 | q2
    .exact q2.symm
    .have c:=O.tr _ _ _ (J a q) (M b q2);rw[O.irr] at c;cases c
  subst e;refine congrArg _ (kG O W U fun z=>#[fun B=>?_,fun B=>?_])
  .rcases tx.mp ((h z).mp (td _ B)) with q | q
   .have c:=M z B;rw[q,O.irr] at c;cases c
   .exact q
  .rcases tx.mp ((h z).mpr (td _ B)) with q | q
   .have c:=J z B;rw[q,O.irr] at c;cases c
   .exact q
end
theorem lsB_ord:Ord f6 where
 irr:=fun a=>by
  cases q:f6 a a with
  |false=>rfl
  |true=>
   rw[T6] at q;unfold E1 at q;grind
 tr:=fun a b c h1 h2=>by
  rw[T6] at h1 h2 ⊢;unfold E1 at *;grind
 tot:=fun a b h n=>by
  have h:¬ (f6 a b=true):=by rw[h];decide
  rw[T6] at h ⊢;have:¬ (b.1 - a.1=0/\b.2 - a.2=0):=fun z=>n (KA (by grind) (by grind))
  unfold E1 at *;grind
def BU {r:List (Str × a8)}{t:DA}{s:DS}(h:s.sl[i]? = some (.v (.fn x))):X9 i ((x,m)::r) t s=d4 m t s:=by
 unfold X9;rw[h];simp
def gb {f:DE}{lo hi:DO}{s B:DS}{ds:List DL.D}{l h:Option Int}(e:f s=some (.lst ds,s1)) (M:lo s1=some (l,s2)) (J:hi s2=some (h,B)):D8 f lo hi s=some (.lst (E4 ds l h),B):=by
 unfold D8;rw[e];show (lo s1).bind _=_;rw[M];show (hi s2).bind _=_;rw[J];rfl
def jN (l:List DL.D) (n:Nat):E4 l (some (n:Int)) none=l.drop n:=by
 unfold E4;rw[HT.sIx_nat,HT.sIx_none];by_cases h:n<=l.length
 .rw[Ma h,MJ (by rw[Kt];exact iU _)]
 .rw[Ni ∅,Qf (iU _),Qf ∅,List.take_nil]
def Aa (l:List DL.D) (n:Nat):E4 l none (some (n:Int))=l.take n:=by
 unfold E4;rw[HT.sIx_nat,HT.sIx_none,MZ,Ml];by_cases h:n<=l.length
 .rw[Ma h]
 .rw[Ni ∅,MJ (iU _),MJ ∅]
def e6 {a:DE}{b:DA}{s:DS}{x:DL.D}{xs:List DL.D}(h1:a s=some (x,s)) (h2:b s=some (xs,s)):a0 a b s=some (x::xs,s):=L0 h1 h2
def jr (i j:Int):n8 (fun i j=>decide (i<j)) (.int i) (.int j)=some (.bl (decide (i<j))):=rfl
def Dn (i j:Int):n8 (fun i j=>decide (j<i)) (.int i) (.int j)=some (.bl (decide (j<i))):=rfl
def qh {l:List DL.D}{x:DL.D}(h:l[n]? = some x):v5 l (n:Int)=some x:=by
 have B:n<l.length:=(KH.mp h).1;unfold v5 P6;rw[gV ∅,gV ∅];exact h
def uP {ds:List DL.D}{i:Int}{d:DL.D}(h:v5 ds i=some d):d3 (.lst ds) (.int i)=some d:=by
 show (v5 ds i)=_;exact h
end T
namespace DL
open PySem L2
structure Ok (k n:Nat) (d:D):Prop where
 pl:d.plain=true
 sh:d.py.showable=true
 la:d.py.canLay0=true
 dp:d.py.depth<=k
 le:d.py.leavesShort 1921=true
 bu:d.py.bulk<=n
structure OkL (k n:Nat) (ds:vD_):Prop where
 pl:D.plains ds=true
 sh:PyData.showableAll (D.pys ds)=true
 la:PyData.canLayAll0 (D.pys ds)=true
 dp:PyData.depthAll (D.pys ds)<=k
 le:PyData.leavesShortAll 1921 (D.pys ds)=true
 bu:PyData.bulkAll (D.pys ds)<=n
def Ok.mono {k' B:Nat}(h:Ok k n d) (hk:k<=k') (J:n<=B):Ok k' B d:=#[h.pl,h.sh,h.la,Kf h.dp hk,h.le,Kf h.bu J]
def OkL.mono {k' B:Nat}(h:OkL k n ds) (hk:k<=k') (J:n<=B):OkL k' B ds:=#[h.pl,h.sh,h.la,Kf h.dp hk,h.le,Kf h.bu J]
theorem Ok.bl (b:Bool):Ok 0 0 (.bl b):=#[rfl,rfl,rfl,iU _,rfl,iU _]
theorem Ok.int {i:Int}(h:Bd 1920 i):Ok 0 0 (.int i):=by
 have hl:i.natAbs.log2<1920:=eF #[] h;refine#[rfl,?_,rfl,iU _,?_,iU _]
 .simp only[D.py,PyData.showable];exact Kp hl
 .simp only[D.py,PyData.leavesShort,PyData.shown];exact Kp (HD hl)
def OkL.nil:OkL 0 0 []:=#[rfl,rfl,rfl,iU _,rfl,iU _]
def OkL.cons {l m:Nat}(h:Ok k n d) (hs:OkL l m ds):OkL (max k l) (n+1+m) (d::ds):=by
 refine#[?_,?_,?_,?_,?_,?_]
 .simp only[D.plains,h.pl,hs.pl,Lw]
 .simp only[D.pys,PyData.showableAll,h.sh,hs.sh,Lw]
 .simp only[D.pys,PyData.canLayAll0,h.la,hs.la,Lw]
 .have:=h.dp;have:=hs.dp;simp only[D.pys,PyData.depthAll];omega
 .simp only[D.pys,PyData.leavesShortAll,h.le,hs.le,Lw]
 .have:=h.bu;have:=hs.bu;simp only[D.pys,PyData.bulkAll];omega
theorem Ok.tup (h:OkL k n ds):Ok (k+1) n (.tup ds):=by
 refine#[?_,?_,?_,?_,?_,?_]
 .simp only[D.plain,h.pl]
 .simp only[D.py,PyData.showable,h.sh]
 .simp only[D.py,PyData.canLay0,h.la]
 .have:=h.dp;simp only[D.py,PyData.depth];omega
 .simp only[D.py,PyData.leavesShort,h.le]
 .have:=h.bu;simp only[D.py,PyData.bulk];omega
theorem Ok.lst (h:OkL k n ds):Ok (k+1) n (.lst ds):=by
 refine#[?_,?_,?_,?_,?_,?_]
 .simp only[D.plain,h.pl]
 .simp only[D.py,PyData.showable,h.sh]
 .simp only[D.py,PyData.canLay0,h.la]
 .have:=h.dp;simp only[D.py,PyData.depth];omega
 .simp only[D.py,PyData.leavesShort,h.le]
 .have:=h.bu;simp only[D.py,PyData.bulk];omega
theorem OkL.all :∀{ds:vD_},(∀d∈ds,Ok k n d)->OkL k (ds.length*(n+1)) ds
 |[],_=>OkL.nil.mono ∅ ∅
 |d::r,h=>by
  have:=(OkL.cons (h d (iR ..)) (OkL.all (ds:=r) fun x B=>h x (td _ B)))
  refine this.mono ∅ ?_;rw[Kh,Nat.add_mul,Nat.one_mul];omega
def Ok.show {k n:Nat}{d:D}(h:Ok k n d) (hk:k<=64:=by decide) (B:n<=8000:=by decide):aD d=true:=by
 have e:=PyData.shown_le_bulk 1921 #[] d.py h.le;have J:(1921+2)*d.py.bulk<=1923*8000:=Nat.mul_le_mul #[] (Kf h.bu B);have:d.py.shown.length<=sizeLine:=by rw[ND];omega
 simp only[aD,h.pl,h.sh,h.la,MM,Nu,Kp this,Kp (Kf h.dp hk)]
def Ok.eq {k n:Nat}{d:D}(h:Ok k n d) (hk:k<=64:=by decide):v3 d=true:=by
 simp only[v3,h.pl,SeqAt.shaped,h.la,MM,Kp (Kf h.dp hk)]
def Ok.repr {k n:Nat}{d:D}(h:Ok k n d) (hk:k<=64:=by decide) (B:n<=8000:=by decide):S9 d=some (.str d.py.shown):=Fz (h.show hk B)
theorem Ok.pt {k:Nat}{a:Pt}(h:Ps k a) (hk:k<=1920:=by decide):Ok 1 3 (pt a):=Ok.tup ((OkL.cons (Ok.int (h.x.mono hk)) (OkL.cons (Ok.int (h.y.mono hk)) (OkL.cons (Ok.int (h.l.mono hk)) OkL.nil))))
def Y2 (ds:vD_) (i:Int):d3 (.tup ds) (.int i)=v5 ds i:=rfl
def aV (ds:vD_) (i:Int):d3 (.lst ds) (.int i)=v5 ds i:=rfl
def dq (p:Rat):d3 (DL.fr p) (.int 0)=some (.int p.num):=rfl
def bR (p:Rat):d3 (DL.fr p) (.int 1)=some (.int p.den):=rfl
def aW (a:Pt):d3 (DL.pt a) (.int 0)=some (.int (pX a)):=rfl
def bw (a:Pt):d3 (DL.pt a) (.int 1)=some (.int (pY a)):=rfl
def bL (a:Pt):d3 (DL.pt a) (.int 2)=some (.int (pL a)):=rfl
theorem iH {a b:Pt}(h1:pX a=pX b) (h2:pY a=pY b) (B:pL a=pL b):a=b:=by
 have M:=L3 a;have U:=L3 b;have J:=L5 a;have W:=L5 b
 have n:=eZ b;rw[h1,B] at M;rw[h2,B] at J;exact KA (by grind) (by grind)
def qS {k l:Nat}{a b:Pt}(ha:Ps k a) (hb:Ps l b) (hk:k<=1920:=by decide) (hl:l<=1920:=by decide):B3 (pt a) (pt b)=some (.bl (decide (a=b))):=by
 have J:=(Ok.pt ha hk).eq;have B:=(Ok.pt hb hl).eq;unfold pt at *;simp only[B3,J,B,Lw,KG,D.py,D.pys,PyData.eqv,PyData.eqvAll,Nl,Nu];congr 2;rw[LB];simp only[Ko,Lm];constructor
 .rintro⟨h1,h2,M⟩;exact iH h1 h2 M
 .rintro rfl;exact#[rfl,rfl,rfl]
def xx {k l:Nat}{a b:Pt}(ha:Ps k a) (hb:Ps l b) (hk:k<=1920:=by decide) (hl:l<=1920:=by decide):F9 (pt a) (pt b)=some (.bl (!decide (a=b))):=by
 have J:=(Ok.pt ha hk).eq;have B:=(Ok.pt hb hl).eq;unfold pt at *;simp only[F9,J,B,Lw,KG,D.py,D.pys,PyData.eqv,PyData.eqvAll,Nl,Nu];congr 3;rw[LB];simp only[Ko,Lm];constructor
 .rintro⟨h1,h2,M⟩;exact iH h1 h2 M
 .rintro rfl;exact#[rfl,rfl,rfl]
def vd (ds:vD_) (n:Nat) (h:n<=ds.length):E4 ds none (some (n:Int))=ds.take n:=by
 unfold E4 HT.sIx;have h1:¬ (n:Int)<0:=by omega
 simp only[h1,Kv,MZ,Ml,LC];rw[Ma h]
def qp (ds:vD_) (n:Nat) (h:n<=ds.length):E4 ds (some (n:Int)) none=ds.drop n:=by
 unfold E4 HT.sIx;have h1:¬ (n:Int)<0:=by omega
 simp only[h1,Kv,LC];rw[Ma h];exact MJ (by rw[Kt];omega)
theorem xO {idx:List Nat}{g:D->D}(caps:List Sl) (fs:vO_):∀(ds:vD_),(∀d∈ds,∃s,fe #[.v d::caps,fs]=some (g d,s)/\s.fs=fs)->B9 (fun d=>some (.v d::caps)) D5 fe ds fs=some (ds.map g,fs)
 |[],_=>rfl
 |d::r,h=>by
  obtain⟨s,e,q⟩:=h d (iR ..);have B:=xO (idx:=idx) caps fs r fun x J=>h x (td _ J)
  simp[B9,D5,e,q,B]
def d9 {α:Type}(c:Bool) (l:List α):List (α × α):=l.zip (if c then l.drop 1++l.take 1 else l.drop 1)
def S8 (p:D × D):D:=.tup [p.1,p.2]
def IH {α β:Type}(f:α->β) (c:Bool) (l:List α):d9 c (l.map f)=(d9 c l).map fun p=>(f p.1,f p.2):=by
 unfold d9;cases c
 .simp only[KQ,Kv];rw[<-LI,Pl];rfl
 .simp only[KG];rw[<-LI,<-MP,<-Lh,Pl];rfl
def Z6 {α:Type}(c:Bool) (l:List α):(d9 c l).length<=l.length:=by
 unfold d9;rw[Mc];exact MB ..
theorem fM:∀(xs ys:vD_),List.zipWith M7 xs ys=(xs.zip ys).map S8
 |[],_=>by simp
 |_::_,[]=>by simp
 |x::xs,y::ys=>by
  rw[PX,List.zip_cons_cons,Ku,fM xs ys];rfl
def hi (c:Bool):Nat:=if c then 8 else 9
def iQ (ds:vD_):E4 ds (some 1) none=ds.drop 1:=by
 cases ds with
 |nil=>rfl
 |cons d r=>exact qp (d::r) 1 (by simp)
def sN (ds:vD_):E4 ds none (some 1)=ds.take 1:=by
 cases ds with
 |nil=>rfl
 |cons d r=>exact vd (d::r) 1 (by simp)
end DL
namespace T
open PySem L2 DL
def CV (ds:vD_) (c:Bool) (fs:vO_) (hl:ds.length+1<=sizeLine):U9 [.tup ds,.bl c] fs=some (.lst ((d9 c ds).map S8),fs):=by
 refine u4 (s:=#[[.v (.tup ds),.v (.bl c)],fs]) ?_;show bx #[[.v (.tup ds),.v (.bl c)],fs]=_;have h1:ds.length - 1+min 1 ds.length<=sizeLine:=by omega
 cases c
 .simp![bx,Y2,aV,dq,bR,aW,bw,bL,D8,K1,K0,W9,aM,P9,iQ,d9,fM]
 .simp![bx,Y2,aV,dq,bR,aW,bw,bL,D8,K1,K0,W9,aM,P9,iQ,sN,d9,fM,h1]
end T
namespace DL
open PySem L2
def kC {α:Type}(c:Bool) (l:List α):(d9 c l).length=l.length - 1+(if c then min 1 l.length else 0):=by
 unfold d9;cases c
 .show (l.zip (l.drop 1)).length=l.length - 1+0;rw[Mc,Kt,Ni (Nat.sub_le ..)];rfl
 .show (l.zip (l.drop 1++l.take 1)).length=l.length - 1+min 1 l.length;rw[Mc,Km,Kt,Ld];exact Ni ∅
def Ed {α:Type}{c:Bool}{l:List α}(h:j<(d9 c l).length):∃a b,l[j]? = some a/\l[(j+1) % l.length]? = some b/\(d9 c l)[j]? = some (a,b):=by
 have hl:=kC c l;have M:j<l.length:=Ks h (Z6 c l);cases B:(d9 c l)[j]? with
 |none=>rw[List.getElem?_eq_none_iff] at B;omega
 |some p=>
  obtain⟨h1,h2⟩:=Nj.mp (show (l.zip (if c then l.drop 1++l.take 1 else l.drop 1))[j]? = some p from B);refine#[p.1,p.2,h1,?_,rfl];cases c
  .simp only[KQ,Kv] at h2 hl;rw[Mp] at h2;rw[Mq ∅,LO];exact h2
  .simp only[KG] at h2 hl;by_cases J:j+1<l.length
   .rw[MW (by rw[Kt];omega),Mp] at h2;rw[Mq J,LO];exact h2
   .have e:j+1=l.length:=by omega
    rw[Mt (by rw[Kt];omega),Kt,show j - (l.length - 1)=0 by omega,List.getElem?_take] at h2;rw[e,Nat.mod_self];simpa using h2
end DL
namespace T
open PySem L2 DL
def tk (l:vT_) (i:Nat):Pt:=(l[i % l.length]?).getD (0,0)
def js {l:vT_}(h:0<l.length):l[i % l.length]? = some (tk l i):=by
 unfold tk;rw[Le (Li _ h)];rfl
def aI {l:vT_}(h:i<l.length):l[i]? = some (tk l i):=by
 have:=js (l:=l) (i:=i) ∅
 rwa [Mq h] at this
def C7 {l:vT_}(i:Nat) (h:0<l.length):tk l i∈l:=LM (js (i:=i) h)
def K7 {l:vT_}(i:Nat):tk l (i % l.length)=tk l i:=by unfold tk;rw[Nat.mod_mod]
theorem vq (φ:Pt->Rat):∀(C:vT_),C≠[]->∃c∈C,∀x∈C,φ x<=φ c
 |[],h=>absurd rfl h
 |[a],_=>#[a,by simp,fun x B=>by rw[KI.mp B];exact Rat.le_refl]
 |a::b::r,_=>by
  obtain⟨c,J,h⟩:=vq φ (b::r) (by simp);by_cases q:φ a<=φ c
  .exact#[c,td _ J,fun x B=>by
    rcases tx.mp B with e | e
    .rw[e];exact q
    .exact h x e]
  .have q:φ c<=φ a:=by grind
   exact#[a,iR ..,fun x B=>by
    rcases tx.mp B with e | e
    .rw[e];exact Rat.le_refl
    .exact Rat.le_trans (h x e) q]
end T
namespace T
open DL
def K4 (u v:Pt):Rat:=u.1*v.2 - u.2*v.1
def Y9 (u v:Pt):Rat:=u.1*v.1+u.2*v.2
def p8 (a b:Pt):Pt:=(b.1 - a.1,b.2 - a.2)
def i7 (a b:Pt):Pt × Pt:=if f6 a b then (a,b) else (b,a)
def aQ (a b c d:Pt):Rat:=(b.1 - a.1)*(c.1*d.2 - c.2*d.1) - (a.1*b.2 - a.2*b.1)*(d.1 - c.1)
def aP (a b c d:Pt):Rat:=(a.1*b.2 - a.2*b.1)*(c.2 - d.2) - (a.2 - b.2)*(c.1*d.2 - c.2*d.1)
def K9 (a b c d:Pt):Pt:=(aQ a b c d / K4 (p8 a b) (p8 c d),aP a b c d / K4 (p8 a b) (p8 c d))
end T
namespace T
open PySem L2 DL
def qD (A:vT_):Prop:=∀k,∀z∈A,0<=a9 (tk A k) (tk A (k+1)) z
def gv (d z:Pt):Rat:=d.1*z.2 - d.2*z.1
def fO {A:vT_}{a:Pt}(h:a∈A):∃i,i<A.length/\tk A i=a:=by
 obtain⟨i,hi⟩:=Mn h;have B:=(KH.mp hi).1;refine#[i,B,?_];rw[aI B] at hi;exact KN hi
theorem jJ {d v:Pt}(M:d≠(0,0)) (h:gv d v=0):∃t:Rat,v=(t*d.1,t*d.2):=by
 have n:0<d.1*d.1+d.2*d.2:=by
  have a:=aw d.1;have b:=aw d.2;by_cases z:d.1=0
  .have:d.2≠0:=fun y=>M (KA z y)
   have:=dH this;grind
  .have:=dH z;grind
 have W:d.1*d.1+d.2*d.2≠0:=by grind
 refine#[(v.1*d.1+v.2*d.2) / (d.1*d.1+d.2*d.2),?_];unfold gv at h;generalize J:d.1*d.1+d.2*d.2=N at *;have B:N*N⁻¹=1:=Oj _ W;refine KA ?_ ?_
 .show v.1=(v.1*d.1+v.2*d.2) / N*d.1;rw[Lb];have U:d.2*(d.1*v.2 - d.2*v.1)=0:=by rw[h,MQ]
  have e:(v.1*d.1+v.2*d.2)*d.1=v.1*N:=by rw[<-J];grind
  have:(v.1*d.1+v.2*d.2)*N⁻¹*d.1=(v.1*d.1+v.2*d.2)*d.1*N⁻¹:=by grind
  rw[this,e,MR,B,Nv]
 .show v.2=(v.1*d.1+v.2*d.2) / N*d.2;rw[Lb];have U:d.1*(d.1*v.2 - d.2*v.1)=0:=by rw[h,MQ]
  have e:(v.1*d.1+v.2*d.2)*d.2=v.2*N:=by rw[<-J];grind
  have:(v.1*d.1+v.2*d.2)*N⁻¹*d.2=(v.1*d.1+v.2*d.2)*d.2*N⁻¹:=by grind
  rw[this,e,MR,B,Nv]
def jq (A:vT_):Prop:=∃a b c,a∈A/\b∈A/\c∈A/\a9 a b c≠0
def Ip (K:vT_) (p:Pt):Prop:=∀α β:Rat,∃k∈K,0<=α*(k.1 - p.1)+β*(k.2 - p.2)
def xq (a b u w:Pt):Pt:=d8 u w (a9 a b u / (a9 a b u - a9 a b w))
def X1 {x y:Rat}(h1:0<x) (h2:0<y):0<x*y:=Kj h1 h2
abbrev Dk:DT:=dB (a7 (n8 (fun i j=>decide (j<i))) (dL 1) (k0 0))
abbrev yT:DM:=w5 0 1 (a0 (dV 1) (a0 (a7 B8 (dL 0) (dL 1)) b9))
def Dv (fs:vO_) (r:Nat):∀(g:Nat),N8 Dk yT #[[.v (.int g),.v (.int r)],fs]=some (.next,#[[.v (.int (Nat.gcd g r)),.v (.int 0)],fs]):=by
 induction r using Nat.strongRecOn with
 |ind r M=>
  intro g;by_cases h:r=0
  .subst h;rw[Nat.gcd_zero_right];exact fR (by simp![d3])
  .have e:((g:Int).fmod (r:Int))=((g % r:Nat):Int):=by rw[Ob _ ∅];rfl
   have B:=M (g % r) (Li _ ∅) r;have J:Nat.gcd g r=Nat.gcd r (g % r):=by rw[Oc g r,Nat.gcd_rec,Oc]
   rw[J];refine kK (s1:=#[[.v (.int g),.v (.int r)],fs]) (s2:=#[[.v (.int r),.v (.int ((g % r:Nat):Int))],fs]) (by simp![d3];omega) ?_ B;rw[<-e];simp[w5,a0,b9,dV,a7,dL,B8,h]
abbrev zu:a8:=Dw
def yY (a b:Int) (fs:vO_):zu [.int a,.int b] fs=some (.int (Int.gcd a b),fs):=by
 have B:=Dv fs b.natAbs a.natAbs;refine u4 (s:=#[[.v (.int (Nat.gcd a.natAbs b.natAbs)),.v (.int 0)],fs]) ?_;show kB #[[.v (.int a),.v (.int b)],fs]=_;unfold kB;rw[B2 (s1:=#[[.v (.int a.natAbs),.v (.int b.natAbs)],fs]) (by simp![d3,X5,nA])];rw[B2 B];refine v8 ?_;simp[dV,Int.gcd]
end T
namespace DL
open PySem L2
def nu (f:FS) (h:f.kind=2):f.tget 0=some (.lst (f.cells.map .int)):=by unfold FS.tget;rw[fI ∅,gV rfl]
def oW (f:FS) (h:f.kind=2):f.tget 1=some (.int f.pos):=by unfold FS.tget;rw[fI ∅,fI #[],gV rfl]
def xM (f:FS) (h:f.kind=2):f.tget 2=some (.int f.left):=by unfold FS.tget;rw[fI ∅,fI #[],fI #[],gV rfl]
def kT (f:FS) (h:f.kind=2):f.tget 3=some (.int f.turn):=by unfold FS.tget;rw[fI ∅,fI #[],fI #[],fI #[],gV #[rfl,by omega]]
def tS (f:FS) (v:Int) (h:f.kind=2):f.tput 1 v=some { f with pos:=v }:=by unfold FS.tput;rw[fI ∅,gV rfl]
def se (f:FS) (v:Int) (h:f.kind=2):f.tput 2 v=some { f with left:=v }:=by unfold FS.tput;rw[fI ∅,fI #[],gV rfl]
def Bi (f:FS) (v:Int) (h:f.kind=2):f.tput 3 v=some { f with turn:=v }:=by unfold FS.tput;rw[fI ∅,fI #[],fI #[],gV #[rfl,by omega]]
end DL
namespace T
open PySem L2 DL
abbrev P0:a8:=tH
def zi (f:FS) (B:Int) (hm:0<B) (hm2:B<2 ^ 100) (ht:0<=f.pos) (ht2:f.pos<2 ^ 40) (hu:0<=f.turn) (hu2:f.turn<2 ^ 40) (hk:f.kind=2) (hcn:f.cells≠[]) :
  ∃r f',P0 [.feed,.int B] (some f)=some (.int r,some f')/\0<=r/\r<B/\f.pos<=f'.pos/\f'.pos<=f.pos+1/\f'.turn=f.turn+1/\f'.kind=2/\f'.cells=f.cells:=by
 have dm:M4 B=true:=DR ∅ ∅;have Z:B≠0:=by omega
 obtain⟨J,ps,W,U,kd⟩:=f;simp only at ht ht2 hu hu2 hk hcn ⊢;subst hk;have st0:R0 0 3 (a7 j4 (B7 0 3) (k0 1)) #[[.v .feed,.v (.int B),.no,.no,.no,.no],some #[J,ps,W,U,2]]=some (.next,#[[.v .feed,.v (.int B),.no,.no,.no,.no],some #[J,ps,W,U+1,2]]):=by
  simp[R0,a7,B7,kT,Bi,dC,k0,Qn,j4]
 by_cases hl:0<W
 .refine#[W.fmod B,#[J,ps,W.fdiv B,U+1,2],u4 (s:=#[[.v .feed,.v (.int B),.v (.int (W.fmod B)),.no,.no,.no],some #[J,ps,W.fdiv B,U+1,2]]) ?_,(ak hm).1,(ak hm).2,by simp,by simp;omega,rfl,rfl,rfl];show aH #[[.v .feed,.v (.int B),.no,.no,.no,.no],some #[J,ps,W,U,2]]=_;unfold aH;rw[B2 st0];refine Z5 ?_;simp[d6,A8,f7,a7,B7,R0,nu,oW,xM,tS,se,dC,k0,Qn,dL,dV,d5,l5,dB,n8,B8,G8,hl,Z,dm,i8,Option.bind]
 .have hc:0<J.length:=List.length_pos_iff.mpr hcn;have hi:=ak (a:=ps) (b:=(J.length:Int)) ∅;obtain⟨c,hg⟩:∃c:Int,v5 (J.map D.int) (ps.fmod (J.length:Int))=some (.int c):=by
   have:(ps.fmod (J.length:Int)).toNat<J.length:=by omega
   refine#[J[(ps.fmod (J.length:Int)).toNat],?_];rw[jG hi.1 (by rw[xo];exact hi.2),KO,Le this];rfl
  have hc1:=ak (a:=c) (b:=1000003) #[];have pre:∀rest:DM,d6 (R0 0 3 (a7 j4 (B7 0 3) (k0 1))) (d6 (l5 (dB (a7 (n8 (fun i j=>decide (j<i))) (B7 0 2) (k0 0))) (d6 (f7 (a7 B8 (B7 0 2) (dL 1)) (d5 2)) (d6 (R0 0 2 (a7 G8 (B7 0 2) (dL 1))) (i8 (dV 2)))) n9) (d6 (f7 (B7 0 1) (d5 3)) (d6 (R0 0 1 (a7 j4 (dL 3) (k0 1))) (d6 (f7 (a7 d3 (B7 0 0) (a7 B8 (dL 3) (j7 (one l7) (a0 (B7 0 0) b9)))) (d5 4)) rest))))
    #[[.v .feed,.v (.int B),.no,.no,.no,.no],some #[J,ps,W,U,2]]=rest #[[.v .feed,.v (.int B),.no,.v (.int ps),.v (.int c),.no],some #[J,ps+1,W,U+1,2]]:=fun rest=>by
   rw[B2 st0];rw[B2 (s1:=#[[.v .feed,.v (.int B),.no,.no,.no,.no],some #[J,ps,W,U+1,2]]) (by simp[l5,dB,a7,B7,xM,dC,k0,Qn,n8,hl,n9])];rw[B2 (s1:=#[[.v .feed,.v (.int B),.no,.v (.int ps),.no,.no],some #[J,ps,W,U+1,2]]) (by simp[f7,B7,oW,d5])];rw[B2 (s1:=#[[.v .feed,.v (.int B),.no,.v (.int ps),.no,.no],some #[J,ps+1,W,U+1,2]]) (by simp[R0,tS,a7,dL,dC,k0,Qn,j4])];rw[B2 (s1:=#[[.v .feed,.v (.int B),.no,.v (.int ps),.v (.int c),.no],some #[J,ps+1,W,U+1,2]]) (by
    have hn:¬ (J.length:Int)=0:=by omega
    simp[f7,a7,B7,nu,dL,j7,one,l7,a0,b9,B8,d3,d5,hcn,hg])]
  have Y:r0 (dB (a7 (n8 (fun i j=>decide (j<=i))) (dL 4) (a7 bh (k0 10) (k0 18)))) (dB (a7 (n8 (fun i j=>decide (i<j))) (dL 3) (j7 (one l7) (a0 (B7 0 0) b9)))) #[[.v .feed,.v (.int B),.no,.v (.int ps),.v (.int c),.no],some #[J,ps+1,W,U+1,2]] =
    some (decide (1000000000000000000<=c)&&decide (ps<(J.length:Int)),#[[.v .feed,.v (.int B),.no,.v (.int ps),.v (.int c),.no],some #[J,ps+1,W,U+1,2]]):=by
   by_cases h1:1000000000000000000<=c
   .simp[r0,dB,a7,dL,dC,k0,Qn,bh,n8,B7,nu,j7,one,l7,a0,b9,h1]
   .simp[r0,dB,a7,dL,dC,k0,Qn,bh,n8,h1]
  by_cases hb:(decide (1000000000000000000<=c)&&decide (ps<(J.length:Int)))=true
  .refine#[c.fmod B,#[J,ps+1,c.fdiv B,U+1,2],u4 (s:=#[[.v .feed,.v (.int B),.no,.v (.int ps),.v (.int c),.no],some #[J,ps+1,c.fdiv B,U+1,2]]) ?_,(ak hm).1,(ak hm).2,by simp;omega,by simp,rfl,rfl,rfl];show aH #[[.v .feed,.v (.int B),.no,.no,.no,.no],some #[J,ps,W,U,2]]=_;unfold aH;rw[pre];rw[hb] at Y;refine Z5 ?_;rw[M6 Y];simp[d6,A8,R0,a7,dL,G8,dm,se,i8,B8,Z]
  .have hb':(decide (1000000000000000000<=c)&&decide (ps<(J.length:Int)))=false:=by simpa using hb
   have b1:A0 48271=true:=by decide
   have b2:A0 (c.fmod 1000003)=true:=gE ∅;have b3:A0 7919=true:=by decide
   have b4:A0 (U+1)=true:=gE ∅;have b5:A0 69621=true:=by decide
   have b6:A0 31=true:=by decide
   have b7:A0 (31*(U+1))=true:=gE ∅;have d64:M4 64=true:=by decide
   obtain⟨M,hM,m1,m2⟩:∃M:Int,(c.fmod 1000003*48271+7919*(U+1)+104729).fmod 2147483647=M/\0<=M/\M<2147483647:=#[_,rfl,ak #[]]
   have hD:=Ol M (show (0:Int)<=64 by decide);have b8:A0 (M.fdiv 64)=true:=gE (by rw[hD];omega);obtain⟨L,hL⟩:∃L:Int,(M.fdiv 64*69621+31*(U+1)*(U+1)+ps).fmod 2147483587=L:=#[_,rfl]
   refine#[(L.fdiv 64).fmod B,#[J,ps+1,W,U+1,2],u4 (s:=#[[.v .feed,.v (.int B),.no,.v (.int ps),.v (.int c),.v (.int L)],some #[J,ps+1,W,U+1,2]]) ?_,(ak hm).1,(ak hm).2,by simp;omega,by simp,rfl,rfl,rfl];show aH #[[.v .feed,.v (.int B),.no,.no,.no,.no],some #[J,ps,W,U,2]]=_;unfold aH;rw[pre];rw[hb'] at Y;rw[B2 (by rw[J0 Y];rfl)];rw[B2 (s1:=#[[.v .feed,.v (.int B),.no,.v (.int ps),.v (.int c),.v (.int M)],some #[J,ps+1,W,U+1,2]]) (by
    simp[f7,a7,dL,dC,k0,Qn,B7,kT,d5,B8,j6,j4,b1,b2,b3,b4,hM])]
   rw[B2 (s1:=#[[.v .feed,.v (.int B),.no,.v (.int ps),.v (.int c),.v (.int L)],some #[J,ps+1,W,U+1,2]]) (by
    simp[f7,a7,dL,dC,k0,Qn,B7,kT,d5,B8,j6,j4,G8,b4,b5,b6,b7,b8,d64,hL])]
   simp[i8,a7,dL,dC,k0,Qn,B8,G8,d64,Z]
def Fd4 (n:Nat) (f:FS):Prop:=0<=f.pos/\f.pos<=n/\0<=f.turn/\f.turn<=n/\f.kind=2/\f.cells≠[]
def Fd4.mono {m:Nat}{f:FS}(h:Fd4 n f) (hm:n<=m):Fd4 m f:=#[h.1,by have:=h.2.1;omega,h.2.2.1,by have:=h.2.2.2.1;omega,h.2.2.2.2]
def V9 {n:Nat}{f:FS}(B:Int) (h:Fd4 n f) (hm:0<B:=by omega) (hn:n<2 ^ 30:=by omega) (J:B<2 ^ 100:=by omega) :
  ∃r f',P0 [.feed,.int B] (some f)=some (.int r,some f')/\0<=r/\r<B/\Fd4 (n+1) f':=by
 obtain⟨a1,a2,U,a4,W,M⟩:=h;obtain⟨r,f',e,h0,h1,h2,h3,h4,Y,Z⟩:=zi f B hm J a1 ∅ U ∅ W M;exact#[r,f',e,h0,h1,by omega,by omega,by omega,by omega,Y,by rw[Z];exact M]
def GS (B:List Int):O5 B≠[]:=by
 unfold O5;cases B with
 |nil=>simp
 |cons n r=>simp
def De {B:List Int}(h:B.length<=63):(O5 B).length<=63:=by
 unfold O5;cases B with
 |nil=>simp
 |cons n r=>simpa using h
def zJ (B:List Int) (h:B.length<=63):cS [.scr B] none=some (.feed,some #[O5 B,0,0,0,2]):=by
 refine u4 (s:=#[[.v (.scr B)],some #[O5 B,0,0,0,2]]) ?_;show mF #[[.v (.scr B)],none]=_;have:=De h;simp[mF,i8,iI,this]
def Fd4.zero (B:List Int):Fd4 0 #[O5 B,0,0,0,2]:=#[by simp,by simp,by simp,by simp,rfl,GS B]
def C3 {i j:Int}(h1:A0 i=true) (h2:A0 j=true):j6 (.int i) (.int j)=some (.int (i*j)):=by simp[j6,h1,h2]
def rV (a b:Int) (fs:vO_):jb [.int a,.int b] fs=some (.int (Int.gcd a b),fs):=yY a b fs
abbrev cY:a8:=xJ jb
def jR (x y d:Int) (fs:vO_) (J:d≠0) (h:Bd k d) (hk:k<=8000):cY [.int x,.int y,.int d] fs=some (pt (Rat.divInt x d,Rat.divInt y d),fs):=by
 obtain⟨p0,p1,p2,p3⟩:=gD x y d J;have W:=wA (x:=x) (y:=y) J h hk;have Y:=rV x y fs;have M:=rV (Int.gcd x y:Int) d fs;refine u4 (s:=#[[.v (.int x),.v (.int y),.v (.int d),.v (.int (if d<0 then -(Int.gcd (Int.gcd x y:Int) d:Int) else (Int.gcd (Int.gcd x y:Int) d:Int)))],fs]) ?_;show iE jb #[[.v (.int x),.v (.int y),.v (.int d),.no],fs]=_;unfold iE;rw[B2 (s1:=#[[.v (.int x),.v (.int y),.v (.int d),.v (.int (Int.gcd (Int.gcd x y:Int) d))],fs]) (by simp![d3,Y,M])];rw[B2 (s1:=#[[.v (.int x),.v (.int y),.v (.int d),.v (.int (if d<0 then -(Int.gcd (Int.gcd x y:Int) d:Int) else (Int.gcd (Int.gcd x y:Int) d:Int)))],fs]) (by
  by_cases B:d<0
  .simp![d3,B]
  .simp![d3,B])]
 generalize Z:(if d<0 then -(Int.gcd (Int.gcd x y:Int) d:Int) else (Int.gcd (Int.gcd x y:Int) d:Int))=gg at *;refine v8 ?_;unfold pt;rw[<-p1,<-p2,<-p3];have U:(3:Nat)<=sizeLine:=by decide
 simp![d3,G8,W,U]
end T
namespace DL
open PySem L2
def qg {α:Type}{xs:List α}{x:α}(h:xs[i]? = some x):v5 xs (i:Int)=some x:=by
 have hi:=(KH.mp h).1;rw[jG ∅ ∅];simpa using h
def nt {α:Type}{xs:List α}{x:α}(h:xs[xs.length - 1]? = some x):v5 xs (-1)=some x:=by
 have hi:=(KH.mp h).1;unfold v5 P6;rw[fI ∅,gV ∅];show xs[_]? = _;rw[show ((-1:Int)+xs.length).toNat=xs.length - 1 by omega];exact h
end DL
namespace T
open PySem L2 DL
abbrev ag:a8:=ux U9
def Jg (ds:vD_) (fs:vO_) (hl:ds.length+1<=sizeLine):ag [.tup ds] fs=some (.lst ((d9 true ds).map S8),fs):=by
 refine u4 (s:=#[[.v (.tup ds)],fs]) ?_;show gR U9 #[[.v (.tup ds)],fs]=_;have e:=CV ds true fs hl;generalize (d9 true ds).map S8=W at *;simp![gR,d3,e]
def cI (S:vD_):D->D
 |.int k=>.tup [(S[k.toNat]?).getD .non,(S[(k.toNat+1) % S.length]?).getD .non]
 |_=>.non
def Dg (S:vD_) (fs:vO_):∀d∈B0 0 S.length,∃s,f9 (a0 (a7 d3 (dL 1) (dL 0)) (a0 (a7 d3 (dL 1) (a7 B8 (a7 j4 (dL 0) (k0 1)) (j7 (one l7) (a0 (dL 1) b9)))) b9)) #[.v d::[.v (.tup S)],fs]=some (cI S d,s)/\s.fs=fs:=by
 intro d Y;obtain⟨i,hi⟩:=Mn Y;obtain⟨rfl,B⟩:=fE hi;rw[Pm];have hm:(i+1) % S.length<S.length:=Li _ ∅;have U:v5 S (i:Int)=some S[i]:=qg (xs:=S) (i:=i) (x:=S[i]) (by rw[Le ∅]);have Z:((i:Int)+1).fmod (S.length:Int)=(((i+1) % S.length:Nat):Int):=by
  rw[Ob _ ∅];simp
 have M:v5 S (((i:Int)+1).fmod (S.length:Int))=some S[(i+1) % S.length]:=by
  rw[Z];exact qg (xs:=S) (i:=(i+1) % S.length) (x:=S[(i+1) % S.length]) (by rw[Le hm])
 have J:¬ (S.length:Int)=0:=by omega
 refine#[#[[.v (.int (i:Int)),.v (.tup S)],fs],?_,rfl];have W:cI S (.int (i:Int)) = .tup [S[i],S[(i+1) % S.length]]:=by
  simp only[cI,LC];rw[Le ∅,Le hm];rfl
 rw[W];have pm:B8 (.int ((i:Int)+1)) (.int (S.length:Int))=some (.int (((i:Int)+1).fmod (S.length:Int))):=by simp only[B8,ne_eq,J,not_false_eq_true,KG]
 generalize S[i]=x at *;generalize S[(i+1) % S.length]=y at *;generalize ((i:Int)+1).fmod (S.length:Int)=z at *;simp![Y2,aV,dq,bR,aW,bw,bL,U,M,pm,jg]
def CH (ds:vD_):(B0 0 ds.length).map (cI ds)=(d9 true ds).map S8:=by
 have J:(d9 true ds).length=ds.length:=by
  rw[kC];simp only[KG];omega
 apply OM;intro i;by_cases hi:i<(d9 true ds).length
 .obtain⟨a,b,M,W,U⟩:=Ed hi;have u:(B0 0 ds.length)[i]? = some (.int (i:Int)):=by
   unfold B0;rw[KO,List.getElem?_range ∅];simp
  rw[KO,u,KO,U];simp only[OG,cI,LC,M,W];rfl
 .have B:(d9 true ds).length<=i:=by omega
  rw[Pn (by rw[xo];unfold B0;rw[xo,Nw];omega)];rw[Pn (by rw[xo];exact B)]
def JT (ds:vD_) (fs:vO_) (hl:ds.length<=1000000):N2 [.tup ds] fs=some (.lst ((d9 true ds).map S8),fs):=by
 have B:=xO (idx:=[0]) (g:=cI ds) [.v (.tup ds)] fs (B0 0 ds.length) (Dg ds fs);rw[CH] at B;have Y:V6 [.int (ds.length:Int)]=some (B0 0 ds.length):=fA ∅;have J:(B0 0 ds.length).length<=sizeLine:=by
  unfold B0;rw[xo,Nw,ND];omega
 have ha:a0 (j7 (one l7) (a0 (dL 0) b9)) b9 #[[.v (.tup ds)],fs]=some ([.int (ds.length:Int)],#[[.v (.tup ds)],fs]):=by
  simp![d3]
 have U:de (a0 (j7 (one l7) (a0 (dL 0) b9)) b9) #[[.v (.tup ds)],fs]=some (B0 0 ds.length,#[[.v (.tup ds)],fs]):=by
  unfold de;rw[ha,xr];show (V6 [.int (ds.length:Int)]).map _=_;rw[Y];rfl
 have Z:E7 [0] (de (a0 (j7 (one l7) (a0 (dL 0) b9)) b9)) D5 (f9 (a0 (a7 d3 (dL 1) (dL 0)) (a0 (a7 d3 (dL 1) (a7 B8 (a7 j4 (dL 0) (k0 1)) (j7 (one l7) (a0 (dL 1) b9)))) b9))) #[[.v (.tup ds)],fs]=some ((d9 true ds).map S8,#[[.v (.tup ds)],fs]):=by
  unfold E7;rw[U,xr];simp only[gV J];have M:Q5 [0] [Sl.v (.tup ds)]=[.v (.tup ds)]:=rfl;rw[M,B];rfl
 refine u4 (s:=#[[.v (.tup ds)],fs]) ?_;show jB #[[.v (.tup ds)],fs]=_;unfold jB;refine v8 ?_;generalize (E7 [0] (de (a0 (j7 (one l7) (a0 (dL 0) b9)) b9)) D5 (f9 (a0 (a7 d3 (dL 1) (dL 0)) (a0 (a7 d3 (dL 1) (a7 B8 (a7 j4 (dL 0) (k0 1)) (j7 (one l7) (a0 (dL 1) b9)))) b9))))=F at *;generalize (d9 true ds).map S8=W at *;simp[o7,Z]
def cM {i:Int}(h:v5 ds i=some d):d3 (.lst ds) (.int i)=some d:=(aV ds i).trans h
def cF {s:DS}{R:vD_}(h:fi s=some (ds,s1)) (hz:ds.length<=sizeLine) (c:B9 (fun d=>some (.v d::Q5 idx s1.sl)) fc fe ds s1.fs=some (R,fs')):E7 idx fi fc fe s=some (R,{ s1 with fs:=fs' }):=by
 unfold E7;rw[h,xr,gV hz,c];rfl
def mQ {a:Int}{g:Nat}:(a.fdiv (g:Int)).natAbs<=a.natAbs:=by
 rw[Ol _ ∅];exact Qg a g
def Jr (x y:Int) {d:Int}(h:1<=d):(pX (Rat.divInt x d,Rat.divInt y d)).natAbs<=x.natAbs/\(pY (Rat.divInt x d,Rat.divInt y d)).natAbs<=y.natAbs/\(pL (Rat.divInt x d,Rat.divInt y d)).natAbs<=d.natAbs:=by
 obtain⟨B,p1,p2,p3⟩:=gD x y d ∅;rw[fI ∅] at p1 p2 p3;rw[<-p1,<-p2,<-p3];exact#[mQ,mQ,mQ]
abbrev T8:a8:=wY cY
def Fp {i j:Nat}{f:DA}{s s1 s2:DS}{a b:D}(h:f s=some ([a,b],s1)) (e:{ s1 with sl:=(s1.sl.set i (.v a)).set j (.v b) }=s2):w5 i j f s=some (.next,s2):=by
 unfold w5;rw[h,<-e];rfl
def Ir {i:Nat}{f:DA}{s s1 s2:DS}{ds:vD_}(h:f s=some (ds,s1)) (hi:i<s1.sl.length) (e:{ s1 with sl:=s1.sl.set i (.own ds) }=s2):C1 i f s=some (.next,s2):=by
 unfold C1;rw[h,xr,gV hi,<-e]
def bT {s:DS}(h:f s=some (ds,s1)) (hz:ds.length<=sizeLine):f9 f s=some (.tup ds,s1):=by
 unfold f9;rw[h,xr,gV hz]
def iT {a b:DT}{s:DS}(h1:a s=some (false,s1)) (h2:b s1=some (false,s2)):A3 a b s=some (false,s2):=by
 unfold A3;rw[h1,xr];exact h2
def af {p:List D->Option D}{a:DA}{s:DS}{xs:vD_}(ha:a s=some (xs,s1)) (hp:p xs=some d):j7 p a s=some (d,s1):=by
 unfold j7;rw[ha,xr,hp];rfl
def du {s:DS}(h:f s=some (ds,s1)):o7 f s=some (.lst ds,s1):=by
 unfold o7;rw[h];rfl
def EC {f:DE}{s:DS}(h:f s=some (.lst ds,s1)):iJ f (t9 u5 (k0 1)) s=some (.lst ds.reverse,s1):=by
 unfold iJ;rw[h,xr];rfl
def Gr {a b:D}{l:Bool}{fs:vO_}(e:m [a,b] fs=some (.bl l,fs)):hV m [a,b] fs=some (.tup (if l then [a,b] else [b,a]),fs):=by
 cases l <;> simp![hV,o8,kA,d3,e,jg]
abbrev cB (x y l:Int):D:=.tup [.int x,.int y,.int l]
def ze {α:Type}{caps:List Sl}(fs:vO_) (A G:α->D):∀l:List α,(∀z∈l,fe #[.v (A z)::caps,fs]=some (G z,#[.v (A z)::caps,fs]))->B9 (fun d=>some (.v d::caps)) D5 fe (l.map A) fs=some (l.map G,fs):=by
 intro l;induction l with
 |nil=>exact fun _=>rfl
 |cons z r B=>
  intro h;have e:=h z (iR ..);have B:=B fun y J=>h y (td _ J)
  rw[Ku,B9,xr,
   show D5 #[.v (A z)::caps,fs]=some (true,#[.v (A z)::caps,fs]) from rfl,xr,gV rfl,e,xr,B]
  rfl
def qy {x l M J B:Int}(fs:vO_) (hx:Bd k x) (hy:Bd k y) (hl:Bd k l) (U:Bd k M) (W:Bd k J) (Y:Bd k B) (hk:k<=2000):gQ [cB x y l,cB M J B] fs=some (cB (y*B - l*J) (l*M - x*B) (x*J - y*M),fs):=by
 have Z:=hx.bits ∅;have b2:=hy.bits ∅;have b3:=hl.bits ∅;have c1:=U.bits ∅;have c2:=W.bits ∅;have c3:=Y.bits ∅;refine u4 (s:=#[[.v (cB x y l),.v (cB M J B)],fs]) (v8 ?_);exact JB (c7 (c7 (c7 rfl rfl rfl) (c7 rfl rfl rfl) (Y8 b2 c3)) (c7 (c7 rfl rfl rfl) (c7 rfl rfl rfl) (Y8 b3 c2)) rfl) (c7 (c7 (c7 rfl rfl rfl) (c7 rfl rfl rfl) (Y8 b3 c1)) (c7 (c7 rfl rfl rfl) (c7 rfl rfl rfl) (Y8 Z c3)) rfl) (c7 (c7 (c7 rfl rfl rfl) (c7 rfl rfl rfl) (Y8 Z c2)) (c7 (c7 rfl rfl rfl) (c7 rfl rfl rfl) (Y8 b2 c1)) rfl)
abbrev U4:a8:=nH gQ
def F7 (a b:Pt):Int:=pY a*pL b - pL a*pY b
def G1 (a b:Pt):Int:=pL a*pX b - pX a*pL b
def L4 (a b:Pt):Int:=pX a*pY b - pY a*pX b
abbrev l8 (a b:Pt):D:=cB (F7 a b) (G1 a b) (L4 a b)
def dU {a b:Pt}(ha:Ps k a) (hb:Ps k b):Bd (k+k+1) (F7 a b)/\Bd (k+k+1) (G1 a b)/\Bd (k+k+1) (L4 a b):=
 #[((ha.y.mul hb.l).sub (ha.l.mul hb.y)).mono ∅,((ha.l.mul hb.x).sub (ha.x.mul hb.l)).mono ∅,((ha.x.mul hb.y).sub (ha.y.mul hb.x)).mono ∅]
def xY {a b:Pt}(fs:vO_) (ha:Ps k a) (hb:Ps k b) (hk:k<=900):U4 [pt a,pt b] fs=some (l8 a b,fs):=by
 have e:=qy fs ha.x ha.y ha.l hb.x hb.y hb.l ∅;exact u4 (s:=#[[.v (pt a),.v (pt b)],fs]) (v8 (o6 rfl e))
abbrev aC:a8:=pD mh
theorem Ie (a b c:Pt):R7 (F7 a b*pX c+G1 a b*pY c+L4 a b*pL c)=A1 (a9 a b c):=by
 refine jk (yq (E8 a) (E8 b) (E8 c)) ?_;unfold F7 G1 L4;simp only[Mr,Ln,Kk,L3,L5,a9];grind
def Ca {a b c:Pt}(fs:vO_) (ha:Ps k a) (hb:Ps k b) (B:Ps k c) (hk:k<=900):aC [l8 a b,pt c] fs=some (.int (A1 (a9 a b c)),fs):=by
 obtain⟨h1,h2,h3⟩:=dU ha hb;have J:=h1.bits ∅;have U:=h2.bits ∅;have M:=h3.bits ∅;have Y:=B.x.bits ∅;have Z:=B.y.bits ∅;have W:=B.l.bits ∅;rw[<-Ie];refine u4 (s:=#[[.v (l8 a b),.v (pt c)],fs]) (v8 (o6 (L0 (c7 (c7 (c7 (c7 rfl rfl rfl) (c7 rfl rfl (aW c)) (Y8 J Y)) (c7 (c7 rfl rfl rfl) (c7 rfl rfl (bw c)) (Y8 U Z)) rfl) (c7 (c7 rfl rfl rfl) (c7 rfl rfl (bL c)) (Y8 M W)) rfl) rfl) (Jk _ fs)))
theorem pg {q a b:Rat}(J:q≠0) (hb:b≠0):(q*a) / (q*b)=a / b:=by
 have B:q*b≠0:=fun z=>by
  rcases La.mp z with z | z
  .exact J z
  .exact hb z
 have U:=Oe (a:=q*a) B;have M:=Oe (a:=a) hb;have:(q*a / (q*b) - a / b)*(q*b)=0:=by grind
 rcases La.mp this with z | z
 .grind
 .exact absurd z B
theorem wW {a b c d:Pt}(B:K4 (p8 a b) (p8 c d)≠0):F7 a b*G1 c d - G1 a b*F7 c d≠0/\(Rat.divInt (G1 a b*L4 c d - L4 a b*G1 c d) (F7 a b*G1 c d - G1 a b*F7 c d),Rat.divInt (L4 a b*F7 c d - F7 a b*L4 c d) (F7 a b*G1 c d - G1 a b*F7 c d))=K9 a b c d:=by
 have P:(pL a:Rat)*pL b*(pL c*pL d)≠0:=fun z=>by
  rcases La.mp z with z | z
  .rcases La.mp z with z | z
   .exact eZ a z
   .exact eZ b z
  .rcases La.mp z with z | z
   .exact eZ c z
   .exact eZ d z
 have J:((F7 a b*G1 c d - G1 a b*F7 c d:Int):Rat)=((pL a:Rat)*pL b*(pL c*pL d))*K4 (p8 a b) (p8 c d):=by
  unfold F7 G1 K4 p8;simp only[Ln,Kk,L3,L5];grind
 have M:((G1 a b*L4 c d - L4 a b*G1 c d:Int):Rat)=((pL a:Rat)*pL b*(pL c*pL d))*aQ a b c d:=by
  unfold G1 L4 aQ;simp only[Ln,Kk,L3,L5];grind
 have U:((L4 a b*F7 c d - F7 a b*L4 c d:Int):Rat)=((pL a:Rat)*pL b*(pL c*pL d))*aP a b c d:=by
  unfold F7 L4 aP;simp only[Ln,Kk,L3,L5];grind
 refine#[fun z=>?_,?_]
 .rw[z] at J;rcases La.mp J.symm with q | q
  .exact P q
  .exact B q
 .unfold K9;rw[MN,MN,J,M,U,pg P B,pg P B]
def so {a b c d:Pt}(ha:Ps k a) (hb:Ps k b) (Y:Ps k c) (hd:Ps k d) (Z:K4 (p8 a b) (p8 c d)≠0):PtS (4*k+3) (K9 a b c d):=by
 obtain⟨h1,h2,M⟩:=dU ha hb;obtain⟨B,J,W⟩:=dU Y hd;obtain⟨U,q⟩:=wW Z;rw[<-q];exact#[Sz.of_divInt U (((h2.mul W).sub (M.mul J)).mono ∅) (((h1.mul J).sub (h2.mul B)).mono ∅),Sz.of_divInt U (((M.mul B).sub (h1.mul W)).mono ∅) (((h1.mul J).sub (h2.mul B)).mono ∅)]
abbrev ft:a8:=rn FL gQ
def GQ {a b c d:Pt}(fs:vO_) (ha:Ps k a) (hb:Ps k b) (W:Ps k c) (hd:Ps k d) (hk:k<=400) (Y:K4 (p8 a b) (p8 c d)≠0):ft [l8 a b,l8 c d] fs=some (pt (K9 a b c d),fs):=by
 obtain⟨h1,h2,M⟩:=dU ha hb;obtain⟨B,J,Z⟩:=dU W hd;have e:=qy fs h1 h2 M B J Z ∅;obtain⟨U,q⟩:=wW Y;have l:=AY (G1 a b*L4 c d - L4 a b*G1 c d) (L4 a b*F7 c d - F7 a b*L4 c d) (F7 a b*G1 c d - G1 a b*F7 c d) fs U ((h1.mul J).sub (h2.mul B)) ∅;rw[q] at l;exact u4 (s:=#[[.v (l8 a b),.v (l8 c d)],fs]) (v8 (o6 (L0 (o6 rfl e) rfl) l))
abbrev Z8:a8:=hV E3
abbrev c8 (u:Pt × Pt):D:=.tup [pt u.1,pt u.2]
def tK {a b:Pt}(fs:vO_) (ha:Ps k a) (hb:Ps k b) (hk:k<=2000):Z8 [pt a,pt b] fs=some (c8 (i7 a b),fs):=by
 have e:=Gr (ay a b fs ha hb hk);refine e.trans ?_;unfold i7;cases f6 a b <;> rfl
theorem tM (a b u w:Pt):K4 (p8 a b) (p8 u w)=a9 a b w - a9 a b u:=by unfold K4 p8 a9;grind
theorem yS {a b u w:Pt}(h:a9 a b u*a9 a b w<0):K4 (p8 a b) (p8 u w)≠0/\K9 a b u w=xq a b u w:=by
 have J:a9 a b w - a9 a b u≠0:=fun z=>by
  have e:a9 a b w=a9 a b u:=by grind
  rw[e] at h;have:=aw (a9 a b u);grind
 refine#[by rw[tM];exact J,?_];have B:a9 a b u - a9 a b w≠0:=by grind
 unfold K9 xq d8;rw[tM];have s:a9 a b u / (a9 a b u - a9 a b w) = -a9 a b u / (a9 a b w - a9 a b u):=by
  rw[Lb,Lb];grind
 rw[s];refine KA ?_ ?_
 .show aQ a b u w / (a9 a b w - a9 a b u)=u.1 + -a9 a b u / (a9 a b w - a9 a b u)*(w.1 - u.1);have e:aQ a b u w=u.1*(a9 a b w - a9 a b u) - a9 a b u*(w.1 - u.1):=by unfold aQ a9;grind
  rw[e,Lb,Lb];generalize a9 a b w - a9 a b u=W at *;grind
 .show aP a b u w / (a9 a b w - a9 a b u)=u.2 + -a9 a b u / (a9 a b w - a9 a b u)*(w.2 - u.2);have e:aP a b u w=u.2*(a9 a b w - a9 a b u) - a9 a b u*(w.2 - u.2):=by unfold aP a9;grind
  rw[e,Lb,Lb];generalize a9 a b w - a9 a b u=W at *;grind
theorem mm (x:Rat):A1 x = -1↔x<0:=by
 unfold A1;by_cases h:0<x
 .rw[gV h];exact#[fun z=>absurd z #[],fun z=>by grind]
 .rw[fI h];by_cases h2:x<0
  .rw[gV h2];exact#[fun _=>h2,fun _=>rfl]
  .rw[fI h2];exact#[fun z=>absurd z #[],fun z=>absurd z h2]
theorem wm {a b c d q:Pt}(B:K4 (p8 a b) (p8 c d)≠0) (h1:a9 a b q=0) (h2:a9 c d q=0):K9 a b c d=q:=by
 have W:aQ a b c d=q.1*K4 (p8 a b) (p8 c d):=by
  unfold a9 at h1 h2;unfold aQ K4 p8;have M:(d.1 - c.1)*((b.1 - a.1)*(q.2 - a.2) - (b.2 - a.2)*(q.1 - a.1))=0:=by rw[h1,MQ]
  have U:(b.1 - a.1)*((d.1 - c.1)*(q.2 - c.2) - (d.2 - c.2)*(q.1 - c.1))=0:=by rw[h2,MQ]
  show (b.1 - a.1)*(c.1*d.2 - c.2*d.1) - (a.1*b.2 - a.2*b.1)*(d.1 - c.1)=q.1*((b.1 - a.1)*(d.2 - c.2) - (b.2 - a.2)*(d.1 - c.1));grind
 have J:aP a b c d=q.2*K4 (p8 a b) (p8 c d):=by
  unfold a9 at h1 h2;unfold aP K4 p8;have M:(d.2 - c.2)*((b.1 - a.1)*(q.2 - a.2) - (b.2 - a.2)*(q.1 - a.1))=0:=by rw[h1,MQ]
  have U:(b.2 - a.2)*((d.1 - c.1)*(q.2 - c.2) - (d.2 - c.2)*(q.1 - c.1))=0:=by rw[h2,MQ]
  show (a.1*b.2 - a.2*b.1)*(c.2 - d.2) - (a.2 - b.2)*(c.1*d.2 - c.2*d.1)=q.2*((b.1 - a.1)*(d.2 - c.2) - (b.2 - a.2)*(d.1 - c.1));grind
 unfold K9;rw[W,J,Lb,Lb,MR,MR,Oj _ B,Nv,Nv]
def Ff (ds:vD_) (c:Bool) (fs:vO_) (hl:ds.length+1<=sizeLine):U9 [.lst ds,.bl c] fs=some (.lst ((d9 c ds).map S8),fs):=by
 refine u4 (s:=#[[.v (.lst ds),.v (.bl c)],fs]) ?_;show bx #[[.v (.lst ds),.v (.bl c)],fs]=_;have h1:ds.length - 1+min 1 ds.length<=sizeLine:=by omega
 cases c
 .simp! only[]
 .simp! only[sN,h1]
def mZ {t:D->DS->Option DS}{b:DM}{x:D}{r:vD_}{s:DS}(h1:t d s=some s1) (h2:b s1=some (.ret x,s2)):u6 t b (d::r) s=some (.ret x,s2):=by simp[u6,h1,h2]
def pq (q:Pt × Pt):D:=.tup [pt q.1,pt q.2]
def vL (K:vT_):(d9 true (K.map pt)).map S8=(d9 true K).map pq:=by
 rw[IH,ML];rfl
def d7 (A:vT_):D:=.tup (A.map pt)
def ij {A:vT_}(h:i<A.length):(d9 true A)[i]? = some (tk A i,tk A (i+1)):=by
 have hl:i<(d9 true A).length:=by rw[kC,gV rfl];omega
 have l2:(A.drop 1++A.take 1).length=A.length:=by rw[Km,Kt,Ld];omega
 unfold d9;rw[gV rfl,Nj];refine#[aI h,?_];by_cases c:i+1<A.length
 .rw[MW (by rw[Kt];omega),Mp,LO 1 i,aI c]
 .have B:i+1=A.length:=by omega
  rw[Mt (by rw[Kt];omega),Kt,show i - (A.length - 1)=0 by omega,NF #[],aI ∅];rw[<-K7 (i+1),B,Nat.mod_self]
structure ShC (A:vT_):Prop where
 cv:qD A
 ne:∀k,tk A (k+1)≠tk A k
 nc:jq A
 lo:3<=A.length
 hi:A.length<=6
 sz:∀z∈A,Ps 8 z/\PtS 35 z
 st:∀k,∀z∈A,z=tk A k\/z=tk A (k+1)\/0<a9 (tk A k) (tk A (k+1)) z
 nd:A.Nodup
def ShC.ps {A:vT_}(h:ShC A):∀z∈A,Ps 70 z:=fun z B=>(h.sz z B).1.mono #[]
def j5 {a b:DM}{s:DS}{r:Option (Fl × DS)}(h:a s=some (.next,s1)) (k:b s1=r):d6 a b s=r:=(B2 h).trans k
theorem aX {n:Int}{r:Rat}(h:R7 n=A1 r):(n<0↔r<0)/\(n=0↔r=0)/\(0<n↔0<r):=by
 unfold R7 A1 at h;by_cases a:0<n
 .by_cases b:0<r
  .exact#[by constructor <;> intro <;> grind,by constructor <;> intro <;> grind,by simp[a,b]]
  .rw[gV a,fI b] at h;split at h <;> omega
 .by_cases b:0<r
  .rw[fI a,gV b] at h;split at h <;> omega
  .rw[fI a,fI b] at h;by_cases c:n<0
   .by_cases d:r<0
    .exact#[by simp[c,d],by constructor <;> intro <;> grind,by simp[a,b]]
    .rw[gV c,fI d] at h;omega
   .by_cases d:r<0
    .rw[fI c,gV d] at h;omega
    .exact#[by simp[c,d],by constructor <;> intro <;> grind,by simp[a,b]]
theorem Gz (A B:Pt):R7 (pX A*pL B - pX B*pL A)=A1 (A.1 - B.1):=jk (c:=(pL A:Rat)*pL B) (X1 (E8 A) (E8 B)) (by
 rw[Ln,Kk,Kk,L3,L3];grind)
theorem BH (A B:Pt):R7 (pY A*pL B - pY B*pL A)=A1 (A.2 - B.2):=jk (c:=(pL A:Rat)*pL B) (X1 (E8 A) (E8 B)) (by
 rw[Ln,Kk,Kk,L5,L5];grind)
abbrev O0 (A B P:Pt):Int:=pX A*(pY B*pL P - pL B*pY P) - pY A*(pX B*pL P - pL B*pX P)+pL A*(pX B*pY P - pY B*pX P)
theorem gq (A B P:Pt):R7 (O0 A B P)=A1 (a9 A B P):=jk (c:=(pL A:Rat)*pL B*pL P) (X1 (X1 (E8 A) (E8 B)) (E8 P)) (by
 unfold O0 a9;simp only[Ln,Mr,Kk,L3,L5];grind)
theorem Ja (A B:Pt):(decide (pX A*pL B - pX B*pL A<0)||(decide (pX A*pL B - pX B*pL A=0)&&decide (pY A*pL B<pY B*pL A)))=f6 A B:=by
 obtain⟨h1,h2,_⟩:=aX (Gz A B);obtain⟨J,_,_⟩:=aX (BH A B);unfold f6;congr 1
 .rw[MS,h1];constructor <;> intro <;> grind
 .congr 1
  .rw[MS,h2];constructor <;> intro <;> grind
  .rw[MS];constructor
   .intro h;have:=J.mp ∅;grind
   .intro h;have:=J.mpr (by grind);omega
def JC {x z u v w:Int}(fs:vO_) (m1:j6 (.int x) (.int w)=some (.int (x*w))) (m2:j6 (.int u) (.int z)=some (.int (u*z))) (m3:j6 (.int y) (.int w)=some (.int (y*w))) (m4:j6 (.int v) (.int z)=some (.int (v*z))) :
  F5 [.tup [.int x,.int y,.int z],.tup [.int u,.int v,.int w]] fs=some (.bl (decide (x*w - u*z<0)||(decide (x*w - u*z=0)&&decide (y*w<v*z))),fs):=by
 refine u4 (s:=#[[.v (.tup [.int x,.int y,.int z]),.v (.tup [.int u,.int v,.int w]),.v (.int (x*w - u*z))],fs]) ?_;show gY #[[.v (.tup [.int x,.int y,.int z]),.v (.tup [.int u,.int v,.int w]),.no],fs]=_;unfold gY;rw[B2 (s1:=#[[.v (.tup [.int x,.int y,.int z]),.v (.tup [.int u,.int v,.int w]),.v (.int (x*w - u*z))],fs]) (A7 (c7 (c7 rfl rfl m1) (c7 rfl rfl m2) rfl) rfl)];refine v8 ?_;generalize x*w - u*z=n;by_cases h1:n<0
 .simp![Y2,aV,dq,bR,aW,bw,bL,h1]
 .by_cases h2:n=0
  .subst h2;simp![Y2,aV,dq,bR,aW,bw,bL,U0,lV,mH,jD,m3,m4]
  .simp![Y2,aV,dq,bR,aW,bw,bL,h1,h2,U0]
def W8 (A B:Pt) (fs:vO_) (J:Ps k A) (M:Ps k B) (hk:k<=1000):F5 [pt A,pt B] fs=some (.bl (f6 A B),fs):=by
 have b:∀{i:Int},Bd k i->A0 i=true:=fun h=>h.bits ∅
 rw[<-Ja];exact JC fs (C3 (b J.x) (b M.l)) (C3 (b M.x) (b J.l)) (C3 (b J.y) (b M.l)) (C3 (b M.y) (b J.l))
def qL {x z u v w a b c:Int}(hj:j<=400) (hx:Bd j x) (Z:Bd j y) (hz:Bd j z) (M:Bd j u) (J:Bd j v) (U:Bd j w) (ha:Bd j a) (hb:Bd j b) (B:Bd j c) (fs:vO_) :
  S4 [.tup [.int x,.int y,.int z],.tup [.int u,.int v,.int w],.tup [.int a,.int b,.int c]] fs=some (.int (x*(v*c - w*b) - y*(u*c - w*a)+z*(u*b - v*a)),fs):=by
 have m:∀{i l:Int},Bd j i->Bd j l->j6 (.int i) (.int l)=some (.int (i*l)):=fun h1 h2=>C3 (h1.bits ∅) (h2.bits ∅)
 have q:∀{i l k n:Int},Bd j i->Bd j l->Bd j k->Bd j n->A0 (i*l - k*n)=true:=fun h1 h2 Y h4=>((h1.mul h2).sub (Y.mul h4)).bits ∅
 have W:∀{e i l k n:Int},Bd j e->Bd j i->Bd j l->Bd j k->Bd j n->j6 (.int e) (.int (i*l - k*n))=some (.int (e*(i*l - k*n))):=fun h0 h1 h2 Y h4=>C3 (h0.bits ∅) (q h1 h2 Y h4)
 refine u4 (s:=#[[.v (.tup [.int x,.int y,.int z]),.v (.tup [.int u,.int v,.int w]),.v (.tup [.int a,.int b,.int c]),.v (.int (x*(v*c - w*b))),.v (.int (y*(u*c - w*a)))],fs]) ?_;show gn #[[.v (.tup [.int x,.int y,.int z]),.v (.tup [.int u,.int v,.int w]),.v (.tup [.int a,.int b,.int c]),.no,.no],fs]=_;unfold gn;rw[B2 (s1:=#[[.v (.tup [.int x,.int y,.int z]),.v (.tup [.int u,.int v,.int w]),.v (.tup [.int a,.int b,.int c]),.v (.int (x*(v*c - w*b))),.no],fs])
  (A7 (c7 rfl (c7 (c7 rfl rfl (m J B)) (c7 rfl rfl (m U hb)) rfl) (W hx J B U hb)) rfl),
  B2 (s1:=#[[.v (.tup [.int x,.int y,.int z]),.v (.tup [.int u,.int v,.int w]),.v (.tup [.int a,.int b,.int c]),.v (.int (x*(v*c - w*b))),.v (.int (y*(u*c - w*a)))],fs])
  (A7 (c7 rfl (c7 (c7 rfl rfl (m M B)) (c7 rfl rfl (m U ha)) rfl) (W Z M B U ha)) rfl)]
 exact v8 (c7 (c7 rfl rfl rfl) (c7 rfl (c7 (c7 rfl rfl (m M hb)) (c7 rfl rfl (m J ha)) rfl) (W hz M hb J ha)) rfl)
def eV (A B P:Pt) (fs:vO_) (M:Ps k A) (U:Ps k B) (J:Ps k P) (hk:k<=400):S4 [pt A,pt B,pt P] fs=some (.int (O0 A B P),fs):=
 qL hk M.x M.y M.l U.x U.y U.l J.x J.y J.l fs
abbrev bJ:a8:=cy F5 S4
def nI {m1 m2:a8}{a b p:D}{n:Int}{l q1 q2:Bool}{fs:vO_}(M:m2 [a,b,p] fs=some (.int n,fs)) (U:m1 [a,b] fs=some (.bl l,fs)) (J:m1 [p,if l then a else b] fs=some (.bl q1,fs)) (B:m1 [if l then b else a,p] fs=some (.bl q2,fs)) :
  cy m1 m2 [a,b,p] fs=some (.bl (decide (n=0)&&(!q1 && !q2)),fs):=by
 by_cases h:n=0
 .subst h;cases l
  .simp only[KQ,Kv] at J B;cases q1 <;> simp![cy,o8,eI,d3,M,U,J,B,cJ,jg]
  .simp only[KG] at J B;cases q1 <;> simp![cy,o8,eI,d3,M,U,J,B,cJ,jg]
 .simp![cy,o8,eI,d3,M,cJ,h]
def Gp (A B P:Pt) (fs:vO_) (M:Ps k A) (W:Ps k B) (J:Ps k P) (hk:k<=100):bJ [pt A,pt B,pt P] fs=some (.bl (E6 A B P),fs):=by
 have Z:=eV A B P fs M W J ∅;have U:=W8 A B fs M W ∅;have z:=(aX (gq A B P)).2.1;have Y:decide (O0 A B P=0)=decide (a9 A B P=0):=by rw[MS];exact z
 cases hl:f6 A B
 .rw[hl] at U;have r:=nI (p:=pt P) Z U (q1:=f6 P B) (q2:=f6 A P) (W8 P B fs J W ∅) (W8 A P fs M J ∅);refine r.trans ?_;unfold E6;rw[hl,Y];rfl
 .rw[hl] at U;have r:=nI (p:=pt P) Z U (q1:=f6 P A) (q2:=f6 B P) (W8 P A fs J M ∅) (W8 B P fs W J ∅);refine r.trans ?_;unfold E6;rw[hl,Y];rfl
def DY (B:List Bool):W7 (.bl true) (.lst (B.map .bl))=some (.bl (B.any id)):=by
 have h1:v3 (.bl true)=true:=rfl;have h2:v3 (.lst (B.map .bl))=true:=by
  have:=Ok.lst (OkL.all (k:=0) (n:=0) (ds:=B.map D.bl) (fun d U=>by
   obtain⟨b,_,rfl⟩:=Kw.mp U;exact Ok.bl b))
  exact this.eq
 have M:T4 (.bl true) (B.map .bl)=B.any id:=by
  clear h2;induction B with
  |nil=>rfl
  |cons b r J=>
   simp only[Ku,T4,D.pys,D.py,MT] at J ⊢;cases b
   .simpa [PyData.eqv] using J
   .rfl
 simp only[W7,aZ,h1,h2,Lw,KG,id,M]
def Fc (h:0<is.length):one mi [.lst (is.map D.int)]=some (.int (Q9 is)):=by
 show ((az (is.map D.int)).bind fun is=>if 0<is.length then some (D.int (Q9 is)) else none)=_;rw[vN,xr,gV h]
def BW (h:0<is.length):Q9 is∈is:=by
 cases is with
 |nil=>cases h
 |cons i r=>
  show r.foldl min i∈i::r;rcases(gF r i).1 with q | q
  .rw[q];exact iR ..
  .exact td _ q
abbrev gm:a8:=uE N2 S4
def eK {A:vT_}{q:Pt × Pt}(J:q∈d9 true A):∃i,i<A.length/\q=(tk A i,tk A (i+1)):=by
 obtain⟨i,hi⟩:=Mn J;have B:i<A.length:=Ks (KH.mp hi).1 (Z6 true A);rw[ij B] at hi;exact#[i,B,(KN hi).symm]
def ku (K:vT_) (fs:vO_) (hl:K.length<=1000):N2 [d7 K] fs=some (.lst ((d9 true K).map pq),fs):=by
 have e:=JT (K.map pt) fs (by rw[xo];omega);rw[vL] at e;exact e
def uK {A:vT_}(h:3<=A.length):0<(d9 true A).length:=by
 have:=ij (A:=A) (i:=0) ∅;exact(KH.mp this).1
abbrev T1:a8:=xE gm
def CN (A:vT_) (p:Pt):Prop:=∀k,0<=a9 (tk A k) (tk A (k+1)) p
theorem qj {A:vT_}(Y:jq A) {e m:Pt}(J:e≠(0,0)) (h:∀z∈A,gv e z=gv e m):False:=by
 obtain⟨x,y,w,B,W,hw,n⟩:=Y;obtain⟨t,M⟩:=jJ (v:=(y.1 - x.1,y.2 - x.2)) J (by have:=h x B;have:=h y W;unfold gv at *;grind);obtain⟨s,hs⟩:=jJ (v:=(w.1 - x.1,w.2 - x.2)) J (by have:=h x B;have:=h w hw;unfold gv at *;grind);have Z:y.1 - x.1=t*e.1:=congrArg Prod.fst M;have U:y.2 - x.2=t*e.2:=congrArg Prod.snd M;have s1:w.1 - x.1=s*e.1:=congrArg Prod.fst hs;have s2:w.2 - x.2=s*e.2:=congrArg Prod.snd hs;refine n ?_;unfold a9;rw[Z,U,s1,s2];grind
def uY {x y:Rat}(B:x≠0) (h:x*y=0):y=0:=by
 rcases La.mp h with q | q
 .exact absurd q B
 .exact q
theorem qT {A:vT_}(nc:jq A) {m e p:Pt}{α β:Rat}(M:e≠(0,0)) (lf:∀z∈A,0<=gv e (z.1 - m.1,z.2 - m.2)) (mx:∀z∈A,α*z.1+β*z.2<=α*m.1+β*m.2) (hw:α*m.1+β*m.2<α*p.1+β*p.2) (hp:0<=gv e (p.1 - m.1,p.2 - m.2)) (h0:α*e.1+β*e.2=0):False:=by
 refine qj nc M (m:=m) fun z Y=>?_
 have a:=lf z Y;have b:=mx z Y;unfold gv at a hp ⊢;have a:0<=e.1*(z.2 - m.2) - e.2*(z.1 - m.1):=a;have hp:0<=e.1*(p.2 - m.2) - e.2*(p.1 - m.1):=hp;generalize U:e.1*(z.2 - m.2) - e.2*(z.1 - m.1)=G at *;generalize hW:e.1*(p.2 - m.2) - e.2*(p.1 - m.1)=W at *;generalize B:α*(p.1 - m.1)+β*(p.2 - m.2)=F;generalize J:α*(z.1 - m.1)+β*(z.2 - m.2)=Z;have F0:0<F:=by rw[<-B];grind
 have Z0:Z<=0:=by rw[<-J];grind
 have k1:e.1*(F*G - Z*W)=0:=by
  rw[<-B,<-U,<-J,<-hW];grind
 have k2:e.2*(F*G - Z*W)=0:=by
  rw[<-B,<-U,<-J,<-hW];grind
 have k:F*G - Z*W=0:=by
  by_cases c:e.1=0
  .refine uY (fun q=>M (KA c q)) k2
  .exact uY c k1
 have w:=Kx (show 0 <= -Z by grind) hp;have g:G=0:=by
  by_cases c:0<G
  .have:=Kj F0 c;grind
  .grind
 grind
theorem ET {A:vT_}(cv:qD A) (ne:∀k,tk A (k+1)≠tk A k) (M:jq A) {p:Pt}(hp:CN A p):Ip A p:=by
 intro α β;refine MK fun hn=>?_
 have hn:∀k∈A,α*(k.1 - p.1)+β*(k.2 - p.2)<0:=fun k hk=>LD.mp fun t=>hn #[k,hk,t]
 have hA:A≠[]:=by
  obtain⟨a,_,_,ha,_⟩:=M;exact List.ne_nil_of_mem ha
 have Z:0<A.length:=List.length_pos_iff.mpr hA;obtain⟨m,hm,J⟩:=vq (fun z=>α*z.1+β*z.2) A hA;obtain⟨j,hj,ej⟩:=fO hm;obtain⟨i,hi⟩:∃i,tk A (i+1)=m:=#[j+A.length - 1,by
  rw[show j+A.length - 1+1=j+A.length by omega,<-K7,Md,K7,ej]]
 have wp:=hn m hm;have p1:=hp i;have p2:=hp (i+1);have n1:=ne i;have n2:=ne (i+1);have m1:=J _ (C7 i Z);have m2:=J _ (C7 (i+1+1) Z);have l1:=fun z B=>cv i z B
 have l2:=fun z B=>cv (i+1) z B
 have l3:=l1 _ (C7 (i+1+1) Z);rw[hi] at p1 p2 n1 n2 l1 l2 l3;generalize tk A i=a at *;generalize tk A (i+1+1)=b at *;have J:∀z∈A,α*z.1+β*z.2<=α*m.1+β*m.2:=J;have m1:α*a.1+β*a.2<=α*m.1+β*m.2:=m1;have m2:α*b.1+β*b.2<=α*m.1+β*m.2:=m2;have u0:((m.1 - a.1,m.2 - a.2):Pt)≠(0,0):=fun q=>n1 (KA (by have:m.1 - a.1=0:=congrArg Prod.fst q;grind) (by have:m.2 - a.2=0:=congrArg Prod.snd q;grind))
 have v0:((b.1 - m.1,b.2 - m.2):Pt)≠(0,0):=fun q=>n2 (KA (by have:b.1 - m.1=0:=congrArg Prod.fst q;grind) (by have:b.2 - m.2=0:=congrArg Prod.snd q;grind))
 have lu:∀z:Pt,a9 a m z=gv (m.1 - a.1,m.2 - a.2) (z.1 - m.1,z.2 - m.2):=fun z=>by unfold a9 gv;grind
 have lv:∀z:Pt,a9 m b z=gv (b.1 - m.1,b.2 - m.2) (z.1 - m.1,z.2 - m.2):=fun z=>by unfold a9 gv;grind
 have U:=qT M (p:=p) (α:=α) (β:=β) u0 (fun z B=>by rw[<-lu];exact l1 z B) J (by grind) (by rw[<-lu];exact p1);have V:=qT M (p:=p) (α:=α) (β:=β) v0 (fun z B=>by rw[<-lv];exact l2 z B) J (by grind) (by rw[<-lv];exact p2);have U:0<α*(m.1 - a.1)+β*(m.2 - a.2):=by
  by_cases c:α*(m.1 - a.1)+β*(m.2 - a.2)=0
  .exact(U c).elim
  .grind
 have V:α*(b.1 - m.1)+β*(b.2 - m.2)<0:=by
  by_cases c:α*(b.1 - m.1)+β*(b.2 - m.2)=0
  .exact(V c).elim
  .grind
 have W:0<α*(p.1 - m.1)+β*(p.2 - m.2):=by grind
 have key:a9 a m b*(α*(p.1 - m.1)+β*(p.2 - m.2))+a9 m b p*(α*(m.1 - a.1)+β*(m.2 - a.2)) - a9 a m p*(α*(b.1 - m.1)+β*(b.2 - m.2))=0:=by
  unfold a9;grind
 have k1:=Kx l3 (Lo W);have k2:=Kx p2 (Lo U);have k3:=Kx p1 (show 0 <= -(α*(b.1 - m.1)+β*(b.2 - m.2)) by grind);have z2:a9 m b p*(α*(m.1 - a.1)+β*(m.2 - a.2))=0:=by grind
 have z3:a9 a m p*(α*(b.1 - m.1)+β*(b.2 - m.2))=0:=by grind
 have q2:a9 m b p=0:=by
  rcases La.mp z2 with q | q
  .exact q
  .grind
 have q3:a9 a m p=0:=by
  rcases La.mp z3 with q | q
  .exact q
  .grind
 refine qj M u0 (m:=m) fun z B=>?_
 have e1:a9 a m z*(α*(p.1 - m.1)+β*(p.2 - m.2)) - a9 m p z*(α*(m.1 - a.1)+β*(m.2 - a.2))=a9 a m p*(α*(z.1 - m.1)+β*(z.2 - m.2)):=by
  unfold a9;grind
 have e2:a9 m b z*(α*(p.1 - m.1)+β*(p.2 - m.2)) - a9 m p z*(α*(b.1 - m.1)+β*(b.2 - m.2))=a9 m b p*(α*(z.1 - m.1)+β*(z.2 - m.2)):=by
  unfold a9;grind
 rw[q3,Mb] at e1;rw[q2,Mb] at e2;have f1:=Kx (l1 z B) (Lo W);have f2:=Kx (l2 z B) (Lo W);have g0:a9 m p z=0:=by
  by_cases c:0<a9 m p z
  .have:=Kj c (show 0 < -(α*(b.1 - m.1)+β*(b.2 - m.2)) by grind);grind
  .by_cases c':a9 m p z<0
   .have:=Kj (show 0 < -a9 m p z by grind) U;grind
   .grind
 rw[g0,Mb] at e1;have Y:a9 a m z=0:=by
  rcases La.mp (show a9 a m z*(α*(p.1 - m.1)+β*(p.2 - m.2))=0 by grind) with q | q
  .exact q
  .grind
 rw[lu] at Y;unfold gv at Y ⊢;have Y:(m.1 - a.1)*(z.2 - m.2) - (m.2 - a.2)*(z.1 - m.1)=0:=Y;show (m.1 - a.1)*z.2 - (m.2 - a.2)*z.1=(m.1 - a.1)*m.2 - (m.2 - a.2)*m.1;grind
abbrev IP:=Int × Int
structure Nt where
 a:Int
 b:Int
 c:Int
 d:Int
 x:Int
 y:Int
 l:Int
def G9 (n:Nt):D:=.tup [.int n.a,.int n.b,.int n.c,.int n.d,.int n.x,.int n.y,.int n.l]
structure NtOk (n:Nt):Prop where
 a:0<=n.a/\n.a<=3
 b:-4<=n.b/\n.b<=1
 c:0<=n.c/\n.c<=4
 d:0<=n.d/\n.d<=3
 x:-9<=n.x/\n.x<=9
 y:-9<=n.y/\n.y<=9
 l:1<=n.l/\n.l<=7
 det:0<n.a*n.d - n.b*n.c
def nX (n:Nt) (z:IP):Int:=n.a*z.1+n.b*z.2+n.x
def nY (n:Nt) (z:IP):Int:=n.c*z.1+n.d*z.2+n.y
def nP (n:Nt) (z:IP):Pt:=(Rat.divInt (nX n z) n.l,Rat.divInt (nY n z) n.l)
structure InU (z:IP):Prop where
 u:0<=z.1/\z.1<=27
 v:0<=z.2/\z.2<=13
def iX {p q m k:Int}(h1:-m<=p/\p<=m) (h2:0<=q/\q<=k):-(m*k)<=p*q/\p*q<=m*k:=by
 have a:=Qh h1.1 h2.1;have b:=Qh h1.2 h2.1;have c:=Oi h2.2 (show 0<=m by omega);rw[Int.neg_mul] at a;omega
def nZ {n:Nt}(h:NtOk n) (hz:InU z):(nX n z).natAbs<2 ^ 8:=by
 have h1:=iX (m:=3) (k:=27) #[by have:=h.a;omega,h.a.2] hz.u;have h2:=iX (m:=4) (k:=13) #[h.b.1,by have:=h.b;omega] hz.v;have:=h.x;unfold nX;omega
def oO {n:Nt}(h:NtOk n) (hz:InU z):(nY n z).natAbs<2 ^ 8:=by
 have h1:=iX (m:=4) (k:=27) #[by have:=h.c;omega,h.c.2] hz.u;have h2:=iX (m:=3) (k:=13) #[by have:=h.d;omega,h.d.2] hz.v;have:=h.y;unfold nY;omega
def mw {x g:Int}(B:0<g) (h:x.natAbs<2 ^ k):Bd k (x.fdiv g):=by
 rw[Ol _ ∅];exact KU (Qg x g) h
def FG {n:Nt}(h:NtOk n) (hz:InU z):Ps 8 (nP n z)/\PtS 35 (nP n z):=by
 have M:n.l≠0:=by have:=h.l;omega
 have B:n.l.natAbs<2 ^ 8:=by have:=h.l;omega
 obtain⟨Z,Y,U,W⟩:=gD (nX n z) (nY n z) n.l M;have ng:¬ n.l<0:=by have:=h.l;omega
 rw[fI ng] at Z Y U W;have J:0<(Int.gcd (Int.gcd (nX n z) (nY n z):Int) n.l:Int):=by omega
 refine#[#[?_,?_,?_],?_,?_]
 .show Bd 8 (pX (Rat.divInt (nX n z) n.l,Rat.divInt (nY n z) n.l));rw[<-Y];exact mw J (nZ h hz)
 .show Bd 8 (pY (Rat.divInt (nX n z) n.l,Rat.divInt (nY n z) n.l));rw[<-U];exact mw J (oO h hz)
 .show Bd 8 (pL (Rat.divInt (nX n z) n.l,Rat.divInt (nY n z) n.l));rw[<-W];exact mw J B
 .exact(Sz.of_divInt M (nZ h hz) B).mono #[]
 .exact(Sz.of_divInt M (oO h hz) B).mono #[]
def L9 (p q r:IP):Int:=(q.1 - p.1)*(r.2 - p.2) - (q.2 - p.2)*(r.1 - p.1)
theorem Iu {n:Nt}(h:NtOk n) (p q r:IP):a9 (nP n p) (nP n q) (nP n r)=((n.a*n.d - n.b*n.c:Int):Rat) / ((n.l:Rat)*n.l)*(L9 p q r:Rat):=by
 have B:(n.l:Rat)≠0:=by
  have:=h.l;intro z;have:n.l=0:=by exact_mod_cast z
  omega
 unfold a9 nP nX nY L9;simp only[MN];simp only[Ln,Kk,Mr];grind
def Eh {n:Nt}(h:NtOk n):(0:Rat)<((n.a*n.d - n.b*n.c:Int):Rat) / ((n.l:Rat)*n.l):=by
 have B:(0:Rat)<(n.l:Rat):=by
  have:=h.l
  exact_mod_cast (show 0<n.l by omega)
 have J:(0:Rat)<((n.a*n.d - n.b*n.c:Int):Rat):=by exact_mod_cast h.det
 rw[Lb];exact Kj J (Nx.mpr (Kj B B))
def A2 (l:List IP) (i:Nat):IP:=(l[i % l.length]?).getD (0,0)
def bE (F:List IP):Bool:=decide (3<=F.length)&&decide (F.length<=6)&&(List.range F.length).all (fun k=>F.all (fun z=>decide (0<=L9 (A2 F k) (A2 F (k+1)) z))&&decide (A2 F (k+1)≠A2 F k))&&((List.range F.length).all (fun k=>F.all fun z=>decide (z=A2 F k)||decide (z=A2 F (k+1))||decide (0<L9 (A2 F k) (A2 F (k+1)) z))&&decide F.Nodup)&&decide (0<L9 (A2 F 0) (A2 F 1) (A2 F 2))&&F.all fun z=>decide (0<=z.1)&&decide (z.1<=8)&&decide (0<=z.2)&&decide (z.2<=8)
def F4 (w h:Int):List (List IP):=[[(0,0),(w,0),(w,h),(0,h)],[(0,0),(w,0),(0,h)],[(0,0),(w,0),(w,h)],[(0,0),(w,h),(0,h)],[(0,0),(w+1,1),(1,h+1)],[(0,0),(w,0),(w,h),(0,h)],[(0,h),(w,0),(2*w,h),(w,2*h)],[(0,1),(1,0),(w+1,0),(w+2,1),(w+1,2),(1,2)]]
def FX:((List.range 4).all fun w=>(List.range 4).all fun h=>(F4 ((w:Int)+1) ((h:Int)+1)).all bE)=true:=by decide +kernel
def AB {w h:Int}(W:1<=w/\w<=4) (U:1<=h/\h<=4) (J:F∈F4 w h):bE F=true:=by
 have k:=LH.mp FX (w.toNat - 1) (LF.mpr ∅);have k:=LH.mp k (h.toNat - 1) (LF.mpr ∅);have M:((w.toNat - 1:Nat):Int)+1=w:=by omega
 have B:((h.toNat - 1:Nat):Int)+1=h:=by omega
 rw[M,B] at k;exact LH.mp k F J
def di (x y:Int) (z:IP):IP:=(z.1+x,z.2+y)
def CY (x y:Int) (p q r:IP):L9 (di x y p) (di x y q) (di x y r)=L9 p q r:=by
 unfold L9 di;show (q.1+x - (p.1+x))*(r.2+y - (p.2+y)) - (q.2+y - (p.2+y))*(r.1+x - (p.1+x))=_;rw[show q.1+x - (p.1+x)=q.1 - p.1 by omega,show r.2+y - (p.2+y)=r.2 - p.2 by omega,show q.2+y - (p.2+y)=q.2 - p.2 by omega,show r.1+x - (p.1+x)=r.1 - p.1 by omega]
def L6 (n:Nt) (x y:Int) (z:IP):Pt:=nP n (di x y z)
def bS {n:Nt}{x:Int}{F:List IP}(h:3<=F.length) (i:Nat):tk (F.map (L6 n x y)) i=L6 n x y (A2 F i):=by
 unfold tk A2;rw[xo,KO,Le (Li _ ∅)];rfl
def nU (F:List IP) (i:Nat):A2 F (i % F.length)=A2 F i:=by
 unfold A2;rw[Nat.mod_mod]
def ud (F:List IP) (i:Nat):A2 F (i % F.length+1)=A2 F (i+1):=by
 unfold A2;rw[Om]
def mW {F:List IP}(h:3<=F.length) (i:Nat):A2 F i∈F:=by
 unfold A2;rw[Le (Li _ ∅)];exact Od _
theorem An {n:Nt}{x:Int}{F:List IP}(Z:NtOk n) (Y:bE F=true) (hx:0<=x/\x<=19) (hy:0<=y/\y<=5):ShC (F.map (L6 n x y)):=by
 unfold bE at Y;simp only[Ko,LU] at Y;obtain⟨⟨⟨⟨⟨J,h6⟩,hk⟩,hs,hnd⟩,h0⟩,hz⟩:=Y;have ps:=Eh Z;have U:∀p q r:IP,a9 (L6 n x y p) (L6 n x y q) (L6 n x y r)=((n.a*n.d - n.b*n.c:Int):Rat) / ((n.l:Rat)*n.l)*(L9 p q r:Rat):=fun p q r=>by
  unfold L6;rw[Iu Z,CY]
 have K:∀k,(∀z∈F,0<=L9 (A2 F k) (A2 F (k+1)) z)/\A2 F (k+1)≠A2 F k:=fun k=>by
  have q:=LH.mp hk (k % F.length) (LF.mpr (Li _ ∅));rw[Ko,nU,ud] at q;exact#[fun z hz=>LP (LH.mp q.1 z hz),LP q.2]
 have W:∀p q:IP,L6 n x y p=L6 n x y q->∀a b:IP,L9 a b p=L9 a b q:=fun p q e a b=>by
  have e1:=U a b p;have e2:=U a b q;rw[e,e2] at e1;have e3:((L9 a b q:Int):Rat)=((L9 a b p:Int):Rat):=by
   have ps':=Rat.ne_of_gt ps;generalize ((n.a*n.d - n.b*n.c:Int):Rat) / ((n.l:Rat)*n.l)=c at *;have:=congrArg (fun t=>c⁻¹*t) e1;simp only[<-MR,Rat.inv_mul_cancel _ ps',Rat.one_mul] at this;exact this
  exact_mod_cast e3.symm
 have eqP:∀p q:IP,L6 n x y p=L6 n x y q->p=q:=fun p q e=>by
  have i:=W _ _ e;have i1:=i p (p.1+1,p.2);have i2:=i p (p.1,p.2+1);unfold L9 at i1 i2;simp only at i1 i2;refine KA ?_ ?_
  .grind
  .grind
 refine#[?_,?_,?_,by rw[xo];exact J,by rw[xo];exact h6,?_,?_,Po _ (fun a b h e=>h (eqP a b e)) hnd]
 .intro k z B;obtain⟨w,M,rfl⟩:=Kw.mp B;rw[bS J,bS J,U];exact Kx (Lo ps) (by exact_mod_cast (K k).1 w M)
 .intro k e;rw[bS J,bS J] at e;have i:=W _ _ e;have i1:=i (A2 F k) ((A2 F k).1+1,(A2 F k).2);have i2:=i (A2 F k) ((A2 F k).1,(A2 F k).2+1);unfold L9 at i1 i2;simp only at i1 i2;refine(K k).2 (KA ?_ ?_)
  .grind
  .grind
 .refine#[L6 n x y (A2 F 0),L6 n x y (A2 F 1),L6 n x y (A2 F 2),Kw.mpr #[_,mW J 0,rfl],Kw.mpr #[_,mW J 1,rfl],Kw.mpr #[_,mW J 2,rfl],?_];rw[U];have:(0:Rat)<(L9 (A2 F 0) (A2 F 1) (A2 F 2):Rat):=by exact_mod_cast h0
  exact Rat.ne_of_gt (Kj ps this)
 .intro z B;obtain⟨w,M,rfl⟩:=Kw.mp B;have q:=LH.mp hz w M;simp only[Ko,LU] at q;obtain⟨⟨⟨q1,q2⟩,q3⟩,q4⟩:=q;exact FG Z #[by show 0<=w.1+x/\w.1+x<=27;omega,by show 0<=w.2+y/\w.2+y<=13;omega]
 .intro k z B;obtain⟨w,M,rfl⟩:=Kw.mp B;have q:=LH.mp hs (k % F.length) (LF.mpr (Li _ ∅));have q:=LH.mp q w M;rw[nU,ud] at q;simp only[Ph,LU] at q;rw[bS J,bS J,U];rcases q with (rfl | rfl) | q
  .exact .inl rfl
  .exact .inr (.inl rfl)
  .exact .inr (.inr (Kj ps (by exact_mod_cast q)))
def vm {K:vT_}(h:ShC K) (i:Nat) (hi:i<K.length):ShC (K.drop i++K.take i):=by
 have l:(K.drop i++K.take i).length=K.length:=by
  rw[Km,Kt,Ld];omega
 have m:∀z,z∈K.drop i++K.take i↔z∈K:=fun z=>by
  rw[KD,Or.comm,<-KD,Nr]
 have t:∀k,tk (K.drop i++K.take i) k=tk K (i+k):=fun k=>by
  unfold tk;rw[l];have M:=Li k (show 0<K.length by omega);rw[<-Nat.add_mod_mod];generalize k % K.length=j at *;by_cases c:j<K.length - i
  .rw[MW (by rw[Kt];exact c),Mp,Mq (show i+j<K.length by omega)]
  .rw[Mt (by rw[Kt];omega),Kt,NF ∅];rw[Nat.mod_eq_sub_mod ∅,Mq ∅];rw[show i+j - K.length=j - (K.length - i) by omega]
 refine#[?_,?_,?_,by rw[l];exact h.lo,by rw[l];exact h.hi,fun z B=>h.sz z ((m z).mp B),fun k z B=>?_,?_]
 .intro k z B;rw[t,t];exact h.cv (i+k) z ((m z).mp B)
 .intro k;rw[t,t];exact h.ne (i+k)
 .obtain⟨a,b,c,ha,hb,J,q⟩:=h.nc;exact#[a,b,c,(m a).mpr ha,(m b).mpr hb,(m c).mpr J,q]
 .rw[t,t];exact h.st (i+k) z ((m z).mp B)
 .have e:K.take i++K.drop i=K:=Nr i K;have q:=h.nd;rw[<-e] at q;exact List.perm_append_comm.nodup_iff.mp q
def netsI:List (Int × Int × Int × Int):=[(1,0,0,1),(1,-1,1,1),(3,-4,4,3),(1,1,0,1),(0,-1,1,0),(2,1,1,1)]
def q4 (q:Int × Int × Int × Int):D:=.tup [.int q.1,.int q.2.1,.int q.2.2.1,.int q.2.2.2]
def AD:∀q∈netsI,(0<=q.1/\q.1<=3)/\(-4<=q.2.1/\q.2.1<=1)/\(0<=q.2.2.1/\q.2.2.1<=4)/\(0<=q.2.2.2/\q.2.2.2<=3)/\0<q.1*q.2.2.2 - q.2.1*q.2.2.1:=by decide
abbrev fq:a8:=uI P0
def AU {f:FS}(h:Fd4 n f) (hn:n<2 ^ 28):∃t f',fq [.feed] (some f)=some (G9 t,some f')/\NtOk t/\Fd4 (n+4) f':=by
 obtain⟨Y,f1,e1,a1,a2,h1⟩:=V9 6 h;obtain⟨z,hz,hq⟩:=lG (xs:=netsI.map q4) a1 (by show Y<6;exact a2);obtain⟨q,M,rfl⟩:=Kw.mp hz;obtain⟨B,Z,e2,b1,b2,h2⟩:=V9 19 h1;obtain⟨J,f3,W,c1,c2,h3⟩:=V9 19 h2;obtain⟨r4,U,e4,d1,d2,h4⟩:=V9 4 h3;obtain⟨w,hw,hr⟩:=lG (xs:=[(1:Int),2,3,7].map D.int) d1 (by show r4<4;exact d2);obtain⟨l,hl,rfl⟩:=Kw.mp hw;obtain⟨g1,g2,g3,g4,g5⟩:=AD q M;have lb:1<=l/\l<=7:=(by decide:∀l∈[(1:Int),2,3,7],1<=l/\l<=7) l hl;refine#[#[q.1,q.2.1,q.2.2.1,q.2.2.2,B - 9,J - 9,l],U,u4 (s:=#[[.v .feed,.own (netsI.map q4),.v (q4 q),.v (.int (B - 9)),.v (.int (J - 9))],some U]) ?_,#[g1,g2,g3,g4,by show -9<=B - 9/\B - 9<=9;omega,by show -9<=J - 9/\J - 9<=9;omega,lb,g5],h4];show gJ P0 #[[.v .feed,.no,.no,.no,.no],some f]=_;unfold gJ;refine j5 (s1:=#[[.v .feed,.own (netsI.map q4),.no,.no,.no],some f]) (Q2 (i:=1) (s1:=#[[.v .feed,.no,.no,.no,.no],some f]) (ds:=netsI.map q4) rfl (by show 1<5;decide)) ?_;refine j5 (s1:=#[[.v .feed,.own (netsI.map q4),.v (q4 q),.no,.no],some f1]) (A7 (c7 rfl (R6 rfl e1) (cM hq)) rfl) ?_;refine j5 (s1:=#[[.v .feed,.own (netsI.map q4),.v (q4 q),.v (.int (B - 9)),.no],some Z]) (A7 (c7 (R6 rfl e2) rfl rfl) rfl) ?_;refine j5 (s1:=#[[.v .feed,.own (netsI.map q4),.v (q4 q),.v (.int (B - 9)),.v (.int (J - 9))],some f3]) (A7 (c7 (R6 rfl W) rfl rfl) rfl) ?_;exact v8 (c7 (x:=q4 q) (y:=.tup [.int (B - 9),.int (J - 9),.int l]) rfl (bT (L0 rfl (L0 rfl (L0 (c7 (x:=.lst ([(1:Int),2,3,7].map D.int)) rfl (R6 rfl e4) (cM hr)) rfl))) (by show 3<=sizeLine;decide)) rfl)
abbrev aY:a8:=vE cY
def bU {i j:Int}(hi:i.natAbs<2 ^ 10) (B:j.natAbs<2 ^ 10):j6 (.int i) (.int j)=some (.int (i*j)):=C3 (Bd.bits (k:=10) hi #[]) (Bd.bits (k:=10) B #[])
def Av {t:Nt}(B:NtOk t) (hz:InU z) (fs:vO_):aY [G9 t,.int z.1,.int z.2] fs=some (pt (nP t z),fs):=by
 have Z:=hz.u;have hv:=hz.v;have hl:=B.l;have m1:=bU (i:=t.a) (j:=z.1) (by have:=B.a;omega) ∅;have m2:=bU (i:=t.b) (j:=z.2) (by have:=B.b;omega) ∅;have m3:=bU (i:=t.c) (j:=z.1) (by have:=B.c;omega) ∅;have m4:=bU (i:=t.d) (j:=z.2) (by have:=B.d;omega) ∅;have w:=jR (k:=8) (nX t z) (nY t z) t.l fs ∅ (show t.l.natAbs<2 ^ 8 by omega) #[];have M:d3 (G9 t) (.int 0)=some (.int t.a):=rfl;have i1:d3 (G9 t) (.int 1)=some (.int t.b):=rfl;have i2:d3 (G9 t) (.int 2)=some (.int t.c):=rfl;have J:d3 (G9 t) (.int 3)=some (.int t.d):=rfl;have Y:d3 (G9 t) (.int 4)=some (.int t.x):=rfl;have U:d3 (G9 t) (.int 5)=some (.int t.y):=rfl;have W:d3 (G9 t) (.int 6)=some (.int t.l):=rfl;generalize G9 t=N at *;refine u4 (s:=#[[.v N,.v (.int z.1),.v (.int z.2),.v (.int (nX t z))],fs]) ?_;show gC cY #[[.v N,.v (.int z.1),.v (.int z.2),.no],fs]=_;unfold gC;exact j5 (s1:=#[[.v N,.v (.int z.1),.v (.int z.2),.v (.int (nX t z))],fs]) (A7 (c7 (c7 (c7 (c7 rfl rfl M) rfl m1) (c7 (c7 rfl rfl i1) rfl m2) rfl) (c7 rfl rfl Y) rfl) rfl)
  (v8 (o6 (e6 rfl (e6 (c7 (c7 (c7 (c7 rfl rfl i2) rfl m3) (c7 (c7 rfl rfl J) rfl m4) rfl) (c7 rfl rfl U) rfl) (e6 (c7 rfl rfl W) rfl))) w))
def ai (z:IP):D:=.tup [.int z.1,.int z.2]
def A4 (F:List IP):D:=.tup (F.map ai)
abbrev bq:a8:=sj P0
def zL {p:D->D->Option (List D)}{a b:DE}{s:DS}{x y:D}{z:vD_}(h1:a s=some (x,s1)) (h2:b s1=some (y,s2)) (B:p x y=some z):dS p a b s=some (z,s2):=by
 unfold dS;rw[h1,xr,h2,xr,B];rfl
def Ft {f:FS}(h:Fd4 n f) (hn:n<2 ^ 28):∃F f',bq [.feed] (some f)=some (A4 F,some f')/\bE F=true/\Fd4 (n+3) f':=by
 obtain⟨B,f1,e1,a1,a2,h1⟩:=V9 4 h;obtain⟨M,J,e2,b1,b2,h2⟩:=V9 4 h1;obtain⟨r3,U,Y,c1,Z,h3⟩:=V9 8 h2;obtain⟨z,hz,W⟩:=lG (xs:=(F4 (1+B) (1+M)).map A4) c1 (by show r3<8;exact Z);obtain⟨F,hF,rfl⟩:=Kw.mp hz;refine#[F,U,?_,AB ∅ ∅ hF,h3];have m1:=bU (i:=2) (j:=1+B) #[] ∅;have m2:=bU (i:=2) (j:=1+M) #[] ∅;have hf:(F4 (1+B) (1+M)).map A4=((F4 (1+B) (1+M)).take 6).map A4++[A4 [(0,1+M),(1+B,0),(2*(1+B),1+M),(1+B,2*(1+M))]]++[A4 [(0,1),(1,0),(1+B+1,0),(1+B+2,1),(1+B+1,2),(1,2)]]:=rfl;rw[hf] at W;have w1:∀s,w5 1 2 (a0 (a7 j4 (k0 1) (d4 P0 (a0 (dV 0) (a0 (k0 4) b9)))) (a0 (a7 j4 (k0 1) (d4 P0 (a0 (dV 0) (a0 (k0 4) b9)))) b9)) #[[.v .feed,.no,.no,s],some f]=some (.next,#[[.v .feed,.v (.int (1+B)),.v (.int (1+M)),s],some J]):=fun s=>Fp (L0 (c7 rfl (R6 rfl e1) rfl) (L0 (c7 rfl (R6 rfl e2) rfl) rfl)) rfl
 generalize 1+B=w at *;generalize 1+M=v at *;refine u4 (s:=#[[.v .feed,.v (.int w),.v (.int v),.own (((F4 w v).take 6).map A4++[A4 [(0,v),(w,0),(2*w,v),(w,2*v)]]++[A4 [(0,1),(1,0),(w+1,0),(w+2,1),(w+1,2),(1,2)]])],some U]) ?_;show gA P0 #[[.v .feed,.no,.no,.no],some f]=_;unfold gA;refine j5 (w1 _) ?_;refine j5 (s1:=#[[.v .feed,.v (.int w),.v (.int v),.own (((F4 w v).take 3).map A4)],some J]) (Q2 (i:=3) (s1:=#[[.v .feed,.v (.int w),.v (.int v),.no],some J]) (ds:=((F4 w v).take 3).map A4) rfl (by show 3<4;decide)) ?_;refine j5 (s1:=#[[.v .feed,.v (.int w),.v (.int v),.own (((F4 w v).take 6).map A4)],some J]) (Q2 (i:=3) (s1:=#[[.v .feed,.v (.int w),.v (.int v),.own (((F4 w v).take 3).map A4)],some J]) (ds:=((F4 w v).take 6).map A4) (zL (x:=.lst (((F4 w v).take 3).map A4)) (y:=.lst (((F4 w v).drop 3).take 3 |>.map A4)) rfl rfl rfl) (by show 3<4;decide)) ?_;refine j5 (s1:=#[[.v .feed,.v (.int w),.v (.int v),.own (((F4 w v).take 6).map A4++[A4 [(0,v),(w,0),(2*w,v),(w,2*v)]])],some J]) (V4 (i:=3) (s:=#[[.v .feed,.v (.int w),.v (.int v),.own (((F4 w v).take 6).map A4)],some J]) (s1:=#[[.v .feed,.v (.int w),.v (.int v),.own (((F4 w v).take 6).map A4)],some J]) (ds:=((F4 w v).take 6).map A4) (ds0:=((F4 w v).take 6).map A4) (d:=A4 [(0,v),(w,0),(2*w,v),(w,2*v)]) rfl
  (bT (e6 (x:=ai (0,v)) rfl (e6 (x:=ai (w,0)) rfl (e6 (x:=ai (2*w,v)) (kY (c7 rfl rfl m1) rfl) (e6 (x:=ai (w,2*v)) (kY rfl (c7 rfl rfl m2)) rfl)))) (by show 4<=sizeLine;decide)) rfl (by show 6<sizeLine;decide)) ?_
 refine j5 (s1:=#[[.v .feed,.v (.int w),.v (.int v),.own (((F4 w v).take 6).map A4++[A4 [(0,v),(w,0),(2*w,v),(w,2*v)]]++[A4 [(0,1),(1,0),(w+1,0),(w+2,1),(w+1,2),(1,2)]])],some J]) (V4 (i:=3) (s:=#[[.v .feed,.v (.int w),.v (.int v),.own (((F4 w v).take 6).map A4++[A4 [(0,v),(w,0),(2*w,v),(w,2*v)]])],some J]) (s1:=#[[.v .feed,.v (.int w),.v (.int v),.own (((F4 w v).take 6).map A4++[A4 [(0,v),(w,0),(2*w,v),(w,2*v)]])],some J]) (ds:=((F4 w v).take 6).map A4++[A4 [(0,v),(w,0),(2*w,v),(w,2*v)]]) (ds0:=((F4 w v).take 6).map A4++[A4 [(0,v),(w,0),(2*w,v),(w,2*v)]]) (d:=A4 [(0,1),(1,0),(w+1,0),(w+2,1),(w+1,2),(1,2)]) rfl rfl rfl (by show 7<sizeLine;decide)) ?_;exact v8 (c7 rfl (R6 rfl Y) (cM W))
abbrev dE:a8:=sk F5
def rZ {f:DE}{lo hi:DO}{s B:DS}{ds:List DL.D}{l h:Option Int}(e:f s=some (.lst ds,s1)) (M:lo s1=some (l,s2)) (J:hi s2=some (h,B)):D8 f lo hi s=some (.lst (E4 ds l h),B):=by
 unfold D8;rw[e,xr,M,xr,J];rfl
def oi {K:vT_}(M:∀z∈K,Ps 8 z) (h3:3<=K.length) (h6:K.length<=6) (fs:vO_):∃i,i<K.length/\dE [.lst (K.map pt)] fs=some (d7 (K.drop i++K.take i),fs):=by
 obtain⟨s',e,i,B,Y,rfl⟩:=bP (t:=d5 2) (b:=pz F5) (fun _ s=>∃i:Nat,i<K.length/\∃x2,s=#[[.v (.lst (K.map pt)),.v (.int (i:Int)),x2],fs]) (B0 0 K.length) 0 #[[.v (.lst (K.map pt)),.v (.int ((0:Nat):Int)),.no],fs] #[0,by omega,_,rfl] (by
  rintro j d s Z ⟨i,B,x2,rfl⟩;obtain⟨rfl,J⟩:=fE Z;rw[Pm];have W:d3 (.lst (K.map pt)) (.int (i:Int))=some (pt K[i]):=cM (cV (by rw[KO,Le B];rfl));have U:d3 (.lst (K.map pt)) (.int (j:Int))=some (pt K[j]):=cM (cV (by rw[KO,Le J];rfl));have w:=W8 (k:=8) K[j] K[i] fs (M _ (Od J)) (M _ (Od B)) #[];generalize f6 K[j] K[i]=b at *;have c:j8 (d4 F5 (a0 (a7 d3 (dL 0) (dL 2)) (a0 (a7 d3 (dL 0) (dL 1)) b9))) #[[.v (.lst (K.map pt)),.v (.int (i:Int)),.v (.int (j:Int))],fs]=some (b,#[[.v (.lst (K.map pt)),.v (.int (i:Int)),.v (.int (j:Int))],fs]):=O9 (o6 (e6 (c7 rfl rfl U) (e6 (c7 rfl rfl W) rfl)) w);cases b with
  |true=>exact#[_,#[[.v (.lst (K.map pt)),.v (.int (j:Int)),.v (.int (j:Int))],fs],rfl,.inl ((M6 c).trans (A7 rfl rfl)),j,J,_,rfl]
  |false=>exact#[_,_,rfl,.inl (et c),i,B,_,rfl])
 have r:V6 [.int (K.length:Int)]=some (B0 0 K.length):=fA ∅;have ln:one l7 [.lst (K.map pt)]=some (.int (K.length:Int)):=by
  show some (D.int ((K.map pt).length:Int))=_;rw[xo]
 have c1:E4 (K.map pt) (some (i:Int)) none=(K.drop i).map pt:=by
  unfold E4;rw[HT.sIx_nat,HT.sIx_none,xo,Ma ∅,MJ (by rw[Kt,xo];omega),LI]
 have c2:E4 (K.map pt) none (some (i:Int))=(K.take i).map pt:=by
  unfold E4;rw[HT.sIx_nat,HT.sIx_none,xo,Ma ∅,MZ,Ml,MP]
 have ad:j4 (.lst ((K.drop i).map pt)) (.lst ((K.take i).map pt))=some (.lst ((K.drop i++K.take i).map pt)):=by
  show (if ((K.drop i).map pt).length+((K.take i).map pt).length<=sizeLine then some (D.lst ((K.drop i).map pt++(K.take i).map pt)) else none)=_;rw[xo,xo,Kt,Ld,gV (Kf (by omega:_<=12) #[]),Lh]
 refine#[i,B,u4 (s:=#[[.v (.lst (K.map pt)),.v (.int (i:Int)),Y],fs]) ?_];show gG F5 #[[.v (.lst (K.map pt)),.no,.no],fs]=_;unfold gG;refine j5 (s1:=#[[.v (.lst (K.map pt)),.v (.int ((0:Nat):Int)),.no],fs]) (A7 rfl rfl) ?_;refine j5 ((iG (s1:=#[[.v (.lst (K.map pt)),.v (.int ((0:Nat):Int)),.no],fs]) (e6 (af rfl ln) rfl) r).trans e) ?_;exact v8 (af (e6 (c7 (x:=.lst ((K.drop i).map pt)) (y:=.lst ((K.take i).map pt)) (by rw[<-c1];exact rZ rfl rfl rfl) (by rw[<-c2];exact rZ rfl rfl rfl) ad) rfl) rfl)
abbrev eH:a8:=wZ P0 dE bq aY
def Ig {A:vT_}(h:ShC A):Ok 2 24 (d7 A):=by
 have:=OkL.all (k:=1) (n:=3) (ds:=A.map pt) fun d J=>by
  obtain⟨z,B,rfl⟩:=Kw.mp J;exact Ok.pt (h.ps z B)
 refine(Ok.tup this).mono #[] ?_;have:=h.hi;rw[xo];omega
def xU (h:∀A∈Ss,ShC A):OkL 2 (Ss.length*25) (Ss.map d7):=by
 have:=OkL.all (k:=2) (n:=24) (ds:=Ss.map d7) fun d J=>by
  obtain⟨z,B,rfl⟩:=Kw.mp J;exact Ig (h z B)
 rw[xo] at this;exact this
def DZ (h:v3 (.lst (d::ds))=true):F9 (.lst (d::ds)) (.lst [])=some (.bl true):=by
 show (if v3 (.lst (d::ds))&&v3 (.lst []) then some (D.bl (!PyData.eqv (D.lst (d::ds)).py (D.lst []).py)) else none)=_;rw[h,gV (show (true&&v3 (.lst []))=true from rfl)];rfl
theorem ug {t:Nt}(B:NtOk t) {x:Int}(U:0<=x/\x<=19) (M:0<=y/\y<=5) (hs:Q5 [1,6,7] sl=[.v (G9 t),.v (.int x),.v (.int y)]) (fs:vO_):∀F:List IP,(∀z∈F,(0<=z.1/\z.1<=8)/\(0<=z.2/\z.2<=8))->B9 (X8 [1,6,7] sl) D5 (d4 aY (a0 (dV 2) (a0 (a7 j4 (dL 0) (dL 3)) (a0 (a7 j4 (dL 1) (dL 4)) b9)))) (F.map ai) fs=some ((F.map (L6 t x y)).map pt,fs)
 |[],_=>rfl
 |z::r,h=>by
  have J:=h z (iR ..);have e:=Av B (z:=di x y z) #[by show 0<=z.1+x/\z.1+x<=27;omega,by show 0<=z.2+y/\z.2+y<=13;omega] fs;have i:=ug B U M hs fs r fun z J=>h z (td _ J)
  have m:X8 [1,6,7] sl (ai z)=some [.v (.int z.1),.v (.int z.2),.v (G9 t),.v (.int x),.v (.int y)]:=by
   show some (Sl.v (.int z.1) :: .v (.int z.2)::Q5 [1,6,7] sl)=_;rw[hs]
  rw[Ku,B9,m,xr,show D5 #[[.v (.int z.1),.v (.int z.2),.v (G9 t),.v (.int x),.v (.int y)],fs]=some (true,#[[.v (.int z.1),.v (.int z.2),.v (G9 t),.v (.int x),.v (.int y)],fs]) from rfl,xr,gV rfl,o6 (e6 rfl (e6 (c7 rfl rfl rfl) (e6 (c7 rfl rfl rfl) rfl))) e,xr,i];rfl
abbrev D6 (t:Nt) (x2:Sl) (far:Int) (Ss:List (List Pt)) (x5 x6 x7 x8:Sl) (f:FS):DS:=#[[.v .feed,.v (G9 t),x2,.v (.int far),.own (Ss.map d7),x5,x6,x7,x8],some f]
def AF {F:List IP}(h:bE F=true):F.length<=6/\∀z∈F,(0<=z.1/\z.1<=8)/\(0<=z.2/\z.2<=8):=by
 unfold bE at h;simp only[Ko,LU] at h;refine#[h.1.1.1.1.2,fun z B=>?_];have q:=LH.mp h.2 z B;simp only[Ko,LU] at q;omega
def BA {f:FS}(h:Fd4 n f) (hn:n<2 ^ 27) {t:Nt}(ht:NtOk t) {far:Int}(hf:0<=far/\far<=14) (hS:∀A∈Ss,ShC A) (hl:Ss.length<=9) (x2 J x6 x7 x8:Sl) :
  ∃A y6 y7 y8 f',ShC A/\bZ P0 dE bq aY (D6 t x2 far Ss J x6 x7 x8 f)=some (.next,D6 t x2 far (Ss++[A]) J y6 y7 y8 f')/\Fd4 (n+6) f':=by
 obtain⟨M,f1,e1,a1,a2,h1⟩:=V9 6 h;obtain⟨U,f2,e2,b1,b2,h2⟩:=V9 6 h1;obtain⟨F,W,e3,hF,h3⟩:=Ft h2 ∅;obtain⟨r4,Z,e4,d1,d2,h4⟩:=V9 9 h3;obtain⟨l6,hz⟩:=AF hF;have sc:=An (x:=far+M) (y:=U) ht hF ∅ ∅;have K3:=sc.lo;have K6:=sc.hi;obtain⟨i,il,bg⟩:=oi (K:=F.map (L6 t (far+M) U)) (fun z hz=>(sc.sz z hz).1) K3 K6 (some W);obtain⟨i',il',bg'⟩:=oi (K:=F.map (L6 t (far+M) U)) (fun z hz=>(sc.sz z hz).1) K3 K6 (some Z);have row:=ug ht (x:=far+M) (y:=U) ∅ ∅ (sl:=[.v .feed,.v (G9 t),x2,.v (.int far),.own (Ss.map d7),J,.v (.int (far+M)),.v (.int U),x8]) rfl (some W) F hz;generalize hK:F.map (L6 t (far+M) U)=K at *;have s1:f7 (f9 (a0 (a7 j4 (dL 3) (d4 P0 (a0 (dV 0) (a0 (k0 6) b9)))) (a0 (d4 P0 (a0 (dV 0) (a0 (k0 6) b9))) b9))) (t6 2 (k6 (d5 6) (k6 (d5 7) u3))) (D6 t x2 far Ss J x6 x7 x8 f)=some (.next,D6 t x2 far Ss J (.v (.int (far+M))) (.v (.int U)) x8 f2):=
  A7 (kY (c7 rfl (R6 rfl e1) rfl) (R6 rfl e2)) rfl
 have it:F6 (d4 bq (a0 (dV 0) b9)) (D6 t x2 far Ss J (.v (.int (far+M))) (.v (.int U)) x8 f2)=some (F.map ai,D6 t x2 far Ss J (.v (.int (far+M))) (.v (.int U)) x8 W):=by
  unfold F6;rw[R6 rfl e3];rfl
 have lz:(F.map ai).length<=sizeLine:=by rw[xo];exact Kf l6 #[]
 have s2:C1 8 (V3 [1,6,7] (F6 (d4 bq (a0 (dV 0) b9))) D5 (d4 aY (a0 (dV 2) (a0 (a7 j4 (dL 0) (dL 3)) (a0 (a7 j4 (dL 1) (dL 4)) b9))))) (D6 t x2 far Ss J (.v (.int (far+M))) (.v (.int U)) x8 f2)=some (.next,D6 t x2 far Ss J (.v (.int (far+M))) (.v (.int U)) (.own (K.map pt)) W):=
  Q2 (i:=8) (s1:=D6 t x2 far Ss J (.v (.int (far+M))) (.v (.int U)) x8 W) (ds:=K.map pt) (mB it lz row) (by show 8<9;decide)
 generalize Sl.v (.int (far+M))=X at *;generalize Sl.v (.int U)=Y at *;have lsz:∀m:Nat,(Ss.map d7).length<sizeLine:=fun _=>by rw[xo];exact KU hl #[]
 have apd:∀A,Ss.map d7++[d7 A]=(Ss++[A]).map d7:=fun A=>by rw[Lh];rfl
 cases Ss with
 |nil=>
  refine#[K.drop i++K.take i,X,Y,.v (.lst (K.map pt)),W,vm sc i il,?_,h3.mono ∅];unfold bZ;refine j5 s1 (j5 s2 ?_);rw[J0 (Z9 (C4 (c7 (x:=.lst []) (y:=.lst []) rfl rfl rfl)))];exact V4 (i:=4) (s:=D6 t x2 far [] J X Y (.own (K.map pt)) W) (s1:=D6 t x2 far [] J X Y (.v (.lst (K.map pt))) W) (ds:=[]) (ds0:=[]) (d:=d7 (K.drop i++K.take i)) rfl (cc rfl bg) rfl (by show 0<sizeLine;decide)
 |cons B r=>
  have ne:=DZ (d:=d7 B) (ds:=r.map d7) (Ok.eq (Ok.lst (xU hS)) #[]);have cq:dB (a7 F9 (dL 4) (o7 (r8 b9))) (D6 t x2 far (B::r) J X Y (.own (K.map pt)) W)=some (true,D6 t x2 far (B::r) J X Y (.own (K.map pt)) W):=C4 (c7 (x:=.lst (d7 B::r.map d7)) (y:=.lst []) rfl rfl ne);have c9:dB (a7 B3 (d4 P0 (a0 (dV 0) (a0 (k0 9) b9))) (k0 0)) (D6 t x2 far (B::r) J X Y (.own (K.map pt)) W)=some (decide (r4=0),D6 t x2 far (B::r) J X Y (.own (K.map pt)) Z):=C4 (c7 (R6 rfl e4) rfl (U0 r4 0));by_cases z:r4=0
  .rw[Kp z] at c9;refine#[B,X,Y,.own (K.map pt),Z,hS B (iR ..),?_,h4.mono ∅];unfold bZ;refine j5 s1 (j5 s2 ?_);rw[M6 (Q1 cq c9)];refine Eq.trans (V4 (i:=4) (s:=D6 t x2 far (B::r) J X Y (.own (K.map pt)) Z) (s1:=D6 t x2 far (B::r) J X Y (.own (K.map pt)) Z) (ds:=(B::r).map d7) (ds0:=(B::r).map d7) (d:=d7 B) rfl (c7 rfl rfl (cM (cV (j:=0) rfl))) rfl (lsz 0)) ?_;show some (Fl.next,(#[[.v .feed,.v (G9 t),x2,.v (.int far),.own ((B::r).map d7++[d7 B]),J,X,Y,.own (K.map pt)],some Z]:DS))=_;rw[apd]
  .rw[KC z] at c9;refine#[K.drop i'++K.take i',X,Y,.v (.lst (K.map pt)),Z,vm sc i' il',?_,h4.mono ∅];unfold bZ;refine j5 s1 (j5 s2 ?_);rw[J0 (Q1 cq c9)];refine Eq.trans (V4 (i:=4) (s:=D6 t x2 far (B::r) J X Y (.own (K.map pt)) Z) (s1:=D6 t x2 far (B::r) J X Y (.v (.lst (K.map pt))) Z) (ds:=(B::r).map d7) (ds0:=(B::r).map d7) (d:=d7 (K.drop i'++K.take i')) rfl (cc rfl bg') rfl (lsz 0)) ?_;show some (Fl.next,(#[[.v .feed,.v (G9 t),x2,.v (.int far),.own ((B::r).map d7++[d7 (K.drop i'++K.take i')]),J,X,Y,.v (.lst (K.map pt))],some Z]:DS))=_;rw[apd]
theorem ub (A B P:Pt):((O0 A B P:Int):Rat)=a9 A B P*((pL A:Rat)*pL B*pL P):=by
 unfold O0 a9;simp only[Ln,Mr,Kk,L3,L5];grind
def ju {x b:Int}{y:Rat}(hb:b≠0) (h:y*(b:Rat)=(x:Rat)):Rat.divInt x b=y:=by
 have B:(b:Rat)≠0:=fun z=>hb (Nm.mp z)
 rw[MN,<-h,Lb,MR,Oj _ B,Nv]
def Bd.det {a b c:Pt}(ha:Ps k a) (hb:Ps k b) (B:Ps k c):Bd (3*k+4) (O0 a b c):=by
 have q:∀{e i l m n:Int},Bd k e->Bd k i->Bd k l->Bd k m->Bd k n->Bd (3*k+1) (e*(i*l - m*n)):=fun M h1 h2 J h4=>(M.mul ((h1.mul h2).sub (J.mul h4))).mono ∅
 exact(((q ha.x hb.y B.l hb.l B.y).sub (q ha.y hb.x B.l hb.l B.x)).add (q ha.l hb.x B.y hb.y B.x)).mono ∅
abbrev gL:a8:=kO cY S4
def lX {i j k l:Int}(h1:A0 i=true) (h2:A0 j=true) (U:A0 k=true) (h4:A0 l=true) {a b c d:DE}{t:DS}(M:a t=some (.int i,t)) (B:b t=some (.int j,t)) (W:c t=some (.int k,t)) (J:d t=some (.int l,t)):a7 t7 (a7 j6 a b) (a7 j6 c d) t=some (.int (i*j - k*l),t):=
 c7 (c7 M B (C3 h1 h2)) (c7 W J (C3 U h4)) rfl
def zf {m1 m2:a8}{A B r:D}{x z u v w f s:Int}{fs:vO_}(e1:m2 [A,B,.tup [.int x,.int y,.int z]] fs=some (.int f,fs)) (U:m2 [A,B,.tup [.int u,.int v,.int w]] fs=some (.int s,fs)) (J:A0 f=true) (hs:A0 s=true) (Y:A0 x=true) (W:A0 y=true) (hz:A0 z=true) (Z:A0 u=true) (hv:A0 v=true) (hw:A0 w=true)
  (M:m1 [.int (s*x - f*u),.int (s*y - f*v),.int (s*z - f*w)] fs=some (r,fs)):kO m1 m2 [A,B,.tup [.int x,.int y,.int z],.tup [.int u,.int v,.int w]] fs=some (r,fs):=by
 refine u4 (s:=#[[.v A,.v B,.v (.tup [.int x,.int y,.int z]),.v (.tup [.int u,.int v,.int w]),.v (.int f),.v (.int s),.v (.int (s*x - f*u))],fs]) ?_;show fS m1 m2 #[[.v A,.v B,.v (.tup [.int x,.int y,.int z]),.v (.tup [.int u,.int v,.int w]),.no,.no,.no],fs]=_;unfold fS;refine j5 (s1:=#[[.v A,.v B,.v (.tup [.int x,.int y,.int z]),.v (.tup [.int u,.int v,.int w]),.v (.int f),.v (.int s),.no],fs]) (sG (e6 (o6 rfl e1) (e6 (o6 rfl U) rfl)) rfl) ?_;refine j5 (s1:=#[[.v A,.v B,.v (.tup [.int x,.int y,.int z]),.v (.tup [.int u,.int v,.int w]),.v (.int f),.v (.int s),.v (.int (s*x - f*u))],fs]) (A7 (lX hs Y J Z rfl (c7 rfl rfl rfl) rfl (c7 rfl rfl rfl)) rfl) ?_;exact v8 (o6 (e6 rfl (e6 (lX hs W J hv rfl (c7 rfl rfl rfl) rfl (c7 rfl rfl rfl)) (e6 (lX hs hz J hw rfl (c7 rfl rfl rfl) rfl (c7 rfl rfl rfl)) rfl))) M)
theorem zy {a b c d:Pt}(fs:vO_) (ha:Ps k a) (hb:Ps k b) (J:Ps k c) (B:Ps k d) (hk:k<=400) (Z:a9 a b c - a9 a b d≠0):gL [pt a,pt b,pt c,pt d] fs=some (pt (xq a b c d),fs):=by
 have d1:=Bd.det ha hb J;have d2:=Bd.det ha hb B;have W:=ub a b c;have U:=ub a b d;have w1:=eV a b c fs ha hb J hk;have w2:=eV a b d fs ha hb B hk;have la:=E8 a;have lb:=E8 b;have lc:=E8 c;have ld:=E8 d;generalize O0 a b c=f at *;generalize O0 a b d=s at *;have hs:a9 a b c / (a9 a b c - a9 a b d)*(a9 a b c - a9 a b d)=a9 a b c:=Oe Z;have K:0<(pL a:Rat)*pL b*pL c*pL d:=X1 (X1 (X1 la lb) lc) ld;have M:((s*pL c - f*pL d:Int):Rat)=((pL a:Rat)*pL b*pL c*pL d)*(a9 a b d - a9 a b c):=by
  rw[Ln,Kk,Kk,W,U];grind
 have Y:s*pL c - f*pL d≠0:=fun z=>by
  rw[z] at M;rcases La.mp M.symm with q | q
  .grind
  .exact Z (by grind)
 have bb:Bd (2000) (s*pL c - f*pL d):=((d2.mul J.l).sub (d1.mul B.l)).mono ∅;refine zf w1 w2 (d1.bits ∅) (d2.bits ∅) (J.x.bits ∅) (J.y.bits ∅) (J.l.bits ∅) (B.x.bits ∅) (B.y.bits ∅) (B.l.bits ∅) ?_;rw[jR _ _ _ fs Y bb #[]];have x1:Rat.divInt (s*pX c - f*pX d) (s*pL c - f*pL d)=(xq a b c d).1:=by
  refine ju Y ?_;rw[M,Ln,Kk,Kk,W,U,L3,L3];show (c.1+a9 a b c / (a9 a b c - a9 a b d)*(d.1 - c.1))*_=_;generalize a9 a b c / (a9 a b c - a9 a b d)=t at *;grind
 have x2:Rat.divInt (s*pY c - f*pY d) (s*pL c - f*pL d)=(xq a b c d).2:=by
  refine ju Y ?_;rw[M,Ln,Kk,Kk,W,U,L5,L5];show (c.2+a9 a b c / (a9 a b c - a9 a b d)*(d.2 - c.2))*_=_;generalize a9 a b c / (a9 a b c - a9 a b d)=t at *;grind
 rw[x1,x2]
theorem aO (a b c d:Pt) (s t:Rat):a9 c d (d8 a b s) - a9 c d (d8 a b t)=(s - t)*(a9 a b c - a9 a b d):=by
 unfold a9 d8;grind
theorem fv (a b c d:Pt):K4 (p8 a b) (p8 c d)=a9 a b d - a9 a b c:=by
 unfold K4 p8 a9;grind
theorem gO (a b c d:Pt) (t:Rat):a9 a b (d8 c d t)=(1 - t)*a9 a b c+t*a9 a b d:=by
 unfold a9 d8;grind
theorem av {a b c d:Pt}(h:a9 a b c*a9 a b d<0):∃t:Rat,0<t/\t<1/\K9 a b c d=d8 c d t/\a9 a b (K9 a b c d)=0:=by
 have W:a9 a b c - a9 a b d≠0:=fun e=>by
  have e:a9 a b d=a9 a b c:=by grind
  rw[e] at h;by_cases z:0<=a9 a b c
  .have:=Kx z z;grind
  .have:=Kj (show 0 < -a9 a b c by grind) (show 0 < -a9 a b c by grind);grind
 have B:a9 a b (d8 c d (a9 a b c / (a9 a b c - a9 a b d)))=0:=by
  rw[gO];generalize a9 a b c=x at *;generalize a9 a b d=y at *;grind
 have ex:K9 a b c d=d8 c d (a9 a b c / (a9 a b c - a9 a b d)):=wm (by rw[fv];grind) B (T2 _ _ _);refine#[_,?_,?_,ex,by rw[ex];exact B]
 .generalize a9 a b c=x at *;generalize a9 a b d=y at *;by_cases c:0<x
  .have U:y<0:=by
    refine LD.mp fun z=>?_
    have:=Kx (Lo c) z;grind
   rw[Lb];exact Kj c (Nx.mpr (by grind))
  .have M:x<0:=by
    have:x≠0:=fun z=>by rw[z] at h;grind
    grind
   have J:0<y:=by
    refine LD.mp fun z=>?_
    have:=Kx (show 0 <= -x by grind) (show 0 <= -y by grind);grind
   have:x / (x - y)=(-x) / (y - x):=by grind
   rw[this,Lb];exact Kj (by grind) (Nx.mpr (by grind))
 .generalize a9 a b c=x at *;generalize a9 a b d=y at *;have e:1 - x / (x - y)=(-y) / (x - y):=by grind
  have:0<1 - x / (x - y):=by
   rw[e];by_cases c:0<x
   .have U:y<0:=by
     refine LD.mp fun z=>?_
     have:=Kx (Lo c) z;grind
    rw[Lb];exact Kj (by grind) (Nx.mpr (by grind))
   .have M:x<0:=by
     have:x≠0:=fun z=>by rw[z] at h;grind
     grind
    have J:0<y:=by
     refine LD.mp fun z=>?_
     have:=Kx (show 0 <= -x by grind) (show 0 <= -y by grind);grind
    have:(-y) / (x - y)=y / (y - x):=by grind
    rw[this,Lb];exact Kj J (Nx.mpr (by grind))
  grind
def G7 (a b:Pt) (C:vT_) (p:Pt):Prop:=(∃k,p=tk C k/\a9 a b p=0)\/∃i,a9 a b (tk C i)*a9 a b (tk C (i+1))<0/\p=K9 a b (tk C i) (tk C (i+1))
section
variable {a b:Pt}(hC:ShC C)
include hC
theorem G3:0<C.length:=by have:=hC.lo;omega
theorem ah {p:Pt}(h:G7 a b C p):a9 a b p=0:=by
 rcases h with ⟨k,_,e⟩ | ⟨i,h,rfl⟩
 .exact e
 .obtain⟨_,_,_,_,e⟩:=av h;exact e
theorem fg {p:Pt}(h:G7 a b C p) (i:Nat):0<=a9 (tk C i) (tk C (i+1)) p:=by
 rcases h with ⟨k,rfl,e⟩ | ⟨j,h,rfl⟩
 .exact hC.cv i _ (C7 k (G3 hC))
 .obtain⟨t,B,J,e,_⟩:=av h;rw[e,gO];have x:=Kx (show 0<=1 - t by grind) (hC.cv i _ (C7 j (G3 hC)));have y:=Kx (Lo B) (hC.cv i _ (C7 (j+1) (G3 hC)));grind
theorem Bh (h1:a9 a b (tk C i)<0) (h2:0<=a9 a b (tk C (i+1))):∃p,G7 a b C p/\a9 (tk C i) (tk C (i+1)) p=0:=by
 by_cases z:a9 a b (tk C (i+1))=0
 .exact#[_,.inl #[i+1,rfl,z],by unfold a9;grind]
 .have h:a9 a b (tk C i)*a9 a b (tk C (i+1))<0:=by
   have:=Kj (show 0 < -a9 a b (tk C i) by grind) (show 0<a9 a b (tk C (i+1)) by grind);grind
  obtain⟨t,_,_,e,_⟩:=av h;exact#[_,.inr #[i,h,rfl],by rw[e];exact T2 _ _ _]
theorem JD (h1:0<=a9 a b (tk C i)) (h2:a9 a b (tk C (i+1))<0):∃p,G7 a b C p/\a9 (tk C i) (tk C (i+1)) p=0:=by
 by_cases z:a9 a b (tk C i)=0
 .exact#[_,.inl #[i,rfl,z],by unfold a9;grind]
 .have h:a9 a b (tk C i)*a9 a b (tk C (i+1))<0:=by
   have:=Kj (show 0<a9 a b (tk C i) by grind) (show 0 < -a9 a b (tk C (i+1)) by grind);grind
  obtain⟨t,_,_,e,_⟩:=av h;exact#[_,.inr #[i,h,rfl],by rw[e];exact T2 _ _ _]
theorem wg (k:Nat):∃i,tk C (i+1)=tk C k/\tk C (i+1+1)=tk C (k+1):=by
 have l:=hC.lo;refine#[k+C.length - 1,?_,?_]
 .rw[show k+C.length - 1+1=k+C.length by omega,<-K7,Md,K7]
 .rw[show k+C.length - 1+1+1=k+1+C.length by omega,<-K7,Md,K7]
theorem br (h:tk C i=tk C j):i % C.length=j % C.length:=by
 have l:=G3 hC;have x:=js (l:=C) (i:=i) l;have y:=js (l:=C) (i:=j) l;rw[h] at x;exact(List.getElem?_inj (Li _ l) hC.nd).mp (x.trans y.symm)
theorem rf (i:Nat):0<a9 (tk C i) (tk C (i+1)) (tk C (i+1+1)):=by
 have l:=hC.lo;rcases hC.st i _ (C7 (i+1+1) (G3 hC)) with e | e | e
 .have:=br hC e;have h1:=Li i (show 0<C.length by omega);have h2:=Oo i C.length;have J:=Oo (i+1+1) C.length;have h4:C.length*((i+1+1) / C.length)=C.length*(i / C.length)+2:=by omega
  have B:(i+1+1) / C.length>i / C.length:=by
   refine Nat.lt_of_not_le fun z=>?_
   have:=Oq C.length z;omega
  have:=Oq C.length B;rw[Nat.mul_succ] at this;omega
 .exact absurd e (hC.ne (i+1))
 .exact e
theorem my (hab:a≠b) {s s1 s2:Rat}(h:G7 a b C (d8 a b s)) (l1:s1<s) (l2:s<s2) (i1:∀i,0<=a9 (tk C i) (tk C (i+1)) (d8 a b s1)) (i2:∀i,0<=a9 (tk C i) (tk C (i+1)) (d8 a b s2)):False:=by
 have B:∀i,a9 (tk C i) (tk C (i+1)) (d8 a b s)=0->a9 a b (tk C i)=a9 a b (tk C (i+1)):=fun i e=>by
  have q1:=aO a b (tk C i) (tk C (i+1)) s1 s;have q2:=aO a b (tk C i) (tk C (i+1)) s2 s;have M:=i1 i;have W:=i2 i;rw[e] at q1 q2;generalize hD:a9 a b (tk C i) - a9 a b (tk C (i+1))=D at *;have d0:D=0:=by
   rcases(show D<0\/D=0\/0<D by grind) with z | z | z
   .have:=Kj (show 0<s2 - s by grind) (show 0 < -D by grind);grind
   .exact z
   .have:=Kj (show 0<s - s1 by grind) z;grind
  grind
 rcases h with ⟨k,e,z⟩ | ⟨i,h,e⟩
 .obtain⟨i,J,Y⟩:=wg hC k;have f1:=B i (by rw[e,<-J];unfold a9;grind);have U:=B (i+1) (by rw[e,<-J];unfold a9;grind);rw[e,<-J] at z;have t:=rf hC i;rw[z] at f1 U;have p1:=S5 hab f1;have p2:=S5 hab z;have p3:=S5 hab U.symm;obtain⟨M,p1⟩:=p1;obtain⟨W,p2⟩:=p2;obtain⟨Z,p3⟩:=p3;rw[p1,p2,p3] at t;have:a9 (d8 a b M) (d8 a b W) (d8 a b Z)=0:=by unfold a9 d8;grind
  grind
 .obtain⟨t,_,_,Y,_⟩:=av h;have f:=B i (by rw[e,Y];exact T2 _ _ _);rw[f] at h;by_cases z:0<=a9 a b (tk C (i+1))
  .have:=Kx z z;grind
  .have:=Kj (show 0 < -a9 a b (tk C (i+1)) by grind) (show 0 < -a9 a b (tk C (i+1)) by grind);grind
end
theorem nW (Q:Nat->Prop):∀(d i:Nat),Q i->¬ Q (i+d)->∃k,Q k/\¬ Q (k+1)
 |0,i,h,n=>absurd h n
 |d+1,i,h,n=>by
  by_cases c:Q (i+1)
  .exact nW Q d (i+1) c (by rwa [show i+1+d=i+(d+1) by omega])
  .exact#[i,h,c]
section
variable {a b:Pt}(hC:ShC C)
include hC
theorem CP (i m:Nat):tk C (i+C.length*m)=tk C i:=by
 rw[<-K7,Nat.add_mul_mod_self_left,K7]
theorem pO {P:Pt->Prop}{z w:Pt}(hz:z∈C) (B:w∈C) (p:P z) (n:¬ P w):∃i,P (tk C i)/\¬ P (tk C (i+1)):=by
 obtain⟨i,M,rfl⟩:=fO hz;obtain⟨j,J,rfl⟩:=fO B;have l:=G3 hC;refine nW (fun k=>P (tk C k)) (j+C.length*(i+1) - i) i p ?_;have:i<=C.length*(i+1):=by
  have:=Nat.mul_le_mul_right (i+1) (show 1<=C.length by omega);omega
 rw[show i+(j+C.length*(i+1) - i)=j+C.length*(i+1) by omega,CP hC];exact n
def aN (a b:Pt) (C:vT_) (m:Pt):Prop:=∀i,0<a9 (tk C i) (tk C (i+1)) m\/(a9 (tk C i) (tk C (i+1)) m=0/\Y9 (p8 (tk C i) (tk C (i+1))) (p8 a b)<=0)
theorem dH {a b:Pt}(hab:a≠b):0<(b.1 - a.1)*(b.1 - a.1)+(b.2 - a.2)*(b.2 - a.2):=by
 have s1:=aw (b.1 - a.1);have s2:=aw (b.2 - a.2);refine LD.mp fun z=>hab ?_
 have J:(b.1 - a.1)*(b.1 - a.1)=0:=by grind
 have B:(b.2 - a.2)*(b.2 - a.2)=0:=by grind
 have U:b.1 - a.1=0:=by rcases La.mp J with q | q <;> exact q
 have M:b.2 - a.2=0:=by rcases La.mp B with q | q <;> exact q
 exact KA (by grind) (by grind)
theorem eL {m:Pt}(h:aN a b C m) (i:Nat):0<=a9 (tk C i) (tk C (i+1)) m:=by
 rcases h i with q | q
 .exact Lo q
 .rw[q.1];exact Rat.le_refl
theorem qB {m:Pt}(h:aN a b C m):Ip C m:=ET hC.cv hC.ne hC.nc fun i=>eL hC h i
theorem qP (hab:a≠b) {s:Rat}(h1:a9 a b (tk C i)=0) (h2:a9 a b (tk C (i+1))=0) (U:∀z∈C,0<=a9 a b z) (h:aN a b C (d8 a b s)):False:=by
 obtain⟨B,p1⟩:=S5 hab h1;obtain⟨J,p2⟩:=S5 hab h2;have t:=rf hC i;have g:=U _ (C7 (i+1+1) (G3 hC));have q:=h i;rw[p1,p2] at t q;generalize tk C (i+1+1)=z at *;have Y:a9 (d8 a b B) (d8 a b J) z=(J - B)*a9 a b z:=by unfold a9 d8;grind
 have W:a9 (d8 a b B) (d8 a b J) (d8 a b s)=0:=by unfold a9 d8;grind
 have M:Y9 (p8 (d8 a b B) (d8 a b J)) (p8 a b)=(J - B)*((b.1 - a.1)*(b.1 - a.1)+(b.2 - a.2)*(b.2 - a.2)):=by unfold Y9 p8 d8;grind
 rw[Y] at t;have Z:0<J - B:=by
  refine LD.mp fun y=>?_
  have:=Kx (show 0 <= -(J - B) by grind) g;grind
 have:=Kj Z (dH hC hab);rw[W,M] at q;rcases q with q | q
 .exact absurd q Np
 .grind
theorem IZ (hab:a≠b) {s lo hi:Rat}(h:aN a b C (d8 a b s)) (l1:lo<s) (l2:s<hi) (nm:∀r,G7 a b C (d8 a b r)->¬ (lo<r/\r<hi)):∃z∈C,a9 a b z<0:=by
 refine MK fun W=>?_
 have J:∀z∈C,0<=a9 a b z:=fun z Z=>Lc.mp fun y=>W #[z,Z,y]
 obtain⟨w,U,hq⟩:=qB hC h (b.2 - a.2) (-(b.1 - a.1));have e:a9 a b (d8 a b s)=0:=T2 a b s;have B:a9 a b w=0:=by
  have:=J w U;have:a9 a b w = -((b.2 - a.2)*(w.1 - (d8 a b s).1) + -(b.1 - a.1)*(w.2 - (d8 a b s).2)):=by
   have:a9 a b w - a9 a b (d8 a b s) = -((b.2 - a.2)*(w.1 - (d8 a b s).1) + -(b.1 - a.1)*(w.2 - (d8 a b s).2)):=by unfold a9;grind
   grind
  grind
 obtain⟨k,kl,rfl⟩:=fO U;obtain⟨i,M,e2⟩:=wg hC k;by_cases c1:a9 a b (tk C i)=0
 .exact qP hC hab c1 (by rw[M];exact B) J h
 by_cases Y:a9 a b (tk C (k+1))=0
 .exact qP hC hab B Y J h
 obtain⟨r,pr⟩:=S5 hab B;have g1:=J _ (C7 i (G3 hC));have g2:=J _ (C7 (k+1) (G3 hC));have f1:=eL hC h i;have f2:=eL hC h k;have q1:=aO a b (tk C i) (tk C (i+1)) s r;have q2:=aO a b (tk C k) (tk C (k+1)) s r;have z1:a9 (tk C i) (tk C (i+1)) (d8 a b r)=0:=by rw[<-pr,M];unfold a9;grind
 have z2:a9 (tk C k) (tk C (k+1)) (d8 a b r)=0:=by rw[<-pr];unfold a9;grind
 rw[z1,M,B] at q1;rw[z2,B] at q2;have a1:0<=s - r:=by
  refine Lc.mp fun y=>?_
  have:=Kj (show 0 < -(s - r) by grind) (show 0<a9 a b (tk C i) by grind);rw[M] at f1;grind
 have a2:s - r<=0:=by
  refine Lc.mp fun y=>?_
  have:=Kj y (show 0<a9 a b (tk C (k+1)) by grind);grind
 have es:r=s:=by grind
 refine nm r (.inl #[k,pr.symm,T2 a b r]) ?_;rw[es];exact#[l1,l2]
theorem Gq (hab:a≠b) {s lo hi:Rat}(h:aN a b C (d8 a b s)) (l1:lo<s) (l2:s<hi) (nm:∀r,G7 a b C (d8 a b r)->¬ (lo<r/\r<hi)) :
  (∃z∈C,a9 a b z<0)/\∃s1 s2,G7 a b C (d8 a b s1)/\G7 a b C (d8 a b s2)/\s2<=lo/\hi<=s1/\∀r,G7 a b C (d8 a b r)->r=s1\/r=s2:=by
 obtain⟨z,M,U⟩:=IZ hC hab h l1 l2 nm;refine#[#[z,M,U],?_];obtain⟨w,hw,hq⟩:=qB hC h (-(b.2 - a.2)) (b.1 - a.1);have W:0<=a9 a b w:=by
  have e:a9 a b (d8 a b s)=0:=T2 a b s;have:a9 a b w - a9 a b (d8 a b s) = -(b.2 - a.2)*(w.1 - (d8 a b s).1)+(b.1 - a.1)*(w.2 - (d8 a b s).2):=by unfold a9;grind
  grind
 obtain⟨i,i1,i2⟩:=pO hC (P:=fun p=>a9 a b p<0) M hw U (Lc.mpr W);obtain⟨j,j1,J⟩:=pO hC (P:=fun p=>0<=a9 a b p) hw M W (LD.mpr U);have i2:=Lc.mp i2;have J:=LD.mp J;obtain⟨p,mp,ep⟩:=Bh hC i1 i2;obtain⟨q,B,eq⟩:=JD hC j1 J;obtain⟨s1,rfl⟩:=S5 hab (ah hC mp);obtain⟨s2,rfl⟩:=S5 hab (ah hC B);have f1:=eL hC h i;have f2:=eL hC h j;have q1:=aO a b (tk C i) (tk C (i+1)) s s1;have q2:=aO a b (tk C j) (tk C (j+1)) s s2;rw[ep] at q1;rw[eq] at q2;have b1:s<=s1:=by
  refine Lc.mp fun y=>?_
  have:=Kj (show 0<s - s1 by grind) (show 0<a9 a b (tk C (i+1)) - a9 a b (tk C i) by grind);grind
 have b2:s2<=s:=by
  refine Lc.mp fun y=>?_
  have:=Kj (show 0<s2 - s by grind) (show 0<a9 a b (tk C j) - a9 a b (tk C (j+1)) by grind);grind
 have c1:hi<=s1:=Lc.mp fun y=>nm s1 mp #[by grind,y]
 have c2:s2<=lo:=Lc.mp fun y=>nm s2 B #[y,by grind]
 refine#[s1,s2,mp,B,c2,c1,fun r Y=>?_];have ir:=fg hC Y;have Z:=fg hC mp;have iq:=fg hC B;rcases(show r=s1\/r=s2\/r<s2\/(s2<r/\r<s1)\/s1<r by grind) with y | y | y | y | y
 .exact .inl y
 .exact .inr y
 .exact(my hC hab B y (show s2<s1 by grind) ir Z).elim
 .exact(my hC hab Y y.1 y.2 iq Z).elim
 .exact(my hC hab mp (show s2<s1 by grind) y iq ir).elim
theorem pT (hab:a≠b) {s s1 s2:Rat}(h1:G7 a b C (d8 a b s1)) (h2:G7 a b C (d8 a b s2)) (l2:s2<s) (l1:s<s1) (hz:z∈C) (zn:a9 a b z<0):aN a b C (d8 a b s):=by
 intro i;have f1:=fg hC h1 i;have f2:=fg hC h2 i;have q1:=aO a b (tk C i) (tk C (i+1)) s1 s;have q2:=aO a b (tk C i) (tk C (i+1)) s2 s;have key:0<=a9 (tk C i) (tk C (i+1)) (d8 a b s):=by
  refine Lc.mp fun y=>?_
  rcases(show a9 a b (tk C i) - a9 a b (tk C (i+1))<=0\/0<=a9 a b (tk C i) - a9 a b (tk C (i+1)) by grind) with d | d
  .have:=Kx (show 0<=s1 - s by grind) (show 0 <= -(a9 a b (tk C i) - a9 a b (tk C (i+1))) by grind);grind
  .have:=Kx (show 0<=s - s2 by grind) d;grind
 by_cases e:a9 (tk C i) (tk C (i+1)) (d8 a b s)=0
 .refine .inr #[e,?_];have M:a9 a b (tk C i)=a9 a b (tk C (i+1)):=by
   rw[e] at q1 q2;generalize hD:a9 a b (tk C i) - a9 a b (tk C (i+1))=D at *;rcases(show D<0\/D=0\/0<D by grind) with d | d | d
   .have:=Kj (show 0<s1 - s by grind) (show 0 < -D by grind);grind
   .grind
   .have:=Kj (show 0<s - s2 by grind) d;grind
  have W:=hC.cv i z hz;have ev:((b.1 - a.1,b.2 - a.2):Pt)≠(0,0):=fun q=>hab (KA (by have:b.1 - a.1=0:=congrArg Prod.fst q;grind) (by have:b.2 - a.2=0:=congrArg Prod.snd q;grind))
  obtain⟨k,hk⟩:=jJ (v:=((tk C (i+1)).1 - (tk C i).1,(tk C (i+1)).2 - (tk C i).2)) ev (by
   have:a9 a b (tk C (i+1)) - a9 a b (tk C i)=(b.1 - a.1)*((tk C (i+1)).2 - (tk C i).2) - (b.2 - a.2)*((tk C (i+1)).1 - (tk C i).1):=by unfold a9;grind
   unfold gv;show (b.1 - a.1)*((tk C (i+1)).2 - (tk C i).2) - (b.2 - a.2)*((tk C (i+1)).1 - (tk C i).1)=0;grind)
  have J:(tk C (i+1)).1 - (tk C i).1=k*(b.1 - a.1):=congrArg Prod.fst hk;have B:(tk C (i+1)).2 - (tk C i).2=k*(b.2 - a.2):=congrArg Prod.snd hk;have kn:k≠0:=fun y=>hC.ne i (KA (by rw[y] at J;grind) (by rw[y] at B;grind))
  have U:∀p:Pt,a9 (tk C i) (tk C (i+1)) p=k*(a9 a b p - a9 a b (tk C i)):=fun p=>by
   have:a9 (tk C i) (tk C (i+1)) p=((tk C (i+1)).1 - (tk C i).1)*(p.2 - (tk C i).2) - ((tk C (i+1)).2 - (tk C i).2)*(p.1 - (tk C i).1):=rfl;rw[this,J,B];unfold a9;grind
  have e0:a9 a b (tk C i)=0:=by
   rw[U,T2] at e;rcases La.mp e with y | y
   .exact absurd y kn
   .grind
  rw[U,e0] at W;have Y:k<=0:=by
   refine Lc.mp fun y=>?_
   have:=Kj y (show 0 < -a9 a b z by grind);grind
  have Z:Y9 (p8 (tk C i) (tk C (i+1))) (p8 a b)=k*((b.1 - a.1)*(b.1 - a.1)+(b.2 - a.2)*(b.2 - a.2)):=by
   show ((tk C (i+1)).1 - (tk C i).1)*(b.1 - a.1)+((tk C (i+1)).2 - (tk C i).2)*(b.2 - a.2)=_;rw[J,B];grind
  rw[Z];have:=Kx (show 0 <= -k by grind) (Lo (dH hC hab));grind
 .exact .inl (by grind)
end
def M8 (a b:Pt) (C:vT_) (k:Nat):Option Pt:=if A1 (a9 a b (tk C k))=0 then some (tk C k) else if A1 (a9 a b (tk C k))+A1 (a9 a b (tk C (k+C.length - 1)))=0 then some (K9 a b (tk C (k+C.length - 1)) (tk C k)) else none
def C0 (a b:Pt) (C:vT_):List Pt:=(List.range C.length).filterMap (M8 a b C)
theorem sgn0F {x:Rat}:A1 x=0↔x=0:=by
 unfold A1;by_cases h1:0<x
 .rw[gV h1];constructor <;> intro h <;> grind
 .by_cases h2:x<0
  .rw[fI h1,gV h2];constructor <;> intro h <;> grind
  .rw[fI h1,fI h2];constructor <;> intro h <;> grind
theorem kc {x y:Rat}(M:x≠0):A1 x+A1 y=0↔y*x<0:=by
 have px:∀{u v:Rat},0<u->0<v->¬ u*v<0:=fun h1 h2 h=>by have:=Kj h1 h2;grind
 unfold A1;by_cases h1:0<x
 .by_cases h2:0<y
  .rw[gV h1,gV h2];exact#[fun h=>by omega,fun h=>absurd h (px h2 h1)]
  .by_cases B:y<0
   .rw[gV h1,fI h2,gV B];exact#[fun _=>by have:=Kj h1 (show 0 < -y by grind);grind,fun _=>by omega]
   .rw[gV h1,fI h2,fI B];have:y=0:=by grind
    subst this;exact#[fun h=>by omega,fun h=>by grind]
 .have J:x<0:=by grind
  by_cases h2:0<y
  .rw[fI h1,gV J,gV h2];exact#[fun _=>by have:=Kj (show 0 < -x by grind) h2;grind,fun _=>by omega]
  .by_cases B:y<0
   .rw[fI h1,gV J,fI h2,gV B];exact#[fun h=>by omega,fun h=>by have:=Kj (show 0 < -x by grind) (show 0 < -y by grind);grind]
   .rw[fI h1,gV J,fI h2,fI B];have:y=0:=by grind
    subst this;exact#[fun h=>by omega,fun h=>by grind]
section
variable {a b:Pt}(hC:ShC C)
include hC
theorem yr (k:Nat):tk C (k+C.length - 1+1)=tk C k:=by
 have l:=hC.lo;rw[show k+C.length - 1+1=k+C.length by omega,<-K7,Md,K7]
theorem Fs (i:Nat):tk C ((i+1) % C.length+C.length - 1)=tk C i:=by
 have l:=hC.lo;rw[<-K7,show (i+1) % C.length+C.length - 1=(i+1) % C.length+(C.length - 1) by omega,Om,show i+1+(C.length - 1)=i+C.length by omega,Md,K7]
theorem jm {p:Pt}(h:M8 a b C k=some p):(p=tk C k/\a9 a b (tk C k)=0)\/(a9 a b (tk C (k+C.length - 1))*a9 a b (tk C (k+C.length - 1+1))<0/\p=K9 a b (tk C (k+C.length - 1)) (tk C (k+C.length - 1+1))):=by
 rw[yr hC];unfold M8 at h;by_cases c:A1 (a9 a b (tk C k))=0
 .rw[gV c] at h;cases h;exact .inl #[rfl,sgn0F.mp c]
 .rw[fI c] at h;by_cases d:A1 (a9 a b (tk C k))+A1 (a9 a b (tk C (k+C.length - 1)))=0
  .rw[gV d] at h;cases h;exact .inr #[(kc fun z=>c (sgn0F.mpr z)).mp d,rfl]
  .rw[fI d] at h;cases h
theorem ae {p:Pt}:p∈C0 a b C↔G7 a b C p:=by
 have l:=G3 hC;unfold C0;rw[Ox];constructor
 .rintro⟨k,_,h⟩;rcases jm hC h with ⟨rfl,e⟩ | ⟨e,rfl⟩
  .exact .inl #[k,rfl,e]
  .exact .inr #[_,e,rfl]
 .rintro(⟨k,rfl,e⟩ | ⟨i,e,rfl⟩)
  .refine#[k % C.length,LF.mpr (Li _ l),?_];unfold M8;rw[K7,gV (sgn0F.mpr e)]
  .refine#[(i+1) % C.length,LF.mpr (Li _ l),?_];unfold M8;rw[Fs hC,K7];have B:a9 a b (tk C (i+1))≠0:=fun z=>by rw[z] at e;grind
   rw[fI (fun z=>B (sgn0F.mp z)),gV ((kc B).mpr e)]
theorem Ci {t u:Rat}(t0:0<t) (t1:t<1) (Y:0<u) (u1:u<1) (e:d8 (tk C i) (tk C (i+1)) t=d8 (tk C j) (tk C (j+1)) u):i % C.length=j % C.length:=by
 have l:=G3 hC;have z:a9 (tk C i) (tk C (i+1)) (d8 (tk C j) (tk C (j+1)) u)=0:=by rw[<-e];exact T2 _ _ _
 rw[gO] at z;have Z:=hC.cv i _ (C7 j l);have g2:=hC.cv i _ (C7 (j+1) l);have m1:=Kx (show 0<=1 - u by grind) Z;have m2:=Kx (Lo Y) g2;have z1:a9 (tk C i) (tk C (i+1)) (tk C j)=0:=by
  refine MK fun n=>?_
  have:=Kj (show 0<1 - u by grind) (show 0<a9 (tk C i) (tk C (i+1)) (tk C j) by grind);grind
 have z2:a9 (tk C i) (tk C (i+1)) (tk C (j+1))=0:=by
  refine MK fun n=>?_
  have:=Kj Y (show 0<a9 (tk C i) (tk C (i+1)) (tk C (j+1)) by grind);grind
 have B:=hC.st i _ (C7 j l);have J:=hC.st i _ (C7 (j+1) l);rw[z1] at B;rw[z2] at J;have M:¬ (0:Rat)<0:=by grind
 have lo:=hC.lo;rcases B with B | B | B
 .exact(br hC B).symm
 .rcases J with J | J | J
  .have U:=br hC B;have W:=br hC J;exfalso;have q3:(j+1+1) % C.length=(i+1) % C.length:=by rw[Ot (j+1) 1,W,<-Ot]
   rw[<-U] at q3;have h2:=Oo j C.length;have h3:=Oo (j+1+1) C.length;have h4:C.length*((j+1+1) / C.length)=C.length*(j / C.length)+2:=by omega
   have h5:(j+1+1) / C.length>j / C.length:=by
    refine Nat.lt_of_not_le fun z=>?_
    have:=Oq C.length z;omega
   have:=Oq C.length h5;rw[Nat.mul_succ] at this;omega
  .have U:=br hC B;have W:=br hC J;rw[<-U] at W;exact absurd J fun w=>by
    have:=hC.ne j;rw[w,B] at this;exact this rfl
  .exact absurd J M
 .exact absurd B M
theorem Jo {p:Pt}(hk:k<C.length) (Y:j<C.length) (h1:M8 a b C k=some p) (h2:M8 a b C j=some p):k=j:=by
 have l:=G3 hC;have U:∀{x y:Nat},x % C.length=y % C.length->x<C.length->y<C.length->x=y:=fun h hx Z=>by rwa [Mq hx,Mq Z] at h
 have W:∀{k j:Nat},a9 a b (tk C k)=0->a9 a b (tk C j)*a9 a b (tk C (j+1))<0->tk C k=K9 a b (tk C j) (tk C (j+1))->False:=fun {k j} J B e=>by
  obtain⟨t,_,_,ex,_⟩:=av B;have z:a9 (tk C j) (tk C (j+1)) (tk C k)=0:=by rw[e,ex];exact T2 _ _ _
  rcases hC.st j _ (C7 k l) with w | w | w
  .rw[<-w,J] at B;grind
  .rw[<-w,J] at B;grind
  .grind
 rcases jm hC h1 with ⟨rfl,J⟩ | ⟨J,rfl⟩
 .rcases jm hC h2 with ⟨B,M⟩ | ⟨B,M⟩
  .exact U (br hC B) hk Y
  .exact(W J B M).elim
 .rcases jm hC h2 with ⟨B,M⟩ | ⟨B,M⟩
  .exact(W M J B.symm).elim
  .obtain⟨t,t0,t1,x1,_⟩:=av J;obtain⟨u,u0,u1,x2,_⟩:=av B;have q:=Ci hC t0 t1 u0 u1 (by rw[<-x1,M,x2]);have lo:=hC.lo;have r:(k+C.length - 1+1) % C.length=(j+C.length - 1+1) % C.length:=by rw[Ot,q,<-Ot]
   rw[show k+C.length - 1+1=k+C.length by omega,show j+C.length - 1+1=j+C.length by omega,Md,Md] at r;exact U r hk Y
theorem CZ:(C0 a b C).Nodup:=by
 unfold C0;have r:(List.range C.length).Pairwise fun i j=>i<C.length/\j<C.length/\i≠j:=by
  refine(List.pairwise_lt_range (n:=C.length)).imp_of_mem fun {i j} hi B h=>?_
  exact#[LF.mp hi,LF.mp B,Kr h]
 refine List.Pairwise.filterMap _ (fun i j ⟨hi,B,h⟩ p hp q J e=>?_) r;subst e;exact h (Jo hC hi B hp J)
end
section
variable {α:Type}{en:α->DL.D}{lt:α->α->Bool}{P:α->Prop}{mL mR:a8}{nm:Str}
 (hm:∀(s:DS) (t:DA),s.sl[2]? = some (.v (.fn nm))->X9 2 [("is_lesser",mL),("row_goes_ahead",mR)] t s=d4 m t s)
 (hk:∀(x y:α) (fs:vO_),P x->P y->m [en y,en x] fs=some (.bl (lt y x),fs)) (as zs:List α) (fs:vO_)
abbrev B5 (en:α->DL.D) (nm:Str) (as zs:List α) (fs:vO_) (acc:List DL.D) (t:Nat) (x:Sl):DS:=#[[.v (.lst (as.map en)),.v (.lst (zs.map en)),.v (.fn nm),.own acc,.v (.int (t:Int)),x],fs]
abbrev mS (mL mR:a8):DT:=r0 (dB (a7 (n8 (fun i j=>decide (i<j))) (dL 4) (j7 (one l7) (a0 (dL 1) b9)))) (j8 (X9 2 [("is_lesser",mL),("row_goes_ahead",mR)] (a0 (a7 d3 (dL 1) (dL 4)) (a0 (dV 5) b9))))
include hm hk
theorem Jt (acc:List DL.D) (t:Nat) (x:Sl) (h:zs.length<=t):(mS mL mR) (B5 en nm as zs fs acc t x)=some (false,B5 en nm as zs fs acc t x):=by
 refine Z9 (C4 ?_);refine Y5 (s1:=B5 en nm as zs fs acc t x) (x:=.int (t:Int)) rfl (Y4 (s1:=B5 en nm as zs fs acc t x) (x:=.lst (zs.map en)) rfl rfl) ?_;rw[jr,KC (by rw[xo];omega)]
theorem zg {x y:α}(acc:List DL.D) (t:Nat) (J:P x) (B:P y) (h:zs[t]? = some y):(mS mL mR) (B5 en nm as zs fs acc t (.v (en x)))=some (lt y x,B5 en nm as zs fs acc t (.v (en x))):=by
 have M:t<zs.length:=(KH.mp h).1;refine Q1 (s1:=B5 en nm as zs fs acc t (.v (en x))) (C4 ?_) (O9 ?_)
 .refine Y5 (s1:=B5 en nm as zs fs acc t (.v (en x))) (x:=.int (t:Int)) rfl (Y4 (s1:=B5 en nm as zs fs acc t (.v (en x))) (x:=.lst (zs.map en)) rfl rfl) ?_;rw[jr,Kp (by rw[xo];omega)]
 .rw[hm _ _ rfl];refine o6 (xs:=[en y,en x]) (L0 (Y5 (s1:=B5 en nm as zs fs acc t (.v (en x))) (x:=.lst (zs.map en)) (y:=.int (t:Int)) rfl rfl (uP (qh (by rw[KO,h];rfl)))) (L0 rfl rfl)) ?_;exact hk x y fs J B
theorem pQ (x:α) (U:P x) (hz:∀z∈zs,P z):∀(ys pre:List α) (acc:List DL.D),zs=pre++ys->acc.length+ys.length<sizeLine ->
  N8 (mS mL mR) (kI mL mR) (B5 en nm as zs fs acc pre.length (.v (en x)))=some (.next,B5 en nm as zs fs (acc++(ys.takeWhile (fun y=>lt y x)).map en) (pre.length+(ys.takeWhile (fun y=>lt y x)).length) (.v (en x)))
 |[],pre,acc,e,l=>by
  refine(fR (Jt hm hk as zs fs acc pre.length _ (by rw[e];simp))).trans ?_;simp
 |y::ys,pre,acc,e,l=>by
  have M:zs[pre.length]? = some y:=by rw[e,Mt (iU _),Nat.sub_self];rfl
  have J:P y:=hz y (by rw[e];simp);have T:=zg hm hk as zs fs acc pre.length U J M;cases q:lt y x with
  |false=>
   rw[q] at T;refine(fR T).trans ?_;rw[Pk,q];simp
  |true=>
   rw[q] at T;have W:acc.length<sizeLine:=by simp only[Kh] at l;omega
   have B:kI mL mR (B5 en nm as zs fs acc pre.length (.v (en x)))=some (.next,B5 en nm as zs fs (acc++[en y]) (pre++[y]).length (.v (en x))):=by
    refine(B2 (s1:=B5 en nm as zs fs (acc++[en y]) pre.length (.v (en x))) (V4 (i:=3) (s:=B5 en nm as zs fs acc pre.length (.v (en x))) (s1:=B5 en nm as zs fs acc pre.length (.v (en x))) (ds:=acc) (ds0:=acc) (d:=en y) rfl (Y5 (s1:=B5 en nm as zs fs acc pre.length (.v (en x))) (x:=.lst (zs.map en)) (y:=.int (pre.length:Int)) rfl rfl (uP (qh (by rw[KO,M];rfl)))) rfl W)).trans ?_;refine A7 (Y5 (x:=.int (pre.length:Int)) (y:=.int 1) rfl rfl rfl) ?_;rw[Km];rfl
   have Y:=pQ x U hz ys (pre++[y]) (acc++[en y]) (by rw[e];simp) (by simp only[Km,Kh,Lg] at l ⊢;omega);refine(kK T B Y).trans ?_;rw[Pk,q,gV rfl,Ku,Mv,List.singleton_append,Kh,Km,OF];rw[show pre.length+1+(ys.takeWhile (fun y=>lt y x)).length=pre.length+((ys.takeWhile (fun y=>lt y x)).length+1) by omega]
theorem rA (hz:∀z∈zs,P z):∀(xs ys pre:List α) (acc:List DL.D) (x5:Sl),(∀z∈xs,P z)->zs=pre++ys->acc.length+xs.length+ys.length<sizeLine ->
  ∃(A:List α) (t:Nat) (x5':Sl),u6 (d5 5) (lj mL mR) (xs.map en) (B5 en nm as zs fs acc pre.length x5)=some (.next,B5 en nm as zs fs (acc++A.map en) t x5')/\A++zs.drop t=N5 lt xs ys
 |[],ys,pre,acc,x5,hxs,e,l=>#[[],pre.length,x5,by simp[u6],by rw[e];simp[N5]]
 |x::xs,ys,pre,acc,x5,hxs,e,l=>by
  have J:=hxs x (iR ..);have W:=pQ hm hk as zs fs x J hz ys pre acc e (by simp only[Kh] at l;omega);have tl:=congrArg List.length (MO (p:=fun y=>lt y x) (l:=ys));rw[Km] at tl;have B:lj mL mR (B5 en nm as zs fs acc pre.length (.v (en x)))=some (.next,B5 en nm as zs fs (acc++(ys.takeWhile (fun y=>lt y x)).map en++[en x]) (pre++ys.takeWhile (fun y=>lt y x)).length (.v (en x))):=by
   refine(B2 W).trans ?_;rw[Km];exact V4 (i:=3) (s:=B5 en nm as zs fs (acc++(ys.takeWhile (fun y=>lt y x)).map en) (pre.length+(ys.takeWhile (fun y=>lt y x)).length) (.v (en x))) (s1:=B5 en nm as zs fs (acc++(ys.takeWhile (fun y=>lt y x)).map en) (pre.length+(ys.takeWhile (fun y=>lt y x)).length) (.v (en x))) (ds:=acc++(ys.takeWhile (fun y=>lt y x)).map en) (d:=en x) rfl rfl rfl (by simp only[Km,xo,Kh] at l ⊢;omega)
  obtain⟨A,t,x5',h1,h2⟩:=rA hz xs (ys.dropWhile (fun y=>lt y x)) (pre++ys.takeWhile (fun y=>lt y x)) (acc++(ys.takeWhile (fun y=>lt y x)).map en++[en x]) (.v (en x)) (fun z h=>hxs z (td _ h))
   (by rw[e,Mv,MO]) (by simp only[Km,xo,Kh,Lg] at l ⊢;omega)
  refine#[ys.takeWhile (fun y=>lt y x)++x::A,t,x5',?_,?_]
  .rw[Ku,M3 (s1:=B5 en nm as zs fs acc pre.length (.v (en x))) rfl B,h1];simp
  .simp only[N5];rw[<-h2];simp
theorem Aq (ha:∀z∈as,P z) (hz:∀z∈zs,P z) (l:as.length+zs.length<sizeLine):dh mL mR [.lst (as.map en),.lst (zs.map en),.fn nm] fs=some (.lst ((N5 lt as zs).map en),fs):=by
 obtain⟨A,t,B,h1,h2⟩:=rA hm hk as zs fs hz as zs [] [] .no ha rfl (by simpa using l);refine u4 (s:=B5 en nm as zs fs ([]++A.map en) t B) ?_;show lP mL mR #[[.v (.lst (as.map en)),.v (.lst (zs.map en)),.v (.fn nm),.no,.no,.no],fs]=_;unfold lP;rw[B2 (s1:=#[[.v (.lst (as.map en)),.v (.lst (zs.map en)),.v (.fn nm),.own [],.no,.no],fs]) (Q2 (i:=3) (s1:=#[[.v (.lst (as.map en)),.v (.lst (zs.map en)),.v (.fn nm),.no,.no,.no],fs]) (ds:=[]) rfl (by show 3<6;decide))];rw[B2 (s1:=B5 en nm as zs fs [] 0 .no) (A7 rfl rfl)];rw[B2 (s1:=B5 en nm as zs fs ([]++A.map en) t B) ((U3 (ds:=as.map en) rfl).trans h1)];have hl:A.length+(zs.drop t).length<sizeLine:=by
  have e:=congrArg List.length h2;rw[Km,lO] at e;omega
 refine v8 ?_;refine Y5 (s1:=B5 en nm as zs fs ([]++A.map en) t B) (x:=.lst ([]++A.map en)) rfl (gb (s1:=B5 en nm as zs fs ([]++A.map en) t B) (ds:=zs.map en) rfl (l:=some (t:Int)) (s2:=B5 en nm as zs fs ([]++A.map en) t B) rfl rfl) ?_;rw[jN,<-h2,Lh,<-LI,NG];refine gV ?_;rw[xo,xo];omega
end
section
variable {α:Type}{en:α->DL.D}{lt:α->α->Bool}{P:α->Prop}{mL mR:a8}{nm:Str}
 (hm:∀(s:DS) (t:DA),s.sl[2]? = some (.v (.fn nm))->X9 2 [("is_lesser",mL),("row_goes_ahead",mR)] t s=d4 m t s)
 (hk:∀(x y:α) (fs:vO_),P x->P y->m [en y,en x] fs=some (.bl (lt y x),fs))
include hm hk
theorem ja:∀(n:Nat) (l:List α) (fs:vO_),(∀z∈l,P z)->l.length<=2 ^ n->l.length<2 ^ 20->fj (dh mL mR) (n+1) [.lst (l.map en),.fn nm] fs=some (.lst ((J5 lt (n+1) l).map en),fs)
 |n,l,fs,hl,h2,h3=>by
  have B:∀x2:Sl,j7 (one l7) (a0 (dL 0) b9) #[[.v (.lst (l.map en)),.v (.fn nm),x2],fs]=some (.int (l.length:Int),#[[.v (.lst (l.map en)),.v (.fn nm),x2],fs]):=fun x2=>by
   refine Y4 (x:=.lst (l.map en)) rfl ?_;show some (D.int ((l.map en).length:Nat))=_;rw[xo]
  by_cases hs:l.length<2
  .refine u4 (s:=#[[.v (.lst (l.map en)),.v (.fn nm),.no],fs]) ?_;show dM _ _ #[[.v (.lst (l.map en)),.v (.fn nm),.no],fs]=_;unfold dM;refine Z5 ?_;rw[M6 (s1:=#[[.v (.lst (l.map en)),.v (.fn nm),.no],fs]) (C4 (Y5 (B _) rfl (by rw[jr,Kp ∅])))];rw[J5,gV hs];rfl
  .cases n with
   |zero=>exact absurd h2 ∅
   |succ n=>
    have p2:2 ^ (n+1)=2 ^ n+2 ^ n:=by rw[Pe];omega
    have U:=ja n (l.take (l.length / 2)) fs (fun z h=>hl z (Nq h)) (by rw[Ld];omega) (by rw[Ld];omega);have M:=ja n (l.drop (l.length / 2)) fs (fun z h=>hl z (Mo h)) (by rw[Kt];omega) (by rw[Kt];omega);refine u4 (s:=#[[.v (.lst (l.map en)),.v (.fn nm),.v (.int ((l.length / 2:Nat):Int))],fs]) ?_;show dM (dh mL mR) (fj (dh mL mR) (n+1)) #[[.v (.lst (l.map en)),.v (.fn nm),.no],fs]=_;unfold dM;rw[B2 (s1:=#[[.v (.lst (l.map en)),.v (.fn nm),.no],fs]) (et (C4 (Y5 (B _) rfl (by rw[jr,KC ∅]))))];rw[B2 (s1:=#[[.v (.lst (l.map en)),.v (.fn nm),.v (.int ((l.length / 2:Nat):Int))],fs]) (A7 (Y5 (B _) rfl (Cr _ #[])) (by
     rw[show ((l.length:Int).fdiv 2)=((l.length / 2:Nat):Int) by rw[Ol _ #[]];rfl];rfl))]
    rw[J5,fI hs];refine v8 ?_;have J:a0 (dV 1) b9 #[[.v (.lst (l.map en)),.v (.fn nm),.v (.int ((l.length / 2:Nat):Int))],fs]=some ([.fn nm],#[[.v (.lst (l.map en)),.v (.fn nm),.v (.int ((l.length / 2:Nat):Int))],fs]):=rfl;refine o6 (xs:=[.lst ((J5 lt (n+1) (l.take (l.length / 2))).map en),.lst ((J5 lt (n+1) (l.drop (l.length / 2))).map en),.fn nm]) (e6 ?_ (e6 ?_ J)) ?_
    .refine o6 (xs:=[.lst ((l.take (l.length / 2)).map en),.fn nm]) (e6 ?_ J) U;rw[MP,<-Aa];exact gb (ds:=l.map en) rfl (l:=none) rfl (h:=some ((l.length / 2:Nat):Int)) rfl
    .refine o6 (xs:=[.lst ((l.drop (l.length / 2)).map en),.fn nm]) (e6 ?_ J) M;rw[LI,<-jN];exact gb (ds:=l.map en) rfl (l:=some ((l.length / 2:Nat):Int)) rfl (h:=none) rfl
    .refine Aq hm hk _ _ fs (fun z h=>hl z (Nq (W2 _ h))) (fun z h=>hl z (Mo (W2 _ h))) ?_;rw[bQ,bQ,Ld,Kt];have:sizeLine=2 ^ 24:=rfl;omega
end
def HM {ds:List DL.D}{d:DL.D}(h:(Q8 ds)[i]? = some d):∃x,ds[i]? = some x/\d = .tup [.int (i:Int),x]:=by
 unfold Q8 at h;rw[KO,List.getElem?_zipIdx,Me] at h;cases e:ds[i]? with
 |none=>rw[e] at h;cases h
 |some x=>rw[e] at h;cases h;exact#[x,rfl,rfl]
def tE {β:Type}(g:Pt->β) (hi:i<C.length):v5 (C.map g) ((i:Int) - 1)=some (g (tk C (i+C.length - 1))):=by
 cases i with
 |zero=>
  refine nt ?_;rw[xo,KO,aI (show C.length - 1<C.length by omega),Me];rfl
 |succ i=>
  rw[show ((i+1:Nat):Int) - 1=(i:Int) by omega];refine cV ?_;rw[KO,aI (show i<C.length by omega),show i+1+C.length - 1=i+C.length by omega,<-K7 (i+C.length),Md,K7];rfl
def Jf {β:Type}(g:Pt->β) (hi:i<C.length):v5 (C.map g) (i:Int)=some (g (tk C i)):=cV (by rw[KO,aI hi];rfl)
def CW {t:D->DS->Option DS}{b:DM}{s:DS}{ds:List DL.D}(h:f s=some ([.lst ds],s1)):dt f t b s=u6 t b (Q8 ds) s1:=by
 unfold dt;rw[h];rfl
abbrev bA:a8:=vK ft U4
def w9 (a b:Pt) (c:Pt):DL.D:=.int (A1 (a9 a b c))
section
variable {a b:Pt}(ha:Ps 8 a) (hb:Ps 8 b) (hC:ShC C) (fs:vO_)
abbrev cK (a b:Pt) (C:vT_) (fs:vO_) (acc:vT_) (x4 x5:Sl):DS:=#[[.v (l8 a b),.v (d7 C),.v (.lst (C.map (w9 a b))),.own (acc.map pt),x4,x5],fs]
include ha hb hC
theorem Cs (hi:i<C.length) {acc:vT_}(hl:acc.length<1000):dW ft U4 (cK a b C fs acc (.v (.int (i:Int))) (.v (w9 a b (tk C i))))=some (.next,cK a b C fs (acc++(M8 a b C i).toList) (.v (.int (i:Int))) (.v (w9 a b (tk C i)))):=by
 have sz:(acc.map pt).length<sizeLine:=by rw[xo];exact Ks hl #[]
 have B:∀p:Pt,acc.map pt++[pt p]=(acc++[p]).map pt:=fun p=>by rw[Lh];rfl
 have ps:∀k,Ps 8 (tk C k):=fun k=>(hC.sz _ (C7 k (G3 hC))).1
 have J:d3 (d7 C) (.int (i:Int))=some (pt (tk C i)):=(Y2 _ _).trans (Jf pt hi);have i1:d3 (d7 C) (.int ((i:Int) - 1))=some (pt (tk C (i+C.length - 1))):=(Y2 _ _).trans (tE pt hi);have i2:d3 (.lst (C.map (w9 a b))) (.int ((i:Int) - 1))=some (w9 a b (tk C (i+C.length - 1))):=(aV _ _).trans (tE (w9 a b) hi);have Y:∀z:A1 (a9 a b (tk C i))≠0,A1 (a9 a b (tk C i))+A1 (a9 a b (tk C (i+C.length - 1)))=0->K4 (p8 a b) (p8 (tk C (i+C.length - 1)) (tk C i))≠0:=fun z y w=>by
  rw[fv] at w;have h:=(kc (fun q=>z (sgn0F.mpr q))).mp y;have e:a9 a b (tk C (i+C.length - 1))=a9 a b (tk C i):=by grind
  rw[e] at h;have:=aw (a9 a b (tk C i));grind
 have U:M8 a b C i=if A1 (a9 a b (tk C i))=0 then some (tk C i) else if A1 (a9 a b (tk C i))+A1 (a9 a b (tk C (i+C.length - 1)))=0 then some (K9 a b (tk C (i+C.length - 1)) (tk C i)) else none:=rfl
 have st:=fun k=>xY (k:=8) (a:=tk C (i+C.length - 1)) (b:=tk C i) fs (ps _) (ps _) k
 have W:=fun k w=>GQ (k:=8) (a:=a) (b:=b) (c:=tk C (i+C.length - 1)) (d:=tk C i) fs ha hb (ps _) (ps _) k w
 unfold cK w9 at *;generalize l8 a b=L at *;generalize l8 (tk C (i+C.length - 1)) (tk C i)=M at *;generalize d7 C=S at *;generalize C.map (fun c=>D.int (A1 (a9 a b c)))=Q at *;generalize K9 a b (tk C (i+C.length - 1)) (tk C i)=X at *;generalize tk C (i+C.length - 1)=u at *;generalize tk C i=v at *;generalize A1 (a9 a b v)=sv at *;generalize A1 (a9 a b u)=su at *;rw[U];by_cases z:sv=0
 .rw[gV z];unfold dW;rw[M6 (s1:=#[[.v L,.v S,.v (.lst Q),.own (acc.map pt),.v (.int (i:Int)),.v (.int sv)],fs]) (C4 (c7 rfl rfl (by rw[U0,Kp z])))];refine(V4 (i:=3) (ds0:=acc.map pt) (ds:=acc.map pt) (s1:=#[[.v L,.v S,.v (.lst Q),.own (acc.map pt),.v (.int (i:Int)),.v (.int sv)],fs]) rfl (c7 rfl rfl J) rfl sz).trans ?_;rw[B];rfl
 .rw[fI z];unfold dW;rw[J0 (s1:=#[[.v L,.v S,.v (.lst Q),.own (acc.map pt),.v (.int (i:Int)),.v (.int sv)],fs]) (C4 (c7 rfl rfl (by rw[U0,KC z])))];have t:dB (a7 B3 (a7 j4 (dL 5) (a7 d3 (dL 2) (a7 t7 (dL 4) (k0 1)))) (k0 0)) #[[.v L,.v S,.v (.lst Q),.own (acc.map pt),.v (.int (i:Int)),.v (.int sv)],fs]=some (decide (sv+su=0),#[[.v L,.v S,.v (.lst Q),.own (acc.map pt),.v (.int (i:Int)),.v (.int sv)],fs]):=
   C4 (c7 (c7 rfl (c7 rfl (c7 rfl rfl rfl) i2) rfl) rfl (U0 _ _))
  by_cases y:sv+su=0
  .rw[Kp y] at t;rw[M6 t,gV y];refine(V4 (i:=3) (ds0:=acc.map pt) (ds:=acc.map pt) (d:=pt X) (s1:=#[[.v L,.v S,.v (.lst Q),.own (acc.map pt),.v (.int (i:Int)),.v (.int sv)],fs]) rfl
    (o6 (e6 rfl (e6 (o6 (e6 (c7 rfl (c7 rfl rfl rfl) i1) (e6 (c7 rfl rfl J) rfl)) (st #[])) rfl)) (W #[] (Y z y))) rfl sz).trans ?_
   rw[B];rfl
  .rw[KC y] at t;rw[J0 t,fI y];show _=some (Fl.next,(#[[.v L,.v S,.v (.lst Q),.own ((acc++[]).map pt),.v (.int (i:Int)),.v (.int sv)],fs]:DS));rw[Ls];rfl
theorem Bk:bA [l8 a b,d7 C,.lst (C.map (w9 a b))] fs=some (.lst ((C0 a b C).map pt),fs):=by
 have B:∀n,((List.range n).filterMap (M8 a b C)).length<=n:=fun n=>Kf (Qi ..) (by rw[Nw];exact iU _)
 obtain⟨s',e,x4,J,hs⟩:=bP (t:=t6 2 (k6 (d5 4) (k6 (d5 5) u3))) (b:=dW ft U4) (fun i s=>∃x4 J,s=cK a b C fs ((List.range i).filterMap (M8 a b C)) x4 J) (Q8 (C.map (w9 a b))) 0 (cK a b C fs [] .no .no) #[_,_,rfl] (by
  rintro i d s W ⟨x4,J,rfl⟩;obtain⟨x,M,rfl⟩:=HM W;have hi:i<C.length:=by have:=(KH.mp M).1;rwa [xo] at this
  rw[KO,aI hi] at M;cases M;rw[Me];have t:=Cs ha hb hC fs hi (acc:=(List.range i).filterMap (M8 a b C)) (KU (B i) (by have:=hC.hi;omega));have e:(List.range i).filterMap (M8 a b C)++(M8 a b C i).toList=(List.range (i+1)).filterMap (M8 a b C):=by
   rw[List.range_succ,List.filterMap_append];cases h:M8 a b C i <;> simp[Mf,h]
  rw[e] at t;exact#[_,_,rfl,.inl t,.v (.int (i:Int)),.v (w9 a b (tk C i)),rfl])
 subst hs;have U:(Q8 (C.map (w9 a b))).length=C.length:=by unfold Q8;rw[xo,List.length_zipIdx,xo]
 rw[U,Me] at e;refine u4 (s:=#[[.v (l8 a b),.v (d7 C),.v (.lst (C.map (w9 a b))),.v (.lst ((C0 a b C).map pt)),x4,J],fs]) ?_;show lB ft U4 #[[.v (l8 a b),.v (d7 C),.v (.lst (C.map (w9 a b))),.no,.no,.no],fs]=_;unfold lB;refine j5 (s1:=cK a b C fs [] .no .no) (Q2 (i:=3) (s1:=#[[.v (l8 a b),.v (d7 C),.v (.lst (C.map (w9 a b))),.no,.no,.no],fs]) (ds:=[]) rfl (by show 3<6;decide)) ?_;refine j5 ((CW (ds:=C.map (w9 a b)) rfl).trans e) ?_;exact v8 rfl
end
abbrev X2:a8:=wG E3
def R9 (u c:Pt × Pt):Bool:=!f6 u.1 c.1 && !f6 c.2 u.2
theorem oG (hk:k<=2000) {u:Pt × Pt}(h1:Ps k u.1) (h2:Ps k u.2) (fs:vO_) (x1:Sl):∀(Cv:List (Pt × Pt)) (x2 x3:Sl),(∀c∈Cv,Ps k c.1/\Ps k c.2) ->
  ∃y2 y3,u6 (t6 2 (k6 (d5 2) (k6 (d5 3) u3))) (tL E3) (Cv.map c8) #[[.v (c8 u),x1,x2,x3],fs]=some (if Cv.any (R9 u) then .ret (.bl true) else .next,#[[.v (c8 u),x1,y2,y3],fs])
 |[],x2,x3,_=>#[x2,x3,rfl]
 |c::r,x2,x3,h=>by
  obtain⟨Y,M⟩:=h c (iR ..);have Z:=ay u.1 c.1 fs h1 Y hk;have W:=ay c.2 u.2 fs M h2 hk;have t:r0 (u9 (j8 (d4 E3 (a0 (Qn 0 0) (a0 (dV 2) b9))))) (u9 (j8 (d4 E3 (a0 (dV 3) (a0 (Qn 0 1) b9))))) #[[.v (c8 u),x1,.v (pt c.1),.v (pt c.2)],fs]=some (R9 u c,#[[.v (c8 u),x1,.v (pt c.1),.v (pt c.2)],fs]):=by
   have B:u9 (j8 (d4 E3 (a0 (Qn 0 0) (a0 (dV 2) b9)))) #[[.v (c8 u),x1,.v (pt c.1),.v (pt c.2)],fs]=some (!f6 u.1 c.1,#[[.v (c8 u),x1,.v (pt c.1),.v (pt c.2)],fs]):=fG (O9 (o6 (e6 (c7 rfl rfl rfl) (e6 rfl rfl)) Z));have J:u9 (j8 (d4 E3 (a0 (dV 3) (a0 (Qn 0 1) b9)))) #[[.v (c8 u),x1,.v (pt c.1),.v (pt c.2)],fs]=some (!f6 c.2 u.2,#[[.v (c8 u),x1,.v (pt c.1),.v (pt c.2)],fs]):=fG (O9 (o6 (e6 rfl (e6 (c7 rfl rfl rfl) rfl)) W));unfold R9;cases q:f6 u.1 c.1 with
   |true=>rw[q] at B;exact Z9 B
   |false=>rw[q] at B;exact Q1 B J
  rw[Ku,MT];cases q:R9 u c with
  |true=>
   rw[q] at t;exact#[_,_,mZ (s1:=#[[.v (c8 u),x1,.v (pt c.1),.v (pt c.2)],fs]) rfl ((M6 t).trans rfl)]
  |false=>
   rw[q] at t;obtain⟨y2,y3,e⟩:=oG hk h1 h2 fs x1 r (.v (pt c.1)) (.v (pt c.2)) (fun z U=>h z (td _ U));exact#[y2,y3,(M3 (s1:=#[[.v (c8 u),x1,.v (pt c.1),.v (pt c.2)],fs]) rfl ((J0 t).trans rfl)).trans (by rw[Bool.false_or];exact e)]
def EN (hk:k<=2000) {u:Pt × Pt}(h1:Ps k u.1) (h2:Ps k u.2) (fs:vO_) (h:∀c∈Cv,Ps k c.1/\Ps k c.2):X2 [c8 u,.lst (Cv.map c8)] fs=some (.bl (Cv.any (R9 u)),fs):=by
 obtain⟨J,B,e⟩:=oG hk h1 h2 fs (.v (.lst (Cv.map c8))) Cv .no .no h;refine u4 (s:=#[[.v (c8 u),.v (.lst (Cv.map c8)),J,B],fs]) ?_;show gM E3 #[[.v (c8 u),.v (.lst (Cv.map c8)),.no,.no],fs]=_;unfold gM;cases q:Cv.any (R9 u) with
 |true=>
  rw[q] at e;exact Z5 ((U3 (ds:=Cv.map c8) rfl).trans e)
 |false=>
  rw[q] at e;exact j5 ((U3 (ds:=Cv.map c8) rfl).trans e) rfl
def kP (p:Pt):List A6:=bp [pX p,pY p,pL p]
def rL (p:Pt):O8 (pt p)=some (kP p):=rfl
def fT {p q:Pt}(h:kP p=kP q):p=q:=by
 have e:=GA h;simp only[Oa] at e;exact iH e.1 e.2.1 e.2.2.1
theorem tu:∀L:List Pt,G5 O8 (L.map pt)=some (L.map kP)
 |[]=>rfl
 |p::r=>by
  show (O8 (pt p)).bind _=_;rw[rL,xr,tu r];rfl
def Cn (h:L.Nodup):(L.map kP).Nodup:=Po _ (fun a b n e=>n (fT e)) h
def N4 (L:vT_) (p:Pt):List Pt:=if p∈L then L else L++[p]
def qX (L:vT_) (p:Pt):J6 (L.map kP) (kP p) (L.map pt) (pt p)=(N4 L p).map pt:=by
 have m:kP p∈L.map kP↔p∈L:=by
  rw[Kw];exact#[fun ⟨q,B,e⟩=>fT e▸B,fun h=>#[p,h,rfl]]
 unfold J6 N4;by_cases c:p∈L
 .rw[gV c,gV (m.mpr c)]
 .rw[fI c,fI (fun z=>c (m.mp z)),Lh];rfl
def rR {p:Pt}(h:L.Nodup):(N4 L p).Nodup:=by
 unfold N4;by_cases c:p∈L
 .rw[gV c];exact h
 .rw[fI c];refine Nf.mpr #[h,by simp,fun x J y B=>?_];simp at B;subst B;exact fun e=>c (e▸J)
def vA (L:vT_) (p:Pt):(N4 L p).length<=L.length+1:=by
 unfold N4;split <;> simp
def Bb {p q:Pt}:q∈N4 L p↔q∈L\/q=p:=by
 unfold N4;by_cases c:p∈L
 .rw[gV c];exact#[.inl,fun h=>h.elim id fun e=>e▸c]
 .rw[fI c,KD,KI]
def O7 (lo hi p:Pt):Bool:=f6 lo p&&f6 p hi
def R4 (lo hi:Pt):List Pt->List Pt->List Pt
 |[],L=>L
 |p::r,L=>R4 lo hi r (if O7 lo hi p then N4 L p else L)
theorem iu (lo hi:Pt):∀(ms L:vT_),L.Nodup->(R4 lo hi ms L).Nodup
 |[],L,h=>h
 |p::r,L,h=>by
  unfold R4;by_cases c:O7 lo hi p=true
  .rw[gV c];exact iu lo hi r _ (rR h)
  .rw[fI c];exact iu lo hi r _ h
theorem jw (lo hi:Pt):∀(ms L:vT_),(R4 lo hi ms L).length<=L.length+ms.length
 |[],L=>iU _
 |p::r,L=>by
  unfold R4;have a:=vA L p;by_cases c:O7 lo hi p=true
  .rw[gV c];have:=jw lo hi r (N4 L p);simp only[Kh];omega
  .rw[fI c];have:=jw lo hi r L;simp only[Kh];omega
theorem mE (lo hi:Pt):∀(ms L:vT_) (q:Pt),q∈R4 lo hi ms L↔q∈L\/(q∈ms/\O7 lo hi q=true)
 |[],L,q=>#[.inl,fun h=>h.elim id fun h=>nomatch h.1]
 |p::r,L,q=>by
  unfold R4;rw[mE lo hi r];by_cases c:O7 lo hi p=true
  .rw[gV c,Bb];constructor
   .rintro((h | rfl) | h)
    .exact .inl h
    .exact .inr #[iR ..,c]
    .exact .inr #[td _ h.1,h.2]
   .rintro(h | ⟨h,w⟩)
    .exact .inl (.inl h)
    .rcases tx.mp h with rfl | h
     .exact .inl (.inr rfl)
     .exact .inr #[h,w]
  .rw[fI c];constructor
   .rintro(h | h)
    .exact .inl h
    .exact .inr #[td _ h.1,h.2]
   .rintro(h | ⟨h,w⟩)
    .exact .inl h
    .rcases tx.mp h with rfl | h
     .exact absurd w c
     .exact .inr #[h,w]
abbrev iW:a8:=uN E3
abbrev O6:a8:=fj (dh E3 iW) 64
abbrev sM:DM:=tP X2 U9 O6 Z8 E3 bA aC U4
abbrev jP:DM:=gN X2 U9 O6 Z8 E3 bA aC U4
abbrev Y6:a8:=qN X2 U9 O6 Z8 E3 bA aC U4
abbrev w8 (x0 x1 x2:Sl) (lo hi:Pt) (x4:Sl) (L:vT_) (Cv:List (Pt × Pt)) (x7 x8 x9 x10 x11 x12:Sl) (fs:vO_):DS:=#[[x0,x1,x2,.v (c8 (lo,hi)),x4,.dct (L.map pt),.own (Cv.map c8),x7,x8,x9,x10,x11,x12],fs]
section
variable {lo hi:Pt}(h1:Ps 70 lo) (h2:Ps 70 hi) (fs:vO_) (x0 x1 x2 x4 x7 x8 x9 x11 x12:Sl)
include h1 h2
theorem Dh {p:Pt}(hp:Ps 70 p) (U:L.Nodup) (hl:L.length<=1000):sM (w8 x0 x1 x2 lo hi x4 L Cv x7 x8 x9 (.v (pt p)) x11 x12 fs)=some (.next,w8 x0 x1 x2 lo hi x4 (if O7 lo hi p then N4 L p else L) Cv x7 x8 x9 (.v (pt p)) x11 x12 fs):=by
 have W:=ay lo p fs h1 hp #[];have J:=ay p hi fs hp h2 #[];have B:j8 (d4 E3 (a0 (Qn 3 0) (a0 (dV 10) b9))) (w8 x0 x1 x2 lo hi x4 L Cv x7 x8 x9 (.v (pt p)) x11 x12 fs)=some (f6 lo p,w8 x0 x1 x2 lo hi x4 L Cv x7 x8 x9 (.v (pt p)) x11 x12 fs):=O9 (o6 (e6 (c7 rfl rfl rfl) (e6 rfl rfl)) W);have M:j8 (d4 E3 (a0 (dV 10) (a0 (Qn 3 1) b9))) (w8 x0 x1 x2 lo hi x4 L Cv x7 x8 x9 (.v (pt p)) x11 x12 fs)=some (f6 p hi,w8 x0 x1 x2 lo hi x4 L Cv x7 x8 x9 (.v (pt p)) x11 x12 fs):=O9 (o6 (e6 rfl (e6 (c7 rfl rfl rfl) rfl)) J);have t:r0 (j8 (d4 E3 (a0 (Qn 3 0) (a0 (dV 10) b9)))) (j8 (d4 E3 (a0 (dV 10) (a0 (Qn 3 1) b9)))) (w8 x0 x1 x2 lo hi x4 L Cv x7 x8 x9 (.v (pt p)) x11 x12 fs)=some (O7 lo hi p,w8 x0 x1 x2 lo hi x4 L Cv x7 x8 x9 (.v (pt p)) x11 x12 fs):=by
  unfold O7;cases q:f6 lo p with
  |false=>rw[q] at B;exact Z9 B
  |true=>rw[q] at B;exact Q1 B M
 cases q:O7 lo hi p with
 |false=>
  rw[q] at t;rw[fI (by simp)];exact(J0 t).trans rfl
 |true=>
  rw[q] at t;rw[gV rfl];refine(M6 t).trans ?_;show (G5 O8 (L.map pt)).bind _=_;rw[tu,xr,rL,xr,gV #[Cn U,by rw[xo];exact Kf hl #[]],qX];rfl
theorem qd :∀(ms L:vT_) (x10:Sl),(∀p∈ms,Ps 70 p)->L.Nodup->L.length+ms.length<=1000->∃y10,u6 (d5 10) sM (ms.map pt) (w8 x0 x1 x2 lo hi x4 L Cv x7 x8 x9 x10 x11 x12 fs)=some (.next,w8 x0 x1 x2 lo hi x4 (R4 lo hi ms L) Cv x7 x8 x9 y10 x11 x12 fs)
 |[],L,x10,_,_,_=>#[x10,rfl]
 |p::r,L,x10,h,nd,hl=>by
  simp only[Kh] at hl;have e:=Dh h1 h2 fs x0 x1 x2 x4 x7 x8 x9 x11 x12 (Cv:=Cv) (h p (iR ..)) nd ∅;have B:(if O7 lo hi p then N4 L p else L).Nodup:=by
   split
   .exact rR nd
   .exact nd
  have M:(if O7 lo hi p then N4 L p else L).length<=L.length+1:=by
   split
   .exact vA L p
   .omega
  obtain⟨y10,f⟩:=qd r (if O7 lo hi p then N4 L p else L) (.v (pt p)) (fun z J=>h z (td _ J)) B ∅;exact#[y10,(M3 rfl e).trans f]
end
def Q6 (a b:Pt) (C:vT_):Bool:=C.any fun z=>decide (A1 (a9 a b z) = -1)
def J7 (a b:Pt) (C:vT_):List (Pt × Pt):=match C0 a b C with
 |[p,q]=>if Q6 a b C then [i7 p q] else []
 |_=>[]
def Fx (a b:Pt) (C:vT_):W7 (.int (-1)) (.lst (C.map (w9 a b)))=some (.bl (Q6 a b C)):=by
 have h1:v3 (.int (-1))=true:=rfl;have h2:v3 (.lst (C.map (w9 a b)))=true:=by
  have:=Ok.lst (OkL.all (k:=0) (n:=0) (ds:=C.map (w9 a b)) (fun d M=>by
   obtain⟨z,_,rfl⟩:=Kw.mp M;refine Ok.int ?_;show Bd 1920 (A1 (a9 a b z));unfold A1 Bd;split
   .exact Nat.one_lt_two_pow #[]
   .split
    .exact Nat.one_lt_two_pow #[]
    .exact Nat.two_pow_pos 1920))
  exact this.eq
 have J:T4 (.int (-1)) (C.map (w9 a b))=Q6 a b C:=by
  unfold Q6;clear h2;induction C with
  |nil=>rfl
  |cons c r B=>
   simp only[Ku,T4,D.pys,D.py,MT,w9] at B ⊢;rw[B];congr 1
 simp only[W7,aZ,h1,h2,Lw,KG,id,J]
theorem fy {a b:Pt}(ha:Ps 8 a) (hb:Ps 8 b) (hC:ShC C):∀p∈C0 a b C,Ps 70 p:=fun p hp=>by
 rcases(ae hC).mp hp with ⟨k,rfl,_⟩ | ⟨i,h,rfl⟩
 .exact hC.ps _ (C7 k (G3 hC))
 .refine(so (k:=8) ha hb (hC.sz _ (C7 i (G3 hC))).1 (hC.sz _ (C7 (i+1) (G3 hC))).1 ?_).ps;rw[fv];intro z;have e:a9 a b (tk C (i+1))=a9 a b (tk C i):=by grind
  rw[e] at h;have:=aw (a9 a b (tk C i));grind
def lM {a b:Pt}(ha:Ps k a) (hb:Ps k b):Ps k (i7 a b).1/\Ps k (i7 a b).2:=by
 unfold i7;split
 .exact#[ha,hb]
 .exact#[hb,ha]
def CJ {a b:Pt}(ha:Ps 8 a) (hb:Ps 8 b) (hC:ShC C):∀c∈J7 a b C,Ps 70 c.1/\Ps 70 c.2:=fun c B=>by
 have J:=fy ha hb hC;unfold J7 at B;split at B
 .next p q e=>
  rw[e] at J;split at B
  .rw[KI] at B;subst B;exact lM (J p (iR ..)) (J q (td _ (iR ..)))
  .cases B
 .cases B
def jQ {a b:Pt}:(C0 a b C).length<=C.length:=Kf (Qi ..) (by rw[Nw];exact iU _)
def Df {a b:Pt}:(J7 a b C).length<=1:=by
 unfold J7;split
 .split <;> simp
 .simp
section
variable {a b:Pt}(ha:Ps 8 a) (hb:Ps 8 b) (fs:vO_) (x0 x1 x2 x11 x12:Sl)
include ha hb
theorem Cp (hC:ShC C) (lo hi:Pt) (x8 x9 x10:Sl):C1 8 (E7 [4] (F6 (dV 7)) D5 (d4 aC (a0 (dV 1) (a0 (dV 0) b9)))) (w8 x0 x1 x2 lo hi (.v (l8 a b)) L Cv (.v (d7 C)) x8 x9 x10 x11 x12 fs)=some (.next,w8 x0 x1 x2 lo hi (.v (l8 a b)) L Cv (.v (d7 C)) (.own (C.map (w9 a b))) x9 x10 x11 x12 fs):=by
 have r:=ze (caps:=[.v (l8 a b)]) (fe:=d4 aC (a0 (dV 1) (a0 (dV 0) b9))) fs pt (w9 a b) C fun z B=>o6 (e6 rfl (e6 rfl rfl)) (Ca (k:=8) fs ha hb (hC.sz z B).1 #[])
 exact Q2 (i:=8) (s1:=w8 x0 x1 x2 lo hi (.v (l8 a b)) L Cv (.v (d7 C)) x8 x9 x10 x11 x12 fs) (ds:=C.map (w9 a b)) (cF (idx:=[4]) (s1:=w8 x0 x1 x2 lo hi (.v (l8 a b)) L Cv (.v (d7 C)) x8 x9 x10 x11 x12 fs) (ds:=C.map pt) rfl (by rw[xo];exact Kf hC.hi #[]) r) (by show 8<13;decide)
theorem yg (hC:ShC C) (lo hi:Pt) (x10:Sl) (hl:Cv.length<=1000) :
  l5 (r0 (dB (a7 B3 (j7 (one l7) (a0 (dL 9) b9)) (k0 2))) (dB (a7 W7 (t9 u5 (k0 1)) (dL 8)))) (J2 6 (d4 Z8 (a0 (Qn 9 0) (a0 (Qn 9 1) b9)))) n9 (w8 x0 x1 x2 lo hi (.v (l8 a b)) L Cv (.v (d7 C)) (.v (.lst (C.map (w9 a b)))) (.v (.lst ((C0 a b C).map pt))) x10 x11 x12 fs)
   = some (.next,w8 x0 x1 x2 lo hi (.v (l8 a b)) L (Cv++J7 a b C) (.v (d7 C)) (.v (.lst (C.map (w9 a b)))) (.v (.lst ((C0 a b C).map pt))) x10 x11 x12 fs):=by
 have mp:=fy ha hb hC;have iN:=Fx a b C;have Z:∀M:List Pt,M.length≠2->dB (a7 B3 (j7 (one l7) (a0 (dL 9) b9)) (k0 2)) (w8 x0 x1 x2 lo hi (.v (l8 a b)) L Cv (.v (d7 C)) (.v (.lst (C.map (w9 a b)))) (.v (.lst (M.map pt))) x10 x11 x12 fs)=some (false,w8 x0 x1 x2 lo hi (.v (l8 a b)) L Cv (.v (d7 C)) (.v (.lst (C.map (w9 a b)))) (.v (.lst (M.map pt))) x10 x11 x12 fs):=fun M h=>by
  refine C4 (c7 (af (xs:=[.lst (M.map pt)]) rfl rfl) rfl ?_);rw[U0,KC];rw[xo];omega
 have J:∀M:List Pt,M.length≠2->J7 a b C=[]->l5 (r0 (dB (a7 B3 (j7 (one l7) (a0 (dL 9) b9)) (k0 2))) (dB (a7 W7 (t9 u5 (k0 1)) (dL 8)))) (J2 6 (d4 Z8 (a0 (Qn 9 0) (a0 (Qn 9 1) b9)))) n9 (w8 x0 x1 x2 lo hi (.v (l8 a b)) L Cv (.v (d7 C)) (.v (.lst (C.map (w9 a b)))) (.v (.lst (M.map pt))) x10 x11 x12 fs)
   = some (.next,w8 x0 x1 x2 lo hi (.v (l8 a b)) L (Cv++J7 a b C) (.v (d7 C)) (.v (.lst (C.map (w9 a b)))) (.v (.lst (M.map pt))) x10 x11 x12 fs):=fun M h e=>by
  rw[J0 (Z9 (Z M h)),e,Ls];rfl
 have Y:∀p q,C0 a b C=[p,q]->J7 a b C=if Q6 a b C then [i7 p q] else []:=fun p q e=>by unfold J7;rw[e]
 have B:∀M,C0 a b C=M->M.length≠2->J7 a b C=[]:=fun M e h=>by
  unfold J7;rw[e];split
  .exact absurd rfl h
  .rfl
 generalize U:C0 a b C=M at *
 match M,U with
 |[],U=>exact J [] #[] (B _ rfl #[])
 |[p],U=>exact J [p] (by simp) (B _ rfl (by simp))
 |p::q::r::t,U=>exact J _ (by simp) (B _ rfl (by simp))
 |[p,q],U=>
  have sp:=tK (k:=70) (a:=p) (b:=q) fs (mp p (iR ..)) (mp q (td _ (iR ..))) #[];have t1:dB (a7 B3 (j7 (one l7) (a0 (dL 9) b9)) (k0 2)) (w8 x0 x1 x2 lo hi (.v (l8 a b)) L Cv (.v (d7 C)) (.v (.lst (C.map (w9 a b)))) (.v (.lst ([p,q].map pt))) x10 x11 x12 fs)=some (true,w8 x0 x1 x2 lo hi (.v (l8 a b)) L Cv (.v (d7 C)) (.v (.lst (C.map (w9 a b)))) (.v (.lst ([p,q].map pt))) x10 x11 x12 fs):=
   C4 (c7 (af (xs:=[.lst ([p,q].map pt)]) rfl rfl) rfl rfl)
  have W:dB (a7 W7 (t9 u5 (k0 1)) (dL 8)) (w8 x0 x1 x2 lo hi (.v (l8 a b)) L Cv (.v (d7 C)) (.v (.lst (C.map (w9 a b)))) (.v (.lst ([p,q].map pt))) x10 x11 x12 fs)=some (Q6 a b C,w8 x0 x1 x2 lo hi (.v (l8 a b)) L Cv (.v (d7 C)) (.v (.lst (C.map (w9 a b)))) (.v (.lst ([p,q].map pt))) x10 x11 x12 fs):=
   C4 (c7 (x:=.int (-1)) rfl rfl iN)
  rw[Y p q rfl];cases q0:Q6 a b C with
  |false=>
   rw[q0] at W;rw[J0 (Q1 t1 W),fI (by simp),Ls];rfl
  |true=>
   rw[q0] at W;rw[M6 (Q1 t1 W),gV rfl];refine(V4 (i:=6) (ds0:=Cv.map c8) (ds:=Cv.map c8) (d:=c8 (i7 p q)) (s1:=w8 x0 x1 x2 lo hi (.v (l8 a b)) L Cv (.v (d7 C)) (.v (.lst (C.map (w9 a b)))) (.v (.lst ([p,q].map pt))) x10 x11 x12 fs) rfl (o6 (xs:=[pt p,pt q]) (e6 (c7 rfl rfl rfl) (e6 (c7 rfl rfl rfl) rfl)) sp) rfl (by rw[xo];exact KU hl #[])).trans ?_;rw[show Cv.map c8++[c8 (i7 p q)]=(Cv++[i7 p q]).map c8 by rw[Lh];rfl];rfl
theorem Bt (hC:ShC C) (x8 x9 x10:Sl) (U:L.Nodup) (hl:L.length<=900) (hc:Cv.length<=900) :
  ∃y8 y9 y10,jP (w8 x0 x1 x2 (i7 a b).1 (i7 a b).2 (.v (l8 a b)) L Cv (.v (d7 C)) x8 x9 x10 x11 x12 fs)=some (.next,w8 x0 x1 x2 (i7 a b).1 (i7 a b).2 (.v (l8 a b)) (R4 (i7 a b).1 (i7 a b).2 (C0 a b C) L) (Cv++J7 a b C) (.v (d7 C)) y8 y9 y10 x11 x12 fs):=by
 have J:=fy ha hb hC;have s2:=lM (ha.mono (show 8<=70 by decide)) (hb.mono (show 8<=70 by decide));have ml:=jQ (a:=a) (b:=b) (C:=C);have Z:=hC.hi;have W:=Cp ha hb fs x0 x1 x2 x11 x12 hC (L:=L) (Cv:=Cv) (i7 a b).1 (i7 a b).2 x8 x9 x10;have M:f7 (d4 bA (a0 (dV 4) (a0 (dV 7) (a0 (dV 8) b9)))) (d5 9) (w8 x0 x1 x2 (i7 a b).1 (i7 a b).2 (.v (l8 a b)) L Cv (.v (d7 C)) (.own (C.map (w9 a b))) x9 x10 x11 x12 fs)=some (.next,w8 x0 x1 x2 (i7 a b).1 (i7 a b).2 (.v (l8 a b)) L Cv (.v (d7 C)) (.v (.lst (C.map (w9 a b)))) (.v (.lst ((C0 a b C).map pt))) x10 x11 x12 fs):=
  A7 (d:=.lst ((C0 a b C).map pt)) (cc (xs:=[l8 a b,d7 C,.lst (C.map (w9 a b))]) rfl (Bk ha hb hC fs)) rfl
 obtain⟨y10,B⟩:=qd s2.1 s2.2 fs x0 x1 x2 (.v (l8 a b)) (.v (d7 C)) (.v (.lst (C.map (w9 a b)))) (.v (.lst ((C0 a b C).map pt))) x11 x12 (Cv:=Cv) (C0 a b C) L x10 J U ∅;have Y:=yg ha hb fs x0 x1 x2 x11 x12 hC (L:=R4 (i7 a b).1 (i7 a b).2 (C0 a b C) L) (Cv:=Cv) (i7 a b).1 (i7 a b).2 y10 ∅;refine#[.v (.lst (C.map (w9 a b))),.v (.lst ((C0 a b C).map pt)),y10,?_];show gN X2 U9 O6 Z8 E3 bA aC U4 _=_;unfold gN;exact j5 W (j5 M (j5 ((U3 (ds:=(C0 a b C).map pt) rfl).trans B) Y))
def F2 (a b:Pt):List (List Pt)->List Pt->List Pt
 |[],L=>L
 |C::r,L=>F2 a b r (R4 (i7 a b).1 (i7 a b).2 (C0 a b C) L)
def F8 (a b:Pt) (Ss:List (List Pt)):List (Pt × Pt):=Ss.flatMap (J7 a b)
theorem uO:∀(Ss:List (List Pt)) (L:vT_) (Cv:List (Pt × Pt)) (x7 x8 x9 x10:Sl),(∀C∈Ss,ShC C)->L.Nodup->L.length+6*Ss.length<=900->Cv.length+Ss.length<=900 ->
  ∃y7 y8 y9 y10,u6 (d5 7) jP (Ss.map d7) (w8 x0 x1 x2 (i7 a b).1 (i7 a b).2 (.v (l8 a b)) L Cv x7 x8 x9 x10 x11 x12 fs)=some (.next,w8 x0 x1 x2 (i7 a b).1 (i7 a b).2 (.v (l8 a b)) (F2 a b Ss L) (Cv++F8 a b Ss) y7 y8 y9 y10 x11 x12 fs)
 |[],L,Cv,x7,x8,x9,x10,_,_,_,_=>#[x7,x8,x9,x10,by unfold F2 F8;rw[Pp,Ls];rfl]
 |C::r,L,Cv,x7,x8,x9,x10,hS,nd,hl,hc=>by
  simp only[Kh] at hl hc;have hC:=hS C (iR ..);obtain⟨y8,y9,y10,e⟩:=Bt ha hb fs x0 x1 x2 x11 x12 hC x8 x9 x10 (L:=L) (Cv:=Cv) nd ∅ ∅;have Y:=jQ (a:=a) (b:=b) (C:=C);have sl:=jw (i7 a b).1 (i7 a b).2 (C0 a b C) L;have Z:=hC.hi;have cl:=Df (a:=a) (b:=b) (C:=C);obtain⟨W,M,U,B,f⟩:=uO r (R4 (i7 a b).1 (i7 a b).2 (C0 a b C) L) (Cv++J7 a b C) (.v (d7 C)) y8 y9 y10 (fun z J=>hS z (td _ J)) (iu _ _ _ _ nd) ∅ (by rw[Km];omega);refine#[W,M,U,B,(M3 rfl e).trans (f.trans ?_)];rw[show F8 a b (C::r)=J7 a b C++F8 a b r by unfold F8;rw[LJ],<-Mv];rfl
end
theorem eC {α:Type}{caps:List Sl}(fs:vO_) (A:α->DL.D) (g:α->Bool):∀l:List α,(∀z∈l,fc #[.v (A z)::caps,fs]=some (g z,#[.v (A z)::caps,fs]))->B9 (fun d=>some (.v d::caps)) fc (dV 0) (l.map A) fs=some ((l.filter g).map A,fs)
 |[],_=>rfl
 |z::r,h=>by
  have e:=h z (iR ..);have B:=eC fs A g r fun x J=>h x (td _ J)
  rw[Ku,B9,xr,e,xr];cases q:g z with
  |true=>
   rw[gV rfl,show dV 0 #[.v (A z)::caps,fs]=some (A z,#[.v (A z)::caps,fs]) from rfl,xr,B,Qj q];rfl
  |false=>
   rw[fI (by simp),B,Qk (by rw[q];simp)]
def JY (l:vT_):(d9 false (l.map pt)).map S8=(d9 false l).map c8:=by
 unfold d9;rw[fI (by simp),fI (by simp),<-LI,Pl,ML];rfl
def G4 (a b:Pt) (Ss:List (List Pt)):List Pt:=J5 f6 64 (F2 a b Ss [a,b])
def P2 (a b:Pt) (Ss:List (List Pt)):List (Pt × Pt):=(d9 false (G4 a b Ss)).filter fun u=>!(F8 a b Ss).any (R9 u)
def gf (u:Pt × Pt):Pt × Pt:=(u.2,u.1)
def M1 (a b:Pt) (Ss:List (List Pt)):List (Pt × Pt):=if f6 a b then P2 a b Ss else (P2 a b Ss).map gf
def JR (hk:k<=2000) {l:vT_}(fs:vO_) (h:∀z∈l,Ps k z) (hl:l.length<=1000):O6 [.lst (l.map pt),.fn "is_lesser"] fs=some (.lst ((J5 f6 64 l).map pt),fs):=
 ja (en:=pt) (lt:=f6) (P:=Ps k) (m:=E3) (fun s t e=>BU e) (fun x y fs J B=>ay y x fs B J hk) 63 l fs h (Kf hl #[]) (KU hl #[])
theorem mG {a b:Pt}(ha:Ps 8 a) (hb:Ps 8 b):∀(Ss:List (List Pt)) (L:vT_),(∀C∈Ss,ShC C)->(∀p∈L,Ps 70 p)->∀p∈F2 a b Ss L,Ps 70 p
 |[],L,_,h=>h
 |C::r,L,hS,h=>mG ha hb r _ (fun z B=>hS z (td _ B)) fun p hp=>by
  rcases(mE _ _ _ _ _).mp hp with q | q
  .exact h p q
  .exact fy ha hb (hS C (iR ..)) p q.1
theorem wj {a b:Pt}:∀(Ss:List (List Pt)) (L:vT_),L.Nodup->(F2 a b Ss L).Nodup
 |[],L,h=>h
 |C::r,L,h=>wj r _ (iu _ _ _ _ h)
theorem hJ {a b:Pt}:∀(Ss:List (List Pt)) (L:vT_),(∀C∈Ss,ShC C)->(F2 a b Ss L).length<=L.length+6*Ss.length
 |[],L,_=>iU _
 |C::r,L,hS=>by
  have U:=hJ (a:=a) (b:=b) r (R4 (i7 a b).1 (i7 a b).2 (C0 a b C) L) fun z B=>hS z (td _ B)
  have M:=jw (i7 a b).1 (i7 a b).2 (C0 a b C) L;have J:=jQ (a:=a) (b:=b) (C:=C);have W:=(hS C (iR ..)).hi;simp only[Kh];unfold F2;omega
def Jy {a b:Pt}(ha:Ps 8 a) (hb:Ps 8 b) (hS:∀C∈Ss,ShC C):∀c∈F8 a b Ss,Ps 70 c.1/\Ps 70 c.2:=fun c B=>by
 obtain⟨C,hC,h⟩:=Lz.mp B;exact CJ ha hb (hS C hC) c h
def xR {a b:Pt}(hS:∀C∈Ss,ShC C):(G4 a b Ss).length<=2+6*Ss.length:=by
 unfold G4;rw[bQ];exact hJ Ss [a,b] hS
def jF {a b:Pt}(ha:Ps 8 a) (hb:Ps 8 b) (hS:∀C∈Ss,ShC C):∀u∈d9 false (G4 a b Ss),Ps 70 u.1/\Ps 70 u.2:=fun u J=>by
 have h:∀p∈G4 a b Ss,Ps 70 p:=fun p hp=>mG ha hb Ss [a,b] hS (fun z B=>by
  rcases tx.mp B with rfl | B
  .exact ha.mono #[]
  .rw[KI] at B;subst B;exact hb.mono #[]) p (W2 _ hp)
 unfold d9 at J;rw[fI (by simp)] at J;exact#[h _ (LL J).1,h _ (Mo (LL J).2)]
def FV {κ:Type}[DecidableEq κ] {dec:DL.D->Option κ}{s:DS}{a b:Nat}{d d':DL.D}{k k':κ}(h1:s.sl[a]? = some (.v d)) (h2:s.sl[b]? = some (.v d')) (q1:dec d=some k) (q2:dec d'=some k') (hl:i<s.sl.length):bC dec i a b s=some (.next,{ s with sl:=s.sl.set i (.dct (J6 [k] k' [d] d')) }):=by
 unfold bC;rw[h1,h2];simp only[q1,q2,xr,gV hl]
theorem vT (fs:vO_):∀l:List (Pt × Pt),B9 (X8 [] []) D5 (f9 (a0 (dV 1) (a0 (dV 0) b9))) (l.map c8) fs=some ((l.map gf).map c8,fs)
 |[]=>rfl
 |u::r=>by
  rw[Ku,B9,show X8 [] [] (c8 u)=some [.v (pt u.1),.v (pt u.2)] from rfl,xr,show D5 #[[.v (pt u.1),.v (pt u.2)],fs]=some (true,#[[.v (pt u.1),.v (pt u.2)],fs]) from rfl,xr,gV rfl,show f9 (a0 (dV 1) (a0 (dV 0) b9)) #[[.v (pt u.1),.v (pt u.2)],fs]=some (c8 (gf u),#[[.v (pt u.1),.v (pt u.2)],fs]) from bT (e6 rfl (e6 rfl rfl)) (by show 2<=sizeLine;decide),xr,vT fs r];rfl
section
variable {a b:Pt}(ha:Ps 8 a) (hb:Ps 8 b) (hab:a≠b) (hS:∀C∈Ss,ShC C) (hl:Ss.length<=10) (fs:vO_)
def GR:Y6 [pt a,pt b,.tup (Ss.map d7)] fs=some (.lst ((M1 a b Ss).map c8),fs):=by
 have sp:=tK (k:=8) (a:=a) (b:=b) fs ha hb #[];have st:=xY (k:=8) (a:=a) (b:=b) fs ha hb #[];obtain⟨J,U,M,B,lp⟩:=uO ha hb fs (.v (pt a)) (.v (pt b)) (.v (.tup (Ss.map d7))) .no .no Ss [a,b] [] .no .no .no .no hS (by simp[hab]) (by simp only[Kh,Lg];omega) (by simp only[Lg];omega);rw[NG] at lp;have pl:=mG ha hb Ss [a,b] hS (fun z Y=>by
  rcases tx.mp Y with rfl | Y
  .exact ha.mono #[]
  .rw[KI] at Y;subst Y;exact hb.mono #[])
 have ll:=hJ (a:=a) (b:=b) Ss [a,b] hS;simp only[Kh,Lg] at ll;have io:=JR #[] fs pl ∅;have rl:=xR (a:=a) (b:=b) hS;have ne:=Ff ((G4 a b Ss).map pt) false fs (by rw[xo];exact Kf (show (G4 a b Ss).length+1<=100 by omega) #[]);rw[JY] at ne;have s5:(F2 a b Ss [a,b]).length<=1000:=by omega
 have pp:=jF ha hb hS;have cp:=Jy ha hb hS;have nl:(d9 false (G4 a b Ss)).length<=100:=by
  unfold d9;rw[fI (by simp),Mc];omega
 have hB:P2 a b Ss=(d9 false (G4 a b Ss)).filter fun u=>!(F8 a b Ss).any (R9 u):=rfl
 have hE:M1 a b Ss=if f6 a b then P2 a b Ss else (P2 a b Ss).map gf:=rfl
 have W:=qS (a:=(i7 a b).1) (b:=a) (lM ha hb).1 ha;have e0:decide ((i7 a b).1=a)=f6 a b:=by
  unfold i7;cases q:f6 a b with
  |true=>simp
  |false=>simp[Ki hab]
 rw[e0] at W;have ad:J6 [kP a] (kP b) [pt a] (pt b)=[a,b].map pt:=by
  have:=qX [a] b;rw[show N4 [a] b=[a,b] by unfold N4;rw[fI (by simp[Ki hab])];rfl] at this;exact this
 have c1:∀(x:Sl) y11,iB [6] (E7 [6] (F6 (dV 11)) (u9 (j8 (d4 X2 (a0 (dV 0) (a0 (dV 1) b9))))) (dV 0)) #[[.v (pt a),.v (pt b),.v (.tup (Ss.map d7)),.v (c8 (i7 a b)),.v (l8 a b),x,.own ((F8 a b Ss).map c8),J,U,M,B,y11,.no],fs]=E7 [6] (F6 (dV 11)) (u9 (j8 (d4 X2 (a0 (dV 0) (a0 (dV 1) b9))))) (dV 0) #[[.v (pt a),.v (pt b),.v (.tup (Ss.map d7)),.v (c8 (i7 a b)),.v (l8 a b),x,.v (.lst ((F8 a b Ss).map c8)),J,U,M,B,y11,.no],fs]:=fun _ _=>rfl
 have fr:=eC (caps:=[.v (.lst ((F8 a b Ss).map c8))]) (fc:=u9 (j8 (d4 X2 (a0 (dV 0) (a0 (dV 1) b9))))) fs c8 (fun u=>!(F8 a b Ss).any (R9 u)) (d9 false (G4 a b Ss)) fun u hu=>fG (O9 (o6 (e6 rfl (e6 rfl rfl)) (EN #[] (pp u hu).1 (pp u hu).2 fs cp)))
 rw[<-hB] at fr;have bl:(P2 a b Ss).length<=100:=Kf (by rw[hB];exact Ny ..) nl;have sw:=vT fs (P2 a b Ss);generalize hq:DL.D.tup (Ss.map d7)=Q at *;have Z:∃s,lq X2 U9 O6 Z8 E3 bA aC U4 #[[.v (pt a),.v (pt b),.v Q,.no,.no,.no,.no,.no,.no,.no,.no,.no,.no],fs]=some (.ret (.lst ((M1 a b Ss).map c8)),s)/\s.fs=fs:=by
  unfold lq;have g1:f7 (d4 Z8 (a0 (dV 0) (a0 (dV 1) b9))) (d5 3) #[[.v (pt a),.v (pt b),.v Q,.no,.no,.no,.no,.no,.no,.no,.no,.no,.no],fs]=some (.next,#[[.v (pt a),.v (pt b),.v Q,.v (c8 (i7 a b)),.no,.no,.no,.no,.no,.no,.no,.no,.no],fs]):=A7 (o6 (e6 rfl (e6 rfl rfl)) sp) rfl;have g2:f7 (d4 U4 (a0 (dV 0) (a0 (dV 1) b9))) (d5 4) #[[.v (pt a),.v (pt b),.v Q,.v (c8 (i7 a b)),.no,.no,.no,.no,.no,.no,.no,.no,.no],fs]=some (.next,#[[.v (pt a),.v (pt b),.v Q,.v (c8 (i7 a b)),.v (l8 a b),.no,.no,.no,.no,.no,.no,.no,.no],fs]):=A7 (o6 (e6 rfl (e6 rfl rfl)) st) rfl;have g3:bC O8 5 0 1 #[[.v (pt a),.v (pt b),.v Q,.v (c8 (i7 a b)),.v (l8 a b),.no,.no,.no,.no,.no,.no,.no,.no],fs]=some (.next,#[[.v (pt a),.v (pt b),.v Q,.v (c8 (i7 a b)),.v (l8 a b),.dct ([a,b].map pt),.no,.no,.no,.no,.no,.no,.no],fs]):=by
   refine(FV (d:=pt a) (d':=pt b) (k:=kP a) (k':=kP b) rfl rfl rfl rfl (by show 5<13;decide)).trans ?_;rw[ad];rfl
  have g4:C1 6 (r8 b9) #[[.v (pt a),.v (pt b),.v Q,.v (c8 (i7 a b)),.v (l8 a b),.dct ([a,b].map pt),.no,.no,.no,.no,.no,.no,.no],fs]=some (.next,w8 (.v (pt a)) (.v (pt b)) (.v Q) (i7 a b).1 (i7 a b).2 (.v (l8 a b)) [a,b] [] .no .no .no .no .no .no fs):=Q2 (i:=6) (s1:=#[[.v (pt a),.v (pt b),.v Q,.v (c8 (i7 a b)),.v (l8 a b),.dct ([a,b].map pt),.no,.no,.no,.no,.no,.no,.no],fs]) (ds:=[]) rfl (by show 6<13;decide);have g5:J4 (dV 2) (d5 7) jP (w8 (.v (pt a)) (.v (pt b)) (.v Q) (i7 a b).1 (i7 a b).2 (.v (l8 a b)) [a,b] [] .no .no .no .no .no .no fs)=some (.next,w8 (.v (pt a)) (.v (pt b)) (.v Q) (i7 a b).1 (i7 a b).2 (.v (l8 a b)) (F2 a b Ss [a,b]) (F8 a b Ss) J U M B .no .no fs):=by
   subst hq;exact(eU (ds:=Ss.map d7) rfl).trans lp
  have g6:f7 (d4 U9 (a0 (d4 O6 (a0 (o7 (aL 5)) (a0 (dC (.fn "is_lesser")) b9))) (a0 (dC (.bl false)) b9))) (d5 11) (w8 (.v (pt a)) (.v (pt b)) (.v Q) (i7 a b).1 (i7 a b).2 (.v (l8 a b)) (F2 a b Ss [a,b]) (F8 a b Ss) J U M B .no .no fs)=some (.next,w8 (.v (pt a)) (.v (pt b)) (.v Q) (i7 a b).1 (i7 a b).2 (.v (l8 a b)) (F2 a b Ss [a,b]) (F8 a b Ss) J U M B (.v (.lst ((d9 false (G4 a b Ss)).map c8))) .no fs):=by
   have ld:aL 5 (w8 (.v (pt a)) (.v (pt b)) (.v Q) (i7 a b).1 (i7 a b).2 (.v (l8 a b)) (F2 a b Ss [a,b]) (F8 a b Ss) J U M B .no .no fs)=some ((F2 a b Ss [a,b]).map pt,w8 (.v (pt a)) (.v (pt b)) (.v Q) (i7 a b).1 (i7 a b).2 (.v (l8 a b)) (F2 a b Ss [a,b]) (F8 a b Ss) J U M B .no .no fs):=gV (by rw[xo];exact Kf s5 #[]);exact A7 (o6 (e6 (o6 (e6 (du ld) (e6 rfl rfl)) io) (e6 rfl rfl)) ne) rfl
  have g7:C1 12 (iB [6] (E7 [6] (F6 (dV 11)) (u9 (j8 (d4 X2 (a0 (dV 0) (a0 (dV 1) b9))))) (dV 0))) (w8 (.v (pt a)) (.v (pt b)) (.v Q) (i7 a b).1 (i7 a b).2 (.v (l8 a b)) (F2 a b Ss [a,b]) (F8 a b Ss) J U M B (.v (.lst ((d9 false (G4 a b Ss)).map c8))) .no fs)=some (.next,#[[.v (pt a),.v (pt b),.v Q,.v (c8 (i7 a b)),.v (l8 a b),.dct ((F2 a b Ss [a,b]).map pt),.v (.lst ((F8 a b Ss).map c8)),J,U,M,B,.v (.lst ((d9 false (G4 a b Ss)).map c8)),.own ((P2 a b Ss).map c8)],fs]):=
   Q2 (i:=12) (ds:=(P2 a b Ss).map c8) (s1:=#[[.v (pt a),.v (pt b),.v Q,.v (c8 (i7 a b)),.v (l8 a b),.dct ((F2 a b Ss [a,b]).map pt),.v (.lst ((F8 a b Ss).map c8)),J,U,M,B,.v (.lst ((d9 false (G4 a b Ss)).map c8)),.no],fs]) (cF (idx:=[6]) (s1:=#[[.v (pt a),.v (pt b),.v Q,.v (c8 (i7 a b)),.v (l8 a b),.dct ((F2 a b Ss [a,b]).map pt),.v (.lst ((F8 a b Ss).map c8)),J,U,M,B,.v (.lst ((d9 false (G4 a b Ss)).map c8)),.no],fs]) (ds:=(d9 false (G4 a b Ss)).map c8) rfl (by rw[xo];exact Kf nl #[]) fr) (by show 12<13;decide)
  have t:∀x5 x6 x11 x12:Sl,dB (a7 B3 (Qn 3 0) (dL 0)) #[[.v (pt a),.v (pt b),.v Q,.v (c8 (i7 a b)),.v (l8 a b),x5,x6,J,U,M,B,x11,x12],fs]=some (f6 a b,#[[.v (pt a),.v (pt b),.v Q,.v (c8 (i7 a b)),.v (l8 a b),x5,x6,J,U,M,B,x11,x12],fs]):=fun _ _ _ _=>C4 (c7 (x:=pt (i7 a b).1) (c7 rfl rfl rfl) rfl W)
  rw[hE];have bz:((P2 a b Ss).map c8).length<=sizeLine:=by rw[xo];exact Kf bl #[]
  cases q:f6 a b with
  |true=>
   rw[q] at t;exact#[_,j5 g1 (j5 g2 (j5 g3 (j5 g4 (j5 g5 (j5 g6 (j5 g7 (Z5 ((M6 (t _ _ _ _)).trans (v8 rfl))))))))),rfl]
  |false=>
   rw[q] at t;exact#[_,j5 g1 (j5 g2 (j5 g3 (j5 g4 (j5 g5 (j5 g6 (j5 g7 (j5 ((J0 (t _ _ _ _)).trans rfl) (v8 (du (mB (idx:=[]) (ds:=(P2 a b Ss).map c8) rfl bz sw)))))))))),rfl]
 obtain⟨s,e,ef⟩:=Z;exact(u4 e).trans (by rw[ef])
end
def A9 (u v:Pt × Pt):Bool:=if u.1=v.1 then (if u.2=v.2 then false else f6 u.2 v.2) else f6 u.1 v.1
def mf:Ord A9 where
 irr:=fun a=>by unfold A9;rw[gV rfl,gV rfl]
 tr:=fun a b c h1 h2=>by
  have O:=lsB_ord;have U:∀{x y:Pt},f6 x y=true->x≠y:=fun h e=>by rw[e,O.irr] at h;cases h
  unfold A9 at *;by_cases B:a.1=b.1
  .rw[gV B] at h1;by_cases J:b.1=c.1
   .rw[gV J] at h2;rw[gV (B.trans J)];by_cases f1:a.2=b.2
    .rw[gV f1] at h1;cases h1
    .rw[fI f1] at h1;by_cases M:b.2=c.2
     .rw[gV M] at h2;cases h2
     .rw[fI M] at h2;have:=O.tr _ _ _ h1 h2;rw[fI (U this)];exact this
   .rw[fI J] at h2;rw[fI (by rw[B];exact J),B];exact h2
  .rw[fI B] at h1;by_cases J:b.1=c.1
   .rw[<-J,fI B];exact h1
   .rw[fI J] at h2;have:=O.tr _ _ _ h1 h2;rw[fI (U this)];exact this
 tot:=fun a b h n=>by
  have O:=lsB_ord;unfold A9 at *;by_cases B:a.1=b.1
  .rw[gV B] at h;rw[gV B.symm];have f:a.2≠b.2:=fun f=>n (KA B f)
   rw[fI f] at h;rw[fI (Ki f)];exact O.tot _ _ h f
  .rw[fI B] at h;rw[fI (Ki B)];exact O.tot _ _ h B
def Im (hk:k<=1920) {u v:Pt × Pt}(h1:Ps k u.1) (h2:Ps k u.2) (Y:Ps k v.1) (h4:Ps k v.2) (fs:vO_):iW [c8 u,c8 v] fs=some (.bl (A9 u v),fs):=by
 have l1:=ay u.1 v.1 fs h1 Y ∅;have l2:=ay u.2 v.2 fs h2 h4 ∅;have B:=xx h1 Y hk hk;have J:=xx h2 h4 hk hk;have t:∀(x y:Pt) (b:Bool),F9 (pt x) (pt y)=some (.bl b)->dB (a7 F9 (dL 2) (dL 3)) #[[.v (c8 u),.v (c8 v),.v (pt x),.v (pt y)],fs]=some (b,#[[.v (c8 u),.v (c8 v),.v (pt x),.v (pt y)],fs]):=fun x y b h=>C4 (c7 rfl rfl h)
 have z:∀s,bj (a0 (dV 0) (a0 (dV 1) b9)) (t6 2 (k6 (d5 2) (k6 (d5 3) u3))) s (#[[.v (c8 u),.v (c8 v),.no,.no],fs]:DS)=u6 (t6 2 (k6 (d5 2) (k6 (d5 3) u3))) s [.tup [pt u.1,pt v.1],.tup [pt u.2,pt v.2]] #[[.v (c8 u),.v (c8 v),.no,.no],fs]:=fun _=>rfl
 have W:∃s,lU E3 #[[.v (c8 u),.v (c8 v),.no,.no],fs]=some (.ret (.bl (A9 u v)),s)/\s.fs=fs:=by
  unfold lU A9;by_cases U:u.1=v.1
  .rw[gV U];rw[show (!decide (u.1=v.1))=false by simp[U]] at B;by_cases M:u.2=v.2
   .rw[gV M];rw[show (!decide (u.2=v.2))=false by simp[M]] at J;exact#[#[[.v (c8 u),.v (c8 v),.v (pt u.2),.v (pt v.2)],fs],j5 ((z _).trans ((M3 (s1:=#[[.v (c8 u),.v (c8 v),.v (pt u.1),.v (pt v.1)],fs]) rfl ((J0 (t _ _ _ B)).trans rfl)).trans ((M3 (s1:=#[[.v (c8 u),.v (c8 v),.v (pt u.2),.v (pt v.2)],fs]) rfl ((J0 (t _ _ _ J)).trans rfl)).trans rfl))) (v8 (c7 (x:=.int 2) (y:=.int 2) rfl rfl rfl)),rfl]
   .rw[fI M];rw[show (!decide (u.2=v.2))=true by simp[M]] at J;exact#[#[[.v (c8 u),.v (c8 v),.v (pt u.2),.v (pt v.2)],fs],Z5 ((z _).trans ((M3 (s1:=#[[.v (c8 u),.v (c8 v),.v (pt u.1),.v (pt v.1)],fs]) rfl ((J0 (t _ _ _ B)).trans rfl)).trans (mZ (s1:=#[[.v (c8 u),.v (c8 v),.v (pt u.2),.v (pt v.2)],fs]) rfl ((M6 (t _ _ _ J)).trans (v8 (o6 (e6 rfl (e6 rfl rfl)) l2)))))),rfl]
  .rw[fI U];rw[show (!decide (u.1=v.1))=true by simp[U]] at B;exact#[#[[.v (c8 u),.v (c8 v),.v (pt u.1),.v (pt v.1)],fs],Z5 ((z _).trans (mZ (s1:=#[[.v (c8 u),.v (c8 v),.v (pt u.1),.v (pt v.1)],fs]) rfl ((M6 (t _ _ _ B)).trans (v8 (o6 (e6 rfl (e6 rfl rfl)) l1))))),rfl]
 obtain⟨s,e,Z⟩:=W;exact(u4 e).trans (by rw[Z])
def kQ (u:Pt × Pt):List (List A6):=[kP u.1,kP u.2]
def qc {u v:Pt × Pt}(h:kQ u=kQ v):u=v:=by
 unfold kQ at h;simp only[Oa] at h;exact KA (fT h.1) (fT h.2.1)
def wo (u:Pt × Pt):bF (c8 u)=some (kQ u):=rfl
theorem sS:∀L:List (Pt × Pt),G5 bF (L.map c8)=some (L.map kQ)
 |[]=>rfl
 |p::r=>by
  show (bF (c8 p)).bind _=_;rw[wo,xr,sS r];rfl
def N7 (L:List (Pt × Pt)) (u:Pt × Pt):List (Pt × Pt):=if u∈L then L else L++[u]
def D4:List (Pt × Pt)->List (Pt × Pt)->List (Pt × Pt)
 |[],L=>L
 |u::r,L=>D4 r (N7 L u)
def Ap (L:List (Pt × Pt)) (u:Pt × Pt):J6 (L.map kQ) (kQ u) (L.map c8) (c8 u)=(N7 L u).map c8:=by
 have m:kQ u∈L.map kQ↔u∈L:=by
  rw[Kw];exact#[fun ⟨q,B,e⟩=>qc e▸B,fun h=>#[u,h,rfl]]
 unfold J6 N7;by_cases c:u∈L
 .rw[gV c,gV (m.mpr c)]
 .rw[fI c,fI (fun z=>c (m.mp z)),Lh];rfl
def oy {L:List (Pt × Pt)}{u:Pt × Pt}(h:L.Nodup):(N7 L u).Nodup:=by
 unfold N7;by_cases c:u∈L
 .rw[gV c];exact h
 .rw[fI c];refine Nf.mpr #[h,by simp,fun x J y B=>?_];simp at B;subst B;exact fun e=>c (e▸J)
theorem jc:∀(us L:List (Pt × Pt)),L.Nodup->(D4 us L).Nodup
 |[],L,h=>h
 |u::r,L,h=>jc r _ (oy h)
theorem cj:∀(us L:List (Pt × Pt)),(D4 us L).length<=L.length+us.length
 |[],L=>iU _
 |u::r,L=>by
  have a:=cj r (N7 L u);have b:(N7 L u).length<=L.length+1:=by unfold N7;split <;> simp
  unfold D4;simp only[Kh];omega
theorem iz:∀(us L:List (Pt × Pt)) (q:Pt × Pt),q∈D4 us L↔q∈L\/q∈us
 |[],L,q=>#[.inl,fun h=>h.elim id fun h=>nomatch h]
 |u::r,L,q=>by
  have m:q∈N7 L u↔q∈L\/q=u:=by
   unfold N7;by_cases c:u∈L
   .rw[gV c];exact#[.inl,fun h=>h.elim id fun e=>e▸c]
   .rw[fI c,KD,KI]
  unfold D4;rw[iz r,m,tx,or_assoc]
theorem me:∀(us vs L:List (Pt × Pt)),D4 (us++vs) L=D4 vs (D4 us L)
 |[],vs,L=>rfl
 |u::r,vs,L=>me r vs (N7 L u)
abbrev bK:a8:=sO O6 Y6 ag
abbrev L8 (Ss:List (List Pt)) (L:List (Pt × Pt)) (x2 x3 x4 x5:Sl) (fs:vO_):DS:=#[[.v (.tup (Ss.map d7)),.dct (L.map c8),x2,x3,x4,x5],fs]
theorem wd (Ss:List (List Pt)) (x2 B x4:Sl) (fs:vO_):∀(us L:List (Pt × Pt)) (x5:Sl),L.Nodup->L.length+us.length<=2000->∃y5,u6 (d5 5) (jO O6 Y6 ag) (us.map c8) (L8 Ss L x2 B x4 x5 fs)=some (.next,L8 Ss (D4 us L) x2 B x4 y5 fs)
 |[],L,x5,_,_=>#[x5,rfl]
 |u::r,L,x5,nd,hl=>by
  simp only[Kh] at hl;have b:(N7 L u).length<=L.length+1:=by unfold N7;split <;> simp
  have e:jO O6 Y6 ag (L8 Ss L x2 B x4 (.v (c8 u)) fs)=some (.next,L8 Ss (N7 L u) x2 B x4 (.v (c8 u)) fs):=by
   show (G5 bF (L.map c8)).bind _=_;rw[sS,xr,wo,xr,gV #[Po _ (fun a b n e=>n (qc e)) nd,by rw[xo];exact Kf (show L.length<=2000 by omega) #[]],Ap];rfl
  obtain⟨y5,f⟩:=wd Ss x2 B x4 fs r (N7 L u) (.v (c8 u)) (oy nd) ∅;exact#[y5,(M3 rfl e).trans f]
def N9 (Ss:List (List Pt)) (es:List (Pt × Pt)):List (Pt × Pt):=es.flatMap fun e=>M1 e.1 e.2 Ss
def D0 (Ss Rs:List (List Pt)):List (Pt × Pt):=Rs.flatMap fun A=>N9 Ss (d9 true A)
def U5 (Ss:List (List Pt)):List (Pt × Pt):=J5 A9 64 (D4 (D0 Ss Ss) [])
def nD {a b:Pt}(hS:∀C∈Ss,ShC C) (h4:Ss.length<=4):(M1 a b Ss).length<=26:=by
 have B:=xR (a:=a) (b:=b) hS;have fl:(P2 a b Ss).length<=26:=by
  refine Kf (Ny ..) ?_;unfold d9;rw[fI (by simp),Mc];omega
 unfold M1;split
 .exact fl
 .rw[xo];exact fl
def aR {A:vT_}(B:ShC A):∀e∈d9 true A,Ps 8 e.1/\Ps 8 e.2/\e.1≠e.2:=fun e J=>by
 obtain⟨i,_,rfl⟩:=eK J;exact#[(B.sz _ (C7 i (G3 B))).1,(B.sz _ (C7 (i+1) (G3 B))).1,Ki (B.ne i)]
def Z6 (A:vT_):(d9 true A).length<=A.length:=by
 unfold d9;rw[gV rfl,Mc];exact MB ..
def Hv (A:vT_):(d9 true (A.map pt)).map S8=(d9 true A).map c8:=vL A
section
variable (hS:∀C∈Ss,ShC C) (h4:Ss.length<=4) (fs:vO_)
include hS h4
theorem rD (x2:Sl):∀(es L:List (Pt × Pt)) (x3 x4 x5:Sl),(∀e∈es,Ps 8 e.1/\Ps 8 e.2/\e.1≠e.2)->L.Nodup->L.length+26*es.length<=2000 ->
  ∃y3 y4 y5,u6 (t6 2 (k6 (d5 3) (k6 (d5 4) u3))) (kv O6 Y6 ag) (es.map c8) (L8 Ss L x2 x3 x4 x5 fs)=some (.next,L8 Ss (D4 (N9 Ss es) L) x2 y3 y4 y5 fs)
 |[],L,x3,x4,x5,_,_,_=>#[x3,x4,x5,rfl]
 |e::r,L,x3,x4,x5,h,nd,hl=>by
  simp only[Kh] at hl;obtain⟨Y,J,B⟩:=h e (iR ..);have bl:=nD (a:=e.1) (b:=e.2) hS h4;obtain⟨y5,f⟩:=wd Ss x2 (.v (pt e.1)) (.v (pt e.2)) fs (M1 e.1 e.2 Ss) L x5 nd ∅;have p:=GR Y J B hS ∅ fs;have t:kv O6 Y6 ag (L8 Ss L x2 (.v (pt e.1)) (.v (pt e.2)) x5 fs)=some (.next,L8 Ss (D4 (M1 e.1 e.2 Ss) L) x2 (.v (pt e.1)) (.v (pt e.2)) y5 fs):=(U3 (ds:=(M1 e.1 e.2 Ss).map c8) (s1:=L8 Ss L x2 (.v (pt e.1)) (.v (pt e.2)) x5 fs) (o6 (e6 rfl (e6 rfl (e6 rfl rfl))) p)).trans f;have al:=cj (M1 e.1 e.2 Ss) L;obtain⟨M,U,Z,g⟩:=rD x2 r (D4 (M1 e.1 e.2 Ss) L) (.v (pt e.1)) (.v (pt e.2)) y5 (fun z W=>h z (td _ W)) (jc _ _ nd) ∅;refine#[M,U,Z,(M3 rfl t).trans (g.trans ?_)];rw[show N9 Ss (e::r)=M1 e.1 e.2 Ss++N9 Ss r by unfold N9;rw[LJ],me]
theorem nO:∀(Rs:List (List Pt)) (L:List (Pt × Pt)) (x2 x3 x4 x5:Sl),(∀A∈Rs,ShC A)->L.Nodup->L.length+156*Rs.length<=2000 ->
  ∃y2 y3 y4 y5,u6 (d5 2) (kX O6 Y6 ag) (Rs.map d7) (L8 Ss L x2 x3 x4 x5 fs)=some (.next,L8 Ss (D4 (D0 Ss Rs) L) y2 y3 y4 y5 fs)
 |[],L,x2,x3,x4,x5,_,_,_=>#[x2,x3,x4,x5,rfl]
 |A::r,L,x2,x3,x4,x5,h,nd,hl=>by
  simp only[Kh] at hl;have B:=h A (iR ..);have a6:=B.hi;have nl:=Z6 A;have J:=Jg (A.map pt) fs (by rw[xo];exact Kf (show A.length+1<=7 by omega) #[]);rw[Hv] at J;obtain⟨y3,y4,y5,f⟩:=rD hS h4 fs (.v (d7 A)) (d9 true A) L x3 x4 x5 (aR B) nd ∅;have t:kX O6 Y6 ag (L8 Ss L (.v (d7 A)) x3 x4 x5 fs)=some (.next,L8 Ss (D4 (N9 Ss (d9 true A)) L) (.v (d7 A)) y3 y4 y5 fs):=(U3 (ds:=(d9 true A).map c8) (s1:=L8 Ss L (.v (d7 A)) x3 x4 x5 fs) (o6 (e6 rfl rfl) J)).trans f;have al:=cj (N9 Ss (d9 true A)) L;have el:(N9 Ss (d9 true A)).length<=26*(d9 true A).length:=by
   unfold N9;generalize d9 true A=es;induction es with
   |nil=>exact iU _
   |cons e r ih=>
    rw[LJ,Km,Kh];have:=nD (a:=e.1) (b:=e.2) hS h4;omega
  obtain⟨W,M,Y,Z,g⟩:=nO r (D4 (N9 Ss (d9 true A)) L) (.v (d7 A)) y3 y4 y5 (fun z U=>h z (td _ U)) (jc _ _ nd) ∅;refine#[W,M,Y,Z,(M3 rfl t).trans (g.trans ?_)];rw[show D0 Ss (A::r)=N9 Ss (d9 true A)++D0 Ss r by unfold D0;rw[LJ],me]
theorem IJ {a b:Pt}(ha:Ps 8 a) (hb:Ps 8 b):∀u∈M1 a b Ss,Ps 70 u.1/\Ps 70 u.2:=fun u B=>by
 have p:=jF ha hb hS;unfold M1 at B;split at B
 .exact p u (LR.mp B).1
 .obtain⟨w,J,rfl⟩:=Kw.mp B;exact#[(p w (LR.mp J).1).2,(p w (LR.mp J).1).1]
theorem vU:∀u∈D0 Ss Ss,Ps 70 u.1/\Ps 70 u.2:=fun u M=>by
 obtain⟨A,J,h⟩:=Lz.mp M;obtain⟨e,U,h⟩:=Lz.mp h;obtain⟨W,B,_⟩:=aR (hS A J) e U;exact IJ hS h4 W B u h
theorem lT:(D0 Ss Ss).length<=624:=by
 have:∀Rs:List (List Pt),(∀A∈Rs,ShC A)->(D0 Ss Rs).length<=156*Rs.length:=fun Rs=>by
  induction Rs with
  |nil=>intro _;exact iU _
  |cons A r B=>
   intro h;have W:=Z6 A;have M:=(h A (iR ..)).hi;have U:(N9 Ss (d9 true A)).length<=26*(d9 true A).length:=by
    unfold N9;generalize d9 true A=es;induction es with
    |nil=>exact iU _
    |cons e r B=>
     rw[LJ,Km,Kh];have:=nD (a:=e.1) (b:=e.2) hS h4;omega
   have:=B fun z J=>h z (td _ J)
   rw[show D0 Ss (A::r)=N9 Ss (d9 true A)++D0 Ss r by unfold D0;rw[LJ],Km,Kh];omega
 have:=this Ss hS;omega
theorem si:bK [.tup (Ss.map d7)] fs=some (.lst ((U5 Ss).map c8),fs):=by
 obtain⟨J,M,B,U,e⟩:=nO hS h4 fs Ss [] .no .no .no .no hS Mz (by simp only[Lg];omega);have al:=cj (D0 Ss Ss) [];have bl:=lT hS h4;simp only[Lg] at al;have W:(D4 (D0 Ss Ss) []).length<=1000:=by omega
 have ps:∀u∈D4 (D0 Ss Ss) [],Ps 70 u.1/\Ps 70 u.2:=fun u hu=>by
  rcases(iz _ _ _).mp hu with q | q
  .cases q
  .exact vU hS h4 u q
 have io:=ja (en:=c8) (lt:=A9) (P:=fun u=>Ps 70 u.1/\Ps 70 u.2) (m:=iW) (mL:=E3) (mR:=iW) (nm := "row_goes_ahead") (fun s t e=>by unfold X9;rw[e];rfl) (fun x y fs Z Y=>Im #[] Y.1 Y.2 Z.1 Z.2 fs) 63 (D4 (D0 Ss Ss) []) fs ps (Kf W #[]) (KU W #[]);refine u4 (s:=L8 Ss (D4 (D0 Ss Ss) []) J M B U fs) ?_;show md O6 Y6 ag #[[.v (.tup (Ss.map d7)),.no,.no,.no,.no,.no],fs]=_;unfold md;refine j5 (s1:=L8 Ss [] .no .no .no .no fs) rfl ?_;refine j5 ((eU (ds:=Ss.map d7) rfl).trans e) ?_;have ld:aL 1 (L8 Ss (D4 (D0 Ss Ss) []) J M B U fs)=some ((D4 (D0 Ss Ss) []).map c8,L8 Ss (D4 (D0 Ss Ss) []) J M B U fs):=gV (by rw[xo];exact Kf W #[]);exact v8 (o6 (e6 (du ld) (e6 rfl rfl)) io)
end
def ki (a b:Pt):PyData.eqv (pt a).py (pt b).py=decide (a=b):=by
 unfold pt;simp only[D.py,D.pys,PyData.eqv,PyData.eqvAll,Nl,Nu];rw[LB];simp only[Ko,Lm];constructor
 .rintro⟨h1,h2,B⟩;exact iH h1 h2 B
 .rintro rfl;exact#[rfl,rfl,rfl]
def zo (h:n<=100):n<=sizeLine:=Kf h #[]
def JZ {as B:vD_}(h:as.length+B.length<=100):j4 (.tup as) (.tup B)=some (.tup (as++B)):=gV (zo h)
variable {c:Bool}{ps:vT_}{m:Nat}{S:Nat->Rat}{Q:Nat->Pt × Pt}{T:List Rat}
end T
namespace T
open PySem L2 DL
def qA {s:DS}{ds0:vD_}(J:s.sl[i]? = some (.own ds0)) (h:f s=some ([.int (k:Int),d],s1)) (h1:s1.sl[i]? = some (.own ds)) (hk:k<=ds.length) (hl:ds.length<sizeLine):bO i f s=some (.next,{ s1 with sl:=s1.sl.set i (.own (ds.take k++d::ds.drop k)) }):=by
 have M:R3 s i=some ds0:=by unfold R3;rw[J]
 have B:R3 s1 i=some ds:=by unfold R3;rw[h1]
 unfold bO;rw[M,xr,h,xr];show ((R3 s1 i).bind _)=_;rw[B,xr];exact gV #[by omega,by omega,hl]
variable {c:Bool}{ps:vT_}{m:Nat}{S:Nat->Rat}{Q:Nat->Pt × Pt}{T:List Rat}
end T
namespace T
open PySem L2 DL
section
variable {α:Type}{lt:α->α->Bool}
def J3 (lt:α->α->Bool) (F:List α) (x:α):List α:=F.take (F.filter (lt · x)).length++x::F.drop (F.filter (lt · x)).length
theorem tI (O:Ord lt) (x:α):∀{F:List α},M0 lt F->F.filter (fun y=>lt y x)=F.takeWhile (fun y=>lt y x)
 |[],_=>rfl
 |a::r,h=>by
  obtain⟨h1,h2⟩:=Ly.mp h;cases q:lt a x with
  |true=>rw[Qj (p:=fun y=>lt y x) q,Ql (p:=fun y=>lt y x) q,tI O x h2]
  |false=>
   have B:¬ (fun y=>lt y x) a=true:=by show ¬ lt a x=true;rw[q];simp
   rw[Qk (p:=fun y=>lt y x) B,Qm (p:=fun y=>lt y x) B];refine List.filter_eq_nil_iff.mpr fun y J e=>?_
   have:=O.tr _ _ _ (h1 y J) e;rw[q] at this;cases this
def Gn (O:Ord lt) {F:List α}(h:M0 lt F) (x:α):J3 lt F x=F.takeWhile (fun y=>lt y x)++x::F.dropWhile (fun y=>lt y x):=by
 have k:∀A B:List α,A++B=F->F.take A.length=A/\F.drop A.length=B:=by rintro A B rfl;simp
 obtain⟨M,J⟩:=k _ _ (MO (p:=fun y=>lt y x) (l:=F));unfold J3;rw[tI O x h,M,J]
def fD (lt:α->α->Bool) (F:List α) (x y:α):y∈J3 lt F x↔y∈F\/y=x:=by
 unfold J3;generalize (F.filter (lt · x)).length=k;rw[KD,tx];have e:=Nr k F;constructor
 .rintro(h | h | h)
  .exact .inl (Nq h)
  .exact .inr h
  .exact .inl (Mo h)
 .rintro(h | h)
  .rw[<-e] at h;rcases KD.mp h with q | q
   .exact .inl q
   .exact .inr (.inr q)
  .exact .inr (.inl h)
def kM (lt:α->α->Bool) (F:List α) (x:α):(J3 lt F x).length=F.length+1:=by
 unfold J3;rw[Km,Kh,Ld,Kt];omega
def rG (O:Ord lt) {F:List α}(h:M0 lt F) {x:α}(n:x ∉ F):M0 lt (J3 lt F x):=by
 rw[Gn O h];induction F with
 |nil=>exact Ly.mpr #[fun _ h=>(nomatch h),List.Pairwise.nil]
 |cons a r W=>
  obtain⟨h1,h2⟩:=Ly.mp h;have U:x ∉ r:=fun z=>n (td _ z)
  cases q:lt a x with
  |true=>
   rw[Ql (p:=fun y=>lt y x) q,List.dropWhile_cons_of_pos (p:=fun y=>lt y x) q];refine Ly.mpr #[fun z B=>?_,W h2 U];rcases KD.mp B with w | w
   .exact h1 z ((List.takeWhile_sublist _).subset w)
   .rcases tx.mp w with rfl | w
    .exact q
    .exact h1 z ((List.dropWhile_sublist _).subset w)
  |false=>
   have M:¬ (fun y=>lt y x) a=true:=by show ¬ lt a x=true;rw[q];simp
   rw[Qm (p:=fun y=>lt y x) M,List.dropWhile_cons_of_neg (p:=fun y=>lt y x) M];have J:lt x a=true:=O.tot _ _ q fun e=>n (by rw[e];exact iR ..)
   refine Ly.mpr #[fun z B=>?_,h];rcases tx.mp B with rfl | B
   .exact J
   .exact O.tr _ _ _ J (h1 z B)
end
def ua {α:Type}[DecidableEq α] {en:α->DL.D}(hk:k<=60) (U:∀x y,PyData.eqv (en x).py (en y).py=decide (x=y)) {x:α}{L:List α}(J:Ok k n (en x)) (hL:∀y∈L,Ok k n (en y)) [Decidable (x∈L)]:cD (en x) (.lst (L.map en))=some (.bl (!decide (x∈L))):=by
 have Z:=J.eq ∅;have B:v3 (.lst (L.map en))=true:=by
  have:=Ok.lst (OkL.all (k:=k) (n:=n) (ds:=L.map en) fun d hd=>by
   obtain⟨z,W,rfl⟩:=Kw.mp hd;exact hL z W)
  exact this.eq ∅
 have o4:∀L:List α,T4 (en x) (L.map en)=true↔x∈L:=fun L=>by
  unfold T4;induction L with
  |nil=>simp[D.pys]
  |cons c r Y=>
   rw[Ku,D.pys,MT,Ph,Y,U,Lm,tx];exact#[fun h=>h.imp Eq.symm id,fun h=>h.imp Eq.symm id]
 have M:T4 (en x) (L.map en)=decide (x∈L):=by rw[LB,o4,Lm]
 show (if v3 (en x)&&v3 (.lst (L.map en)) then some (D.bl (!T4 (en x) (L.map en))) else none)=_;rw[Z,B,M];rfl
def EB (a b c d:DL.D):PyData.eqv (DL.D.tup [a,b]).py (DL.D.tup [c,d]).py=(PyData.eqv a.py c.py&&PyData.eqv b.py d.py):=by
 simp only[D.py,D.pys,PyData.eqv,PyData.eqvAll,Nu]
def GV (u v:Pt × Pt):PyData.eqv (c8 u).py (c8 v).py=decide (u=v):=by
 rw[EB,ki,ki,LB];simp only[Ko,Lm];exact#[fun h=>KA h.1 h.2,fun h=>#[congrArg Prod.fst h,congrArg Prod.snd h]]
abbrev S6:a8:=og F5
def K2:List Pt->List Pt->List Pt
 |[],F=>F
 |p::r,F=>K2 r (if p∈F then F else J3 f6 F p)
theorem gI:∀(ms F:vT_),M0 f6 F->M0 f6 (K2 ms F)
 |[],F,h=>h
 |p::r,F,h=>by
  unfold K2;by_cases c:p∈F
  .rw[gV c];exact gI r F h
  .rw[fI c];exact gI r _ (rG lsB_ord h c)
theorem fH:∀(ms F:vT_) (q:Pt),q∈K2 ms F↔q∈F\/q∈ms
 |[],F,q=>#[.inl,fun h=>h.elim id fun h=>nomatch h]
 |p::r,F,q=>by
  unfold K2;rw[fH r];by_cases c:p∈F
  .rw[gV c,tx];exact#[fun h=>h.elim .inl fun h=>.inr (.inr h),fun h=>h.elim .inl fun h=>h.elim (fun e=>.inl (e▸c)) .inr]
  .rw[fI c,fD,tx,or_assoc]
theorem lJ:∀(ms F:vT_),(K2 ms F).length<=F.length+ms.length
 |[],F=>iU _
 |p::r,F=>by
  unfold K2;simp only[Kh];by_cases c:p∈F
  .rw[gV c];have:=lJ r F;omega
  .rw[fI c];have:=lJ r (J3 f6 F p);rw[kM] at this;omega
section
variable (hk:k<=1000) (fs:vO_) (x0 x1 x2:Sl)
abbrev P8 (x0 x1 x2:Sl) (F:vT_) (x4:Sl) (fs:vO_):DS:=#[[x0,x1,x2,.own (F.map pt),x4],fs]
include hk
theorem DV {F:vT_}{p:Pt}(hp:Ps k p) (B:∀z∈F,Ps k z) (hl:F.length<=1000):jx F5 (P8 x0 x1 x2 F (.v (pt p)) fs)=some (.next,P8 x0 x1 x2 (if p∈F then F else J3 f6 F p) (.v (pt p)) fs):=by
 have Z:=ua (en:=pt) (k:=1) (n:=3) #[] ki (Ok.pt hp ∅) (L:=F) fun y J=>Ok.pt (B y J) ∅
 have t:dB (a7 cD (dL 4) (dL 3)) (P8 x0 x1 x2 F (.v (pt p)) fs)=some (!decide (p∈F),P8 x0 x1 x2 F (.v (pt p)) fs):=C4 (c7 rfl rfl Z);unfold jx;by_cases c:p∈F
 .rw[gV c];rw[Kp c] at t;exact(J0 t).trans rfl
 .rw[fI c];rw[KC c] at t;refine(M6 t).trans ?_;have fr:=eC (caps:=[.v (pt p)]) (fc:=j8 (d4 F5 (a0 (dV 0) (a0 (dV 1) b9)))) fs pt (fun z=>f6 z p) F fun z M=>O9 (o6 (e6 rfl (e6 rfl rfl)) (W8 z p fs (B z M) hp hk))
  have U:o7 (E7 [4] (F6 (dL 3)) (j8 (d4 F5 (a0 (dV 0) (a0 (dV 1) b9)))) (dV 0)) (P8 x0 x1 x2 F (.v (pt p)) fs)=some (.lst ((F.filter fun z=>f6 z p).map pt),P8 x0 x1 x2 F (.v (pt p)) fs):=
   du (cF (idx:=[4]) (s1:=P8 x0 x1 x2 F (.v (pt p)) fs) (ds:=F.map pt) rfl (by rw[xo];exact Kf hl #[]) fr)
  have Y:one l7 [.lst ((F.filter fun z=>f6 z p).map pt)]=some (.int ((F.filter fun z=>f6 z p).length:Int)):=by
   show some (D.int (((F.filter fun z=>f6 z p).map pt).length:Int))=_;rw[xo]
  refine(qA (k:=(F.filter fun z=>f6 z p).length) (ds0:=F.map pt) (ds:=F.map pt) (d:=pt p) (s1:=P8 x0 x1 x2 F (.v (pt p)) fs) rfl (e6 (af (e6 U rfl) Y) (e6 rfl rfl)) rfl (by rw[xo];exact Ny ..) (by rw[xo];exact KU hl #[])).trans ?_;have W:(J3 f6 F p).map pt=(F.map pt).take (F.filter fun z=>f6 z p).length++pt p::(F.map pt).drop (F.filter fun z=>f6 z p).length:=by
   unfold J3;rw[Lh,Ku,MP,LI]
  show _=some (Fl.next,(#[[x0,x1,x2,.own ((J3 f6 F p).map pt),.v (pt p)],fs]:DS));rw[W];rfl
theorem uk:∀(ms F:vT_) (x4:Sl),(∀z∈ms,Ps k z)->(∀z∈F,Ps k z)->F.length+ms.length<=1000->∃y4,u6 (d5 4) (jx F5) (ms.map pt) (P8 x0 x1 x2 F x4 fs)=some (.next,P8 x0 x1 x2 (K2 ms F) y4 fs)
 |[],F,x4,_,_,_=>#[x4,rfl]
 |p::r,F,x4,hm,hF,hl=>by
  simp only[Kh] at hl;have e:=DV hk fs x0 x1 x2 (hm p (iR ..)) hF ∅;obtain⟨y4,f⟩:=uk r (if p∈F then F else J3 f6 F p) (.v (pt p)) (fun z B=>hm z (td _ B)) (fun z B=>by
   split at B
   .exact hF z B
   .rcases(fD _ _ _ _).mp B with q | q
    .exact hF z q
    .rw[q];exact hm p (iR ..)) (by split <;> first | (rw[kM];omega) | omega)
  exact#[y4,(M3 rfl e).trans f]
theorem EL {a b:Pt}(ha:Ps k a) (hb:Ps k b) {B:vT_}(hm:∀z∈B,Ps k z) (hl:B.length<=1000):S6 [pt a,pt b,.lst (B.map pt)] fs=some (.lst ((if f6 a b then K2 B [] else (K2 B []).reverse).map pt),fs):=by
 obtain⟨J,e⟩:=uk hk fs (.v (pt a)) (.v (pt b)) (.v (.lst (B.map pt))) B [] .no hm (fun _ h=>nomatch h) (by simpa using hl);have w:=W8 a b fs ha hb hk;have t:j8 (d4 F5 (a0 (dV 0) (a0 (dV 1) b9))) (P8 (.v (pt a)) (.v (pt b)) (.v (.lst (B.map pt))) (K2 B []) J fs)=some (f6 a b,P8 (.v (pt a)) (.v (pt b)) (.v (.lst (B.map pt))) (K2 B []) J fs):=O9 (o6 (e6 rfl (e6 rfl rfl)) w);have U:C1 3 (r8 b9) #[[.v (pt a),.v (pt b),.v (.lst (B.map pt)),.no,.no],fs]=some (.next,P8 (.v (pt a)) (.v (pt b)) (.v (.lst (B.map pt))) [] .no fs):=Q2 (i:=3) (s1:=#[[.v (pt a),.v (pt b),.v (.lst (B.map pt)),.no,.no],fs]) (ds:=[]) rfl (by show 3<5;decide);have M:∃s,nk F5 #[[.v (pt a),.v (pt b),.v (.lst (B.map pt)),.no,.no],fs]=some (.ret (.lst ((if f6 a b then K2 B [] else (K2 B []).reverse).map pt)),s)/\s.fs=fs:=by
  unfold nk;cases q:f6 a b with
  |true=>
   rw[q] at t;exact#[_,j5 U (j5 ((U3 (ds:=B.map pt) rfl).trans e) (v8 ((pI t).trans rfl))),rfl]
  |false=>
   rw[q] at t;refine#[P8 (.v (pt a)) (.v (pt b)) (.v (.lst (B.map pt))) (K2 B []) J fs,j5 U (j5 ((U3 (ds:=B.map pt) rfl).trans e) (v8 ((vD t).trans ((EC (ds:=(K2 B []).map pt) rfl).trans ?_)))),rfl];rw[<-List.map_reverse];rfl
 obtain⟨s,e,W⟩:=M;exact(u4 e).trans (by rw[W])
end
abbrev U1:a8:=rT bJ gL S4
def N0 (a b c d:Pt):List Pt:=if a9 a b c=0/\a9 a b d=0 then [c,d].filter (E6 a b) else if 0<a9 a b c*a9 a b d then [] else if E6 a b (xq a b c d) then [xq a b c d] else []
def rX {a b c d:Pt}(h:a9 a b c=0):xq a b c d=c:=by
 unfold xq;rw[h,Lb,Mb];exact sV c d
theorem Ee {a b c d:Pt}(h:a9 a b d=0) (B:a9 a b c≠0):xq a b c d=d:=by
 unfold xq;rw[h,show a9 a b c - 0=a9 a b c by grind,Lb,Oj _ B];exact qf c d
theorem Ba {a b c d:Pt}(B:a9 a b c - a9 a b d≠0):K9 a b c d=xq a b c d:=by
 refine wm (by rw[fv];grind) ?_ (T2 _ _ _);unfold xq;rw[gO];generalize a9 a b c=x at *;generalize a9 a b d=y at *;grind
theorem Et {a b c d:Pt}(ha:Ps 8 a) (hb:Ps 8 b) (M:Ps 8 c) (J:Ps 8 d) (B:a9 a b c - a9 a b d≠0):Ps 70 (xq a b c d):=by
 have W:K4 (p8 a b) (p8 c d)≠0:=by rw[fv];grind
 rw[<-Ba B];exact(so ha hb M J W).ps
theorem yd {f s:Int}{x y:Rat}(h1:R7 f=A1 x) (h2:R7 s=A1 y):decide (0<f*s)=decide (0<x*y):=by
 obtain⟨U,Y,M⟩:=aX h1;obtain⟨B,W,J⟩:=aX h2;rw[MS];constructor
 .intro h;rcases(show f<0\/f=0\/0<f by omega) with q | q | q
  .have:s<0:=by
    refine Int.not_le.mp fun z=>?_
    have:=Og (show 0 <= -f by omega) z;have:-f*s = -(f*s):=by rw[Int.neg_mul]
    omega
   have:=Kj (show 0 < -x by have:=U.mp q;grind) (show 0 < -y by have:=B.mp this;grind);grind
  .rw[q,Int.zero_mul] at h;omega
  .have:0<s:=by
    refine Int.not_le.mp fun z=>?_
    have:=Og (Int.le_of_lt q) (show 0 <= -s by omega);have:f * -s = -(f*s):=by rw[Int.mul_neg]
    omega
   exact Kj (M.mp q) (J.mp this)
 .intro h;rcases(show x<0\/x=0\/0<x by grind) with q | q | q
  .have:y<0:=by
    refine LD.mp fun z=>?_
    have:=Kx (show 0 <= -x by grind) z;grind
   have:=Ou (show 0 < -f by have:=U.mpr q;omega) (show 0 < -s by have:=B.mpr this;omega)
   rwa [Int.neg_mul_neg] at this
  .rw[q] at h;grind
  .have:0<y:=by
    refine LD.mp fun z=>?_
    have:=Kx (Lo q) (show 0 <= -y by grind);grind
   exact Ou (M.mpr q) (J.mpr this)
def pN {f:Int}{x:Rat}(h1:R7 f=A1 x):decide (f=0)=decide (x=0):=by
 rw[MS];exact(aX h1).2.1
theorem AV {a b c d:Pt}(ha:Ps 8 a) (hb:Ps 8 b) (U:Ps 8 c) (M:Ps 8 d) (fs:vO_):U1 [pt a,pt b,pt c,pt d] fs=some (.lst ((N0 a b c d).map pt),fs):=by
 have m:∀{p:Pt},Ps 8 p->Ps 70 p:=fun h=>h.mono #[]
 have w1:=eV a b c fs ha hb U #[];have w2:=eV a b d fs ha hb M #[];have d1:=Bd.det ha hb U;have d2:=Bd.det ha hb M;have s1:=gq a b c;have s2:=gq a b d;have z1:=pN s1;have z2:=pN s2;have z3:=yd s1 s2;have mo:=C3 (d1.bits #[]) (d2.bits #[]);have on:∀p,Ps 70 p->bJ [pt a,pt b,pt p] fs=some (.bl (E6 a b p),fs):=fun p hp=>Gp a b p fs (m ha) (m hb) hp #[]
 have lc:=fun B=>zy (k:=8) (a:=a) (b:=b) (c:=c) (d:=d) fs ha hb U M #[] B
 have xs:=fun B=>Et (a:=a) (b:=b) (c:=c) (d:=d) ha hb U M B
 have F:N0 a b c d=if a9 a b c=0/\a9 a b d=0 then [c,d].filter (E6 a b) else if 0<a9 a b c*a9 a b d then [] else if E6 a b (xq a b c d) then [xq a b c d] else []:=rfl
 have fr:=eC (caps:=[.v (pt a),.v (pt b)]) (fc:=j8 (d4 bJ (a0 (dV 1) (a0 (dV 2) (a0 (dV 0) b9))))) fs pt (E6 a b) [c,d] fun z hz=>O9 (o6 (e6 rfl (e6 rfl (e6 rfl rfl))) (on z (by
  rcases tx.mp hz with rfl | hz
  .exact m U
  .rw[KI] at hz;subst hz;exact m M)))
 have fin:∃s,kN bJ gL S4 #[[.v (pt a),.v (pt b),.v (pt c),.v (pt d),.no,.no,.no],fs]=some (.ret (.lst ((N0 a b c d).map pt)),s)/\s.fs=fs:=by
  rw[F];generalize O0 a b c=f at *;generalize O0 a b d=s at *;unfold kN;have Z:w5 4 5 (a0 (d4 S4 (a0 (dV 0) (a0 (dV 1) (a0 (dV 2) b9)))) (a0 (d4 S4 (a0 (dV 0) (a0 (dV 1) (a0 (dV 3) b9)))) b9)) #[[.v (pt a),.v (pt b),.v (pt c),.v (pt d),.no,.no,.no],fs]=some (.next,#[[.v (pt a),.v (pt b),.v (pt c),.v (pt d),.v (.int f),.v (.int s),.no],fs]):=sG (e6 (o6 rfl w1) (e6 (o6 rfl w2) rfl)) rfl;have J:dB (a7 B3 (dL 4) (k0 0)) #[[.v (pt a),.v (pt b),.v (pt c),.v (pt d),.v (.int f),.v (.int s),.no],fs]=some (decide (a9 a b c=0),#[[.v (pt a),.v (pt b),.v (pt c),.v (pt d),.v (.int f),.v (.int s),.no],fs]):=C4 (c7 rfl rfl (by rw[U0,z1]));have Y:dB (a7 B3 (dL 5) (k0 0)) #[[.v (pt a),.v (pt b),.v (pt c),.v (pt d),.v (.int f),.v (.int s),.no],fs]=some (decide (a9 a b d=0),#[[.v (pt a),.v (pt b),.v (pt c),.v (pt d),.v (.int f),.v (.int s),.no],fs]):=C4 (c7 rfl rfl (by rw[U0,z2]));have W:dB (a7 (n8 (fun i j=>decide (j<i))) (a7 j6 (dL 4) (dL 5)) (k0 0)) #[[.v (pt a),.v (pt b),.v (pt c),.v (pt d),.v (.int f),.v (.int s),.no],fs]=some (decide (0<a9 a b c*a9 a b d),#[[.v (pt a),.v (pt b),.v (pt c),.v (pt d),.v (.int f),.v (.int s),.no],fs]):=C4 (c7 (c7 rfl rfl mo) rfl (by rw[Dn,z3]));have t4:a9 a b c=0/\a9 a b d=0\/r0 (dB (a7 B3 (dL 4) (k0 0))) (dB (a7 B3 (dL 5) (k0 0))) #[[.v (pt a),.v (pt b),.v (pt c),.v (pt d),.v (.int f),.v (.int s),.no],fs]=some (false,#[[.v (pt a),.v (pt b),.v (pt c),.v (pt d),.v (.int f),.v (.int s),.no],fs]):=by
   by_cases q1:a9 a b c=0
   .by_cases q2:a9 a b d=0
    .exact .inl #[q1,q2]
    .rw[Kp q1] at J;rw[KC q2] at Y;exact .inr (Q1 J Y)
   .rw[KC q1] at J;exact .inr (Z9 J)
  by_cases q:a9 a b c=0/\a9 a b d=0
  .rw[gV q];rw[Kp q.1] at J;rw[Kp q.2] at Y;exact#[_,j5 Z (Z5 ((M6 (Q1 J Y)).trans (v8 (du (cF (idx:=[0,1]) (ds:=[c,d].map pt) rfl (by show 2<=sizeLine;decide) fr))))),rfl]
  .rw[fI q];have t4:=t4.resolve_left q;have g2:=(J0 (a:=i8 (o7 (E7 [0,1] (F6 (f9 (a0 (dV 2) (a0 (dV 3) b9)))) (j8 (d4 bJ (a0 (dV 1) (a0 (dV 2) (a0 (dV 0) b9))))) (dV 0)))) (b:=n9) t4).trans rfl;by_cases p:0<a9 a b c*a9 a b d
   .rw[gV p];rw[Kp p] at W;exact#[_,j5 Z (j5 g2 (Z5 ((M6 W).trans (v8 rfl)))),rfl]
   .rw[fI p];rw[KC p] at W;have B:a9 a b c - a9 a b d≠0:=fun z=>by
     have e:a9 a b c=a9 a b d:=by grind
     rw[e] at p q;by_cases w:a9 a b d=0
     .exact q #[w,w]
     .rcases(show a9 a b d<0\/0<a9 a b d by grind) with y | y
      .have:=Kj (show 0 < -a9 a b d by grind) (show 0 < -a9 a b d by grind);grind
      .exact p (Kj y y)
    have g3:f7 (d4 gL (a0 (dV 0) (a0 (dV 1) (a0 (dV 2) (a0 (dV 3) b9))))) (d5 6) #[[.v (pt a),.v (pt b),.v (pt c),.v (pt d),.v (.int f),.v (.int s),.no],fs]=some (.next,#[[.v (pt a),.v (pt b),.v (pt c),.v (pt d),.v (.int f),.v (.int s),.v (pt (xq a b c d))],fs]):=A7 (o6 (e6 rfl (e6 rfl (e6 rfl (e6 rfl rfl)))) (lc B)) rfl;have t5:j8 (d4 bJ (a0 (dV 0) (a0 (dV 1) (a0 (dV 6) b9)))) #[[.v (pt a),.v (pt b),.v (pt c),.v (pt d),.v (.int f),.v (.int s),.v (pt (xq a b c d))],fs]=some (E6 a b (xq a b c d),#[[.v (pt a),.v (pt b),.v (pt c),.v (pt d),.v (.int f),.v (.int s),.v (pt (xq a b c d))],fs]):=O9 (o6 (e6 rfl (e6 rfl (e6 rfl rfl))) (on _ (xs B)));cases o:E6 a b (xq a b c d) with
    |true=>
     rw[o] at t5;exact#[_,j5 Z (j5 g2 (j5 ((J0 W).trans rfl) (j5 g3 (v8 ((pI t5).trans rfl))))),rfl]
    |false=>
     rw[o] at t5;exact#[_,j5 Z (j5 g2 (j5 ((J0 W).trans rfl) (j5 g3 (v8 ((vD t5).trans rfl))))),rfl]
 obtain⟨s,e,ef⟩:=fin;exact(u4 e).trans (by rw[ef])
theorem dQ {a b:Pt}(hC:ShC C) (p:Pt):p∈((d9 true C).flatMap fun e=>N0 a b e.1 e.2)↔G7 a b C p/\E6 a b p=true:=by
 have l:=G3 hC;have U:∀i,a9 a b (tk C i)*a9 a b (tk C (i+1))<0->K9 a b (tk C i) (tk C (i+1))=xq a b (tk C i) (tk C (i+1)):=fun i h=>(yS h).2
 rw[Lz];constructor
 .rintro⟨e,W,h⟩;obtain⟨i,_,rfl⟩:=eK W;unfold N0 at h;split at h
  .next q=>
   obtain⟨h,o⟩:=LR.mp h;rcases tx.mp h with rfl | h
   .exact#[.inl #[i,rfl,q.1],o]
   .rw[KI] at h;subst h;exact#[.inl #[i+1,rfl,q.2],o]
  .next q=>
   split at h
   .cases h
   .next n=>
    split at h
    .next o=>
     rw[KI] at h;subst h;refine#[?_,o];show G7 a b C (xq a b (tk C i) (tk C (i+1)));have n:¬ 0<a9 a b (tk C i)*a9 a b (tk C (i+1)):=n;have q:¬ (a9 a b (tk C i)=0/\a9 a b (tk C (i+1))=0):=q;by_cases B:a9 a b (tk C i)=0
     .rw[rX B];exact .inl #[i,rfl,B]
     by_cases J:a9 a b (tk C (i+1))=0
     .rw[Ee J B];exact .inl #[i+1,rfl,J]
     have lt:a9 a b (tk C i)*a9 a b (tk C (i+1))<0:=by
      have:a9 a b (tk C i)*a9 a b (tk C (i+1))≠0:=fun z=>by
       rcases La.mp z with y | y
       .exact B y
       .exact J y
      grind
     exact .inr #[i,lt,(U i lt).symm]
    .cases h
 .have M:∀i,(tk C i,tk C (i+1))∈d9 true C:=fun i=>by
   have h:=ij (A:=C) (Li i l);have e:tk C (i % C.length+1)=tk C (i+1):=by unfold tk;rw[Om]
   rw[K7,e] at h;exact LM h
  rintro⟨⟨k,rfl,B⟩ | ⟨i,lt,rfl⟩,o⟩
  .refine#[_,M k,?_];unfold N0;show tk C k∈if a9 a b (tk C k)=0/\a9 a b (tk C (k+1))=0 then [tk C k,tk C (k+1)].filter (E6 a b) else if 0<a9 a b (tk C k)*a9 a b (tk C (k+1)) then [] else if E6 a b (xq a b (tk C k) (tk C (k+1))) then [xq a b (tk C k) (tk C (k+1))] else []
   by_cases J:a9 a b (tk C (k+1))=0
   .rw[gV #[B,J]];exact LR.mpr #[iR ..,o]
   .rw[fI (fun z=>J z.2),fI (by rw[B];grind),rX B,gV o];exact KI.mpr rfl
  .refine#[_,M i,?_];rw[U i lt] at o ⊢;unfold N0;show xq a b (tk C i) (tk C (i+1))∈if a9 a b (tk C i)=0/\a9 a b (tk C (i+1))=0 then [tk C i,tk C (i+1)].filter (E6 a b) else if 0<a9 a b (tk C i)*a9 a b (tk C (i+1)) then [] else if E6 a b (xq a b (tk C i) (tk C (i+1))) then [xq a b (tk C i) (tk C (i+1))] else []
   rw[fI (fun z=>by rw[z.1] at lt;grind),fI (by grind),gV o];exact KI.mpr rfl
def E5 (u v:Pt):Pt:=d8 u v (1 / 2)
theorem pk {u v:Pt}(J:Ps k u) (B:Ps k v) (hk:k<=100) (fs:vO_):T8 [pt u,pt v] fs=some (pt (E5 u v),fs)/\Ps (2*k+2) (E5 u v):=by
 have la:=eu u;have lb:=eu v;have lu:=E8 u;have lv:=E8 v;have b2:Bd 2 2:=Bd.lit #[];have m1:=C3 (J.x.bits ∅) (B.l.bits ∅);have m2:=C3 (B.x.bits ∅) (J.l.bits ∅);have m3:=C3 (J.y.bits ∅) (B.l.bits ∅);have m4:=C3 (B.y.bits ∅) (J.l.bits ∅);have m5:=C3 (b2.bits #[]) (J.l.bits ∅);have Y:=b2.mul J.l;have m6:=C3 (Y.bits ∅) (B.l.bits ∅);have bX:Bd (2*k+2) (pX u*pL v+pX v*pL u):=((J.x.mul B.l).add (B.x.mul J.l)).mono ∅;have bY:Bd (2*k+2) (pY u*pL v+pY v*pL u):=((J.y.mul B.l).add (B.y.mul J.l)).mono ∅;have Z:Bd (2*k+2) (2*pL u*pL v):=(Y.mul B.l).mono ∅;have dp:0<2*pL u*pL v:=Ou ∅ ∅;have W:=jR (pX u*pL v+pX v*pL u) (pY u*pL v+pY v*pL u) (2*pL u*pL v) fs ∅ Z ∅;have c2:((2:Int):Rat)=2:=rfl;have h2:(1 / 2:Rat)+1 / 2=1:=by grind
 have x1:Rat.divInt (pX u*pL v+pX v*pL u) (2*pL u*pL v)=(E5 u v).1:=by
  refine ju ∅ ?_;rw[Mr,Kk,Kk,Kk,Kk,L3,L3,c2];show (u.1+1 / 2*(v.1 - u.1))*_=_;generalize (pL u:Rat)=U at *;generalize (pL v:Rat)=V at *;grind
 have x2:Rat.divInt (pY u*pL v+pY v*pL u) (2*pL u*pL v)=(E5 u v).2:=by
  refine ju ∅ ?_;rw[Mr,Kk,Kk,Kk,Kk,L5,L5,c2];show (u.2+1 / 2*(v.2 - u.2))*_=_;generalize (pL u:Rat)=U at *;generalize (pL v:Rat)=V at *;grind
 have pe:(Rat.divInt (pX u*pL v+pX v*pL u) (2*pL u*pL v),Rat.divInt (pY u*pL v+pY v*pL u) (2*pL u*pL v))=E5 u v:=KA x1 x2;obtain⟨l1,l2,M⟩:=Jr (pX u*pL v+pX v*pL u) (pY u*pL v+pY v*pL u) (d:=2*pL u*pL v) ∅;rw[pe] at W l1 l2 M;refine#[?_,#[KU l1 bX,KU l2 bY,KU M Z]];unfold pt at *;refine u4 (s:=#[[.v (.tup [.int (pX u),.int (pY u),.int (pL u)]),.v (.tup [.int (pX v),.int (pY v),.int (pL v)]),.v (.int (pX u*pL v+pX v*pL u))],fs]) ?_;show iA cY #[[.v (.tup [.int (pX u),.int (pY u),.int (pL u)]),.v (.tup [.int (pX v),.int (pY v),.int (pL v)]),.no],fs]=_;unfold iA;refine j5 (s1:=#[[.v (.tup [.int (pX u),.int (pY u),.int (pL u)]),.v (.tup [.int (pX v),.int (pY v),.int (pL v)]),.v (.int (pX u*pL v+pX v*pL u))],fs]) (A7 (c7 (c7 (c7 rfl rfl rfl) (c7 rfl rfl rfl) m1) (c7 (c7 rfl rfl rfl) (c7 rfl rfl rfl) m2) rfl) rfl) ?_;exact v8 (o6 (e6 rfl (e6 (c7 (c7 (c7 rfl rfl rfl) (c7 rfl rfl rfl) m3) (c7 (c7 rfl rfl rfl) (c7 rfl rfl rfl) m4) rfl) (e6 (c7 (c7 rfl (c7 rfl rfl rfl) m5) (c7 rfl rfl rfl) m6) rfl))) W)
def cu (a b:Pt):Int:=pX b*pL a - pX a*pL b
def cC (a b:Pt):Int:=pY b*pL a - pY a*pL b
def U8:Int:=10 ^ 60
def cH (a b p:Pt) (s:Int):Int:=pX p*U8 - s*cC a b*pL p
def cA (a b p:Pt) (s:Int):Int:=pY p*U8+s*cu a b*pL p
def cf (p:Pt):Int:=pL p*U8
def Y0 (a b p:Pt) (s:Int):DL.D:=.tup [.int (cH a b p s),.int (cA a b p s),.int (cf p)]
def far_bd:Bd 200 U8:=by show (10 ^ 60:Int).natAbs<2 ^ 200;decide +kernel
section
variable {a b p:Pt}(ha:Ps 8 a) (hb:Ps 8 b) (hp:Ps 142 p) {s:Int}(hs:Bd 2 s)
include ha hb
theorem kh:Bd 17 (cu a b)/\Bd 17 (cC a b):=#[((hb.x.mul ha.l).sub (ha.x.mul hb.l)).mono #[],((hb.y.mul ha.l).sub (ha.y.mul hb.l)).mono #[]]
include hp hs
theorem EA:Bd 350 (cH a b p s)/\Bd 350 (cA a b p s)/\Bd 350 (cf p):=by
 obtain⟨B,J⟩:=kh ha hb;exact#[((hp.x.mul far_bd).sub ((hs.mul J).mul hp.l)).mono #[],((hp.y.mul far_bd).add ((hs.mul B).mul hp.l)).mono #[],(hp.l.mul far_bd).mono #[]]
theorem Gf (fs:vO_):R5 [pt a,pt b,pt p,.int s] fs=some (Y0 a b p s,fs):=by
 obtain⟨J,B⟩:=kh ha hb;have pw:bh (.int 10) (.int 60)=some (.int U8):=rfl;have m1:=C3 (hb.x.bits #[]) (ha.l.bits #[]);have m2:=C3 (ha.x.bits #[]) (hb.l.bits #[]);have m3:=C3 (hb.y.bits #[]) (ha.l.bits #[]);have m4:=C3 (ha.y.bits #[]) (hb.l.bits #[]);have m5:=C3 (hp.x.bits #[]) (far_bd.bits #[]);have m6:=C3 (hs.bits #[]) (B.bits #[]);have m7:=C3 ((hs.mul B).bits #[]) (hp.l.bits #[]);have M:=C3 (hp.y.bits #[]) (far_bd.bits #[]);have m9:=C3 (hs.bits #[]) (J.bits #[]);have n1:=C3 ((hs.mul J).bits #[]) (hp.l.bits #[]);have W:=C3 (hp.l.bits #[]) (far_bd.bits #[]);generalize Z:U8=F at *;have hX:cu a b=pX b*pL a - pX a*pL b:=rfl;have U:cC a b=pY b*pL a - pY a*pL b:=rfl;unfold Y0 cH cA cf;rw[Z];generalize cu a b=X at *;generalize cC a b=Y at *;unfold pt;refine u4 (s:=#[[.v (.tup [.int (pX a),.int (pY a),.int (pL a)]),.v (.tup [.int (pX b),.int (pY b),.int (pL b)]),.v (.tup [.int (pX p),.int (pY p),.int (pL p)]),.v (.int s),.v (.int F),.v (.int X),.v (.int Y)],fs]) ?_;show fW #[[.v (.tup [.int (pX a),.int (pY a),.int (pL a)]),.v (.tup [.int (pX b),.int (pY b),.int (pL b)]),.v (.tup [.int (pX p),.int (pY p),.int (pL p)]),.v (.int s),.no,.no,.no],fs]=_;unfold fW;refine j5 (s1:=#[[.v (.tup [.int (pX a),.int (pY a),.int (pL a)]),.v (.tup [.int (pX b),.int (pY b),.int (pL b)]),.v (.tup [.int (pX p),.int (pY p),.int (pL p)]),.v (.int s),.v (.int F),.no,.no],fs]) (A7 (c7 rfl rfl pw) rfl) ?_;refine j5 (s1:=#[[.v (.tup [.int (pX a),.int (pY a),.int (pL a)]),.v (.tup [.int (pX b),.int (pY b),.int (pL b)]),.v (.tup [.int (pX p),.int (pY p),.int (pL p)]),.v (.int s),.v (.int F),.v (.int X),.no],fs]) (A7 (c7 (c7 (c7 rfl rfl rfl) (c7 rfl rfl rfl) m1) (c7 (c7 rfl rfl rfl) (c7 rfl rfl rfl) m2) (by rw[hX];rfl)) rfl) ?_;refine j5 (s1:=#[[.v (.tup [.int (pX a),.int (pY a),.int (pL a)]),.v (.tup [.int (pX b),.int (pY b),.int (pL b)]),.v (.tup [.int (pX p),.int (pY p),.int (pL p)]),.v (.int s),.v (.int F),.v (.int X),.v (.int Y)],fs]) (A7 (c7 (c7 (c7 rfl rfl rfl) (c7 rfl rfl rfl) m3) (c7 (c7 rfl rfl rfl) (c7 rfl rfl rfl) m4) (by rw[U];rfl)) rfl) ?_;exact v8 (bT (e6 (c7 (c7 (c7 rfl rfl rfl) rfl m5) (c7 (c7 rfl rfl m6) (c7 rfl rfl rfl) m7) rfl) (e6 (c7 (c7 (c7 rfl rfl rfl) rfl M) (c7 (c7 rfl rfl m9) (c7 rfl rfl rfl) n1) rfl) (e6 (c7 (c7 rfl rfl rfl) rfl W) rfl))) (by show 3<=sizeLine;decide))
end
def U7 (a b c d:Pt):Int:=cu a b*(pL c*pX d - pX c*pL d)+cC a b*(pL c*pY d - pY c*pL d)
def M9 (a b p:Pt) (s:Int) (e:Pt × Pt):Int:=pX e.1*(pY e.2*cf p - pL e.2*cA a b p s) - pY e.1*(pX e.2*cf p - pL e.2*cH a b p s)+pL e.1*(pX e.2*cA a b p s - pY e.2*cH a b p s)
theorem Dt (a b p:Pt) (s:Int) (e:Pt × Pt):M9 a b p s e=U8*O0 e.1 e.2 p+s*(pL p*U7 a b e.1 e.2):=by
 unfold M9 cH cA cf U7 O0;generalize U8=F;grind
theorem Fb (a b c d:Pt):((U7 a b c d:Int):Rat)=Y9 (p8 c d) (p8 a b)*((pL a:Rat)*pL b*pL c*pL d):=by
 unfold U7 cu cC Y9 p8;simp only[Mr,Ln,Kk,L3,L5];grind
section
variable {a b p:Pt}(ha:Ps 8 a) (hb:Ps 8 b) (hp:Ps 142 p)
include ha hb hp
theorem Cm {c d:Pt}(J:Ps 8 c) (B:Ps 8 d):(pL p*U7 a b c d).natAbs<2 ^ 180:=by
 obtain⟨Y,W⟩:=kh ha hb;have M:Bd 17 (pL c*pX d - pX c*pL d):=((J.l.mul B.x).sub (J.x.mul B.l)).mono #[];have U:Bd 17 (pL c*pY d - pY c*pL d):=((J.l.mul B.y).sub (J.y.mul B.l)).mono #[];have:Bd 180 (pL p*U7 a b c d):=(hp.l.mul ((Y.mul M).add (W.mul U))).mono #[];exact this
theorem qM {c d:Pt}(hc:Ps 8 c) (Y:Ps 8 d):0<=M9 a b p (-1) (c,d)↔0<a9 c d p\/(a9 c d p=0/\Y9 (p8 c d) (p8 a b)<=0):=by
 have e:=Dt a b p (-1) (c,d);have hk:=Cm ha hb hp hc Y;have J:=aX (gq c d p);have Z:=Fb a b c d;have M:=E8 a;have W:=E8 b;have U:=E8 c;have ld:=E8 d;have lp:=eu p;have fb:(2 ^ 180:Int)<U8:=by decide +kernel
 have B:0<(pL a:Rat)*pL b*pL c*pL d:=X1 (X1 (X1 M W) U) ld;have e:M9 a b p (-1) (c,d)=U8*O0 c d p - pL p*U7 a b c d:=by rw[e];grind
 have kn:U7 a b c d<=0↔Y9 (p8 c d) (p8 a b)<=0:=by
  rw[show U7 a b c d<=0↔((U7 a b c d:Int):Rat)<=0 from (by exact_mod_cast Iff.rfl),Z];constructor
  .intro h;refine Lc.mp fun z=>?_
   have:=Kj z B;grind
  .intro h;have:=Kx (show 0 <= -Y9 (p8 c d) (p8 a b) by grind) (Lo B);grind
 rw[e,<-J.2.2,<-J.2.1,<-kn];generalize O0 c d p=D at *;generalize U7 a b c d=K at *;generalize hF:U8=F at *;have h1:-(2 ^ 180:Int)<pL p*K/\pL p*K<2 ^ 180:=by
  have:((2 ^ 180:Nat):Int)=2 ^ 180:=by decide
  omega
 rcases(show D<0\/D=0\/0<D by omega) with q | q | q
 .have:F*D <= -F:=by
   have:=Oi (show D <= -1 by omega) (show 0<=F by omega);rw[Int.mul_neg,Int.mul_one] at this;exact this
  constructor
  .intro h;omega
  .rintro(h | h) <;> omega
 .rw[q,Int.mul_zero];constructor
  .intro h;refine .inr #[rfl,Int.not_lt.mp fun z=>?_];have:=Ou (show 0<pL p by omega) z;omega
  .rintro(h | h)
   .omega
   .have:=Og (show 0<=pL p by omega) (show 0 <= -K by omega);rw[Int.mul_neg] at this;omega
 .have:F<=F*D:=by
   have:=Oi (show 1<=D by omega) (show 0<=F by omega);rw[Int.mul_one] at this;exact this
  constructor
  .intro _;exact .inl q
  .intro _;omega
def K8 (a b p:Pt) (C:vT_):Bool:=decide (0<=Q9 ((d9 true C).map (M9 a b p (-1))))
theorem vR (hC:ShC C):K8 a b p C=true↔aN a b C p:=by
 have l:=G3 hC;have U:=uK hC.lo;have J:(0<=Q9 ((d9 true C).map (M9 a b p (-1))))↔∀e∈d9 true C,0<=M9 a b p (-1) e:=by
  have hm:=BW (is:=(d9 true C).map (M9 a b p (-1))) (by rw[xo];exact U);constructor
  .intro h e B;have:Q9 ((d9 true C).map (M9 a b p (-1)))<=M9 a b p (-1) e:=by
    have M:M9 a b p (-1) e∈(d9 true C).map (M9 a b p (-1)):=Kw.mpr #[e,B,rfl];generalize (d9 true C).map (M9 a b p (-1))=is at *;cases is with
    |nil=>cases M
    |cons i r=>
     show r.foldl min i<=_;have q:=(gF r i).2;rcases tx.mp M with z | z
     .rw[z];exact q.1
     .exact q.2 _ z
   omega
  .intro h;obtain⟨e,B,q⟩:=Kw.mp hm;rw[<-q];exact h e B
 unfold K8;rw[Lm,J];have ps:∀i,Ps 8 (tk C i):=fun i=>(hC.sz _ (C7 i l)).1
 constructor
 .intro h i;have W:(tk C i,tk C (i+1))∈d9 true C:=by
   have h:=ij (A:=C) (Li i l);have e:tk C (i % C.length+1)=tk C (i+1):=by unfold tk;rw[Om]
   rw[K7,e] at h;exact LM h
  exact(qM ha hb hp (ps i) (ps (i+1))).mp (h _ W)
 .intro h e B;obtain⟨i,_,rfl⟩:=eK B;exact(qM ha hb hp (ps i) (ps (i+1))).mpr (h i)
theorem ui (x0:Sl) (fs:vO_):∀es:List (Pt × Pt),(∀e∈es,Ps 8 e.1/\Ps 8 e.2)->B9 (X8 [1] [x0,.v (Y0 a b p (-1))]) D5 (d4 S4 (a0 (dV 0) (a0 (dV 1) (a0 (dV 2) b9)))) (es.map c8) fs=some ((es.map (M9 a b p (-1))).map DL.D.int,fs)
 |[],_=>rfl
 |e::r,h=>by
  obtain⟨h1,h2⟩:=h e (iR ..);obtain⟨J,U,M⟩:=EA ha hb hp (s:=-1) (Bd.lit #[]);have m:∀{q:Pt},Ps 8 q->Ps 350 q:=fun h=>h.mono #[]
  have w:S4 [pt e.1,pt e.2,Y0 a b p (-1)] fs=some (.int (M9 a b p (-1) e),fs):=qL (j:=350) #[] (m h1).x (m h1).y (m h1).l (m h2).x (m h2).y (m h2).l J U M fs;have i:=ui x0 fs r fun z B=>h z (td _ B)
  generalize Y0 a b p (-1)=T at *;rw[Ku,B9,show X8 [1] [x0,.v T] (c8 e)=some [.v (pt e.1),.v (pt e.2),.v T] from rfl,xr,show D5 #[[.v (pt e.1),.v (pt e.2),.v T],fs]=some (true,#[[.v (pt e.1),.v (pt e.2),.v T],fs]) from rfl,xr,gV rfl,o6 (e6 rfl (e6 rfl (e6 rfl rfl))) w,xr,i];rfl
theorem Be (hC:ShC C) (fs:vO_):gm [d7 C,Y0 a b p (-1)] fs=some (.bl (K8 a b p C),fs):=by
 have hi:=hC.hi;have M:=ku C fs ∅;have U:=uK hC.lo;have c:=ui ha hb hp (.v (d7 C)) fs (d9 true C) fun e B=>#[(aR hC e B).1,(aR hC e B).2.1]
 have J:=Fc (is:=(d9 true C).map (M9 a b p (-1))) (by rw[xo];exact U);have W:((d9 true C).map c8).length<=sizeLine:=by
  rw[xo];exact Kf (Kf (Z6 C) hi) #[]
 unfold K8;generalize Y0 a b p (-1)=T at *;refine u4 (s:=#[[.v (d7 C),.v T],fs]) ?_;show lY N2 S4 #[[.v (d7 C),.v T],fs]=_;unfold lY;have it:F6 (d4 N2 (a0 (dV 0) b9)) #[[.v (d7 C),.v T],fs]=some ((d9 true C).map c8,#[[.v (d7 C),.v T],fs]):=by
  unfold F6;rw[o6 rfl M];rfl
 exact v8 (c7 (af (e6 (kR (mB it W c)) rfl) J) rfl rfl)
theorem BX (hS:∀A∈Rs,ShC A) (hl:Rs.length<=50) (fs:vO_):T1 [.tup (Rs.map d7),Y0 a b p (-1)] fs=some (.bl (Rs.any (K8 a b p)),fs):=by
 have W:=fun A B=>Be ha hb hp (C:=A) B fs
 generalize Y0 a b p (-1)=T at *;have c:∀Rs:List (List Pt),(∀A∈Rs,ShC A)->B9 (fun d=>some (.v d::[.v T])) D5 (d4 gm (a0 (dV 0) (a0 (dV 1) b9))) (Rs.map d7) fs=some ((Rs.map (K8 a b p)).map D.bl,fs):=fun Rs=>by
  induction Rs with
  |nil=>exact fun _=>rfl
  |cons A r M=>
   intro h;have e:=W A (h A (iR ..));have i:=M fun z J=>h z (td _ J)
   rw[Ku,B9,xr,show D5 #[[.v (d7 A),.v T],fs]=some (true,#[[.v (d7 A),.v T],fs]) from rfl,xr,gV rfl,o6 rfl e,xr,i];rfl
 have t:=DY (Rs.map (K8 a b p));rw[List.any_map] at t;have U:(Rs.map d7).length<=sizeLine:=by rw[xo];exact Kf hl #[]
 have c:=c Rs hS;refine u4 (s:=#[[.v (.tup (Rs.map d7)),.v T],fs]) ?_;show mU gm #[[.v (.tup (Rs.map d7)),.v T],fs]=_;unfold mU;exact v8 (c7 rfl (kR (cF (idx:=[1]) (s1:=#[[.v (.tup (Rs.map d7)),.v T],fs]) rfl U c)) t)
end
def vg {f:DE}{lo hi:DO}{s B:DS}{ds:List DL.D}{l h:Option Int}(e:f s=some (.tup ds,s1)) (M:lo s1=some (l,s2)) (J:hi s2=some (h,B)):D8 f lo hi s=some (.tup (E4 ds l h),B):=by
 unfold D8;rw[e];show (lo s1).bind _=_;rw[M];show (hi s2).bind _=_;rw[J];rfl
abbrev V2:a8:=oU F5
abbrev vX:DM:=qU V2 T1 R5 T8 S6 U1 N2
abbrev sX:DM:=sY V2 T1 R5 T8 S6 U1 N2
abbrev sU:DM:=gy V2 T1 R5 T8 S6 U1 N2
abbrev uc:DM:=iZ V2 T1 R5 T8 S6 U1 N2
abbrev Ex:DM:=gw V2 T1 R5 T8 S6 U1 N2
abbrev dG:a8:=wV V2 T1 R5 T8 S6 U1 N2
def HJ {s:DS}{ds ds0 es:List DL.D}(B:s.sl[i]? = some (.own ds0)) (h:f s=some ([.lst es],s1)) (h1:s1.sl[i]? = some (.own ds)) (hl:ds.length+es.length<=sizeLine):eE i f s=some (.next,{ s1 with sl:=s1.sl.set i (.own (ds++es)) }):=by
 unfold eE R3;simp[B,h,lr,h1,hl]
def uD (a b c d:Pt):(N0 a b c d).length<=2:=by
 unfold N0;split
 .exact Kf (Ny ..) (iU _)
 .split
  .simp
  .split <;> simp
def P5 (a b:Pt) (es:List (Pt × Pt)):List Pt:=es.flatMap fun e=>N0 a b e.1 e.2
def M5 (a b:Pt) (Rs:List (List Pt)):List Pt:=Rs.flatMap fun C=>P5 a b (d9 true C)
theorem lN (a b:Pt):∀es:List (Pt × Pt),(P5 a b es).length<=2*es.length
 |[]=>iU _
 |e::r=>by
  have h1:=lN a b r;have h2:=uD a b e.1 e.2;rw[show P5 a b (e::r)=N0 a b e.1 e.2++P5 a b r by unfold P5;rw[LJ],Km,Kh];omega
theorem ke (a b:Pt):∀Rs:List (List Pt),(∀C∈Rs,ShC C)->(M5 a b Rs).length<=12*Rs.length
 |[],_=>iU _
 |C::r,h=>by
  have h1:=ke a b r fun z B=>h z (td _ B)
  have h2:=lN a b (d9 true C);have J:=Z6 C;have h4:=(h C (iR ..)).hi;rw[show M5 a b (C::r)=P5 a b (d9 true C)++M5 a b r by unfold M5;rw[LJ],Km,Kh];omega
def Dr {a b:Pt}(ha:Ps 8 a) (hb:Ps 8 b) (h:∀C∈Rs,ShC C):∀p∈M5 a b Rs,Ps 70 p:=fun p hp=>by
 obtain⟨C,hC,q⟩:=Lz.mp hp;exact fy ha hb (h C hC) p ((ae (h C hC)).mpr ((dQ (h C hC) p).mp q).1)
abbrev B1 (S:DL.D) (F:List (Pt × Pt)) (x2:Sl) (Rs:List (List Pt)) (a b:Pt) (x6 x7 x8 x9 x10 x11 x12:Sl) (fs:vO_):DS:=#[[.v S,.own (F.map c8),x2,.v (.tup (Rs.map d7)),.v (pt a),.v (pt b),x6,x7,x8,x9,x10,x11,x12],fs]
section
variable {a b:Pt}(ha:Ps 8 a) (hb:Ps 8 b) (fs:vO_) (S:DL.D) (F:List (Pt × Pt)) (Rs:List (List Pt)) (x2 x10 x11 x12:Sl)
include ha hb
theorem um (x7:Sl):∀(es:List (Pt × Pt)) (M:vT_) (x8 x9:Sl),(∀e∈es,Ps 8 e.1/\Ps 8 e.2)->M.length+2*es.length<=1000 ->
  ∃y8 y9,u6 (t6 2 (k6 (d5 8) (k6 (d5 9) u3))) vX (es.map c8) (B1 S F x2 Rs a b (.own (M.map pt)) x7 x8 x9 x10 x11 x12 fs)=some (.next,B1 S F x2 Rs a b (.own ((M++P5 a b es).map pt)) x7 y8 y9 x10 x11 x12 fs)
 |[],M,x8,x9,_,_=>#[x8,x9,by unfold P5;rw[Pp,Ls];rfl]
 |e::r,M,x8,x9,h,hl=>by
  simp only[Kh] at hl;obtain⟨h1,h2⟩:=h e (iR ..);have m:=AV ha hb h1 h2 fs;have l2:=uD a b e.1 e.2;have t:vX (B1 S F x2 Rs a b (.own (M.map pt)) x7 (.v (pt e.1)) (.v (pt e.2)) x10 x11 x12 fs)=some (.next,B1 S F x2 Rs a b (.own ((M++N0 a b e.1 e.2).map pt)) x7 (.v (pt e.1)) (.v (pt e.2)) x10 x11 x12 fs):=by
   refine(HJ (i:=6) (ds0:=M.map pt) (ds:=M.map pt) (es:=(N0 a b e.1 e.2).map pt) (s1:=B1 S F x2 Rs a b (.own (M.map pt)) x7 (.v (pt e.1)) (.v (pt e.2)) x10 x11 x12 fs) rfl (e6 (o6 (e6 rfl (e6 rfl (e6 rfl (e6 rfl rfl)))) m) rfl) rfl (by rw[xo,xo];exact Kf (show M.length+(N0 a b e.1 e.2).length<=1000 by omega) #[])).trans ?_;rw[<-Lh];rfl
  obtain⟨y8,y9,f⟩:=um x7 r (M++N0 a b e.1 e.2) (.v (pt e.1)) (.v (pt e.2)) (fun z B=>h z (td _ B)) (by rw[Km];omega);refine#[y8,y9,(M3 rfl t).trans (f.trans ?_)];rw[show P5 a b (e::r)=N0 a b e.1 e.2++P5 a b r by unfold P5;rw[LJ],Mv]
theorem vZ:∀(Qs:List (List Pt)) (M:vT_) (x7 x8 x9:Sl),(∀C∈Qs,ShC C)->M.length+12*Qs.length<=1000 ->
  ∃y7 y8 y9,u6 (d5 7) sX (Qs.map d7) (B1 S F x2 Rs a b (.own (M.map pt)) x7 x8 x9 x10 x11 x12 fs)=some (.next,B1 S F x2 Rs a b (.own ((M++M5 a b Qs).map pt)) y7 y8 y9 x10 x11 x12 fs)
 |[],M,x7,x8,x9,_,_=>#[x7,x8,x9,by unfold M5;rw[Pp,Ls];rfl]
 |C::r,M,x7,x8,x9,h,hl=>by
  simp only[Kh] at hl;have hC:=h C (iR ..);have c6:=hC.hi;have nl:=Z6 C;have el:=lN a b (d9 true C);have W:=ku C fs ∅;obtain⟨y8,y9,f⟩:=um ha hb fs S F Rs x2 x10 x11 x12 (.v (d7 C)) (d9 true C) M x8 x9 (fun e B=>#[(aR hC e B).1,(aR hC e B).2.1]) ∅;have t:sX (B1 S F x2 Rs a b (.own (M.map pt)) (.v (d7 C)) x8 x9 x10 x11 x12 fs)=some (.next,B1 S F x2 Rs a b (.own ((M++P5 a b (d9 true C)).map pt)) (.v (d7 C)) y8 y9 x10 x11 x12 fs):=(U3 (ds:=(d9 true C).map c8) (s1:=B1 S F x2 Rs a b (.own (M.map pt)) (.v (d7 C)) x8 x9 x10 x11 x12 fs) (o6 (e6 rfl rfl) W)).trans f;obtain⟨Z,U,Y,g⟩:=vZ r (M++P5 a b (d9 true C)) (.v (d7 C)) y8 y9 (fun z J=>h z (td _ J)) (by rw[Km];omega);refine#[Z,U,Y,(M3 rfl t).trans (g.trans ?_)];rw[show M5 a b (C::r)=P5 a b (d9 true C)++M5 a b r by unfold M5;rw[LJ],Mv]
end
def R8 (a b:Pt) (Rs:List (List Pt)) (F:List (Pt × Pt)) (u:Pt × Pt):List (Pt × Pt):=if (!(Rs.any (K8 a b (E5 u.1 u.2))))=true/\u ∉ F then F++[u] else F
def aF (a b:Pt) (Rs:List (List Pt)):List (Pt × Pt)->List (Pt × Pt)->List (Pt × Pt)
 |[],F=>F
 |u::r,F=>aF a b Rs r (R8 a b Rs F u)
def jU {u:Pt × Pt}(h1:Ps 70 u.1) (h2:Ps 70 u.2):Ok 2 8 (c8 u):=(Ok.tup (OkL.cons (Ok.pt h1 #[]) (OkL.cons (Ok.pt h2 #[]) OkL.nil))).mono #[] #[]
section
variable {a b:Pt}(ha:Ps 8 a) (hb:Ps 8 b) (fs:vO_) (S:DL.D) (hR:∀C∈Rs,ShC C) (hl:Rs.length<=50) (x2 x6 x7 x8 x9:Sl)
include ha hb hR hl
theorem Jz {F:List (Pt × Pt)}(Z:∀u∈F,Ps 70 u.1/\Ps 70 u.2) (lF:F.length<=1500) {u:Pt × Pt}(h1:Ps 70 u.1) (h2:Ps 70 u.2) (x12:Sl) :
  ∃y12,sU (B1 S F x2 Rs a b x6 x7 x8 x9 (.v (pt u.1)) (.v (pt u.2)) x12 fs)=some (.next,B1 S (R8 a b Rs F u) x2 Rs a b x6 x7 x8 x9 (.v (pt u.1)) (.v (pt u.2)) y12 fs):=by
 obtain⟨m1,m2⟩:=pk h1 h2 #[] fs;have be:=Gf ha hb m2 (s:=-1) (Bd.lit #[]) fs;have ar:=BX ha hb m2 hR hl fs;have ni:=ua (en:=c8) (k:=2) (n:=8) #[] GV (jU h1 h2) (L:=F) fun y W=>jU (Z y W).1 (Z y W).2
 generalize hT:Y0 a b (E5 u.1 u.2) (-1)=T at *;refine#[.v T,?_];show gy V2 T1 R5 T8 S6 U1 N2 _=_;unfold gy;have g1:f7 (d4 R5 (a0 (dV 4) (a0 (dV 5) (a0 (d4 T8 (a0 (dV 10) (a0 (dV 11) b9))) (a0 (t9 u5 (k0 1)) b9))))) (d5 12) (B1 S F x2 Rs a b x6 x7 x8 x9 (.v (pt u.1)) (.v (pt u.2)) x12 fs)=some (.next,B1 S F x2 Rs a b x6 x7 x8 x9 (.v (pt u.1)) (.v (pt u.2)) (.v T) fs):=A7 (o6 (e6 rfl (e6 rfl (e6 (o6 (e6 rfl (e6 rfl rfl)) m1) (e6 rfl rfl)))) be) rfl;have B:u9 (j8 (d4 T1 (a0 (dV 3) (a0 (dV 12) b9)))) (B1 S F x2 Rs a b x6 x7 x8 x9 (.v (pt u.1)) (.v (pt u.2)) (.v T) fs)=some (!(Rs.any (K8 a b (E5 u.1 u.2))),B1 S F x2 Rs a b x6 x7 x8 x9 (.v (pt u.1)) (.v (pt u.2)) (.v T) fs):=fG (O9 (o6 (e6 rfl (e6 rfl rfl)) ar));have Y:f9 (a0 (dV 10) (a0 (dV 11) b9)) (B1 S F x2 Rs a b x6 x7 x8 x9 (.v (pt u.1)) (.v (pt u.2)) (.v T) fs)=some (c8 u,B1 S F x2 Rs a b x6 x7 x8 x9 (.v (pt u.1)) (.v (pt u.2)) (.v T) fs):=bT (e6 rfl (e6 rfl rfl)) (by show 2<=sizeLine;decide);have M:dB (a7 cD (f9 (a0 (dV 10) (a0 (dV 11) b9))) (dL 1)) (B1 S F x2 Rs a b x6 x7 x8 x9 (.v (pt u.1)) (.v (pt u.2)) (.v T) fs)=some (!decide (u∈F),B1 S F x2 Rs a b x6 x7 x8 x9 (.v (pt u.1)) (.v (pt u.2)) (.v T) fs):=C4 (c7 Y rfl ni);refine j5 g1 ?_;unfold R8;by_cases U:(!(Rs.any (K8 a b (E5 u.1 u.2))))=true
 .rw[U] at B;by_cases J:u∈F
  .rw[Kp J] at M;rw[J0 (Q1 B M),fI (fun z=>z.2 J)];rfl
  .rw[KC J] at M;rw[M6 (Q1 B M),gV #[U,J]];refine(V4 (i:=1) (ds0:=F.map c8) (ds:=F.map c8) (d:=c8 u) (s1:=B1 S F x2 Rs a b x6 x7 x8 x9 (.v (pt u.1)) (.v (pt u.2)) (.v T) fs) rfl Y rfl (by rw[xo];exact KU lF #[])).trans ?_;rw[show F.map c8++[c8 u]=(F++[u]).map c8 by rw[Lh];rfl];rfl
 .rw[LQ.mpr U] at B;rw[J0 (Z9 B),fI (fun z=>U z.1)];rfl
theorem uo:∀(us F:List (Pt × Pt)) (x10 x11 x12:Sl),(∀u∈us,Ps 70 u.1/\Ps 70 u.2)->(∀u∈F,Ps 70 u.1/\Ps 70 u.2)->F.length+us.length<=1500 ->
  ∃y10 y11 y12,u6 (t6 2 (k6 (d5 10) (k6 (d5 11) u3))) sU (us.map c8) (B1 S F x2 Rs a b x6 x7 x8 x9 x10 x11 x12 fs)=some (.next,B1 S (aF a b Rs us F) x2 Rs a b x6 x7 x8 x9 y10 y11 y12 fs)
 |[],F,x10,x11,x12,_,_,_=>#[x10,x11,x12,rfl]
 |u::r,F,x10,x11,x12,hu,hF,hl'=>by
  simp only[Kh] at hl';obtain⟨h1,h2⟩:=hu u (iR ..);obtain⟨y12,t⟩:=Jz ha hb fs S hR hl x2 x6 x7 x8 x9 hF ∅ h1 h2 x12;have W:(R8 a b Rs F u).length<=F.length+1:=by
   unfold R8;split
   .rw[Km];simp
   .omega
  obtain⟨U,M,J,f⟩:=uo r (R8 a b Rs F u) (.v (pt u.1)) (.v (pt u.2)) y12 (fun z B=>hu z (td _ B)) (fun z B=>by
   unfold R8 at B;split at B
   .rcases KD.mp B with q | q
    .exact hF z q
    .rw[KI] at q;rw[q];exact#[h1,h2]
   .exact hF z B) ∅
  exact#[U,M,J,(M3 rfl t).trans f]
end
def Am {t:D->DS->Option DS}{b:DM}{s:DS}{xs ys:List DL.D}(h:f s=some ([.lst xs,.lst ys],s1)):bj f t b s=u6 t b (List.zipWith M7 xs ys) s1:=by
 unfold bj;rw[h];rfl
theorem qu:∀(xs ys:vT_),List.zipWith M7 (xs.map pt) (ys.map pt)=(xs.zip ys).map c8
 |[],_=>rfl
 |_::_,[]=>rfl
 |x::xs,y::ys=>by
  show M7 (pt x) (pt y)::List.zipWith M7 (xs.map pt) (ys.map pt)=_;rw[qu xs ys];rfl
def W4 (a b:Pt) (Rs:List (List Pt)):List Pt:=K2 ([a,b]++M5 a b Rs) []
def D2 (a b:Pt) (Rs:List (List Pt)):List Pt:=if f6 a b then W4 a b Rs else (W4 a b Rs).reverse
def aJ (Rs:List (List Pt)) (F:List (Pt × Pt)) (e:Pt × Pt):List (Pt × Pt):=aF e.1 e.2 Rs (d9 false (D2 e.1 e.2 Rs)) F
def Y1 (Rs:List (List Pt)):List (Pt × Pt)->List (Pt × Pt)->List (Pt × Pt)
 |[],F=>F
 |e::r,F=>Y1 Rs r (aJ Rs F e)
theorem sD (a b:Pt) (Rs:List (List Pt)):∀us F:List (Pt × Pt),(aF a b Rs us F).length<=F.length+us.length
 |[],F=>iU _
 |u::r,F=>by
  have h:=sD a b Rs r (R8 a b Rs F u);have B:(R8 a b Rs F u).length<=F.length+1:=by
   unfold R8;split
   .rw[Km];simp
   .omega
  unfold aF;simp only[Kh];omega
theorem jL (a b:Pt) (Rs:List (List Pt)):∀(us F:List (Pt × Pt)) (u:Pt × Pt),u∈aF a b Rs us F↔u∈F\/(u∈us/\Rs.any (K8 a b (E5 u.1 u.2))=false)
 |[],F,u=>#[.inl,fun h=>h.elim id fun h=>nomatch h.1]
 |w::r,F,u=>by
  have m:u∈R8 a b Rs F w↔u∈F\/(u=w/\Rs.any (K8 a b (E5 w.1 w.2))=false):=by
   unfold R8;split
   .next h=>
    rw[KD,KI];have:=h.1;simp only[Lx] at this;exact#[fun q=>q.imp id fun e=>#[e,this],fun q=>q.imp id And.left]
   .next h=>
    refine#[.inl,fun q=>q.elim id fun ⟨e,z⟩=>?_];subst e;refine MK fun n=>h #[by rw[z];rfl,n]
  unfold aF;rw[jL a b Rs r,m,tx];constructor
  .rintro((h | ⟨rfl,h⟩) | ⟨h,z⟩)
   .exact .inl h
   .exact .inr #[.inl rfl,h]
   .exact .inr #[.inr h,z]
  .rintro(h | ⟨rfl | h,z⟩)
   .exact .inl (.inl h)
   .exact .inl (.inr #[rfl,z])
   .exact .inr #[h,z]
theorem xw (a b:Pt) (Rs:List (List Pt)):∀us F:List (Pt × Pt),F.Nodup->(aF a b Rs us F).Nodup
 |[],F,h=>h
 |u::r,F,h=>by
  refine xw a b Rs r _ ?_;unfold R8;split
  .next q=>
   refine Nf.mpr #[h,by simp,fun x J y B=>?_];simp at B;subst B;exact fun e=>q.2 (e▸J)
  .exact h
def pR {a b:Pt}(hR:∀C∈Rs,ShC C) (hl:Rs.length<=3):(D2 a b Rs).length<=38:=by
 have h1:=lJ ([a,b]++M5 a b Rs) [];have h2:=ke a b Rs hR;have B:(W4 a b Rs).length<=38:=by
  unfold W4;simp only[Km,Kh,Lg] at h1;omega
 unfold D2;split
 .exact B
 .rw[OU];exact B
def uH {a b:Pt}(ha:Ps 8 a) (hb:Ps 8 b) (hR:∀C∈Rs,ShC C):∀p∈[a,b]++M5 a b Rs,Ps 70 p:=fun p hp=>by
 rcases KD.mp hp with q | q
 .rcases tx.mp q with rfl | q
  .exact ha.mono #[]
  .rw[KI] at q;subst q;exact hb.mono #[]
 .exact Dr ha hb hR p q
def vJ {a b:Pt}(ha:Ps 8 a) (hb:Ps 8 b) (hR:∀C∈Rs,ShC C):∀p∈D2 a b Rs,Ps 70 p:=fun p hp=>by
 have h:p∈W4 a b Rs:=by
  unfold D2 at hp;split at hp
  .exact hp
  .exact List.mem_reverse.mp hp
 unfold W4 at h;rcases(fH _ _ _).mp h with q | q
 .cases q
 .exact uH ha hb hR p q
def rW {l:vT_}(h:∀p∈l,Ps 70 p):∀u∈d9 false l,Ps 70 u.1/\Ps 70 u.2:=fun u B=>by
 unfold d9 at B;rw[fI (by simp)] at B;exact#[h _ (LL B).1,h _ (Mo (LL B).2)]
section
variable (fs:vO_) (S:DL.D) (hR:∀C∈Rs,ShC C) (hl:Rs.length<=3) (x2:Sl)
include hR hl
theorem AW {a b:Pt}(ha:Ps 8 a) (hb:Ps 8 b) {F:List (Pt × Pt)}(M:∀u∈F,Ps 70 u.1/\Ps 70 u.2) (lF:F.length<=1400) (x6 x7 x8 x9 x10 x11 x12:Sl) :
  ∃y6 y7 y8 y9 y10 y11 y12,uc (B1 S F x2 Rs a b x6 x7 x8 x9 x10 x11 x12 fs)=some (.next,B1 S (aJ Rs F (a,b)) x2 Rs a b y6 y7 y8 y9 y10 y11 y12 fs):=by
 have ll:=ke a b Rs hR;have J:=uH ha hb hR;have Y:=vJ ha hb hR;have rl:=pR (a:=a) (b:=b) hR hl;have pr:=EL (k:=70) #[] fs (ha.mono #[]) (hb.mono #[]) J (by simp only[Km,Kh,Lg];omega);have B:(if f6 a b then K2 ([a,b]++M5 a b Rs) [] else (K2 ([a,b]++M5 a b Rs) []).reverse)=D2 a b Rs:=rfl;rw[B] at pr;obtain⟨y7,y8,y9,f⟩:=vZ ha hb fs S F Rs x2 x10 x11 x12 Rs [a,b] x7 x8 x9 hR (by simp only[Kh,Lg];omega);have Z:(d9 false (D2 a b Rs)).length<=38:=by
  unfold d9;rw[fI (by simp),Mc];omega
 obtain⟨y10,y11,y12,g⟩:=uo ha hb fs S hR ∅ x2 (.v (.lst ((D2 a b Rs).map pt))) y7 y8 y9 (d9 false (D2 a b Rs)) F x10 x11 x12 (rW Y) M ∅;refine#[.v (.lst ((D2 a b Rs).map pt)),y7,y8,y9,y10,y11,y12,?_];show iZ V2 T1 R5 T8 S6 U1 N2 _=_;unfold iZ;have U:C1 6 (r8 (a0 (dV 4) (a0 (dV 5) b9))) (B1 S F x2 Rs a b x6 x7 x8 x9 x10 x11 x12 fs)=some (.next,B1 S F x2 Rs a b (.own ([a,b].map pt)) x7 x8 x9 x10 x11 x12 fs):=Q2 (i:=6) (s1:=B1 S F x2 Rs a b x6 x7 x8 x9 x10 x11 x12 fs) (ds:=[a,b].map pt) rfl (by show 6<13;decide);have W:f7 (d4 S6 (a0 (dV 4) (a0 (dV 5) (a0 (dV 6) b9)))) (d5 6) (B1 S F x2 Rs a b (.own (([a,b]++M5 a b Rs).map pt)) y7 y8 y9 x10 x11 x12 fs)=some (.next,B1 S F x2 Rs a b (.v (.lst ((D2 a b Rs).map pt))) y7 y8 y9 x10 x11 x12 fs):=A7 (cc (xs:=[pt a,pt b,.lst (([a,b]++M5 a b Rs).map pt)]) rfl pr) rfl;have sl:D8 (dL 6) (K1 (k0 1)) K0 (B1 S F x2 Rs a b (.v (.lst ((D2 a b Rs).map pt))) y7 y8 y9 x10 x11 x12 fs)=some (.lst (((D2 a b Rs).drop 1).map pt),B1 S F x2 Rs a b (.v (.lst ((D2 a b Rs).map pt))) y7 y8 y9 x10 x11 x12 fs):=by
  rw[LI,<-jN];exact gb (ds:=(D2 a b Rs).map pt) rfl (l:=some ((1:Nat):Int)) rfl (h:=none) rfl
 refine j5 U (j5 ((eU (ds:=Rs.map d7) rfl).trans f) (j5 W ((Am (xs:=(D2 a b Rs).map pt) (ys:=((D2 a b Rs).drop 1).map pt) (e6 rfl (e6 sl rfl))).trans ?_)));rw[qu,show (D2 a b Rs).zip ((D2 a b Rs).drop 1)=d9 false (D2 a b Rs) by unfold d9;rw[fI (by simp)]];exact g
theorem zX (B:∀u∈F,Ps 70 u.1/\Ps 70 u.2) {e:Pt × Pt}(h1:Ps 8 e.1) (h2:Ps 8 e.2):∀u∈aJ Rs F e,Ps 70 u.1/\Ps 70 u.2:=fun u J=>by
 rcases(jL _ _ _ _ _ _).mp J with q | q
 .exact B u q
 .exact rW (vJ h1 h2 hR) u q.1
theorem zD {F:List (Pt × Pt)}{e:Pt × Pt}:(aJ Rs F e).length<=F.length+38:=by
 have h1:=sD e.1 e.2 Rs (d9 false (D2 e.1 e.2 Rs)) F;have h2:=pR (a:=e.1) (b:=e.2) hR hl;have B:(d9 false (D2 e.1 e.2 Rs)).length<=38:=by
  unfold d9;rw[fI (by simp),Mc];omega
 unfold aJ;omega
abbrev gS (S:DL.D) (F:List (Pt × Pt)) (x2:Sl) (Rs:List (List Pt)) (x4 x5 x6 x7 x8 x9 x10 x11 x12:Sl) (fs:vO_):DS:=#[[.v S,.own (F.map c8),x2,.v (.tup (Rs.map d7)),x4,x5,x6,x7,x8,x9,x10,x11,x12],fs]
theorem tF:∀(es F:List (Pt × Pt)) (x4 x5 x6 x7 x8 x9 x10 x11 x12:Sl),(∀e∈es,Ps 8 e.1/\Ps 8 e.2)->(∀u∈F,Ps 70 u.1/\Ps 70 u.2)->F.length+38*es.length<=1400 ->
  ∃y4 y5 y6 y7 y8 y9 y10 y11 y12,u6 (t6 2 (k6 (d5 4) (k6 (d5 5) u3))) uc (es.map c8) (gS S F x2 Rs x4 x5 x6 x7 x8 x9 x10 x11 x12 fs)=some (.next,gS S (Y1 Rs es F) x2 Rs y4 y5 y6 y7 y8 y9 y10 y11 y12 fs)/\(∀u∈Y1 Rs es F,Ps 70 u.1/\Ps 70 u.2)/\(Y1 Rs es F).length<=F.length+38*es.length
 |[],F,x4,x5,x6,x7,x8,x9,x10,x11,x12,_,hF,_=>#[x4,x5,x6,x7,x8,x9,x10,x11,x12,rfl,hF,iU _]
 |e::r,F,x4,x5,x6,x7,x8,x9,x10,x11,x12,he,hF,lF=>by
  simp only[Kh] at lF;obtain⟨h1,h2⟩:=he e (iR ..);obtain⟨y6,y7,y8,y9,y10,y11,y12,t⟩:=AW fs S hR hl x2 h1 h2 hF ∅ x6 x7 x8 x9 x10 x11 x12;have ln:=zD hR hl (F:=F) (e:=e);obtain⟨z4,z5,U,z7,z8,W,M,J,B,g,Z,g3⟩:=tF r (aJ Rs F e) (.v (pt e.1)) (.v (pt e.2)) y6 y7 y8 y9 y10 y11 y12 (fun z Y=>he z (td _ Y)) (zX hR hl hF h1 h2) ∅;refine#[z4,z5,U,z7,z8,W,M,J,B,(M3 rfl t).trans g,Z,?_];simp only[Kh];show (Y1 Rs r (aJ Rs F e)).length<=_;omega
end
def yX {a b:DT}{s:DS}{r:Option (Bool × DS)}(h1:a s=some (false,s1)) (h2:b s1=r):A3 a b s=r:=by
 unfold A3;rw[h1];exact h2
def W6:List (Pt × Pt)->List (Pt × Pt)->List (Pt × Pt)
 |[],F=>F
 |u::r,F=>W6 r (J3 A9 F u)
theorem oY:∀(us F:List (Pt × Pt)) (u:Pt × Pt),u∈W6 us F↔u∈F\/u∈us
 |[],F,u=>#[.inl,fun h=>h.elim id fun h=>nomatch h]
 |w::r,F,u=>by
  unfold W6;rw[oY r,fD,tx,or_assoc]
theorem uy:∀(us F:List (Pt × Pt)),us.Nodup->M0 A9 F->(∀u∈us,u ∉ F)->M0 A9 (W6 us F)
 |[],F,_,h,_=>h
 |w::r,F,nd,h,n=>by
  obtain⟨M,J⟩:=Kz.mp nd;unfold W6;refine uy r _ J (rG mf h (n w (iR ..))) fun u B q=>?_
  rcases(fD _ _ _ _).mp q with q | q
  .exact n u (td _ B) q
  .exact M (q▸B)
section
variable (fs:vO_) (x0:Sl)
abbrev Z4 (x0:Sl) (F:List (Pt × Pt)) (x2 x3 x4:Sl) (fs:vO_):DS:=#[[x0,.own (F.map c8),x2,x3,x4],fs]
def BS {F:List (Pt × Pt)}{u:Pt × Pt}(h1:Ps 70 u.1) (h2:Ps 70 u.2) (hF:∀z∈F,Ps 70 z.1/\Ps 70 z.2) (hl:F.length<=2000) (x4:Sl) :
  ∃y4,iw F5 (Z4 x0 F (.v (pt u.1)) (.v (pt u.2)) x4 fs)=some (.next,Z4 x0 (J3 A9 F u) (.v (pt u.1)) (.v (pt u.2)) y4 fs):=by
 have J:∀z∈F,A3 (j8 (d4 F5 (a0 (Qn 0 0) (a0 (dV 1) b9)))) (r0 (dB (a7 B3 (Qn 0 0) (dL 1))) (j8 (d4 F5 (a0 (Qn 0 1) (a0 (dV 2) b9))))) #[.v (c8 z)::[.v (pt u.1),.v (pt u.2)],fs]=some (A9 z u,#[.v (c8 z)::[.v (pt u.1),.v (pt u.2)],fs]):=fun z hz=>by
  obtain⟨Z,z2⟩:=hF z hz;have w1:=W8 z.1 u.1 fs Z h1 #[];have w2:=W8 z.2 u.2 fs z2 h2 #[];have e1:=qS Z h1;have B:j8 (d4 F5 (a0 (Qn 0 0) (a0 (dV 1) b9))) #[.v (c8 z)::[.v (pt u.1),.v (pt u.2)],fs]=some (f6 z.1 u.1,#[.v (c8 z)::[.v (pt u.1),.v (pt u.2)],fs]):=O9 (o6 (e6 (c7 rfl rfl rfl) (e6 rfl rfl)) w1);have M:dB (a7 B3 (Qn 0 0) (dL 1)) #[.v (c8 z)::[.v (pt u.1),.v (pt u.2)],fs]=some (decide (z.1=u.1),#[.v (c8 z)::[.v (pt u.1),.v (pt u.2)],fs]):=C4 (c7 (c7 rfl rfl rfl) rfl e1);have W:j8 (d4 F5 (a0 (Qn 0 1) (a0 (dV 2) b9))) #[.v (c8 z)::[.v (pt u.1),.v (pt u.2)],fs]=some (f6 z.2 u.2,#[.v (c8 z)::[.v (pt u.1),.v (pt u.2)],fs]):=O9 (o6 (e6 (c7 rfl rfl rfl) (e6 rfl rfl)) w2);unfold A9;by_cases U:z.1=u.1
  .have nl:f6 z.1 u.1=false:=by rw[U];exact lsB_ord.irr _
   rw[nl] at B;rw[Kp U] at M;rw[gV U];have r:(if z.2=u.2 then false else f6 z.2 u.2)=f6 z.2 u.2:=by
    by_cases Y:z.2=u.2
    .rw[gV Y,Y];exact(lsB_ord.irr _).symm
    .rw[fI Y]
   rw[r];cases q:f6 z.2 u.2 with
   |false=>rw[q] at W;exact iT B (Q1 M W)
   |true=>
    rw[q] at W;exact yX B (Q1 M W)
  .rw[fI U];rw[KC U] at M;cases q:f6 z.1 u.1 with
   |false=>rw[q] at B;exact iT B (Z9 M)
   |true=>rw[q] at B;exact zW B
 have fr:=eC (caps:=[.v (pt u.1),.v (pt u.2)]) fs c8 (fun z=>A9 z u) F J;have lF:(F.filter fun z=>A9 z u).length<=F.length:=Ny ..;refine#[.own ((F.filter fun z=>A9 z u).map c8),?_];unfold iw;refine j5 (s1:=Z4 x0 F (.v (pt u.1)) (.v (pt u.2)) (.own ((F.filter fun z=>A9 z u).map c8)) fs) (Q2 (i:=4) (s1:=Z4 x0 F (.v (pt u.1)) (.v (pt u.2)) x4 fs) (ds:=(F.filter fun z=>A9 z u).map c8) (cF (idx:=[2,3]) (s1:=Z4 x0 F (.v (pt u.1)) (.v (pt u.2)) x4 fs) (ds:=F.map c8) rfl (by rw[xo];exact Kf hl #[]) fr) (by show 4<5;decide)) ?_;have ln:one l7 [.lst ((F.filter fun z=>A9 z u).map c8)]=some (.int ((F.filter fun z=>A9 z u).length:Int)):=by
  show some (D.int (((F.filter fun z=>A9 z u).map c8).length:Int))=_;rw[xo]
 have em:(J3 A9 F u).map c8=(F.map c8).take (F.filter fun z=>A9 z u).length++c8 u::(F.map c8).drop (F.filter fun z=>A9 z u).length:=by
  unfold J3;rw[Lh,Ku,MP,LI]
 refine(qA (k:=(F.filter fun z=>A9 z u).length) (ds0:=F.map c8) (ds:=F.map c8) (d:=c8 u) (s1:=Z4 x0 F (.v (pt u.1)) (.v (pt u.2)) (.own ((F.filter fun z=>A9 z u).map c8)) fs) rfl (e6 (af (e6 rfl rfl) ln) (e6 (bT (e6 rfl (e6 rfl rfl)) (by show 2<=sizeLine;decide)) rfl)) rfl (by rw[xo];exact lF) (by rw[xo];exact KU hl #[])).trans ?_;show _=some (Fl.next,(#[[x0,.own ((J3 A9 F u).map c8),.v (pt u.1),.v (pt u.2),.own ((F.filter fun z=>A9 z u).map c8)],fs]:DS));rw[em];rfl
theorem wH:∀(us F:List (Pt × Pt)) (x2 x3 x4:Sl),(∀u∈us,Ps 70 u.1/\Ps 70 u.2)->(∀z∈F,Ps 70 z.1/\Ps 70 z.2)->F.length+us.length<=2000 ->
  ∃y2 y3 y4,u6 (t6 2 (k6 (d5 2) (k6 (d5 3) u3))) (iw F5) (us.map c8) (Z4 x0 F x2 x3 x4 fs)=some (.next,Z4 x0 (W6 us F) y2 y3 y4 fs)
 |[],F,x2,x3,x4,_,_,_=>#[x2,x3,x4,rfl]
 |u::r,F,x2,x3,x4,hu,hF,hl=>by
  simp only[Kh] at hl;obtain⟨h1,h2⟩:=hu u (iR ..);obtain⟨y4,t⟩:=BS fs x0 h1 h2 hF ∅ x4;obtain⟨J,M,U,f⟩:=wH r (J3 A9 F u) (.v (pt u.1)) (.v (pt u.2)) y4 (fun z B=>hu z (td _ B)) (fun z B=>by
   rcases(fD _ _ _ _).mp B with q | q
   .exact hF z q
   .rw[q];exact#[h1,h2]) (by rw[kM];omega)
  exact#[J,M,U,(M3 rfl t).trans f]
def GN {us:List (Pt × Pt)}(U:∀u∈us,Ps 70 u.1/\Ps 70 u.2) (hl:us.length<=2000):V2 [.lst (us.map c8)] fs=some (.lst ((W6 us []).map c8),fs):=by
 obtain⟨M,B,J,e⟩:=wH fs (.v (.lst (us.map c8))) us [] .no .no .no U (fun _ h=>nomatch h) (by simpa using hl);refine u4 (s:=#[[.v (.lst (us.map c8)),.v (.lst ((W6 us []).map c8)),M,B,J],fs]) ?_;show lR F5 #[[.v (.lst (us.map c8)),.no,.no,.no,.no],fs]=_;unfold lR;refine j5 (s1:=Z4 (.v (.lst (us.map c8))) [] .no .no .no fs) (Q2 (i:=1) (s1:=#[[.v (.lst (us.map c8)),.no,.no,.no,.no],fs]) (ds:=[]) rfl (by show 1<5;decide)) ?_;exact j5 ((U3 (ds:=us.map c8) rfl).trans e) (v8 rfl)
end
def D9 (Ss:List (List Pt)) (k:Nat):List (List Pt):=Ss.take k++Ss.drop (k+1)
def u7 (Ss:List (List Pt)) (k:Nat):List Pt:=Ss[k]?.getD []
def G6 (Ss:List (List Pt)):Nat->List (Pt × Pt)
 |0=>[]
 |k+1=>Y1 (D9 Ss k) (d9 true (u7 Ss k)) (G6 Ss k)
def gh (h:k<Ss.length):Ss[k]? = some (u7 Ss k):=by
 unfold u7;rw[Le h];rfl
def gu (h:k<Ss.length):u7 Ss k∈Ss:=LM (gh h)
def aq :∀C∈D9 Ss k,C∈Ss:=fun C h=>by
 rcases KD.mp h with q | q
 .exact Nq q
 .exact Mo q
def EU (h:k<Ss.length):(D9 Ss k).length=Ss.length - 1:=by
 unfold D9;rw[Km,Ld,Kt];omega
section
variable (hS:∀C∈Ss,ShC C) (h4:Ss.length<=4) (fs:vO_)
include hS h4
theorem El:(∀u∈G6 Ss Ss.length,Ps 70 u.1/\Ps 70 u.2)/\dG [.tup (Ss.map d7)] fs=some (.lst ((W6 (G6 Ss Ss.length) []).map c8),fs):=by
 obtain⟨s',e,x2,X,x4,B,x6,x7,x8,x9,x10,x11,x12,hs,J,hL⟩:=bP (t:=d5 2) (b:=Ex) (fun i s=>∃x2 M x4 B x6 x7 x8 x9 x10 x11 x12,s=(#[[.v (.tup (Ss.map d7)),.own ((G6 Ss i).map c8),x2,M,x4,B,x6,x7,x8,x9,x10,x11,x12],fs]:DS)/\(∀u∈G6 Ss i,Ps 70 u.1/\Ps 70 u.2)/\(G6 Ss i).length<=228*i) (B0 0 Ss.length) 0 #[[.v (.tup (Ss.map d7)),.own [],.no,.no,.no,.no,.no,.no,.no,.no,.no,.no,.no],fs] #[_,_,_,_,_,_,_,_,_,_,_,rfl,(fun _ h=>nomatch h),iU _] (by
  rintro j d s hd ⟨x2,M,x4,B,x6,x7,x8,x9,x10,x11,x12,rfl,J,hL⟩;obtain⟨rfl,jl⟩:=fE hd;rw[Pm];rw[Me] at J hL ⊢;have hk:=gu (Ss:=Ss) jl;have U:=hS _ hk;have oS:∀C∈D9 Ss j,ShC C:=fun C h=>hS C (aq C h)
  have ol:(D9 Ss j).length<=3:=by rw[EU jl];omega
  have ed:=ku (u7 Ss j) fs (by have:=U.hi;omega);have nl:=Z6 (u7 Ss j);have a6:=U.hi;obtain⟨y4,y5,y6,y7,y8,y9,W,Z,Y,f,f2,f3⟩:=tF fs (.tup (Ss.map d7)) oS ol (.v (.int (j:Int))) (d9 true (u7 Ss j)) (G6 Ss j) x4 B x6 x7 x8 x9 x10 x11 x12 (fun e he=>#[(aR U e he).1,(aR U e he).2.1]) J ∅;have i0:d3 (.tup (Ss.map d7)) (.int (j:Int))=some (d7 (u7 Ss j)):=(Y2 _ _).trans (cV (by rw[KO,gh jl];rfl));have c1:=qp (Ss.map d7) (j+1) (by rw[xo];omega);have c2:=vd (Ss.map d7) j (by rw[xo];omega);refine#[#[[.v (.tup (Ss.map d7)),.own ((G6 Ss j).map c8),.v (.int (j:Int)),M,x4,B,x6,x7,x8,x9,x10,x11,x12],fs],#[[.v (.tup (Ss.map d7)),.own ((G6 Ss (j+1)).map c8),.v (.int (j:Int)),.v (.tup ((D9 Ss j).map d7)),y4,y5,y6,y7,y8,y9,W,Z,Y],fs],rfl,.inl ?_,_,_,_,_,_,_,_,_,_,_,_,rfl,f2,?_]
  .show gw V2 T1 R5 T8 S6 U1 N2 _=_;unfold gw;have sz:((Ss.map d7).take j).length+((Ss.map d7).drop (j+1)).length<=100:=by rw[Ld,Kt,xo];omega
   have ot:((Ss.map d7).take j++(Ss.map d7).drop (j+1))=(D9 Ss j).map d7:=by unfold D9;rw[Lh,MP,LI]
   have ad:=JZ sz;rw[ot] at ad;have g1:f7 (a7 j4 (D8 (dL 0) K0 (K1 (dL 2))) (D8 (dL 0) (K1 (a7 j4 (dL 2) (k0 1))) K0)) (d5 3) #[[.v (.tup (Ss.map d7)),.own ((G6 Ss j).map c8),.v (.int (j:Int)),M,x4,B,x6,x7,x8,x9,x10,x11,x12],fs]=some (.next,gS (.tup (Ss.map d7)) (G6 Ss j) (.v (.int (j:Int))) (D9 Ss j) x4 B x6 x7 x8 x9 x10 x11 x12 fs):=by
    refine A7 (d:=.tup ((D9 Ss j).map d7)) (s1:=#[[.v (.tup (Ss.map d7)),.own ((G6 Ss j).map c8),.v (.int (j:Int)),M,x4,B,x6,x7,x8,x9,x10,x11,x12],fs]) (c7 (s1:=#[[.v (.tup (Ss.map d7)),.own ((G6 Ss j).map c8),.v (.int (j:Int)),M,x4,B,x6,x7,x8,x9,x10,x11,x12],fs]) (x:=.tup ((Ss.map d7).take j)) (y:=.tup ((Ss.map d7).drop (j+1))) ?_ ?_ ad) rfl
    .rw[<-c2];exact vg (ds:=Ss.map d7) rfl (l:=none) rfl (h:=some (j:Int)) rfl
    .rw[<-c1];exact vg (ds:=Ss.map d7) rfl (l:=some ((j+1:Nat):Int)) rfl (h:=none) rfl
   refine j5 g1 ((U3 (ds:=(d9 true (u7 Ss j)).map c8) (s1:=gS (.tup (Ss.map d7)) (G6 Ss j) (.v (.int (j:Int))) (D9 Ss j) x4 B x6 x7 x8 x9 x10 x11 x12 fs) (o6 (e6 (c7 rfl rfl i0) rfl) ed)).trans f)
  .show (Y1 (D9 Ss j) (d9 true (u7 Ss j)) (G6 Ss j)).length<=_;omega)
 have ul:(B0 0 Ss.length).length=Ss.length:=by unfold B0;rw[xo,Nw]
 rw[ul,Me] at J hL hs;subst hs;refine#[J,?_];have ps:=GN fs J ∅;refine u4 (s:=#[[.v (.tup (Ss.map d7)),.v (.lst ((G6 Ss Ss.length).map c8)),x2,X,x4,B,x6,x7,x8,x9,x10,x11,x12],fs]) ?_;show lh V2 T1 R5 T8 S6 U1 N2 #[[.v (.tup (Ss.map d7)),.no,.no,.no,.no,.no,.no,.no,.no,.no,.no,.no,.no],fs]=_;unfold lh;refine j5 (s1:=#[[.v (.tup (Ss.map d7)),.own [],.no,.no,.no,.no,.no,.no,.no,.no,.no,.no,.no],fs]) rfl ?_;have ln:one l7 [.tup (Ss.map d7)]=some (.int (Ss.length:Int)):=by
  show some (D.int ((Ss.map d7).length:Int))=_;rw[xo]
 refine j5 ((iG (ds:=B0 0 Ss.length) (e6 (af (e6 rfl rfl) ln) rfl) (fA ∅)).trans e) ?_;exact v8 (cc (xs:=[.lst ((G6 Ss Ss.length).map c8)]) rfl ps)
end
theorem kZ {a b:Pt}(hab:a≠b) (s t:Rat):f6 (d8 a b s) (d8 a b t)=true↔(if f6 a b then s<t else t<s):=by
 have U:¬ (b.1 - a.1=0/\b.2 - a.2=0):=fun h=>hab (KA (by grind) (by grind))
 have Y:(d8 a b t).1 - (d8 a b s).1=(t - s)*(b.1 - a.1):=by unfold d8;grind
 have J:(d8 a b t).2 - (d8 a b s).2=(t - s)*(b.2 - a.2):=by unfold d8;grind
 rw[T6,Y,J];rcases wQ _ _ U with h | h
 .rw[gV ((T6 a b).mpr h),ix h];constructor <;> intro z <;> grind
 .have M:¬ f6 a b=true:=fun z=>mD _ _ ((T6 a b).mp z) h
  rw[fI M];have W:(t - s)*(b.1 - a.1)=(s - t) * -(b.1 - a.1):=by grind
  have B:(t - s)*(b.2 - a.2)=(s - t) * -(b.2 - a.2):=by grind
  rw[W,B,ix h];constructor <;> intro z <;> grind
theorem ph:∀{R:vT_},M0 f6 R->∀{w:Pt × Pt},w∈d9 false R->f6 w.1 w.2=true/\w.1∈R/\w.2∈R/\∀p∈R,¬ (f6 w.1 p=true/\f6 p w.2=true)
 |[],_,w,h=>by cases h
 |[a],_,w,h=>by cases h
 |a::b::r,hs,w,h=>by
  have O:=lsB_ord;obtain⟨h1,h2⟩:=Ly.mp hs;have U:d9 false (a::b::r)=(a,b)::d9 false (b::r):=rfl;rw[U] at h;rcases tx.mp h with rfl | h
  .refine#[h1 b (iR ..),iR ..,td _ (iR ..),fun p hp ⟨J,B⟩=>?_];rcases tx.mp hp with rfl | hp
   .rw[O.irr] at J;cases J
   .rcases tx.mp hp with rfl | hp
    .rw[O.irr] at B;cases B
    .have:=O.tr _ _ _ B ((Ly.mp h2).1 p hp);rw[O.irr] at this;cases this
  .obtain⟨i1,i2,M,W⟩:=ph h2 h;refine#[i1,td _ i2,td _ M,fun p hp ⟨J,B⟩=>?_];rcases tx.mp hp with rfl | hp
   .have:=O.tr _ _ _ (h1 w.1 i2) J;rw[O.irr] at this;cases this
   .exact W p hp #[J,B]
def Gi {α:Type}:∀{R:List α}{u:α × α},u∈d9 false R.reverse↔(u.2,u.1)∈d9 false R:=by
 have f:∀{R:List α}{u:α × α},u∈d9 false R↔∃i,R[i]? = some u.1/\R[i+1]? = some u.2:=fun {R u}=>by
  have e:d9 false R=R.zip (R.drop 1):=by unfold d9;rw[fI (by simp)]
  rw[e];constructor
  .intro h;obtain⟨i,hi⟩:=Mn h;rw[Nj] at hi;refine#[i,hi.1,?_];have:=hi.2;rw[Mp] at this
   rwa [LO] at this
  .rintro⟨i,h1,h2⟩;refine LM (i:=i) ?_;rw[Nj,Mp,LO];exact#[h1,h2]
 intro R u;rw[f,f];have B:∀{i:Nat}{x:α},R.reverse[i]? = some x↔i<R.length/\R[R.length - 1 - i]? = some x:=fun {i x}=>by
  by_cases h:i<R.length
  .rw[PD h];exact#[fun z=>#[h,z],fun z=>z.2]
  .rw[Pn (by rw[OU];omega)];exact#[fun z=>(by cases z),fun z=>absurd z.1 h]
 constructor
 .rintro⟨i,h1,h2⟩;obtain⟨l1,M⟩:=B.mp h1;obtain⟨l2,J⟩:=B.mp h2;refine#[R.length - 1 - (i+1),J,?_];rw[show R.length - 1 - (i+1)+1=R.length - 1 - i by omega];exact M
 .rintro⟨i,h1,h2⟩;have l2:=(KH.mp h2).1;refine#[R.length - 1 - (i+1),B.mpr #[by omega,?_],B.mpr #[by omega,?_]]
  .rw[show R.length - 1 - (R.length - 1 - (i+1))=i+1 by omega];exact h2
  .rw[show R.length - 1 - (R.length - 1 - (i+1)+1)=i by omega];exact h1
theorem EM {A:vT_}(B:ShC A) {p:Pt}(h:G7 (tk A i) (tk A (i+1)) A p):p=tk A i\/p=tk A (i+1):=by
 have l:=G3 B;rcases h with ⟨k,rfl,e⟩ | ⟨j,h,_⟩
 .rcases B.st i _ (C7 k l) with q | q | q
  .exact .inl q
  .exact .inr q
  .rw[e] at q;exact absurd q Np
 .have:=Kx (B.cv i _ (C7 j l)) (B.cv i _ (C7 (j+1) l));grind
def CQ {A:vT_}(B:ShC A) (i:Nat):J7 (tk A i) (tk A (i+1)) A=[]:=by
 have r:Q6 (tk A i) (tk A (i+1)) A=false:=by
  unfold Q6;rw[List.any_eq_false];intro z J;have:=B.cv i z J;rw[Lm,mm];exact Lc.mpr this
 unfold J7;split
 .rw[r];rfl
 .rfl
def cE {a b p:Pt}(h:a9 a b p=0):E6 a b p=true↔f6 p (i7 a b).1=false/\f6 (i7 a b).2 p=false:=by
 unfold E6 i7;rw[Kp h,MM];split
 .rw[Ko,Lx,Lx]
 .rw[Ko,Lx,Lx]
def vz (a b:Pt):((i7 a b).1=a/\(i7 a b).2=b)\/((i7 a b).1=b/\(i7 a b).2=a):=by
 unfold i7;split
 .exact .inl #[rfl,rfl]
 .exact .inr #[rfl,rfl]
theorem xm {a b:Pt}:∀(Ss:List (List Pt)) (L:vT_) (q:Pt),q∈F2 a b Ss L↔q∈L\/∃C∈Ss,q∈C0 a b C/\O7 (i7 a b).1 (i7 a b).2 q=true
 |[],L,q=>#[.inl,fun h=>h.elim id fun ⟨C,hC,_⟩=>nomatch hC]
 |C::r,L,q=>by
  unfold F2;rw[xm r,mE];constructor
  .rintro((h | h) | ⟨D,hD,h⟩)
   .exact .inl h
   .exact .inr #[C,iR ..,h]
   .exact .inr #[D,td _ hD,h]
  .rintro(h | ⟨D,hD,h⟩)
   .exact .inl (.inl h)
   .rcases tx.mp hD with rfl | hD
    .exact .inl (.inr h)
    .exact .inr #[D,hD,h]
def tJ (hk:k<Ss.length) (h:C∈Ss):C=u7 Ss k\/C∈D9 Ss k:=by
 obtain⟨j,B⟩:=Mn h;have J:=(KH.mp B).1;by_cases e:j=k
 .subst e;rw[gh hk] at B;exact .inl (KN B).symm
 .refine .inr ?_;unfold D9;rw[KD];by_cases c:j<k
  .refine .inl (LM (i:=j) ?_);rw[NF c];exact B
  .refine .inr (LM (i:=j - (k+1)) ?_);rw[Mp,show k+1+(j - (k+1))=j by omega];exact B
section
variable (hS:∀C∈Ss,ShC C) (h4:Ss.length<=4) (hk:k<Ss.length) (i:Nat)
include hS h4 hk
theorem xT:G4 (tk (u7 Ss k) i) (tk (u7 Ss k) (i+1)) Ss=W4 (tk (u7 Ss k) i) (tk (u7 Ss k) (i+1)) (D9 Ss k):=by
 have Y:=hS _ (gu hk);have hab:tk (u7 Ss k) i≠tk (u7 Ss k) (i+1):=Ki (Y.ne i);have M:∀p,G7 (tk (u7 Ss k) i) (tk (u7 Ss k) (i+1)) (u7 Ss k) p->p=tk (u7 Ss k) i\/p=tk (u7 Ss k) (i+1):=fun p=>EM Y
 have U:=fun C h=>tJ hk (C:=C) h
 generalize hz:u7 Ss k=A at *;generalize tk A i=a at *;generalize tk A (i+1)=b at *;have sl:=hJ (a:=a) (b:=b) Ss [a,b] hS;simp only[Kh,Lg] at sl;refine kG lsB_ord (je lsB_ord 63 _ (Kf (show _<=100 by omega) #[]) (wj Ss [a,b] (by simp[hab]))) (gI _ [] List.Pairwise.nil) fun p=>?_
 have m1:p∈J5 f6 64 (F2 a b Ss [a,b])↔p∈F2 a b Ss [a,b]:=#[W2 _,gU _]
 unfold G4;rw[m1,xm];unfold W4;rw[fH,KD];have sp:=vz a b;constructor
 .rintro(h | ⟨C,hC,h,w⟩)
  .exact .inr (.inl h)
  .have hm:=(ae (hS C hC)).mp h;rcases U C hC with e | e
   .subst e;rcases M p hm with rfl | rfl
    .exact .inr (.inl (iR ..))
    .exact .inr (.inl (td _ (iR ..)))
   .refine .inr (.inr (Lz.mpr #[C,e,?_]));refine(dQ (hS C hC) p).mpr #[hm,(cE (ah (hS C hC) hm)).mpr ?_];unfold O7 at w;rw[Ko] at w;constructor
    .refine LQ.mpr fun z=>?_
     have:=lsB_ord.tr _ _ _ w.1 z;rw[lsB_ord.irr] at this;cases this
    .refine LQ.mpr fun z=>?_
     have:=lsB_ord.tr _ _ _ w.2 z;rw[lsB_ord.irr] at this;cases this
 .rintro(h | h | h)
  .cases h
  .exact .inl h
  .obtain⟨C,hC,h⟩:=Lz.mp h;have W:=hS C (aq C hC);obtain⟨hm,o⟩:=(dQ W p).mp h;obtain⟨o1,Z⟩:=(cE (ah W hm)).mp o;by_cases J:p=(i7 a b).1
   .refine .inl ?_;rcases sp with q | q
    .rw[J,q.1];exact iR ..
    .rw[J,q.1];exact td _ (iR ..)
   by_cases B:p=(i7 a b).2
   .refine .inl ?_;rcases sp with q | q
    .rw[B,q.2];exact td _ (iR ..)
    .rw[B,q.2];exact iR ..
   refine .inr #[C,aq C hC,(ae W).mpr hm,?_];unfold O7;rw[lsB_ord.tot _ _ o1 J,lsB_ord.tot _ _ Z (Ki B)];rfl
end
theorem Ia (a b:Pt) (s t:Rat):E5 (d8 a b s) (d8 a b t)=d8 a b ((s+t) / 2):=by
 have h:(1 / 2:Rat)+1 / 2=1:=by grind
 unfold E5 d8;refine KA ?_ ?_
 .show a.1+s*(b.1 - a.1)+1 / 2*(a.1+t*(b.1 - a.1) - (a.1+s*(b.1 - a.1)))=a.1+(s+t) / 2*(b.1 - a.1);grind
 .show a.2+s*(b.2 - a.2)+1 / 2*(a.2+t*(b.2 - a.2) - (a.2+s*(b.2 - a.2)))=a.2+(s+t) / 2*(b.2 - a.2);grind
def AJ {α:Type}{L:List α}{p q:α}(B:L.Nodup) (n:p≠q) (hp:p∈L) (J:q∈L) (h:∀x∈L,x=p\/x=q):L=[p,q]\/L=[q,p]:=by
 match L,B,hp,J,h with
 |[],_,hp,_,_=>cases hp
 |[x],_,hp,J,_=>
  rw[KI] at hp J;exact absurd (hp.trans J.symm) n
 |[x,y],B,hp,J,h=>
  have M:x≠y:=by
   have:=(Kz.mp B).1;rw[KI] at this;exact this
  rcases h x (iR ..) with rfl | rfl
  .rcases h y (td _ (iR ..)) with rfl | rfl
   .exact absurd rfl M
   .exact .inl rfl
  .rcases h y (td _ (iR ..)) with rfl | rfl
   .exact .inr rfl
   .exact absurd rfl M
 |x::y::z::r,B,_,_,h=>
  obtain⟨U,Z⟩:=Kz.mp B;obtain⟨W,_⟩:=Kz.mp Z;exfalso;have hx:=h x (iR ..);have Y:=h y (td _ (iR ..));have hz:=h z (td _ (td _ (iR ..)));have M:x≠y:=fun e=>U (e▸iR ..)
  have xz:x≠z:=fun e=>U (e▸td _ (iR ..))
  have yz:y≠z:=fun e=>W (e▸iR ..)
  rcases hx with rfl | rfl <;> rcases Y with rfl | rfl <;> rcases hz with rfl | rfl <;> simp at *
theorem jn {a b:Pt}(hab:a≠b) {s t:Rat}(h:s<t):i7 (d8 a b s) (d8 a b t)=(if f6 a b then (d8 a b s,d8 a b t) else (d8 a b t,d8 a b s))/\i7 (d8 a b t) (d8 a b s)=(if f6 a b then (d8 a b s,d8 a b t) else (d8 a b t,d8 a b s)):=by
 have J:=kZ hab s t;have B:=kZ hab t s;unfold i7;cases q:f6 a b with
 |true=>
  rw[q] at J B;simp only[KG] at J B ⊢;have n:¬ f6 (d8 a b t) (d8 a b s)=true:=fun z=>by have:=B.mp z;grind
  rw[gV (J.mpr h),fI n];exact#[rfl,rfl]
 |false=>
  rw[q] at J B;simp only[KQ,Kv] at J B ⊢;have n:¬ f6 (d8 a b s) (d8 a b t)=true:=fun z=>by have:=J.mp z;grind
  rw[fI n,gV (B.mpr h)];exact#[rfl,rfl]
theorem sI {a b:Pt}(hab:a≠b) (hC:ShC C) {x y:Pt}(hx:a9 a b x=0) (hy:a9 a b y=0) (W:f6 x y=true) (nb:∀p,G7 a b C p->¬ (f6 x p=true/\f6 p y=true)) :
  (J7 a b C).any (R9 (x,y))=true↔aN a b C (E5 x y):=by
 obtain⟨U,rfl⟩:=S5 hab hx;obtain⟨M,rfl⟩:=S5 hab hy;rw[Ia];have L:=fun s t=>kZ hab s t
 rw[L] at W;have nb:∀r,G7 a b C (d8 a b r)->¬ (f6 (d8 a b U) (d8 a b r)=true/\f6 (d8 a b r) (d8 a b M)=true):=fun r h=>nb _ h
 have nd:=CZ hC (a:=a) (b:=b);obtain⟨lo,hi,l1,l2,eo⟩:∃lo hi:Rat,lo<(U+M) / 2/\(U+M) / 2<hi/\((f6 a b=true/\U=lo/\M=hi)\/(f6 a b=false/\M=lo/\U=hi)):=by
  cases q:f6 a b with
  |true=>
   rw[q] at W;simp only[KG] at W;exact#[U,M,by grind,by grind,.inl #[rfl,rfl,rfl]]
  |false=>
   rw[q] at W;simp only[KQ,Kv] at W;exact#[M,U,by grind,by grind,.inr #[rfl,rfl,rfl]]
 have nm:∀r,G7 a b C (d8 a b r)->¬ (lo<r/\r<hi):=fun r h hQ__=>by
  obtain⟨q1,q2⟩:=hQ__;refine nb r h ?_;rw[L,L];rcases eo with ⟨e,rfl,rfl⟩ | ⟨e,rfl,rfl⟩
  .rw[e];simp only[KG];exact#[q1,q2]
  .rw[e];simp only[KQ,Kv];exact#[q2,q1]
 have rg:Q6 a b C=true↔∃z∈C,a9 a b z<0:=by
  unfold Q6;rw[MU];constructor
  .rintro⟨z,Y,h⟩;exact#[z,Y,(mm _).mp (LP h)]
  .rintro⟨z,Y,h⟩;exact#[z,Y,Kp ((mm _).mpr h)]
 have cv:∀s2 s1:Rat,s2<s1->(R9 (d8 a b U,d8 a b M) (if f6 a b then (d8 a b s2,d8 a b s1) else (d8 a b s1,d8 a b s2))=true↔s2<=lo/\hi<=s1):=fun s2 s1 h=>by
  unfold R9;rcases eo with ⟨e,rfl,rfl⟩ | ⟨e,rfl,rfl⟩
  .rw[e,gV rfl,Ko,Lx,Lx];have J:=L U s2;have B:=L s1 M;rw[e] at J B;simp only[KG] at J B;rw[LQ,LQ];show (¬ f6 (d8 a b U) (d8 a b s2)=true/\¬ f6 (d8 a b s1) (d8 a b M)=true)↔_;rw[J,B,Lc,Lc]
  .rw[e,fI (by simp),Ko,Lx,Lx];have J:=L U s1;have B:=L s2 M;rw[e] at J B;simp only[KQ,Kv] at J B;rw[LQ,LQ];show (¬ f6 (d8 a b U) (d8 a b s1)=true/\¬ f6 (d8 a b s2) (d8 a b M)=true)↔_;rw[J,B,Lc,Lc];exact And.comm
 constructor
 .intro h;rw[MU] at h;obtain⟨c,Z,h⟩:=h;unfold J7 at Z;split at Z
  .next p q e=>
   split at Z
   .next r=>
    rw[KI] at Z;subst Z;obtain⟨z,Y,zn⟩:=rg.mp r;have mp:=(ae hC (p:=p)).mp (by rw[e];exact iR ..);have mq:=(ae hC (p:=q)).mp (by rw[e];exact td _ (iR ..));obtain⟨sp,rfl⟩:=S5 hab (ah hC mp);obtain⟨sq,rfl⟩:=S5 hab (ah hC mq);rw[e] at nd;have ne:sp≠sq:=fun z=>by
     have:=(Kz.mp nd).1;rw[z] at this;exact this (iR ..)
    rcases(show sp<sq\/sq<sp by grind) with d | d
    .rw[(jn hab d).1] at h;obtain⟨q1,q2⟩:=(cv _ _ d).mp h;exact pT hC hab mq mp (by grind) (by grind) Y zn
    .rw[(jn hab d).2] at h;obtain⟨q1,q2⟩:=(cv _ _ d).mp h;exact pT hC hab mp mq (by grind) (by grind) Y zn
   .cases Z
  .cases Z
 .intro h;obtain⟨Y,s1,s2,m1,m2,b2,b1,al⟩:=Gq hC hab h l1 l2 nm;have d:s2<s1:=by grind
  have ne:d8 a b s2≠d8 a b s1:=fun z=>by
   have J:=L s2 s1;rw[z] at J;have irr:=lsB_ord.irr (d8 a b s1);have B:=L s1 s2;rw[z] at B;rw[irr] at J B;cases q:f6 a b with
   |true=>rw[q] at J;simp only[KG] at J;exact absurd (J.mpr d) (by simp)
   |false=>rw[q] at B;simp only[KQ,Kv] at B;exact absurd (B.mpr d) (by simp)
  have two:=AJ nd ne ((ae hC).mpr m2) ((ae hC).mpr m1) fun p hp=>by
   have mp:=(ae hC).mp hp;obtain⟨r,rfl⟩:=S5 hab (ah hC mp);rcases al r mp with rfl | rfl
   .exact .inr rfl
   .exact .inl rfl
  have r:=rg.mpr Y;unfold J7;rcases two with e | e
  .rw[e];show (if Q6 a b C then [i7 (d8 a b s2) (d8 a b s1)] else []).any _=true;rw[gV r,MT,List.any_nil,NT,(jn hab d).1];exact(cv _ _ d).mpr #[b2,b1]
  .rw[e];show (if Q6 a b C then [i7 (d8 a b s1) (d8 a b s2)] else []).any _=true;rw[gV r,MT,List.any_nil,NT,(jn hab d).2];exact(cv _ _ d).mpr #[b2,b1]
theorem sQ (u v:Pt):E5 u v=E5 v u:=by
 have h:(1 / 2:Rat)+1 / 2=1:=by grind
 unfold E5 d8;refine KA ?_ ?_
 .show u.1+1 / 2*(v.1 - u.1)=v.1+1 / 2*(u.1 - v.1);grind
 .show u.2+1 / 2*(v.2 - u.2)=v.2+1 / 2*(u.2 - v.2);grind
section
variable (hS:∀C∈Ss,ShC C) (h4:Ss.length<=4) (hk:k<Ss.length) (i:Nat)
include hS h4 hk
theorem IB {w:Pt × Pt}(hw:w∈d9 false (G4 (tk (u7 Ss k) i) (tk (u7 Ss k) (i+1)) Ss)):(F8 (tk (u7 Ss k) i) (tk (u7 Ss k) (i+1)) Ss).any (R9 w)=(D9 Ss k).any (K8 (tk (u7 Ss k) i) (tk (u7 Ss k) (i+1)) (E5 w.1 w.2)):=by
 have W:=hS _ (gu hk);have lA:=G3 W;have hab:tk (u7 Ss k) i≠tk (u7 Ss k) (i+1):=Ki (W.ne i);have Y:=CQ W i;have ha:=(W.sz _ (C7 i lA)).1;have hb:=(W.sz _ (C7 (i+1) lA)).1;have Z:=xT hS h4 hk i;have hor:=fun C h=>tJ hk (C:=C) h
 have pp:=jF ha hb hS;generalize hz:u7 Ss k=A at *;generalize tk A i=a at *;generalize tk A (i+1)=b at *;have O:=lsB_ord;have sr:M0 f6 (G4 a b Ss):=by rw[Z];exact gI _ [] List.Pairwise.nil
 obtain⟨w1,w2,w3,w4⟩:=ph sr hw;obtain⟨p1,p2⟩:=pp w hw;have sp:=vz a b;have J:∀p∈G4 a b Ss,a9 a b p=0/\f6 p (i7 a b).1=false/\f6 (i7 a b).2 p=false:=fun p hp=>by
  rw[Z] at hp;unfold W4 at hp;rcases(fH _ _ _).mp hp with h | h
  .cases h
  .rcases KD.mp h with h | h
   .have ca:a9 a b a=0:=by unfold a9;grind
    have cb:a9 a b b=0:=by unfold a9;grind
    have oa:E6 a b a=true:=Iy hab;have ob:E6 a b b=true:=zp hab;rcases tx.mp h with rfl | h
    .exact#[ca,(cE ca).mp oa]
    .rw[KI] at h;subst h;exact#[cb,(cE cb).mp ob]
   .obtain⟨C,hC,h⟩:=Lz.mp h;obtain⟨hm,o⟩:=(dQ (hS C (aq C hC)) p).mp h;have:=ah (hS C (aq C hC)) hm;exact#[this,(cE this).mp o]
 obtain⟨x0,x1,x2⟩:=J _ w2;obtain⟨y0,y1,y2⟩:=J _ w3;have m2:=(pk p1 p2 #[] none).2;have nb:∀C∈D9 Ss k,∀p,G7 a b C p->¬ (f6 w.1 p=true/\f6 p w.2=true):=fun C hC p hm M=>by
  obtain⟨q1,q2⟩:=M;have U:=hS C (aq C hC);refine w4 p ?_ #[q1,q2];rw[Z];unfold W4;refine(fH _ _ _).mpr (.inr (KD.mpr (.inr (Lz.mpr #[C,hC,?_]))));refine(dQ U p).mpr #[hm,(cE (ah U hm)).mpr #[?_,?_]]
  .refine LQ.mpr fun z=>?_
   have:=O.tr _ _ _ q1 z;rw[x1] at this;cases this
  .refine LQ.mpr fun z=>?_
   have:=O.tr _ _ _ z q2;rw[y2] at this;cases this
 rw[LB,MU,MU];constructor
 .rintro⟨c,B,h⟩;obtain⟨C,hC,B⟩:=Lz.mp B;rcases hor C hC with e | e
  .subst e;rw[Y] at B;cases B
  .refine#[C,e,(vR ha hb m2 (hS C hC)).mpr ((sI hab (hS C hC) x0 y0 w1 (nb C e)).mp ?_)];exact MU.mpr #[c,B,h]
 .rintro⟨C,hC,h⟩;have U:=hS C (aq C hC);have:=(sI hab U x0 y0 w1 (nb C hC)).mpr ((vR ha hb m2 U).mp h);obtain⟨c,B,q⟩:=MU.mp this;exact#[c,Lz.mpr #[C,aq C hC,B],q]
theorem vf (u:Pt × Pt):u∈M1 (tk (u7 Ss k) i) (tk (u7 Ss k) (i+1)) Ss↔u∈d9 false (D2 (tk (u7 Ss k) i) (tk (u7 Ss k) (i+1)) (D9 Ss k))/\(D9 Ss k).any (K8 (tk (u7 Ss k) i) (tk (u7 Ss k) (i+1)) (E5 u.1 u.2))=false:=by
 have cl:=fun w J=>IB hS h4 hk i (w:=w) J
 have M:=xT hS h4 hk i;generalize tk (u7 Ss k) i=a at *;generalize tk (u7 Ss k) (i+1)=b at *;have B:∀w,w∈P2 a b Ss↔w∈d9 false (G4 a b Ss)/\(D9 Ss k).any (K8 a b (E5 w.1 w.2))=false:=fun w=>by
  unfold P2;rw[LR,Lx];constructor
  .rintro⟨h,q⟩;exact#[h,by rw[<-cl w h];exact q]
  .rintro⟨h,q⟩;exact#[h,by rw[cl w h];exact q]
 unfold M1 D2;rw[<-M];cases q:f6 a b with
 |true=>rw[gV rfl,gV rfl];exact B u
 |false=>
  rw[fI (by simp),fI (by simp),Gi,Kw];constructor
  .rintro⟨w,J,rfl⟩;obtain⟨h1,h2⟩:=(B w).mp J;refine#[h1,?_];show (D9 Ss k).any (K8 a b (E5 w.2 w.1))=false;rw[sQ];exact h2
  .rintro⟨h1,h2⟩;refine#[(u.2,u.1),(B _).mpr #[h1,?_],rfl];show (D9 Ss k).any (K8 a b (E5 u.2 u.1))=false;rw[sQ];exact h2
end
theorem xF (Rs:List (List Pt)):∀(es F:List (Pt × Pt)) (u:Pt × Pt),u∈Y1 Rs es F↔u∈F\/∃e∈es,u∈d9 false (D2 e.1 e.2 Rs)/\Rs.any (K8 e.1 e.2 (E5 u.1 u.2))=false
 |[],F,u=>#[.inl,fun h=>h.elim id fun ⟨e,B,_⟩=>nomatch B]
 |e::r,F,u=>by
  unfold Y1;rw[xF Rs r];unfold aJ;rw[jL];constructor
  .rintro((h | h) | ⟨e',B,h⟩)
   .exact .inl h
   .exact .inr #[e,iR ..,h]
   .exact .inr #[e',td _ B,h]
  .rintro(h | ⟨e',B,h⟩)
   .exact .inl (.inl h)
   .rcases tx.mp B with rfl | B
    .exact .inl (.inr h)
    .exact .inr #[e',B,h]
theorem xc (Rs:List (List Pt)):∀es F:List (Pt × Pt),F.Nodup->(Y1 Rs es F).Nodup
 |[],F,h=>h
 |e::r,F,h=>xc Rs r _ (xw _ _ _ _ _ h)
theorem oh (Ss:List (List Pt)):∀n,(G6 Ss n).Nodup
 |0=>Mz
 |n+1=>xc _ _ _ (oh Ss n)
theorem uj (Ss:List (List Pt)) (u:Pt × Pt):∀n,u∈G6 Ss n↔∃k,k<n/\∃e∈d9 true (u7 Ss k),u∈d9 false (D2 e.1 e.2 (D9 Ss k))/\(D9 Ss k).any (K8 e.1 e.2 (E5 u.1 u.2))=false
 |0=>#[fun h=>(by cases h),fun ⟨k,h,_⟩=>absurd h (Nat.not_lt_zero k)]
 |n+1=>by
  unfold G6;rw[xF,uj Ss u n];constructor
  .rintro(⟨k,hk,h⟩ | h)
   .exact#[k,OH hk,h]
   .exact#[n,OI n,h]
  .rintro⟨k,hk,h⟩;by_cases e:k=n
   .subst e;exact .inr h
   .exact .inl #[k,by omega,h]
def yR (hS:∀C∈Ss,ShC C) (h4:Ss.length<=4):U5 Ss=W6 (G6 Ss Ss.length) []:=by
 have bl:=lT hS h4;have M:=cj (D0 Ss Ss) [];simp only[Lg] at M;refine kG mf (je mf 63 _ (Kf (show _<=1000 by omega) #[]) (jc _ _ Mz)) (uy _ [] (oh Ss _) List.Pairwise.nil fun _ _ h=>nomatch h) fun u=>?_
 have m1:u∈J5 A9 64 (D4 (D0 Ss Ss) [])↔u∈D4 (D0 Ss Ss) []:=#[W2 _,gU _]
 have J:u∈D0 Ss Ss↔∃A∈Ss,∃e∈d9 true A,u∈M1 e.1 e.2 Ss:=by
  unfold D0 N9;simp only[Lz]
 unfold U5;rw[m1,iz,oY,uj,J];constructor
 .rintro(h | ⟨A,hA,e,he,h⟩)
  .cases h
  .obtain⟨k,hk⟩:=Mn hA;have B:=(KH.mp hk).1;rw[gh B] at hk;cases hk;refine .inr #[k,B,e,he,?_];obtain⟨i,_,rfl⟩:=eK he;exact(vf hS h4 B i u).mp h
 .rintro(h | ⟨k,hk,e,he,h⟩)
  .cases h
  .refine .inr #[_,gu hk,e,he,?_];obtain⟨i,_,rfl⟩:=eK he;exact(vf hS h4 hk i u).mpr h
def zB {f:FS}(h:Fd4 n f) (hn:n<2 ^ 26) {t:Nt}(ht:NtOk t) {far:Int}(hf:0<=far/\far<=14):∃(Ss:List (List Pt)) (f':FS),eH [.feed,G9 t,.int 3,.int far] (some f)=some (.tup (Ss.map d7),some f')/\(∀A∈Ss,ShC A)/\Ss.length<=3/\Fd4 (n+19) f':=by
 obtain⟨r,f1,e1,Z,a2,h1⟩:=V9 3 h;obtain⟨k,rfl⟩:=Qd Z;have el:((1+k:Nat):Int)=1+(k:Int):=by omega
 obtain⟨s',e,Ss,J,x6,x7,x8,f',rfl,hS,hl,h'⟩:=bP (t:=d5 5) (b:=bZ P0 dE bq aY) (fun i s=>∃Ss J x6 x7 x8 f',s=D6 t (.v (.int 3)) far Ss J x6 x7 x8 f'/\(∀A∈Ss,ShC A)/\Ss.length=i/\Fd4 (n+1+6*i) f') (B0 0 (1+k)) 0
  (D6 t (.v (.int 3)) far [] .no .no .no .no f1) #[[],_,_,_,_,f1,rfl,fun A M=>(by cases M),rfl,h1] (by
   rintro i d s hd ⟨Ss,J,x6,x7,x8,W,rfl,hS,hl,h2⟩;obtain⟨rfl,il⟩:=fE hd;rw[Me] at *;obtain⟨A,y6,y7,y8,f3,M,e,Y⟩:=BA h2 ∅ ht hf hS ∅ (.v (.int 3)) (.v (.int (0+(i:Int)))) x6 x7 x8;exact#[D6 t (.v (.int 3)) far Ss (.v (.int (0+(i:Int)))) x6 x7 x8 W,_,rfl,.inl e,Ss++[A],_,_,_,_,f3,rfl,fun B hB=>by
    rcases KD.mp hB with q | q
    .exact hS B q
    .rw[KI.mp q];exact M,by rw[Km,OF,hl],Y.mono ∅])
 rw[Me,eA] at hl h';have U:V6 [.int (1+(k:Int))]=some (B0 0 (1+k)):=by rw[<-el];exact fA ∅
 refine#[Ss,f',u4 (s:=D6 t (.v (.int 3)) far Ss J x6 x7 x8 f') ?_,hS,by omega,h'.mono ∅];show mz P0 dE bq aY #[[.v .feed,.v (G9 t),.v (.int 3),.v (.int far),.no,.no,.no,.no,.no],some f]=_;unfold mz;refine j5 (s1:=D6 t (.v (.int 3)) far [] .no .no .no .no f) (Q2 (i:=4) (s1:=#[[.v .feed,.v (G9 t),.v (.int 3),.v (.int far),.no,.no,.no,.no,.no],some f]) (ds:=[]) rfl (by show 4<9;decide)) ?_;refine j5 ((iG (s1:=D6 t (.v (.int 3)) far [] .no .no .no .no f1) (L0 (c7 rfl (R6 rfl e1) rfl) rfl) U).trans e) ?_;exact v8 (af rfl rfl)
def Ad {t:DA}{s:DS}{as:vD_}(h:t s=some (as,s1)) (B:D.flats as=true) (hm:m as none=some (.lst ds,none)) (J:D.flats ds=true):cX m t s=some (ds,s1):=by
 have e:cZ (.lst ds,none)=some ds:=gV J;unfold cX;rw[h,xr];show (if D.flats as=true then ((m as none).bind cZ).map fun ds=>(ds,s1) else none)=_;rw[gV B,hm,xr,e];rfl
def lg:∀ds:List D,(∀d∈ds,D.flat d=true)->D.flats ds=true:=fun ds=>by
 induction ds with
 |nil=>exact fun _=>rfl
 |cons d r J=>
  intro h;show (D.flat d&&D.flats r)=true;rw[h d (iR ..),J fun x B=>h x (td _ B)];rfl
def Ep (Ss:List (List Pt)):D.flats [.tup (Ss.map d7)]=true:=by
 have e:D.flats (Ss.map d7)=true:=lg _ fun d B=>by
  obtain⟨A,_,rfl⟩:=Kw.mp B;exact lg _ fun d B=>by
   obtain⟨p,_,rfl⟩:=Kw.mp B;rfl
 show (D.flats (Ss.map d7)&&true)=true;rw[e];rfl
def Hm (us:List (Pt × Pt)):D.flats (us.map c8)=true:=lg _ fun d B=>by
 obtain⟨u,_,rfl⟩:=Kw.mp B;rfl
def zU {us:List (Pt × Pt)}(h:∀u∈us,Ps 70 u.1/\Ps 70 u.2) (hl:us.length<=800):Ok 3 7300 (.lst (us.map c8)):=by
 have:=OkL.all (k:=2) (n:=8) (ds:=us.map c8) fun d J=>by
  obtain⟨z,B,rfl⟩:=Kw.mp J;exact jU (h z B).1 (h z B).2
 refine(Ok.lst this).mono #[] ?_;rw[xo];omega
def Hg {u:Pt × Pt}(h:u∈U5 Ss):u∈D0 Ss Ss:=by
 unfold U5 at h;rcases(iz _ _ _).mp (W2 _ h) with q | q
 .cases q
 .exact q
def Cd (Ss:List (List Pt)):(U5 Ss).length<=(D0 Ss Ss).length:=by
 have B:=cj (D0 Ss Ss) [];unfold U5;rw[bQ];simp only[Lg] at B;omega
def nF {R:Str}:F9 (.str R) (.str R)=some (.bl false):=by rw[BR,Kp rfl];rfl
section
variable {m1 m2 m3 m4 m5:a8}{S N L:D}{Q:Str}{P:Str}{ls:vD_}{f0 f1 f:FS}
def Bo {k:Int}(x0 W x4 B x6:Sl) (n:m4 [.feed] (some f0)=some (N,some f1)) (w:m3 [.feed,N,.int 3,.int 0] (some f1)=some (S,some f)) (r:S9 S=some (.str Q)) (fl:D.flats [S]=true)
  (U:m1 [S] none=some (.lst ls,none)) (fd:D.flats ls=true) (M:m1 [S] (some f)=some (.lst ls,some f)) (p:m2 [S] (some f)=some (.lst ls,some f)) (J:S9 (.lst ls)=some (.str P)) :
  lH m1 m2 m3 m4 m5 #[[x0,.v .feed,.v (.int k),W,x4,B,x6],some f0]=some (.next,#[[x0,.v .feed,.v (.int k),.v S,.v (.str Q),.own [],.v (.str P)],some f]):=by
 refine j5 (s1:=#[[x0,.v .feed,.v (.int k),.v S,x4,B,x6],some f]) (A7 (cc (L0 rfl (L0 (R6 rfl n) rfl)) w) rfl) ?_;refine j5 (s1:=#[[x0,.v .feed,.v (.int k),.v S,.v (.str Q),B,x6],some f]) (A7 (Y4 rfl r) rfl) ?_;refine j5 (s1:=#[[x0,.v .feed,.v (.int k),.v S,.v (.str Q),.own ls,x6],some f]) (Ir (s1:=#[[x0,.v .feed,.v (.int k),.v S,.v (.str Q),B,x6],some f]) (Ad (as:=[S]) rfl fl U fd) (by show 5<7;decide) rfl) ?_;refine j5 (s1:=#[[x0,.v .feed,.v (.int k),.v S,.v (.str Q),.own ls,.v (.str P)],some f]) (A7 (Y4 (o6 rfl p) J) rfl) ?_;refine j5 (s1:=#[[x0,.v .feed,.v (.int k),.v S,.v (.str Q),.own ls,.v (.str P)],some f]) (et (iT (fG (b:=true) (O9 (b:=true) rfl)) (iT (C4 (c7 (Y4 (x:=.lst ls) rfl J) rfl nF)) (C4 (c7 (Y4 rfl r) rfl nF))))) ?_;refine j5 (s1:=#[[x0,.v .feed,.v (.int k),.v S,.v (.str Q),.own [],.v (.str P)],some f]) rfl ?_;by_cases z:k=0
 .exact et ((Q1 (C4 (c7 rfl rfl ((U0 k 0).trans (by rw[Kp z])))) (C4 (c7 (Y4 (o6 rfl M) J) rfl nF))))
 .exact et (Z9 (C4 (c7 rfl rfl ((U0 k 0).trans (by rw[KC z])))))
end
abbrev tw:DM:=lH bK dG eH fq cS
def AG {f:FS}(k:Int) (h:Fd4 n f) (hn:n<2 ^ 25) (x0 J x4 M x6:Sl) :
  ∃y3 y4 y5 y6 f',tw #[[x0,.v .feed,.v (.int k),J,x4,M,x6],some f]=some (.next,#[[x0,.v .feed,.v (.int k),y3,y4,y5,y6],some f'])/\Fd4 (n+30) f':=by
 obtain⟨t,f1,W,Z,h1⟩:=AU h ∅;obtain⟨Ss,B,U,hS,hl,h2⟩:=zB h1 ∅ Z (far:=0) #[];have h4:Ss.length<=4:=by omega
 have Y:Ok 3 100 (.tup (Ss.map d7)):=(Ok.tup (xU hS)).mono #[] ∅;have p:=(El hS h4 (some B)).2;rw[<-yR hS h4] at p;have b:=si hS h4;have rp:=(zU (fun u hu=>vU hS h4 u (Hg hu)) (by have:=Cd Ss;have:=lT hS h4;omega)).repr;have fl:=Ep Ss;have fd:=Hm (U5 Ss);generalize (U5 Ss).map c8=ls at *;generalize D.tup (Ss.map d7)=S at *;exact#[_,_,_,_,B,Bo x0 J x4 M x6 W U Y.repr fl (b none) fd (b (some B)) p rp,h2.mono ∅]
def math (B:List Int) (hl:B.length<=63):∃fs',jH bK dG eH fq cS [.scr B] none=some (.bl true,fs'):=by
 obtain⟨s',e,x2,J,x4,M,x6,f',rfl,W⟩:=bP (t:=d5 2) (b:=tw) (fun i s=>∃x2 J x4 M x6 f,s=#[[.v (.scr B),.v .feed,x2,J,x4,M,x6],some f]/\Fd4 (30*i) f) (B0 0 2) 0
  #[[.v (.scr B),.v .feed,.no,.no,.no,.no,.no],some #[O5 B,0,0,0,2]] #[_,_,_,_,_,_,rfl,Fd4.zero B] (by
   rintro i d s hd ⟨x2,J,x4,M,x6,f,rfl,W⟩;obtain⟨rfl,hi⟩:=fE hd;obtain⟨y3,y4,y5,y6,f',e,h'⟩:=AG (0+(i:Int)) W ∅ (.v (.scr B)) J x4 M x6;exact#[#[[.v (.scr B),.v .feed,.v (.int (0+(i:Int))),J,x4,M,x6],some f],_,rfl,.inl e,_,_,_,_,_,f',rfl,h'.mono ∅])
 have Z:V6 [.int 2]=some (B0 0 2):=fA (n:=2) #[];have U:bK [.tup []] (some f')=some (.lst ((U5 []).map c8),some f'):=si (Ss:=[]) (fun A Y=>nomatch Y) #[] (some f');rw[show U5 []=[] from rfl] at U;refine#[some f',u4 (s:=#[[.v (.scr B),.v .feed,x2,J,x4,M,x6],some f']) ?_];show jE bK dG eH fq cS #[[.v (.scr B),.no,.no,.no,.no,.no,.no],none]=_;unfold jE;refine j5 (s1:=#[[.v (.scr B),.v .feed,.no,.no,.no,.no,.no],some #[O5 B,0,0,0,2]]) (A7 (fQ (s1:=#[[.v (.scr B),.no,.no,.no,.no,.no,.no],none]) rfl (zJ B hl)) rfl) ?_;refine j5 (s1:=#[[.v (.scr B),.v .feed,x2,J,x4,M,x6],some f']) (by rw[iG (xs:=[.int 2]) rfl Z];exact e) ?_;generalize bK=m1 at *;exact v8 (c7 (x:=.lst []) (y:=.lst []) (o6 (e6 (x:=.tup []) rfl rfl) U) rfl rfl)
end T
namespace T
open PySem PySem.Spec L2 DL
local macro_rules | `(tactic| wtm_at "c")=>`(tactic| first | with_reducible exact As | with_reducible exact yK | with_reducible exact sJ | (with_reducible apply zc);exact Z7 (by assumption) | (with_reducible apply Jx);exact Z7 (by assumption) | (with_reducible apply wk);exact Z7 (by assumption) | (with_reducible apply IT);exact Z7 (by assumption))
local macro_rules | `(tactic| wtm_at "o")=>`(tactic| first | with_reducible exact Dj | with_reducible exact Cf | with_reducible exact Fg | with_reducible exact JM | with_reducible exact EZ | with_reducible exact Ew | with_reducible exact kj)
local macro_rules | `(tactic| wtm_at "q")=>`(tactic| first | with_reducible exact Bv | with_reducible exact yk | with_reducible exact Hi | with_reducible exact EI | with_reducible exact IE | with_reducible exact zK | with_reducible exact IW)
local macro_rules | `(tactic| wtm_at "r")=>`(tactic| first | with_reducible exact xk _ | with_reducible exact Hz | with_reducible exact zV | with_reducible exact uV | with_reducible exact Es)
local macro_rules | `(tactic| wtm_at "k")=>`(tactic| first | with_reducible exact qR | with_reducible exact CG | with_reducible exact sL | with_reducible exact(qt rfl) | (focus (with_reducible apply Hx);exact Fn (by assumption);exact(by assumption:Room _ _).gd))
local macro_rules | `(tactic| wtm_at "m")=>`(tactic| first | with_reducible exact xP | with_reducible exact ER | with_reducible exact qZ | with_reducible exact xQ | with_reducible exact Bw)
local macro_rules | `(tactic| wtm_at "b")=>`(tactic| first | exact Blt.abs (by assumption) | exact Blt.enumerate (by assumption) | exact Blt.int (by assumption) | exact Blt.isinstance (by assumption) | exact Blt.len (by assumption) | exact Blt.list (by assumption) | exact Blt.min (by assumption) | exact Blt.range (by assumption) | exact Blt.repr (by assumption) | exact Blt.tuple (by assumption) | exact Blt.zip (by assumption))
local macro_rules | `(tactic| wtm_at "t")=>`(tactic| first | exact BQ | exact tV | exact xC | exact iK | exact vF | exact Kc | exact wM)
local macro_rules | `(tactic| wtm_at "n")=>`(tactic| first | exact cG | (refine W5 ?_);wtm_at "n")
local macro_rules | `(tactic| wtm_at "l")=>`(tactic| first | exact Or.inl rfl | exact Or.inr rfl)
local macro_rules | `(tactic| wtm_at "x")=>`(tactic| first | exact rfl | exact Or.inl rfl | exact Or.inr rfl | decide | (intro _;rfl))
local macro_rules | `(tactic| wtm_at "S")=>`(tactic| first | (focus (with_reducible apply bH);all_goals wtm_at "x") | (focus (with_reducible apply C6);wtm_at "s";all_goals wtm_at "x") | (focus (with_reducible apply o9);wtm_at "s";wtm_at "S";all_goals wtm_at "x"))
local macro_rules | `(tactic| wtm_at "s")=>`(tactic| first | (focus (with_reducible apply wc);assumption;exact rfl;wtm_at "l";wtm_at "E";all_goals wtm_at "x") | (focus (with_reducible apply Q4);wtm_at "E";all_goals wtm_at "x") | (focus (with_reducible apply bo);wtm_at "T";wtm_at "S";wtm_at "S";all_goals wtm_at "x") | (focus (with_reducible apply Fy);wtm_at "E";wtm_at "G";all_goals wtm_at "x") | (focus (with_reducible apply zt);exact pv _;wtm_at "E";all_goals wtm_at "x") | (focus (with_reducible apply qw);assumption;exact rfl;wtm_at "l";wtm_at "F";all_goals wtm_at "x") | (focus (with_reducible apply T5);exact KL;exact rfl;wtm_at "E";wtm_at "G";wtm_at "S";all_goals wtm_at "x") | (focus (with_reducible apply nK);exact KL;wtm_at "T";wtm_at "S";all_goals wtm_at "x") | (focus (with_reducible apply ig);exact KL;exact rfl;exact rfl;exact Blt.range (by assumption);wtm_at "E";wtm_at "G";wtm_at "S";all_goals wtm_at "x") | (focus (with_reducible apply Gg);exact pv _;wtm_at "E";all_goals wtm_at "x") | (focus (with_reducible apply Kb);exact rfl;assumption;exact rfl;exact rfl;decide;exact rfl;exact rfl;wtm_at "A";exact rfl;all_goals wtm_at "x"))
local macro_rules | `(tactic| wtm_at "B")=>`(tactic| first | (focus (with_reducible apply eP);exact pv _;all_goals wtm_at "x") | (focus (with_reducible apply EO.b);wtm_at "E";all_goals wtm_at "x"))
local macro_rules | `(tactic| wtm_at "E")=>`(tactic| first | (focus (with_reducible apply L7);exact pv _;all_goals wtm_at "x") | (focus (with_reducible apply lS);all_goals wtm_at "x") | (focus (with_reducible apply IK);exact IG;exact yy;wtm_at "B";wtm_at "B";exact fun _ _=>rfl;all_goals wtm_at "x") | (focus (with_reducible apply Eg);rotate_left;wtm_at "q";rotate_right;wtm_at "o";wtm_at "B";wtm_at "B";all_goals wtm_at "x") | (focus (with_reducible apply gx);assumption;assumption;(first | decide | exact iU _ | exact Kf (by decide) (Nat.le_add_right _ _));exact rfl;wtm_at "A";wtm_at "n";all_goals wtm_at "x") | (focus (with_reducible apply BK);wtm_at "A";all_goals wtm_at "x") | (focus (with_reducible apply gc);all_goals wtm_at "x") | (focus (with_reducible apply HN);exact EE;exact Cq;wtm_at "B";all_goals wtm_at "x") | (focus (with_reducible apply FO.v);wtm_at "F";all_goals wtm_at "x") | (focus (with_reducible apply lx);rotate_left;wtm_at "r";rotate_right;wtm_at "c";wtm_at "B";wtm_at "B";(first | exact iC _ | exact rfl);all_goals wtm_at "x") | (focus (with_reducible apply wz);wtm_at "T";wtm_at "E";wtm_at "E";all_goals wtm_at "x") | (focus (with_reducible apply Ec);wtm_at "B";wtm_at "O";wtm_at "O";all_goals wtm_at "x") | (focus (with_reducible apply zP);wtm_at "E";all_goals wtm_at "x") | (focus (with_reducible apply nE);rotate_left;wtm_at "m";rotate_right;wtm_at "k";exact rfl;wtm_at "b";wtm_at "t";wtm_at "a";all_goals wtm_at "x") | (focus (with_reducible apply we);rotate_left;wtm_at "m";rotate_right;wtm_at "k";exact rfl;wtm_at "b";wtm_at "t";wtm_at "a";all_goals wtm_at "x") | (focus (with_reducible apply Jn);exact pv _;all_goals wtm_at "x") | (focus (with_reducible apply HH);wtm_at "E";all_goals wtm_at "x") | (focus (with_reducible apply Iv);wtm_at "E";wtm_at "E";all_goals wtm_at "x") | (focus (with_reducible apply Gk);wtm_at "E";wtm_at "E";all_goals wtm_at "x"))
local macro_rules | `(tactic| wtm_at "A")=>`(tactic| first | (focus (with_reducible apply ac);wtm_at "E";wtm_at "A";all_goals wtm_at "x") | (focus (with_reducible apply cR);all_goals wtm_at "x"))
local macro_rules | `(tactic| wtm_at "a")=>`(tactic| first | (focus (with_reducible apply bc);wtm_at "B";wtm_at "a";all_goals wtm_at "x") | (focus (with_reducible apply gX);all_goals wtm_at "x"))
local macro_rules | `(tactic| wtm_at "T")=>`(tactic| first | (focus (with_reducible apply FR);rotate_left;wtm_at "r";rotate_right;wtm_at "c";wtm_at "B";wtm_at "B";(first | exact iC _ | exact rfl);all_goals wtm_at "x") | (focus (with_reducible apply WO.t);wtm_at "W";all_goals wtm_at "x") | (focus (with_reducible apply om);wtm_at "T";all_goals wtm_at "x") | (focus (with_reducible apply mv);wtm_at "B";all_goals wtm_at "x"))
local macro_rules | `(tactic| wtm_at "W")=>`(tactic| first | (focus (with_reducible apply pP);wtm_at "T";wtm_at "W";all_goals wtm_at "x") | (focus (with_reducible apply xN);wtm_at "T";all_goals wtm_at "x") | (focus (with_reducible apply uM);wtm_at "T";wtm_at "W";all_goals wtm_at "x") | (focus (with_reducible apply EK);wtm_at "T";all_goals wtm_at "x"))
local macro_rules | `(tactic| wtm_at "O")=>`(tactic| first | (focus (with_reducible apply FJ);all_goals wtm_at "x") | (focus (with_reducible apply Cg);wtm_at "B";all_goals wtm_at "x"))
local macro_rules | `(tactic| wtm_at "F")=>`(tactic| first | (focus (with_reducible apply Il);wtm_at "A";all_goals wtm_at "x") | (focus (with_reducible apply JV);rotate_left;wtm_at "q";rotate_right;wtm_at "o";wtm_at "B";wtm_at "B";all_goals wtm_at "x"))
local macro_rules | `(tactic| wtm_at "G")=>`(tactic| first | (focus (with_reducible apply AM);wtm_at "h";all_goals wtm_at "x") | (focus (with_reducible apply Jv);exact rfl;wtm_at "g";all_goals wtm_at "x"))
local macro_rules | `(tactic| wtm_at "h")=>`(tactic| first | (focus (with_reducible apply Q3);assumption;exact rfl;wtm_at "l";all_goals wtm_at "x"))
local macro_rules | `(tactic| wtm_at "g")=>`(tactic| first | (focus (with_reducible apply Ij);wtm_at "G";wtm_at "g";all_goals wtm_at "x") | (focus (with_reducible apply zT);all_goals wtm_at "x"))
local macro_rules | `(tactic| wtm_at "R")=>`(tactic| first | (refine C6 ?_;wtm_at "s") | (refine o9 ?_ ?_;wtm_at "s";wtm_at "S"))
local macro_rules | `(tactic| wtm_at "p")=>`(tactic| first | exact fun _ _ _ _ _ _=>BZ fun _=>rfl | exact fun _ _ _ _ _ _=>jC fun _ _=>rfl | exact fun _ _ _ _ _ _=>Fd fun _ _ _=>rfl | exact fun _ _ _ _ _ _=>ED fun _ _ _ _=>rfl | exact fun _ _ _ _ _ _=>on5 fun _ _ _ _ _=>rfl | exact fun _ _ _ _ _ _=>on0 rfl)
local macro_rules | `(tactic| wtm_at "f")=>`(tactic| exact⟨rfl,rfl,rfl,by decide +kernel,rfl,by decide +kernel,by decide +kernel⟩)
local macro_rules | `(tactic| wtm_at "M")=>`(tactic| (intro nd _ _ _ _ _ _ _ hr;wtm_at "R"))
def i9 (i:Nat):Stmt:=PySem.Challenge.pw_widelines_k23_bare_parts.main.body.getD i (.Pass #[0,0,0,0])
section
variable (P:Program) (w:World) (K:vF_) (mg:vG_) (base:Heap)
abbrev uR:=Cal P w K mg base 1 "_law_tape" ["_law_script"]
abbrev gr:=Cal P w K mg base 1 "_law_draw" ["_law_tape_here", "_law_many"]
abbrev oM:=Cal P w K mg base 1 "_law_common" ["_law_one", "_law_other"]
abbrev gZ:=Cal P w K mg base 2 "_law_place" ["_law_x", "_law_y", "_law_bottom"]
abbrev rS:=Cal P w K mg base 3 "_law_laid" ["_law_net_here", "_law_u", "_law_v"]
abbrev uQ:=Cal P w K mg base 2 "_law_form" ["_law_tape_here"]
abbrev fF:=Cal P w K mg base 1 "_law_less" ["_law_one", "_law_other"]
abbrev pB:=Cal P w K mg base 2 "_law_begun" ["_law_corners"]
abbrev qi:=Cal P w K mg base 4 "_law_shapes" ["_law_tape_here", "_law_net_here", "_law_most", "_law_far"]
abbrev df:=Cal P w K mg base 1 "is_lesser" ["one", "other"]
abbrev xB:=Cal P w K mg base 2 "row_goes_ahead" ["one", "other"]
abbrev oQ:=Cal P w K mg base 3 "merged" ["ones", "others", "goes_ahead"]
abbrev lE:=Cal P w K mg base 1 "neighbours" ["row", "closed"]
abbrev wJ:=Cal P w K mg base 2 "edges" ["corners"]
abbrev oN:=Cal P w K mg base 2 "span" ["a", "b"]
abbrev jY:=Cal P w K mg base 1 "upright" ["one", "other"]
abbrev kL:=Cal P w K mg base 2 "straight" ["a", "b"]
abbrev tm:=Cal P w K mg base 1 "divisor_of_two" ["one", "other"]
abbrev ur:=Cal P w K mg base 2 "divisor" ["parts"]
abbrev oK:=Cal P w K mg base 3 "lowest" ["parts"]
abbrev tB:=Cal P w K mg base 4 "crossing" ["line", "other"]
abbrev vH:=Cal P w K mg base 5 "places_on" ["line", "shape", "sides"]
abbrev rY:=Cal P w K mg base 1 "sign" ["number"]
abbrev wy:=Cal P w K mg base 2 "side_of" ["line", "one"]
abbrev uC:=Cal P w K mg base 2 "is_covered" ["part", "covers"]
abbrev sT:=Cal P w K mg base 67 "in_order" ["some", "goes_ahead"]
abbrev wD:=Cal P w K mg base 68 "bare_parts_of_edge" ["a", "b", "shapes"]
abbrev oD:=Cal P w K mg base 69 "bare_parts" ["shapes"]
abbrev tj:=Cal P w K mg base 2 "_law_net" ["_law_tape_here"]
abbrev wu:=Cal P w K mg base 2 "_law_sorted" ["_law_parts_here"]
abbrev kJ:=Cal P w K mg base 1 "_law_edges" ["_law_ring"]
abbrev wB:=Cal P w K mg base 2 "_law_row" ["_law_a", "_law_b", "_law_some"]
abbrev xp:=Cal P w K mg base 1 "_law_beside" ["_law_a", "_law_b", "_law_p", "_law_side"]
abbrev uf:=Cal P w K mg base 3 "_law_midst" ["_law_one", "_law_other"]
abbrev dR:=Cal P w K mg base 1 "_law_det" ["_law_a", "_law_b", "_law_c"]
abbrev xS:=Cal P w K mg base 3 "_law_cross" ["_law_a", "_law_b", "_law_c", "_law_d"]
abbrev vp:=Cal P w K mg base 2 "_law_on" ["_law_a", "_law_b", "_law_p"]
abbrev tN:=Cal P w K mg base 4 "_law_met" ["_law_a", "_law_b", "_law_c", "_law_d"]
abbrev wX:=Cal P w K mg base 2 "_law_in" ["_law_shape", "_law_p"]
abbrev wt:=Cal P w K mg base 3 "_law_area" ["_law_shapes_here", "_law_p"]
abbrev vV:=Cal P w K mg base 5 "_law_parts" ["_law_shapes_here"]
end
variable {f:Addr}
section
variable {P:Program}{w:World}{K:vF_}
def Jw (B:Blt mg) (F:GF K mg "_law_tape" (i9 24) f fd):uR P w K mg base (cS):=
 v7 [] F (by wtm_at "p") (by wtm_at "f") fun M _ _ _ _ _ _ g J=>
 (C6 (Q4 (BC (Z7 J) (pv 0) (pv 0) (by rfl) B.list iK (by rfl) B.int tV)))
def JQ (B:Blt mg) (F:GF K mg "_law_draw" (i9 25) f fd):gr P w K mg base (tH):=
 v7 ["_law_digit", "_law_spot", "_law_cell", "_law_mixed"] F (by wtm_at "p") (by wtm_at "f") (by unfold aH;wtm_at "M")
def yZ (B:Blt mg) (F:GF K mg "_law_common" (i9 26) f fd):oM P w K mg base (jb):=
 v7 [] F (by wtm_at "p") (by wtm_at "f") (by unfold qJ;wtm_at "M")
def Ey (J:oM P w K mg base m0x) (B:Blt mg) (F:GF K mg "_law_place" (i9 27) f fd):gZ P w K mg base (xJ m0x):=
 v7 ["_law_by"] F (by wtm_at "p") (by wtm_at "f") (by unfold iE;wtm_at "M")
def DF (J:gZ P w K mg base m05) (B:Blt mg) (F:GF K mg "_law_laid" (i9 34) f fd):rS P w K mg base (vE m05):=
 v7 ["_law_x"] F (by wtm_at "p") (by wtm_at "f") (by unfold gC;wtm_at "M")
def zG (J:gr P w K mg base m01) (B:Blt mg) (F:GF K mg "_law_form" (i9 32) f fd):uQ P w K mg base (sj m01):=
 v7 ["_law_w", "_law_h", "_law_some"] F (by wtm_at "p") (by wtm_at "f") (by unfold gA;wtm_at "M")
def Ao (B:Blt mg) (F:GF K mg "_law_less" (i9 29) f fd):fF P w K mg base (F5):=
 v7 ["_law_first"] F (by wtm_at "p") (by wtm_at "f") (by unfold gY;wtm_at "M")
def yN (J:fF P w K mg base m00) (B:Blt mg) (F:GF K mg "_law_begun" (i9 31) f fd):pB P w K mg base (sk m00):=
 v7 ["_law_at", "_law_k"] F (by wtm_at "p") (by wtm_at "f") (by unfold gG;wtm_at "M")
def yQ (M:gr P w K mg base m01) (U:pB P w K mg base m0o) (W:uQ P w K mg base m0p) (Y:rS P w K mg base m0q) (B:Blt mg) (F:GF K mg "_law_shapes" (i9 35) f fd):qi P w K mg base (wZ m01 m0o m0p m0q):=
 v7 ["_law_found", "_law_k", "_law_x", "_law_y", "_law_corners"] F (by wtm_at "p") (by wtm_at "f") fun J _ _ _ _ _ _ g Z=>
 (o9 (by wtm_at "s") (o9 (ig KL rfl (by rfl) B.range (by wtm_at "E") (by wtm_at "G") (o9 (by wtm_at "s") (o9 (fY (i:=8) J rfl (by first | exact Or.inl rfl | exact Or.inr rfl) (GP (caps:=["_law_net_here", "_law_x", "_law_y"]) (idx:=[1,6,7]) rfl (kH (by rfl) (.cons rfl (.cons rfl (.cons rfl .nil))) (by decide +kernel) rfl (by decide +kernel) (by rfl) (.cons rfl (by first | exact Or.inl rfl | exact Or.inr rfl) (by first | exact Or.inl rfl | exact Or.inr rfl) (.cons rfl (by first | exact Or.inl rfl | exact Or.inr rfl) (by first | exact Or.inl rfl | exact Or.inr rfl) (.cons rfl (by first | exact Or.inl rfl | exact Or.inr rfl) (by first | exact Or.inl rfl | exact Or.inr rfl) .nil)))) (aB (by wtm_at "E")) (show List.Nodup (["_law_u", "_law_v", "_law_net_here", "_law_x", "_law_y"]:List Str) by decide +kernel) (fun _ _ _ _=>rfl) (fun _ _ _ _=>rfl) (fun _ _ _ _ _=>ba) (fun _ _ _ _ _=>(by wtm_at "E")))) (by wtm_at "S")))) (by wtm_at "S")))
def He (B:Blt mg) (F:GF K mg "is_lesser" (i9 5) f fd):df P w K mg base (E3):=
 v7 ["here", "there"] F (by wtm_at "p") (by wtm_at "f") (by unfold dY;wtm_at "M")
def Eb {J:a8}(M:df P w K mg base J) (B:Blt mg) (F:GF K mg "row_goes_ahead" (i9 12) f fd):xB P w K mg base (uN J):=
 v7 ["here", "there"] F (by wtm_at "p") (by wtm_at "f") fun W _ _ _ _ _ _ g U=>
 (o9 (ox KL rfl (by rfl) B.zip (by wtm_at "A") (by wtm_at "G") (by wtm_at "S")) (by wtm_at "S"))
def yo {M:a8}(U:df P w K mg base M) (J:xB P w K mg base m0i) (B:Blt mg) (F:GF K mg "merged" (i9 11) f fd):oQ P w K mg base (dh M m0i):=
 v7 ["told", "taken", "one"] F (by wtm_at "p") (by wtm_at "f") fun Y _ _ _ _ _ _ g W=>
 (o9 (by wtm_at "s") (o9 (by wtm_at "s") (o9 (T5 KL rfl (L7 (pv 0)) (by wtm_at "G") (o9 (nK KL (WO.t (pP (by wtm_at "T") (xN (mv (EO.b (EG (pV U #[] rfl (pV J #[] rfl Fj)) W (pv 2) (by wtm_at "A") (W5 (W5 cG)))))))) (by wtm_at "S")) (by wtm_at "S"))) (by wtm_at "S"))))
def u8:FnScope ["some", "goes_ahead", "middle"] ["some", "goes_ahead"] (D3 (i9 10)):=by wtm_at "f"
theorem vn (J:oQ P w K mg base m0w) (B:Blt mg) (F:GF K mg "in_order" (i9 10) f fd):∀n:Nat,Cal P w K mg base (3+n) "in_order" ["some", "goes_ahead"] (fj m0w n)
 |0=>#[f,fd,Ik,F.m,F.F.kp,F.F.binds (fun _ _ _ _ _ _=>jC fun _ _=>rfl)]
 |n+1=>
  have U:=vn J B F n
  oC F (fun _ _ _ _ _ _=>jC fun _ _=>rfl) u8 fun W A M s H E g Y=>
  have nd:=u8.nd
  (o9 (bo (by wtm_at "T") (C6 (Q4 (FO.v (Jc nM Ct (by rfl) B.list iK (by wtm_at "a"))))) bH) (by wtm_at "S"))
def BD (B:Blt mg) (F:GF K mg "neighbours" (i9 8) f fd):lE P w K mg base (U9):=
 v7 [] F (by wtm_at "p") (by wtm_at "f") fun M _ _ _ _ _ _ g J=>
 (o9 (bo (by wtm_at "T") (C6 (Q4 (FO.v (pF rfl (by rfl) B.list (by rfl) B.zip (by wtm_at "a"))))) bH) (C6 (Q4 (FO.v (pF rfl (by rfl) B.list (by rfl) B.zip (by wtm_at "a"))))))
def DW (J:lE P w K mg base m07) (B:Blt mg) (F:GF K mg "edges" (i9 9) f fd):wJ P w K mg base (ux m07):=
 v7 [] F (by wtm_at "p") (by wtm_at "f") (by unfold gR;wtm_at "M")
def HK {J:a8}(M:df P w K mg base J) (B:Blt mg) (F:GF K mg "span" (i9 13) f fd):oN P w K mg base (hV J):=
 v7 [] F (by wtm_at "p") (by wtm_at "f") (by unfold kA;wtm_at "M")
def Hf (B:Blt mg) (F:GF K mg "upright" (i9 14) f fd):jY P w K mg base (gQ):=
 v7 [] F (by wtm_at "p") (by wtm_at "f") (by unfold xv;wtm_at "M")
def En (J:jY P w K mg base m0e) (B:Blt mg) (F:GF K mg "straight" (i9 15) f fd):kL P w K mg base (nH m0e):=
 v7 [] F (by wtm_at "p") (by wtm_at "f") (by unfold tQ;wtm_at "M")
def Dx (B:Blt mg) (F:GF K mg "divisor_of_two" (i9 1) f fd):tm P w K mg base (T3):=
 v7 ["greater", "rest", "left_over"] F (by wtm_at "p") (by wtm_at "f") (by unfold iD;wtm_at "M")
def zI (J:tm P w K mg base m0n) (B:Blt mg) (F:GF K mg "divisor" (i9 2) f fd):ur P w K mg base (cO m0n):=
 v7 ["shared", "part"] F (by wtm_at "p") (by wtm_at "f") (by unfold iY;wtm_at "M")
def Fu (J:ur P w K mg base m0z) (B:Blt mg) (F:GF K mg "lowest" (i9 3) f fd):oK P w K mg base (ve m0z):=
 v7 ["shared"] F (by wtm_at "p") (by wtm_at "f") fun M _ _ _ _ _ _ g U=>
 (o9 (by wtm_at "s") (o9 (by wtm_at "s") (C6 (Q4 (we sL qZ (by rfl) B.tuple wM (bc (EO.b (FO.v (fw (N':=["part", "shared"]) (idx:=[1]) rfl (au (by rfl) (.cons rfl .nil) (by decide +kernel) rfl (by decide +kernel) (by rfl) (.cons rfl (by first | exact Or.inl rfl | exact Or.inr rfl) (by first | exact Or.inl rfl | exact Or.inr rfl) .nil)) (aB (L7 (pv 0))) (fun _ _ _ _=>Q3 (i:=0) (show List.Nodup (["part", "shared"]:List Str) by decide +kernel) rfl (Or.inl rfl)) (fun _ _ _ _ _=>ba) (fun _ _ _ _ _=>(by wtm_at "E"))))) gX))))))
def zk (M:oK P w K mg base m0B) (J:jY P w K mg base m0e) (B:Blt mg) (F:GF K mg "crossing" (i9 17) f fd):tB P w K mg base (rn m0B m0e):=
 v7 [] F (by wtm_at "p") (by wtm_at "f") (by unfold oA;wtm_at "M")
def Fe (J:tB P w K mg base m0r) (M:kL P w K mg base m06) (B:Blt mg) (F:GF K mg "places_on" (i9 21) f fd):vH P w K mg base (vK m0r m06):=
 v7 ["met", "k", "side"] F (by wtm_at "p") (by wtm_at "f") fun W _ _ _ _ _ _ g U=>
 (o9 (by wtm_at "s") (o9 (IV KL rfl (by rfl) B.enumerate (by wtm_at "A") (by wtm_at "G") (by wtm_at "S")) (by wtm_at "S")))
def yw (B:Blt mg) (F:GF K mg "sign" (i9 6) f fd):rY P w K mg base (mh):=
 v7 [] F (by wtm_at "p") (by wtm_at "f") (by unfold ck;wtm_at "M")
def CF (J:rY P w K mg base m0A) (B:Blt mg) (F:GF K mg "side_of" (i9 16) f fd):wy P w K mg base (pD m0A):=
 v7 [] F (by wtm_at "p") (by wtm_at "f") (by unfold vO;wtm_at "M")
def yj {J:a8}(M:df P w K mg base J) (B:Blt mg) (F:GF K mg "is_covered" (i9 22) f fd):uC P w K mg base (wG J):=
 v7 ["low", "high"] F (by wtm_at "p") (by wtm_at "f") (by unfold gM;wtm_at "M")
def Ei {Z:a8}(C0k:uC P w K mg base m0j) (Y:lE P w K mg base m07) (W:sT P w K mg base m03) (C0l:oN P w K mg base m0h) (Ch:df P w K mg base Z) (C0m:vH P w K mg base m0k) (C0n:wy P w K mg base m0l) (C06:kL P w K mg base m06) (J:FnV K mg "is_lesser") (B:Blt mg) (F:GF K mg "bare_parts_of_edge" (i9 20) f fd):wD P w K mg base (qN m0j m07 m03 m0h Z m0k m0l m06):=
 v7 ["ends", "line", "splits", "covers", "shape", "sides", "met", "one", "parts", "bare"] F (by wtm_at "p") (by wtm_at "f") fun U _ _ _ _ _ _ g M=>
 (o9 (by wtm_at "s") (o9 (by wtm_at "s") (o9 (zS (i:=5) xI (Z7 M) U rfl (by first | exact Or.inl rfl | exact Or.inr rfl) (pv 0) (pv 1) eT eT) (o9 (by wtm_at "s") (o9 (T5 KL rfl (L7 (pv 2)) (by wtm_at "G") (o9 (fY (i:=8) U rfl (by first | exact Or.inl rfl | exact Or.inr rfl) (lI (N':=["corner", "line"]) (idx:=[4]) rfl (au (by rfl) (.cons rfl .nil) (by decide +kernel) rfl (by decide +kernel) (by rfl) (.cons rfl (by first | exact Or.inl rfl | exact Or.inr rfl) (by first | exact Or.inl rfl | exact Or.inr rfl) .nil)) (aB (L7 (pv 7))) (fun _ _ _ _=>Q3 (i:=0) (show List.Nodup (["corner", "line"]:List Str) by decide +kernel) rfl (Or.inl rfl)) (fun _ _ _ _ _=>ba) (fun _ _ _ _ _=>(by wtm_at "E")))) (o9 (by wtm_at "s") (o9 (T5 KL rfl (L7 (pv 9)) (by wtm_at "G") (C6 (bo (by wtm_at "T") (C6 (rF xI (Z7 M) (pv 5) (pv 10) eT)) bH))) (by wtm_at "S"))))) (o9 (wc (i:=11) U rfl (by first | exact Or.inl rfl | exact Or.inr rfl) (gx Y _ M #[] (by rfl) (ac (gx W _ M #[] (by rfl) (ac (FO.v (wI rfl (by rfl) B.list (pv 5))) (ac (vk J (by rfl)) cR)) (W5 (W5 cG))) (ac gc cR)) (W5 (W5 cG)))) (o9 (fY (i:=12) U rfl (by first | exact Or.inl rfl | exact Or.inr rfl) (Gm [6] (lI (N':=["part", "covers"]) (idx:=[6]) rfl (au (by rfl) (.cons rfl .nil) (by decide +kernel) rfl (by decide +kernel) (by rfl) (.cons rfl (by first | exact Or.inl rfl | exact Or.inr rfl) (by first | exact Or.inl rfl | exact Or.inr rfl) .nil)) (aB (L7 (pv 11))) (fun _ _ _ _=>Q3 (i:=0) (show List.Nodup (["part", "covers"]:List Str) by decide +kernel) rfl (Or.inl rfl)) (fun _ _ _ _ _=>(fP (by wtm_at "T"))) (fun _ _ _ _ _=>(L7 (pv 0)))))) (o9 (by wtm_at "s") (C6 (Q4 (FO.v (vM (caps:=[]) (idx:=[]) rfl (kH (by rfl) .nil (by decide +kernel) rfl (by decide +kernel) (by rfl) .nil) (aB (L7 (pv 12))) (show List.Nodup (["begin", "end"]:List Str) by decide +kernel) (fun _ _ _ _=>rfl) (fun _ _ _ _=>rfl) (fun _ _ _ _ _=>ba) (fun _ _ _ _ _=>(by wtm_at "E"))))))))))))))
def GX (M:sT P w K mg base m03) (W:wD P w K mg base m0f) (Y:wJ P w K mg base m0g) (J:FnV K mg "row_goes_ahead") (B:Blt mg) (F:GF K mg "bare_parts" (i9 19) f fd):oD P w K mg base (sO m03 m0f m0g):=
 v7 ["told", "shape", "a", "b", "part"] F (by wtm_at "p") (by wtm_at "f") fun Z _ _ _ _ _ _ g U=>
 (o9 (Dm (i:=1) Z rfl (by first | exact Or.inl rfl | exact Or.inr rfl)) (o9 (T5 KL rfl (L7 (pv 0)) (by wtm_at "G") (C6 (T5 KL rfl (by wtm_at "E") (by wtm_at "G") (C6 (T5 KL rfl (by wtm_at "E") (by wtm_at "G") (C6 (rF yI (Z7 U) (pv 1) (pv 5) eT))))))) (C6 (Q4 (gx M _ U #[] (by rfl) (ac (FO.v (wI rfl (by rfl) B.list (pv 1))) (ac (vk J (by rfl)) cR)) (W5 (W5 cG)))))))
def zC (J:gr P w K mg base m01) (B:Blt mg) (F:GF K mg "_law_net" (i9 33) f fd):tj P w K mg base (uI m01):=
 v7 ["_law_some", "_law_found", "_law_x", "_law_y"] F (by wtm_at "p") (by wtm_at "f") (by unfold gJ;wtm_at "M")
def Du (M:fF P w K mg base m00) (B:Blt mg) (F:GF K mg "_law_sorted" (i9 44) f fd):wu P w K mg base (oU m00):=
 v7 ["_law_found", "_law_begin", "_law_end", "_law_ahead"] F (by wtm_at "p") (by wtm_at "f") fun J _ _ _ _ _ _ g U=>
 (o9 (by wtm_at "s") (o9 (T5 KL rfl (L7 (pv 0)) (by wtm_at "G") (o9 (fY (i:=4) J rfl (by first | exact Or.inl rfl | exact Or.inr rfl) (lI (N':=["_law_one", "_law_begin", "_law_end"]) (idx:=[2,3]) rfl (au (by rfl) (.cons rfl (.cons rfl .nil)) (by decide +kernel) rfl (by decide +kernel) (by rfl) (.cons rfl (by first | exact Or.inl rfl | exact Or.inr rfl) (by first | exact Or.inl rfl | exact Or.inr rfl) (.cons rfl (by first | exact Or.inl rfl | exact Or.inr rfl) (by first | exact Or.inl rfl | exact Or.inr rfl) .nil))) (xD (eP (pv 1))) (fun _ _ _ _=>Q3 (i:=0) (show List.Nodup (["_law_one", "_law_begin", "_law_end"]:List Str) by decide +kernel) rfl (Or.inl rfl)) (fun _ _ _ _ _=>(fP (by wtm_at "T"))) (fun _ _ _ _ _=>(L7 (pv 0))))) (C6 (pG (pv 1) (by wtm_at "A"))))) (by wtm_at "S")))
def Ej (B:Blt mg) (F:GF K mg "_law_edges" (i9 30) f fd):kJ P w K mg base (N2):=
 v7 [] F (by wtm_at "p") (by wtm_at "f") fun J _ _ _ _ _ _ g M=>
 (C6 (Q4 (FO.v (fw (N':=["_law_k", "_law_ring"]) (idx:=[0]) rfl (au (by rfl) (.cons rfl .nil) (by decide +kernel) rfl (by decide +kernel) (by rfl) (.cons rfl (by first | exact Or.inl rfl | exact Or.inr rfl) (by first | exact Or.inl rfl | exact Or.inr rfl) .nil)) (EJ (by rfl) B.range (by wtm_at "E")) (fun _ _ _ _=>Q3 (i:=0) (show List.Nodup (["_law_k", "_law_ring"]:List Str) by decide +kernel) rfl (Or.inl rfl)) (fun _ _ _ _ _=>ba) (fun _ _ _ _ _=>(by wtm_at "E"))))))
def Az (M:fF P w K mg base m00) (B:Blt mg) (F:GF K mg "_law_row" (i9 39) f fd):wB P w K mg base (og m00):=
 v7 ["_law_found", "_law_one"] F (by wtm_at "p") (by wtm_at "f") fun J _ _ _ _ _ _ g U=>
 (o9 (by wtm_at "s") (o9 (T5 KL rfl (L7 (pv 2)) (by wtm_at "G") (C6 (bo (by wtm_at "T") (C6 (pG (pv 3) (ac (nE qR xP (by rfl) B.len xC (bc (EO.b (FO.v (fw (N':=["_law_other", "_law_one"]) (idx:=[4]) rfl (au (by rfl) (.cons rfl .nil) (by decide +kernel) rfl (by decide +kernel) (by rfl) (.cons rfl (by first | exact Or.inl rfl | exact Or.inr rfl) (by first | exact Or.inl rfl | exact Or.inr rfl) .nil)) (xD (eP (pv 3))) (fun _ _ _ _=>Q3 (i:=0) (show List.Nodup (["_law_other", "_law_one"]:List Str) by decide +kernel) rfl (Or.inl rfl)) (fun _ _ _ _ _=>(fP (by wtm_at "T"))) (fun _ _ _ _ _=>(L7 (pv 0)))))) gX)) (by wtm_at "A")))) bH))) (C6 (Q4 (wz (by wtm_at "T") (L7 (pv 3)) (Br (eP (pv 3)) (by wtm_at "B")))))))
def Bf (B:Blt mg) (F:GF K mg "_law_beside" (i9 41) f fd):xp P w K mg base (R5):=
 v7 ["_law_far", "_law_x", "_law_y"] F (by wtm_at "p") (by wtm_at "f") (by unfold fW;wtm_at "M")
def BN (J:gZ P w K mg base m05) (B:Blt mg) (F:GF K mg "_law_midst" (i9 40) f fd):uf P w K mg base (wY m05):=
 v7 ["_law_x"] F (by wtm_at "p") (by wtm_at "f") (by unfold iA;wtm_at "M")
def EF (B:Blt mg) (F:GF K mg "_law_det" (i9 28) f fd):dR P w K mg base (S4):=
 v7 ["_law_first", "_law_second"] F (by wtm_at "p") (by wtm_at "f") (by unfold gn;wtm_at "M")
def AS (M:gZ P w K mg base m05) (J:dR P w K mg base m02) (B:Blt mg) (F:GF K mg "_law_cross" (i9 37) f fd):xS P w K mg base (kO m05 m02):=
 v7 ["_law_first", "_law_second", "_law_x"] F (by wtm_at "p") (by wtm_at "f") (by unfold fS;wtm_at "M")
def Jj (M:fF P w K mg base m00) (J:dR P w K mg base m02) (B:Blt mg) (F:GF K mg "_law_on" (i9 36) f fd):vp P w K mg base (cy m00 m02):=
 v7 ["_law_low", "_law_high"] F (by wtm_at "p") (by wtm_at "f") (by unfold eI;wtm_at "M")
def Cw (J:vp P w K mg base m0y) (U:xS P w K mg base m0D) (M:dR P w K mg base m02) (B:Blt mg) (F:GF K mg "_law_met" (i9 38) f fd):tN P w K mg base (rT m0y m0D m02):=
 v7 ["_law_first", "_law_second", "_law_p"] F (by wtm_at "p") (by wtm_at "f") fun W _ _ _ _ _ _ g Y=>
 (o9 (by wtm_at "s") (o9 (bo (by wtm_at "T") (C6 (Q4 (FO.v (fw (N':=["_law_p", "_law_a", "_law_b"]) (idx:=[0,1]) rfl (au (by rfl) (.cons rfl (.cons rfl .nil)) (by decide +kernel) rfl (by decide +kernel) (by rfl) (.cons rfl (by first | exact Or.inl rfl | exact Or.inr rfl) (by first | exact Or.inl rfl | exact Or.inr rfl) (.cons rfl (by first | exact Or.inl rfl | exact Or.inr rfl) (by first | exact Or.inl rfl | exact Or.inr rfl) .nil))) (aB (by wtm_at "E")) (fun _ _ _ _=>Q3 (i:=0) (show List.Nodup (["_law_p", "_law_a", "_law_b"]:List Str) by decide +kernel) rfl (Or.inl rfl)) (fun _ _ _ _ _=>(fP (by wtm_at "T"))) (fun _ _ _ _ _=>(L7 (pv 0))))))) bH) (by wtm_at "S")))
def Hq (M:kJ P w K mg base m04) (J:dR P w K mg base m02) (B:Blt mg) (F:GF K mg "_law_in" (i9 42) f fd):wX P w K mg base (uE m04 m02):=
 v7 [] F (by wtm_at "p") (by wtm_at "f") fun W _ _ _ _ _ _ g U=>
 (C6 (Q4 (lx sJ (xk (fun i j=>decide (j<=i))) (EO.b (nE (qt rfl) xQ (by rfl) B.min vF (bc (EO.b (FO.v (vM (caps:=["_law_p"]) (idx:=[1]) rfl (kH (by rfl) (.cons rfl .nil) (by decide +kernel) rfl (by decide +kernel) (by rfl) (.cons rfl (by first | exact Or.inl rfl | exact Or.inr rfl) (by first | exact Or.inl rfl | exact Or.inr rfl) .nil)) (aB (by wtm_at "E")) (show List.Nodup (["_law_a", "_law_b", "_law_p"]:List Str) by decide +kernel) (fun _ _ _ _=>rfl) (fun _ _ _ _=>rfl) (fun _ _ _ _ _=>ba) (fun _ _ _ _ _=>(by wtm_at "E"))))) gX))) (EO.b lS) (iC _))))
def BL (J:wX P w K mg base m0C) (B:Blt mg) (F:GF K mg "_law_area" (i9 43) f fd):wt P w K mg base (xE m0C):=
 v7 [] F (by wtm_at "p") (by wtm_at "f") fun U _ _ _ _ _ _ g M=>
 (C6 (Q4 (lx (wk (Z7 M)) uV (EO.b gc) (EO.b (FO.v (fw (N':=["_law_shape", "_law_p"]) (idx:=[1]) rfl (au (by rfl) (.cons rfl .nil) (by decide +kernel) rfl (by decide +kernel) (by rfl) (.cons rfl (by first | exact Or.inl rfl | exact Or.inr rfl) (by first | exact Or.inl rfl | exact Or.inr rfl) .nil)) (aB (L7 (pv 0))) (fun _ _ _ _=>Q3 (i:=0) (show List.Nodup (["_law_shape", "_law_p"]:List Str) by decide +kernel) rfl (Or.inl rfl)) (fun _ _ _ _ _=>ba) (fun _ _ _ _ _=>(by wtm_at "E"))))) (by rfl))))
def AX (J:wu P w K mg base m08) (Y:wt P w K mg base m09) (U:xp P w K mg base m0a) (M:uf P w K mg base m0b) (Z:wB P w K mg base m0c) (C0y:tN P w K mg base m0d) (W:kJ P w K mg base m04) (B:Blt mg) (F:GF K mg "_law_parts" (i9 45) f fd):vV P w K mg base (wV m08 m09 m0a m0b m0c m0d m04):=
 v7 ["_law_found", "_law_k", "_law_others", "_law_a", "_law_b", "_law_met_here", "_law_other", "_law_c", "_law_d", "_law_one", "_law_last", "_law_spot"] F (by wtm_at "p") (by wtm_at "f") fun nd _ _ _ _ _ _ g hr=>
 (o9 (by wtm_at "s") (o9 (ig KL rfl (by rfl) B.range (by wtm_at "E") (by wtm_at "G") (o9 (by wtm_at "s") (C6 (T5 KL rfl (by wtm_at "E") (by wtm_at "G") (o9 (by wtm_at "s") (o9 (T5 KL rfl (L7 (pv 3)) (by wtm_at "G") (C6 (T5 KL rfl (by wtm_at "E") (by wtm_at "G") (C6 (AI (pv 6) (by wtm_at "A")))))) (o9 (by wtm_at "s") (C6 (ox KL rfl (by rfl) B.zip (by wtm_at "A") (by wtm_at "G") (by wtm_at "S")))))))))) (by wtm_at "S")))
def ut:FnScope ["_law_script", "_law_tape_here", "_law_k", "_law_shapes_here", "_law_kept", "_law_found", "_law_due"] ["_law_script"] (D3 (i9 46)):=by wtm_at "f"
def AE (J:oD P w K mg base m0m) (C0z:vV P w K mg base m0s) (C0A:qi P w K mg base m0t) (U:tj P w K mg base m0u) (W:uR P w K mg base m0v) {f:Addr}(B:Blt mg) (F:Fun K "law" "law" (i9 46) f fd):bN P w K mg base 70 f fd ["_law_script"] (jH m0m m0s m0t m0u m0v):=
 oo F ut fun Y A M s H E g Z=>
  have nd:=ut.nd
  (o9 (by wtm_at "s") (o9 (ig KL rfl (by rfl) B.range lS (by wtm_at "G") (o9 (by wtm_at "s") (o9 (by wtm_at "s") (o9 (qw (i:=5) nd rfl (by first | exact Or.inl rfl | exact Or.inr rfl) (JU J _ Z #[] (by rfl) (by wtm_at "A") (W5 cG))) (o9 (by wtm_at "s") (o9 (bo (WO.t (uM (om (mv (EO.b (JE Ha (by rfl) B.isinstance (by rfl) B.list iK (eP (pv 5)))))) (by wtm_at "W"))) (C6 (Q4 gc)) bH) (o9 (zv (pv 5)) (by wtm_at "S")))))))) (by wtm_at "S")))
end
end T
namespace T
open PySem PySem.Spec L2 DL
abbrev whole:a8:=jH bK dG eH fq cS
set_option autoImplicit true in
set_option relaxedAutoImplicit true in
def all_mk {l:PySem.W.OpenLaw}{w:World}{K:vF_}{fa:Addr}(X:K.In h) (G:h.Ns mainGlobals mg) (hfa:mg "law" = some (.ref fa))
  (g1:GF K mg "_law_tape" (i9 24) jf1 jd1)
  (g2:GF K mg "_law_draw" (i9 25) jf2 jd2)
  (g3:GF K mg "_law_common" (i9 26) jf3 jd3)
  (g4:GF K mg "_law_place" (i9 27) jf4 jd4)
  (g5:GF K mg "_law_laid" (i9 34) jf5 jd5)
  (g6:GF K mg "_law_form" (i9 32) jf6 jd6)
  (g7:GF K mg "_law_less" (i9 29) jf7 jd7)
  (g8:GF K mg "_law_begun" (i9 31) jf8 jd8)
  (g9:GF K mg "_law_shapes" (i9 35) jf9 jd9)
  (g10:GF K mg "is_lesser" (i9 5) jf10 jd10)
  (g11:GF K mg "row_goes_ahead" (i9 12) jf11 jd11)
  (g12:GF K mg "merged" (i9 11) jf12 jd12)
  (g13:GF K mg "in_order" (i9 10) jf13 jd13)
  (g14:GF K mg "neighbours" (i9 8) jf14 jd14)
  (g15:GF K mg "edges" (i9 9) jf15 jd15)
  (g16:GF K mg "span" (i9 13) jf16 jd16)
  (g17:GF K mg "upright" (i9 14) jf17 jd17)
  (g18:GF K mg "straight" (i9 15) jf18 jd18)
  (g19:GF K mg "divisor_of_two" (i9 1) jf19 jd19)
  (g20:GF K mg "divisor" (i9 2) jf20 jd20)
  (g21:GF K mg "lowest" (i9 3) jf21 jd21)
  (g22:GF K mg "crossing" (i9 17) jf22 jd22)
  (g23:GF K mg "places_on" (i9 21) jf23 jd23)
  (g24:GF K mg "sign" (i9 6) jf24 jd24)
  (g25:GF K mg "side_of" (i9 16) jf25 jd25)
  (g26:GF K mg "is_covered" (i9 22) jf26 jd26)
  (g27:GF K mg "bare_parts_of_edge" (i9 20) jf27 jd27)
  (g28:GF K mg "bare_parts" (i9 19) jf28 jd28)
  (g29:GF K mg "_law_net" (i9 33) jf29 jd29)
  (g30:GF K mg "_law_sorted" (i9 44) jf30 jd30)
  (g31:GF K mg "_law_edges" (i9 30) jf31 jd31)
  (g32:GF K mg "_law_row" (i9 39) jf32 jd32)
  (g33:GF K mg "_law_beside" (i9 41) jf33 jd33)
  (g34:GF K mg "_law_midst" (i9 40) jf34 jd34)
  (g35:GF K mg "_law_det" (i9 28) jf35 jd35)
  (g36:GF K mg "_law_cross" (i9 37) jf36 jd36)
  (g37:GF K mg "_law_on" (i9 36) jf37 jd37)
  (g38:GF K mg "_law_met" (i9 38) jf38 jd38)
  (g39:GF K mg "_law_in" (i9 42) jf39 jd39)
  (g40:GF K mg "_law_area" (i9 43) jf40 jd40)
  (g41:GF K mg "_law_parts" (i9 45) jf41 jd41)
  (g42:GF K mg "law" (i9 46) jf42 jd42)
  (M:PySem.W.nsIn K mainGlobals "is_lesser" = some (some (.ref pf_is_lesser)))
  (J:PySem.W.nsIn K mainGlobals "row_goes_ahead" = some (some (.ref pf_row_goes_ahead)))
  (B:Blt mg) :
  ∃fd:FuncData,(∀(s:Shared) (v:Value),BindsTo s fd #[[v],[]] [("_law_script",v)])/\∀base:Heap,K.In base->base.Ns mainGlobals mg->FnOk l.prog w K mg base V0 70 fa fd ["_law_script"] (ao K 1 whole):=by
 have e:=hfa.symm.trans g42.m;cases e;refine#[jd42,FA g42.F fun _ _ _ _ _ _ _ _=>.of_eq rfl,fun base _ _=>?_];have Y:FnV K mg "is_lesser" := #[_,NV X G M,M]
 have U:FnV K mg "row_goes_ahead" := #[_,NV X G J,J]
 have C0C:=Jw (P:=l.prog) (w:=w) (base:=base) B g1;have C03:=JQ (P:=l.prog) (w:=w) (base:=base) B g2;have C0b:=yZ (P:=l.prog) (w:=w) (base:=base) B g3;have C02:=Ey C0b B g4;have C0e:=DF C02 B g5;have C0d:=zG C03 B g6;have Cl:=Ao (P:=l.prog) (w:=w) (base:=base) B g7;have C0c:=yN Cl B g8;have C0A:=yQ C03 C0c C0d C0e B g9;have Ch:=He (P:=l.prog) (w:=w) (base:=base) B g10;have C08:=Eb Ch B g11;have C09:=yo Ch C08 B g12;have C01:=vn C09 B g13 64;have C04:=BD (P:=l.prog) (w:=w) (base:=base) B g14;have C0p:=DW C04 B g15;have C0l:=HK Ch B g16;have C05:=Hf (P:=l.prog) (w:=w) (base:=base) B g17;have C06:=En C05 B g18;have C0f:=Dx (P:=l.prog) (w:=w) (base:=base) B g19;have C0g:=zI C0f B g20;have C0h:=Fu C0g B g21;have C0i:=zk C0h C05 B g22;have C0m:=Fe C0i C06 B g23;have C0j:=yw (P:=l.prog) (w:=w) (base:=base) B g24;have C0n:=CF C0j B g25;have C0k:=yj Ch B g26;have C0o:=Ei C0k C04 C01 C0l Ch C0m C0n C06 Y B g27;have C0a:=GX C01 C0o C0p U B g28;have C0B:=zC C03 B g29;have C0t:=Du Cl B g30;have C07:=Ej (P:=l.prog) (w:=w) (base:=base) B g31;have C0x:=Az Cl B g32;have C0v:=Bf (P:=l.prog) (w:=w) (base:=base) B g33;have C0w:=BN C02 B g34;have Z:=EF (P:=l.prog) (w:=w) (base:=base) B g35;have C0r:=AS C02 Z B g36;have C0q:=Jj Cl Z B g37;have C0y:=Cw C0q C0r Z B g38;have C0s:=Hq C07 Z B g39;have C0u:=BL C0s B g40;have C0z:=AX C0t C0u C0v C0w C0x C0y C07 B g41;exact AE C0a C0z C0A C0B C0C B g42.F
end T
abbrev GK:=@DL.gf_mk
end
open PySem PySem.W PyProof.Rows
set_option maxRecDepth 100000 in
set_option maxHeartbeats 0 in
theorem PySem.Challenge.cw_widelines_k23_bare_parts_holds : PySem.Challenge.rw_widelines_k23_bare_parts.Holds := by
 w_on; o_law; k_head; (case hw=>w_witness2)
 k_fill
 refine DL.walkD (l:=PySem.Challenge.rw_widelines_k23_bare_parts) (m:=T.whole) (k:=70) rfl rfl ⟨rfl,by decide,by decide,rfl⟩ (fun w h Y=>PySem.W.kIn_of Y) ?F T.math
 case F=>
  intro w mg fa h KX G hmg
  refine' T.all_mk KX G hmg (GK KX G ?_ ?_ ?_ ?_) (GK KX G ?_ ?_ ?_ ?_) (GK KX G ?_ ?_ ?_ ?_) (GK KX G ?_ ?_ ?_ ?_) (GK KX G ?_ ?_ ?_ ?_) (GK KX G ?_ ?_ ?_ ?_) (GK KX G ?_ ?_ ?_ ?_) (GK KX G ?_ ?_ ?_ ?_) (GK KX G ?_ ?_ ?_ ?_) (GK KX G ?_ ?_ ?_ ?_) (GK KX G ?_ ?_ ?_ ?_) (GK KX G ?_ ?_ ?_ ?_) (GK KX G ?_ ?_ ?_ ?_) (GK KX G ?_ ?_ ?_ ?_) (GK KX G ?_ ?_ ?_ ?_) (GK KX G ?_ ?_ ?_ ?_) (GK KX G ?_ ?_ ?_ ?_) (GK KX G ?_ ?_ ?_ ?_) (GK KX G ?_ ?_ ?_ ?_) (GK KX G ?_ ?_ ?_ ?_) (GK KX G ?_ ?_ ?_ ?_) (GK KX G ?_ ?_ ?_ ?_) (GK KX G ?_ ?_ ?_ ?_) (GK KX G ?_ ?_ ?_ ?_) (GK KX G ?_ ?_ ?_ ?_) (GK KX G ?_ ?_ ?_ ?_) (GK KX G ?_ ?_ ?_ ?_) (GK KX G ?_ ?_ ?_ ?_) (GK KX G ?_ ?_ ?_ ?_) (GK KX G ?_ ?_ ?_ ?_) (GK KX G ?_ ?_ ?_ ?_) (GK KX G ?_ ?_ ?_ ?_) (GK KX G ?_ ?_ ?_ ?_) (GK KX G ?_ ?_ ?_ ?_) (GK KX G ?_ ?_ ?_ ?_) (GK KX G ?_ ?_ ?_ ?_) (GK KX G ?_ ?_ ?_ ?_) (GK KX G ?_ ?_ ?_ ?_) (GK KX G ?_ ?_ ?_ ?_) (GK KX G ?_ ?_ ?_ ?_) (GK KX G ?_ ?_ ?_ ?_) (GK KX G ?_ ?_ ?_ ?_) ?_ ?_ (DL.blt_mk KX G ?_ ?_ ?_ ?_ ?_ ?_ ?_ ?_ ?_ ?_ ?_ ?_ ?_ ?_ ?_ ?_ ?_ ?_ ?_)
  all_goals try k_is
