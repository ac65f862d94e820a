import PyProof.Rows.All
import Wide.All
import OpenK.AllK
import Wide.FinOn
import Lean
import PyProof.EqAt
import PyProof.EqKinds
import PyProof.TupleCall
import PySem.Challenge.RW_widelines_k33_whole_just_one_of_both
inductive PySem.W.Fast|tw9358874094132332061|tw14866433848825796367|tw15639375209971991194|tw620353998577916931|tw14402812579165625150|tw6397687799179400492|tw5171908411730657985|tw16261754266031839510|tw2932659915270015878|tw16246888681994434036|tw17130672011203351641|tw5751109087149301059|tw7310719354092556671|tw18223505295889964579|tw11195116996398370059|tw13897565527595750616|tw2056973586529713205|tw15364500083397738802|tw6631261847066977326|tw16968107109487627153|tw16383376644368576003|tw12224821436529334974|tw7622704437847331431|tw15477270651473683754|tw12119682870042214141|tw15686442649625968202|tw6207007017872606440|tw1556290876568079967|tw1809292237699988386|tw4371121951945491954|tw10920111349504933003|tw1877134890516054336|tw1639027609036352321|tw3200255955065030419|tw2508766011694364608|tw3588513536808710432|tw573907504294283172|tw17285071588976757570|tw17267156106275592865|tw15296733364841046082|tw14042404492599843696|tw9714614390967373911|tw5813598756210568877|tw16114914873766077153|tw15671405382335937791|tw8214731595101152200|tw17904522131600244956|tw2742570505009956261|tw4828791016288361844|tw9806618108876900975|tw8572622114405517899|tw2759756231946076786|tw12939171524555202564|tw4619731200588243726|tw2532136794046763002|tw71694846941323158|tw6702174996220732331|tw12823716288945340758|tw18025683215961794021|tw11847634936872418846|tw4736890513218780820|tw383922109872106990|tw2541001427921886310|tw8333456735543370617|tw15913399293548700510|tw12249238094943135243|tw13368081499138191258|tw9797948322199132403|tw4837532017393553217|tw6694420282202665722|tw4952714300152082240|tw14410911135294479681|tw12813069614945800902|tw16293506671828119571|tw4303217596910013093|tw17724558903075585475|tw23145146380938670|tw13667606536773098410|tw15473309556725075929|tw755002093779611093|tw5348663197381254650|tw16596774256020011578|tw5520046885863908289|tw15913296383742057518|tw11234830241446960655|tw15150120945273431572|tw13107660923451441428|tw11179334389838869929|tw652375893676100499|tw5339769578519412874|tw6144975077636980734|tw15654894504970216352|tw12497364282529753743|tw13358432282247852716|tw13077593975649690049|tw6880597654306503313|tw7119473979271357280|tw10309534982580294200|tw997717358330302809|tw9696207511057854610|tw13611595443734439929|tw1191745175110464590|tw8957053590163782941|tw1522613569470451049|tw5794972092712773407|tw17440540576130345798|tw3007199652910236242|tw7783023216726422397|tw8477323996181347240|tw9398345267567496172|tw11100899500322791246|tw4148351582464420|tw7585089204348953187|tw12431245665036448324|tw15902586234910115024|tw5422817285850870766|tw15439650356799814781|tw13539545431528046533|tw4093996347222680928|tw2385607375301048225|tw8625572617585636677|tw1372523286158527664|tw9585675004688950395|tw10133046199593970242|tw10360266611924817078|tw4875135623947303825|tw17718455823827514491|tw13778807019970885987|tw10988457908925195573|tw3716377493320558486|tw10497480945318269610|tw1193527128907078613|tw15383886801219419086|tw5581638785618733285|tw17178230808999027805|tw2621900955375552544|tw6862948310263092941|tw4990412403071718474|tw7727935322677581429|tw8964868003683474239|tw18256193397096177667|tw11374725075066314111|tw1817934293060408050|tw13335378347012343455|tw3694789996710680836|tw14923082056125357886|tw9209164012572485924|tw4785887155288143698|tw3449558927220864915|tw14603814676098687086|tw11652648420896653962|tw370505930242415670|tw13773657311806522360|tw6089671426652484472|tw5621395897523526748|tw2542949480439853809|tw539066826595412541|tw3625794590119069150|tw4544888466226519096|tw17622679277511485129|tw12350001871814503681|tw8188848384224042739|tw5135608455997949556|tw852055007848057893|tw6892621408947096729|tw16048420138962309182|tw1223146839956638315|tw9493130487914471283|tw8916096303247071999|tw14862322837636647871|tw16244929536648278657|tw8069517250482383221|tw12509334839114564672|tw17665421743003198594|tw5046104893107843855|tw165126052794140676|tw14108039724012427610|tw12639979364991027652|tw11454107955014464218|tw16258123196248893697|tw8928282750155782061|tw7894968262816324645|tw576258147702431582|tw5367352585106963298|tw5005662508617918474|tw4851794471676641018|tw4336494887002668227|tw2422751629406586722|tw14731266981591973233|tw13143039191201321580|tw12751231504051735643|tw12376220738689364667|tw1228643141407291391|tw12170151921765868830|tw15260978194771532228|tw82269728379937179|tw7829634416217006693|tw7515667571798786542|tw6463076843321276304|tw5317911941162391602|tw4924323425389672071|tw4486115232740093612|tw3268913580474616202|tw3178851252737708749|tw2883858270901912288|tw2132425448675676892|tw1995391742892471186|tw17656210697771174285|tw16896745624479765736|tw16012565848585555715|tw15389375230499246600|tw1511853596387837681|tw14572415852607823371|tw13925698503563629331|tw17423973678764327833|tw3550390404444688338|tw16562297735569783476|tw16969742439579957632|tw1916763941774610975|tw1820088398997399799
local macro_rules | `(tactic| omega) => `(tactic| first | with_reducible assumption | decide | omega +splitMinMax)
theorem PySem.W.Fast.te8272606959322394494 : True := True.intro
set_option Elab.async false
set_option linter.all false
set_option maxRecDepth 100000
set_option bootstrap.genMatcherCode false
set_option genSizeOf false
set_option autoImplicit true
set_option relaxedAutoImplicit true
set_option maxHeartbeats 4000000
noncomputable section
section
set_option compiler.extract_closed false
set_option hygiene false in
local macro_rules | `(tactic|simp! [$a,*])=>`(tactic|simp[A4,A5,A6,Sj,Sk,a7,a9,b9,d6,d7,d8,dB,dC,dL,dV,i7,i8,j4,j5,j6,j7,j8,j9,k6,l5,l8,n8,n9,o6,o8,o9,one,p9,r8,t6,t9,u4,v3,v7,w5,w9,$a,*])
set_option hygiene false in
local macro_rules | `(tactic|simp! [])=>`(tactic|simp[A4,A5,A6,Sj,Sk,a7,a9,b9,d6,d7,d8,dB,dC,dL,dV,i7,i8,j4,j5,j6,j7,j8,j9,k6,l5,l8,n8,n9,o6,o8,o9,one,p9,r8,t6,t9,u4,v3,v7,w5,w9])
set_option hygiene false in
local macro_rules | `(tactic|simp! only [$a,*])=>`(tactic|simp[A6,D2,E6,E7,S0,S7,Sj,Sk,a7,a9,b9,bM,bp,d6,d7,d8,dB,dC,dL,dV,fN,i7,i8,i9,j4,j5,j6,j7,j8,jv,k6,l5,n9,o6,one,w5,w9,$a,*])
set_option hygiene false in
local macro_rules | `(tactic|simp! only [])=>`(tactic|simp[A6,D2,E6,E7,S0,S7,Sj,Sk,a7,a9,b9,bM,bp,d6,d7,d8,dB,dC,dL,dV,fN,i7,i8,i9,j4,j5,j6,j7,j8,jv,k6,l5,n9,o6,one,w5,w9])
local macro_rules | `(∅)=>`(by omega)
local macro_rules | `(#v[$a,*])=>`(List.toArray [$a,*])
local macro_rules | `(#[])=>`(by decide) | `(#[$a,*])=>`(⟨$a,*⟩)
def gV:=@PySem.wpAny_bind
def iO:=@if_pos
def iR:=@if_neg
def iU:=@PySem.wpAny_pure
def tx:=@Nat.le_refl
def xo:=@List.mem_cons
def xu:=@PySem.Heap.lt_size
def Mf:=@List.mem_cons_of_mem
def Mg:=@PySem.Heap.get?_push_of_some
def Mh:=@Option.bind_some
def Mi:=@List.mem_cons_self
def Mj:=@List.length_map
def Mk:=@Bool.false_ne_true
def Ml:=@Rat.mul_nonneg
def Mm:=@Nat.le_trans
def Mn:=@Rat.mul_pos
def Mo:=@List.map_cons
def Mp:=@List.mem_append
def Mq:=@List.mem_singleton
def Mr:=@PySem.wpAny_field
def Ms:=@Prod.mk.injEq
def Mu:=@Nat.lt_of_lt_of_le
def Mv:=@List.size_toArray
def Mw:=@List.length_cons
def Mx:=@List.not_mem_nil
def My:=@Rat.intCast_mul
def Mz:=@Ne.symm
def MA:=@decide_eq_true
def MB:=@Option.some.inj
def MC:=@List.length_append
def MD:=@Prod.ext
def ME:=@List.getElem?_eq_getElem
def MF:=@Bool.and_eq_true
def MG:=@PySem.wpAny_mono
def MH:=@List.length_drop
def MI:=@or_false
def MJ:=@Nat.ne_of_lt
def MK:=@decide_eq_false
def ML:=@List.mem_map
def MM:=@Rat.mul_eq_zero
def MN:=@PySem.Heap.get?_push_size
def MO:=@List.mem_append_right
def MP:=@Option.some.injEq
def MQ:=@List.append_nil
def MR:=@PySem.W.mg_none_of
def MS:=@Rat.le_of_lt
def MT:=@List.getElem?_eq_some_iff
def MU:=@PySem.sizeLine_eq
def MV:=@if_true
def MW:=@Rat.div_def
def MX:=@List.mem_append_left
def MY:=@Nat.zero_le
def MZ:=@List.nodup_cons
def Na:=@PySem.wpAny_call_entry
def Nb:=@List.all_eq_true
def Nc:=@Nat.lt_of_le_of_lt
def Nd:=@Nat.ne_of_gt
def Nf:=@PySem.F.slot_zip_next
def Ng:=@Nat.mod_lt
def Nh:=@Rat.le_refl
def Ni:=@Nat.lt_irrefl
def Nj:=@PySem.Heap.get?_update_other
def Nk:=@List.nil_append
def Nl:=@Bool.not_eq_true
def Nm:=@PySem.wpAny_holding
def Nn:=@PySem.wpAny_newObj_type
def Np:=@List.length_take
def Nq:=@List.getElem?_map
def Nr:=@if_false
def Nu:=@PySem.wpAny_callSpecial?_slot
def Nv:=@of_decide_eq_true
def Nw:=@Rat.zero_mul
def Ny:=@PySem.wpAny_rule
def Nz:=@Int.toNat_natCast
def NA:=@PyProof.Rows.slot_tuple_getitem
def NB:=@Rat.intCast_sub
def NC:=@PySem.wpAny_seqItems
def ND:=@Rat.not_le
def NF:=@PySem.Heap.get?_update_self
def NG:=@PySem.wpAny_loadPart_at
def NH:=@Rat.not_lt
def NI:=@Nat.le_of_lt
def NJ:=@List.getElem?_append_right
def NK:=@List.getElem?_append_left
def NL:=@List.append_assoc
def NM:=@List.length_singleton
def NO:=@Nat.add_comm
def NP:=@List.set_cons_succ
def NQ:=@List.length_nil
def NR:=@Bool.and_self
def NS:=@Rat.divInt_eq_div
def NT:=@List.pairwise_cons
def NU:=@PySem.wpAny_Call_Name_kw
def NV:=@PySem.wpAny_typeOf
def NW:=@List.reverse_cons
def NX:=@List.map_nil
def NY:=@PySem.Heap.size_push
def NZ:=@List.getElem_mem
def Oa:=@PySem.wpAny_setField_rec
def Ob:=@Bool.false_eq_true
def Oc:=@Rat.mul_zero
def Od:=@List.any_eq_true
def Oe:=@List.mem_range
def Of:=@List.filterMap_cons
def Og:=@PySem.wpAny_Name
def Oh:=@PySem.wpAny_truthy_bool
def Oi:=@PySem.wpAny_passesOwn
def Oj:=@Bool.eq_iff_iff
def Ol:=@List.of_mem_zip
def Om:=@List.mem_of_getElem?
def Oo:=@List.replicate_succ
def Oq:=@Option.bind_eq_some_iff
def Ot:=@List.set_cons_zero
def Ou:=@PySem.wpAny_attempt
def Ov:=@Bool.true_and
def Ow:=@Rat.intCast_eq_zero_iff
def Ox:=@Rat.one_mul
def Oy:=@List.all_cons
def Oz:=@List.map_append
def OA:=@Nat.mod_eq_of_lt
def OB:=@List.getElem?_of_mem
def OC:=@Classical.byContradiction
def OD:=@PySem.PassesOwn.never
def OE:=@List.getElem?_set_ne
def OF:=@PySem.wpAny_execs_nil
def OG:=@PySem.wpAny_standAt
def OH:=@Bool.false_and
def OI:=@PyProof.Rows.callWith_type1
def OJ:=@PyProof.Rows.slicePart_none
def OK:=@PySem.W.kia_one
def OL:=@PySem.wpAny_setField
def OM:=@PySem.F.entry_zip_next
def OP:=@PySem.F.args_zip_next_1
def OQ:=@Array.getElem?_eq_getElem
def OS:=@PySem.F.slot_zip_iter
def OT:=@List.getElem?_zip_eq_some
def OU:=@List.zipWith_cons_cons
def OV:=@Int.ofNat_dvd
def OW:=@Rat.lt_irrefl
def OX:=@List.take_append_drop
def OY:=@Rat.mul_assoc
def OZ:=@List.flatMap_cons
def Pa:=@Rat.inv_pos
def Pb:=@List.length_pos_iff
def Pc:=@PySem.wpAny_loadName_local
def Pd:=@PySem.wpAny_call
def Pe:=@PySem.codeAny_mono
def Pf:=@PySem.mem_of_lookup
def Pg:=@List.flatten_cons
def Ph:=@List.foldl_cons
def Pj:=@Nat.le_succ
def Pk:=@PySem.wpAny_pyIter_tuple
def Pl:=@Nat.sub_zero
def Pm:=@PySem.Obj.data_mapFields
def Pn:=@Nat.min_eq_left
def Po:=@Int.fmod_eq_emod_of_nonneg
def Pp:=@Nat.pow_le_pow_right
def Pq:=@Int.gcd_dvd_right
def Pr:=@Rat.div_mul_cancel
def Pu:=@Int.natCast_mul
def Pw:=@Int.mul_comm
def Px:=@Int.eq_ofNat_of_zero_le
def Py:=@Rat.le_total
def Pz:=@List.mem_of_mem_drop
def PB:=@List.mem_reverse
def PD:=@List.getLast?_cons_cons
def PF:=@Nat.zero_add
def PH:=@List.getElem?_drop
def PJ:=@Nat.mod_self
def PL:=@Nat.mod_add_mod
def PM:=@Rat.mul_inv_cancel
def PN:=@Rat.mul_one
def PQ:=@Nat.mul_le_mul
def PR:=@decide_eq_true_eq
def PU:=@Array.length_toList
def PV:=@PySem.wpAny_execs_cons
def PX:=@List.getElem?_take_of_lt
def PY:=@PySem.wpAny_sequenceKey
def PZ:=@PyProof.Rows.entry_tuple_getitem
def Qa:=@PyProof.Rows.args_tuple_getitem
def Qb:=@Nat.mul_comm
def Qc:=@Nat.le_of_not_lt
def Qd:=@Nat.le_of_eq
def Qe:=@Option.map_some
def Qf:=@Option.map_eq_some_iff
def Qg:=@List.nodup_nil
def Qh:=@List.drop_zero
def Qi:=@PySem.F.slot_tuple_iterator_next
def Qj:=@PySem.Obj.isFreed_of_fields
def Qk:=@List.forIn_cons
def Ql:=@List.forIn_nil
def Qm:=@PySem.wpAny_onRaise
def Qn:=@PySem.wpAny_letGo
def Qo:=@PySem.wpAny_isInstance
def Qp:=@PySem.isSubtype_stop
def Qq:=@PySem.F.plain_extend_loop
def Qr:=@PySem.wpAny_updateSeq
def Qs:=@List.mem_iff_getElem?
def Qt:=@Nat.min_le_left
def Qu:=@Nat.pow_succ
def Qv:=@Nat.gcd_comm
def Qw:=@Int.gcd_dvd_left
def Qx:=@Int.dvd_trans
def Qy:=@Int.lt_or_le
def Qz:=@Rat.intCast_neg
def QA:=@decide_eq_true_iff
def QB:=@Rat.intCast_add
def QC:=@List.mem_of_mem_take
def QD:=@Rat.zero_add
def QE:=@List.length_zip
def QF:=@List.length_pos_of_mem
def QG:=@List.mem_flatMap
def QH:=@beq_eq_false_iff_ne
def QI:=@List.mem_filter
def QJ:=@PySem.Heap.get?_none_of_le
def QK:=@List.getElem?_set_self
def QL:=@PySem.W.callWith_K
def QM:=@PySem.noFill_tuple_add
def QN:=@PySem.F.slot_tuple_add
def QO:=@PySem.F.entry_tuple_add
def QP:=@PySem.F.args_tuple_add_2
def QQ:=@PySem.Heap.IsSliceOf.new
def QR:=@List.cons_append
def QS:=@List.Sublist.refl
def QT:=@List.getElem?_cons_succ
def QU:=@PySem.wpAny_pyIter_list
def QV:=@List.lookup_cons
def QW:=@List.zipIdx_cons
def QX:=@PySem.wpAny_updateSeq_pair
def QY:=@List.nodup_append
def QZ:=@Nat.min_eq_right
def Ra:=@PySem.wpAny_pyIter_slot
def Rb:=@PySem.F.entry_zip_iter
def Rf:=@PySem.F.args_zip_iter_1
def Rg:=@List.pairwise_map
def Rh:=@List.length_zipWith
def Ri:=@PySem.W.mg_of
def Rj:=@PySem.wpAny_isSubtype_exc
def Rk:=@Bool.beq_eq_decide_eq
def Rl:=@Int.natAbs_mul
def Rm:=@Int.gcd_pos_of_ne_zero_right
def Rn:=@Int.mul_le_mul_of_nonneg_left
def Ro:=@Rat.mul_pos_iff_of_pos_left
def Rp:=@List.dropWhile_subset
def Rq:=@List.pairwise_append
def Rr:=@of_decide_eq_false
def Rt:=@List.pairwise_iff_getElem
def Ru:=@List.map_drop
def Rv:=@Int.fdiv_eq_ediv_of_nonneg
def Rw:=@Int.zero_add
def Ry:=@decide_eq_decide
def RA:=@PySem.W.cellsFrom_some
def RB:=@Option.isSome_iff_exists
def RC:=@List.length_replicate
def RD:=@List.drop_eq_getElem_cons
def RE:=@List.drop_eq_nil_of_le
def RF:=@List.eq_nil_iff_forall_not_mem
def RG:=@PyProof.Rows.eq_dataH
def RH:=@List.range_succ_eq_map
def RI:=@PySem.F.entry_tuple_iterator_next
def RJ:=@PySem.F.args_tuple_iterator_next_1
def RK:=@PySem.F.entry_extend_loop
def RL:=@Array.getElem?_eq_none
def RM:=@PyProof.Rows.zipApart_new
def RN:=@List.getElem?_zipWith
def RO:=@List.zipWith_nil_left
def RP:=@List.eq_nil_of_length_eq_zero
def RQ:=@List.zipWith_nil_right
def RR:=@PySem.plainObj_wpAny_Assign_Attribute
def RS:=@Array.getElem?_eq_some_iff
def RT:=@Nat.div_eq_of_eq_mul_right
def RU:=@Nat.eq_of_mul_eq_mul_left
def RV:=@Nat.div_le_iff_le_mul_add_pred
def RW:=@List.takeWhile_append_dropWhile
def RX:=@List.pairwise_singleton
def RY:=@Rat.mul_le_mul_of_nonneg_right
def RZ:=@List.pairwise_reverse
def Sa:=@List.getLast?_eq_some_iff
def Sb:=@List.take_of_length_le
def Sd:=@List.exists_mem_of_ne_nil
def Se:=@List.getElem?_eq_none
def Sf:=@Int.natAbs_ediv_le_natAbs
def Sg:=@Nat.le_mul_of_pos_right
def Sh:=@decide_eq_false_iff_not
def Si:=@Int.mul_le_mul_of_nonneg_right
abbrev vQ_:=PySem.Value→PySem.Shared→Prop
abbrev vF_:=PySem.W.Frag
abbrev vP_:=List (PySem.Addr × PySem.Obj)
abbrev vA_:=Option PySem.Addr
abbrev vL_:=List PySem.Addr
abbrev vV_:=List PySem.Value
abbrev vG_:=PySem.Str→Option PySem.Value
abbrev vR_:=Array PySem.Value
abbrev vB_:=PySem.Addr→Prop
abbrev vS_:=Array (Option PySem.Value)
variable {k i j t' m:Nat}{K:vF_}{s s':PySem.Shared}{es elts ifs rest:List PySem.Expr}{A:PySem.Around}{pins:vP_}{x qual c name:PySem.Str}{prog:PySem.Program}{h base h':PySem.Heap}{fd:PySem.FuncData}{e tg iter elt:PySem.Expr}{scope:PySem.Scope}{fa od fa' an:vA_}{E Q:vQ_}{cl:List (PySem.Str × PySem.Addr)}{idx:List Nat}{N:vB_}{body:List PySem.Stmt}{mg:vG_}{st:PySem.Stmt}{XP:(PySem.Str->Option PySem.Value)->PySem.Heap->Prop}{us its:vV_}{u cdv oc:PySem.Value}{pos' p2 p1:PySem.Pos}{cs N' loose caps:List PySem.Str}{items vs:vR_}{G:Prop}{YP:PySem.World->PySem.Heap->Prop}{os:PySem.OsState}{dx:PySem.Addr}{outer:List PySem.Env}{kw:List (PySem.Str × PySem.Value)}{osl:vS_}{cd:PySem.ClassData}{g':Array PySem.GenState}{env:PySem.Env}{ch fp:vL_}{col:Option Bool}
namespace L2
open PySem PySem.Spec PyProof.Rows
abbrev K5:=Sum Int Str
def uk:K5->Value->Bool
 |.inl k,v=>Value.isInt k v
 |.inr x,v=>Value.isStrOf x v
def Ay (w:World):K5->Int
 |.inl k=>hashInt k
 |.inr x=>hashStr w x
def ao:∀{k:K5}{v:Value},uk k v=true->(∃i t,k=Sum.inl i/\v=Value.int i t)\/(∃x t,k=Sum.inr x/\v=Value.str x t)
 |.inl i,v,h=>by
  obtain⟨t,e⟩:=Value.isInt_shape (k:=i) (v:=v) h;exact .inl #[i,t,rfl,e]
 |.inr x,v,h=>by
  obtain⟨t,e⟩:=Value.isStrOf_shape (x:=x) (v:=v) h;exact .inr #[x,t,rfl,e]
def Hr (a b:Int):decide ((Sum.inl a:K5)=Sum.inl b)=(a == b):=by
 by_cases e:a=b
 .subst e;simp
 .have h:¬ (Sum.inl a:K5)=Sum.inl b:=fun q=>e (Sum.inl.inj q)
  rw[MK h];exact(QH.mpr e).symm
def Aw (a b:Str):decide ((Sum.inr a:K5)=Sum.inr b)=decide (a=b):=by
 by_cases e:a=b
 .subst e;simp
 .have h:¬ (Sum.inr a:K5)=Sum.inr b:=fun q=>e (Sum.inr.inj q)
  rw[MK h,MK e]
def Lh (a:Int) (b:Str):decide ((Sum.inl a:K5)=Sum.inr b)=false:=MK (fun q=>nomatch q)
def KL (a:Str) (b:Int):decide ((Sum.inr a:K5)=Sum.inl b)=false:=MK (fun q=>nomatch q)
def pz (prog:Program) (w:World):PySem.KeyKind prog w K5 where
 is:=uk
 hash:=Ay w
 inj:=fun v a b Z U=>by
  rcases ao Z with ⟨i,t,rfl,rfl⟩ | ⟨x,t,rfl,rfl⟩
  .rcases ao U with ⟨j,u,rfl,e⟩ | ⟨y,u,rfl,e⟩
   .injection e with e1 _;rw[e1]
   .exact nomatch e
  .rcases ao U with ⟨j,u,rfl,e⟩ | ⟨y,u,rfl,e⟩
   .exact nomatch e
   .injection e with e1 _;rw[e1]
 byValue:=fun k v h=>by
  rcases ao h with ⟨i,t,rfl,rfl⟩ | ⟨x,t,rfl,rfl⟩ <;> rfl
 pyHash:=fun J h=>by
  rcases ao J with ⟨i,t,rfl,rfl⟩ | ⟨x,t,rfl,rfl⟩
  .exact wpAny_pyHash_int h
  .exact wpAny_pyHash_str h
 eqBool:=fun Y J h=>by
  rcases ao Y with ⟨i,t,rfl,rfl⟩ | ⟨x,t,rfl,rfl⟩
  .rcases ao J with ⟨j,u,rfl,rfl⟩ | ⟨y,u,rfl,rfl⟩
   .rw[Hr] at h;exact wpAny_eqBool_int h
   .rw[Lh] at h;exact SeqAt.EqAt.int_str i t y u _ _ _ _ h
  .rcases ao J with ⟨j,u,rfl,rfl⟩ | ⟨y,u,rfl,rfl⟩
   .rw[KL] at h;exact SeqAt.EqAt.str_int x t j u _ _ _ _ h
   .rw[Aw] at h;exact wpAny_eqBool_str h
 «strs»:=fun k x t v h=>by
  rcases ao h with ⟨i,u,rfl,e⟩ | ⟨y,u,rfl,e⟩
  .exact nomatch e
  .injection e with e1 _;subst e1;cases v <;> rfl
inductive V where
 | non | bl (b:Bool) | int (i:Int) | str (x:Str) | byt (b:Array UInt8) | flt (b:UInt64) | ref (a:Addr) | ty (n:String)
 deriving DecidableEq
variable {xs ys:List V}{f':Int->Int->V}
def RelV:V->Value->Prop
 |.non,u=>u=Value.none
 |.bl b,u=>u=Value.bool b
 |.int i,u=>∃t,u=Value.int i t
 |.str x,u=>∃t,u=Value.str x t
 |.byt b,u=>∃t,u=Value.bytes b t
 |.flt b,u=>∃t,u=Value.float b t
 |.ref a,u=>u=Value.ref a
 |.ty n,u=>u=Value.type n
abbrev Vals:List V->List Value->Prop:=Paired RelV
theorem Vals.length (r:Vals xs us):xs.length=us.length:=Paired.length r
theorem Vals.get:∀{xs:List V}{us:vV_}{i:Nat}{x:V},Vals xs us->xs[i]? = some x->∃u,us[i]? = some u/\RelV x u
 |_,_,_,_,.nil,e=>by simp at e
 |_,_,0,_,.cons r _,e=>by simp at e;subst e;exact#[_,rfl,r]
 |_,_,i+1,x,.cons _ t,e=>by
  obtain⟨u,h1,h2⟩:=Vals.get (i:=i) (x:=x) t (by simpa using e);exact#[u,by simpa using h1,h2]
theorem Vals.set {x:V}(r:RelV x u):∀{xs:List V}{us:vV_}(i:Nat),Vals xs us->Vals (xs.set i x) (us.set i u)
 |_,_,_,.nil=>.nil
 |_,_,0,.cons _ t=>.cons r t
 |_,_,i+1,.cons q t=>.cons q (Vals.set r i t)
def Vals.append:∀{xs ys:List V}{us ws:vV_},Vals xs us->Vals ys ws->Vals (xs++ys) (us++ws):=by
 intro xs ys us ws h s;induction h with
 |nil=>exact s
 |cons r t J=>exact .cons r J
theorem Vals.take:∀{xs:List V}{us:vV_}(n:Nat),Vals xs us->Vals (xs.take n) (us.take n)
 |_,_,0,_=>.nil
 |_,_,_+1,.nil=>.nil
 |_,_,n+1,.cons r t=>.cons r (Vals.take n t)
theorem Vals.drop:∀{xs:List V}{us:vV_}(n:Nat),Vals xs us->Vals (xs.drop n) (us.drop n)
 |_,_,0,r=>r
 |_,_,_+1,.nil=>.nil
 |_,_,n+1,.cons _ t=>Vals.drop n t
def fu:Option V->Option Value->Prop
 |some v,some u=>RelV v u
 |none,none=>True
 |_,_=>False
def KV {κ:Type}:List (κ × V)->List (κ × Value)->Prop:=Paired fun (p:κ × V) (q:κ × Value)=>p.1=q.1/\RelV p.2 q.2
def kV:K5->V
 |.inl i=>.int i
 |.inr x=>.str x
inductive HO where
 | lst (xs:List V)
 | tup (xs:List V)
 | dK (kvs:List (K5 × V)) | dT (kvs:List (List K5 × V))
 | set (S:Int->Bool) (n:Nat)
 | ins (C dx:Addr) (fs:List (Str × V))
 | own (x:Addr)
 | xd (fs:List (Str × V))
 | met (f x:Addr)
 | rng (lo hi:Int)
 | frz (o:Obj) (u:HO)
 | tbl (ps:vR_)
 | ext (φ:Heap->Prop)
abbrev Hp:=Addr->Option HO
variable {H H' H1:Hp}
def k9 (H:Hp) (a:Addr) (o:HO):Hp:=fun b=>if b=a then some o else H b
def C0 {o:HO}:k9 H a o a=some o:=by unfold k9;rw[iO rfl]
def t7 {a b:Addr}{o:HO}(h:b≠a):k9 H a o b=H b:=by unfold k9;rw[iR h]
def O0 {a b:Addr}{o:HO}(h:H a=some o) (h':H b=none):a≠b:=by
 intro e;subst e;rw[h] at h';cases h'
section
variable (P:Program) (w:World)
def ObjOk (H:Hp) (h:Heap) (a:Addr):HO->Prop
 |.lst xs=>xs.length<=sizeLine/\∃(its:vV_) (n:Nat),Vals xs its/\h.get? a=some { cls:=.type "list",data:=.seq its.toArray n }
 |.tup xs=>xs.length<=sizeLine/\∃its:List Value,Vals xs its/\IsTup h a its.toArray
 |.dK kvs=>kvs.length<=sizeLine/\(a == sysModules)=false/\∃vs,KV kvs vs/\h.DictOf (pz P w) a vs
 |.dT kvs=>kvs.length<=sizeLine/\(a == sysModules)=false/\∃xs:List (List K5 × Addr × Value),
   Paired (fun (p:List K5 × V) (q:List K5 × Addr × Value)=>p.1=q.1/\H q.2.1=some (.tup (p.1.map kV))/\RelV p.2 q.2.2) kvs xs /\
   ∃o es ep,h.get? a=some o/\o.ExactDict/\o.data = .dict es ep/\es.toList=xs.map (entryOfKey (tupleKind (pz P w)))/\(xs.map (·.1)).Nodup
 |.set S n=>h.SetOf (intKind P w) a S n
 |.ins C dx fs=>H dx=some (.own a)/\fs.length<=1000/\dx≠a/\h.get? a=some (PySem.W.instObj C dx) /\
   ∃mA,h.Ns1 dx mA/\(∀f,fu (fs.lookup f) (mA f))/\PySem.Within mA (fs.map (·.1))
 |.own _=>∃o,h.get? a=some o
 |.xd fs=>∃mA,h.Ns1 a mA/\∀f,fu (fs.lookup f) (mA f)
 |.rng lo hi=>∃t u v,h.get? a=some { cls:=.type "range",data:=.fields #v[.int lo t,.int hi u,.int 1 v] }
 |.frz o u=>h.get? a=some o/\ObjOk H h a u
 |.tbl ps=>h.get? a=some { cls:=.none,data:=.fields ps }
 |.met f x=>h.get? a=some (PySem.W.methodObj (.ref f) (.ref x))
 |.ext φ=>φ h/\(∃o,h.get? a=some o)/\∀h1 h2:Heap,φ h1->(∀o,h1.get? a=some o->h2.get? a=some o)->φ h2
def HOk (H:Hp) (h:Heap):Prop:=∀a o,H a=some o->ObjOk P w H h a o
end
section
variable {P:Program}{w:World}{a:Addr}{o:HO}
theorem ObjOk.lt (x:ObjOk P w H h a o):a<h.objs.size:=by
 cases o with
 |lst xs=>obtain⟨_,_,_,_,e⟩:=x;exact xu e
 |tup xs=>obtain⟨_,_,_,p⟩:=x;exact p.lt
 |dK J=>obtain⟨_,_,_,_,o,_,_,e,_⟩:=x;exact xu e
 |dT J=>obtain⟨_,_,_,_,o,_,_,e,_⟩:=x;exact xu e
 |set S n=>obtain⟨o,_,_,_,e,_⟩:=x;exact xu e
 |ins C dx fs=>obtain⟨_,_,_,e,_⟩:=x;exact xu e
 |own y=>obtain⟨_,e⟩:=x;exact xu e
 |xd fs=>obtain⟨_,⟨_,_,_,e,_⟩,_⟩:=x;exact xu e
 |rng lo hi=>obtain⟨_,_,_,e⟩:=x;exact xu e
 |frz U u=>obtain⟨e,_⟩:=x;exact xu e
 |tbl ps=>exact xu (show h.get? a=some _ from x)
 |met f y=>exact xu (show h.get? a=some _ from x)
 |ext φ=>obtain⟨_,⟨_,e⟩,_⟩:=x;exact xu e
def Paired.mapP {α β:Type}{F G:α->β->Prop}:∀{l₁:List α}{l₂:List β},Paired F l₁ l₂->(∀a b,F a b->G a b)->Paired G l₁ l₂:=by
 intro l₁ l₂ h f;induction h with
 |nil=>exact .nil
 |cons r t J=>exact .cons (f _ _ r) J
def ObjOk.stay (x:ObjOk P w H h a o) (k:∀b u,(b=a\/H b=some (.own a))->h.get? b=some u->h'.get? b=some u)
  (Z:∀b,H b=some (.own a)->H' b=some (.own a)) (ht:∀b xs,H b=some (.tup xs)->H' b=some (.tup xs)):ObjOk P w H' h' a o:=by
 induction o with
 |lst xs=>obtain⟨z,its,n,r,e⟩:=x;exact#[z,its,n,r,k _ _ (.inl rfl) e]
 |tup xs=>obtain⟨z,its,r,J,e,c⟩:=x;exact#[z,its,r,J,k _ _ (.inl rfl) e,c]
 |dK Y=>obtain⟨z,y,vs,r,J,es,U,e,c⟩:=x;exact#[z,y,vs,r,J,es,U,k _ _ (.inl rfl) e,c]
 |dT Y=>
  obtain⟨z,y,xs,r,J,es,U,e,c⟩:=x;exact#[z,y,xs,Paired.mapP r fun p q z=>#[z.1,ht _ _ z.2.1,z.2.2],J,es,U,k _ _ (.inl rfl) e,c]
 |set S n=>obtain⟨J,es,U,t,e,c⟩:=x;exact#[J,es,U,t,k _ _ (.inl rfl) e,c]
 |ins C dx fs=>
  obtain⟨d,z,ne,e,mA,⟨od,es,U,e2,c⟩,r⟩:=x;exact#[Z _ d,z,ne,k _ _ (.inl rfl) e,mA,#[od,es,U,k _ _ (.inr d) e2,c],r]
 |own y=>obtain⟨J,e⟩:=x;exact#[J,k _ _ (.inl rfl) e]
 |xd fs=>obtain⟨mA,⟨od,es,U,e,c⟩,r⟩:=x;exact#[mA,#[od,es,U,k _ _ (.inl rfl) e,c],r]
 |rng lo hi=>obtain⟨t,u,v,e⟩:=x;exact#[t,u,v,k _ _ (.inl rfl) e]
 |frz J u ih=>obtain⟨e,q⟩:=x;exact#[k _ _ (.inl rfl) e,ih q]
 |tbl ps=>
  have e:h.get? a=some { cls:=.none,data:=.fields ps }:=x;show h'.get? a=some { cls:=.none,data:=.fields ps };exact k a _ (.inl rfl) e
 |met f y=>
  have e:h.get? a=some (PySem.W.methodObj (.ref f) (.ref y)):=x;show h'.get? a=some (PySem.W.methodObj (.ref f) (.ref y));exact k a _ (.inl rfl) e
 |ext φ=>obtain⟨p,⟨o,e⟩,st⟩:=x;exact#[st _ _ p fun o q=>k _ _ (.inl rfl) q,#[o,k _ _ (.inl rfl) e],st]
theorem HOk.lt (x:HOk P w H h) (e:H a=some o):a<h.objs.size:=(x a o e).lt
def HOk.fresh (x:HOk P w H h) (e:h.objs.size<=a):H a=none:=by
 cases q:H a with
 |none=>rfl
 |some u=>exact absurd (Mu (x.lt q) e) (Ni _)
def HOk.kept (x:HOk P w H h) (k:∀b u,h.get? b=some u->h'.get? b=some u):HOk P w H h':=fun a o e=>
 (x a o e).stay (fun b u _ q=>k b u q) (fun _ q=>q) fun _ _ q=>q
def HOk.laid (x:HOk P w H h) (k:∀b u,h.get? b=some u->h'.get? b=some u) (Z:h.objs.size<=a) (J:ObjOk P w (k9 H a o) h' a o):HOk P w (k9 H a o) h':=fun b u e=>by
 have U:=x.fresh Z;by_cases Y:b=a
 .subst Y;rw[C0] at e;cases e;exact J
 .rw[t7 Y] at e;exact(x b u e).stay (fun c v _ q=>k c v q) (fun c q=>by rw[t7 (O0 q U)];exact q) fun c xs q=>by rw[t7 (O0 q U)];exact q
end
def Rd (H:Hp) (a:Addr) (u:HO):Prop:=H a=some u\/∃o,H a=some (.frz o u)
def Rd.ok {w:World}{u:HO}(r:Rd H a u) (x:HOk P w H h):ObjOk P w H h a u:=by
 rcases r with r | ⟨o,r⟩
 .exact x a u r
 .obtain⟨_,q⟩:=x a _ r;exact q
def jH:Option HO->Prop
 |some (.lst _)=>True
 |some (.dK _)=>True
 |some (.dT _)=>True
 |some (.set _ _)=>True
 |some (.ins _ _ _)=>True
 |some (.ext _)=>True
 |_=>False
section
variable {P:Program}{w:World}{x e:Addr}{o':HO}
def HOk.write (ok:HOk P w H h) (mu:jH (H x)) (he:e=x\/H e=some (.own x)) (k:∀b u,b≠e->h.get? b=some u->h'.get? b=some u) (heo:∃u,h'.get? e=some u)
  (new:ObjOk P w (k9 H x o') h' x o'):HOk P w (k9 H x o') h':=fun b u q=>by
 have U:∀c y,H c=some (.own y)->c≠x:=fun c y r z=>by subst z;rw[r] at mu;exact mu
 have Y:∀c xs,H c=some (.tup xs)->c≠x:=fun c xs r z=>by subst z;rw[r] at mu;exact mu
 by_cases hb:b=x
 .subst hb;rw[C0] at q;cases q;exact new
 .rw[t7 hb] at q;by_cases J:b=e
  .have q':H b=some (.own x):=by
    rcases he with z | z
    .exact absurd (J.trans z) hb
    .rw[J];exact z
   rw[q] at q';cases q';obtain⟨v,hv⟩:=heo;exact#[v,by rw[J];exact hv]
  .refine(ok b u q).stay (fun c v Z r=>k c v ?_ r) (fun c r=>by rw[t7 (U c b r)];exact r) fun c xs r=>by rw[t7 (Y c xs r)];exact r
   rcases Z with rfl | Z
   .exact J
   .rintro rfl;rcases he with z | z
    .exact U c b Z z
    .rw[Z] at z;cases z;exact hb rfl
end
structure Un (fs ex:vL_) (H H':Hp) (h h':Heap):Prop where
 keep:∀b o,h.get? b=some o->H b=none->b ∉ fs->b ∉ ex->h'.get? b=some o
 slot:∀b o,h.get? b=some o->H b=none->b∈fs->b ∉ ex->∃sl,h'.get? b=some { o with slots:=sl }
 free:∀b o,h.get? b=some o->H b=none->b ∉ ex->H' b=none
 there:∀b o,h.get? b=some o->b ∉ ex->∃o',h'.get? b=some o'
 tups:∀b xs,H b=some (.tup xs)->H' b=some (.tup xs)
 frzs:∀b o u,H b=some (.frz o u)->H' b=some (.frz o u)
 tbls:∀b ps,H b=some (.tbl ps)->∃more,H' b=some (.tbl (ps++more))
section
variable {fs fs' ex ex':vL_}{H2:Hp}{h1 h2:Heap}{a x e:Addr}{o:HO}
def Un.any (u:Un fs ex H H1 h h1) {b:Addr}{ob:Obj}(q:h.get? b=some ob) (n:H b=none) (U:b ∉ ex):∃sl,h1.get? b=some { ob with slots:=sl }:=by
 by_cases J:b∈fs
 .exact u.slot b ob q n J U
 .exact#[ob.slots,u.keep b ob q n J U]
def Un.kept (k:∀b u,h.get? b=some u->h'.get? b=some u):Un fs ex H H h h':=
 #[fun b J q _ _ _=>k b J q,fun b J q _ _ _=>#[J.slots,k b J q],fun _ _ _ n _=>n,fun b J q _=>#[J,k b J q],fun _ _ q=>q,fun _ _ _ q=>q,fun _ ps q=>#[#v[],by rw[q];simp]]
def Un.refl:Un fs ex H H h h:=Un.kept fun _ _ q=>q
def Un.laid (k:∀b u,h.get? b=some u->h'.get? b=some u) (U:h.objs.size<=a) (J:H a=none):Un fs ex H (k9 H a o) h h' where
 keep:=fun b u q _ _ _=>k b u q
 slot:=fun b u q _ _ _=>#[u.slots,k b u q]
 free:=fun b u q n _=>by rw[t7 (MJ (Mu (xu q) U))];exact n
 there:=fun b u q _=>#[u,k b u q]
 tups:=fun b xs q=>by rw[t7 (O0 q J)];exact q
 frzs:=fun b u xs q=>by rw[t7 (O0 q J)];exact q
 tbls:=fun b ps q=>#[#v[],by rw[t7 (O0 q J),q];simp]
def Un.write (U:jH (H x)) (he:e=x\/H e=some (.own x)) (k:∀b u,b≠e->h.get? b=some u->h'.get? b=some u) (Y:∃u,h'.get? e=some u):Un fs ex H (k9 H x o) h h':=by
 have hx:∀b,H b=none->b≠x:=fun b n z=>by subst z;rw[n] at U;exact U
 have hb:∀b,H b=none->b≠e:=fun b n z=>by
  subst z;rcases he with r | r
  .exact hx b n r
  .rw[n] at r;cases r
 have Z:∀b u,H b=some u->¬ jH (some u)->b≠x:=fun b u q nm z=>by subst z;rw[q] at U;exact nm U
 refine#[fun b u q n _ _=>k b u (hb b n) q,fun b u q n _ _=>#[u.slots,k b u (hb b n) q],fun b u q n _=>by rw[t7 (hx b n)];exact n,fun b u q _=>?_,
  fun b xs q=>by rw[t7 (Z b _ q fun z=>z)];exact q,fun b u xs q=>by rw[t7 (Z b _ q fun z=>z)];exact q,fun b ps q=>#[#v[],by rw[t7 (Z b _ q fun z=>z),q];simp]]
 by_cases J:b=e
 .subst J;exact Y
 .exact#[u,k b u J q]
end
def dX (h:Heap) (H:Hp):List Addr:=(List.range h.objs.size).filter fun a=>(H a).isSome
def aD (h:Heap) (H:Hp):Heap:=PySem.W.hideAll h (dX h H)
def FW (h:Heap) (H:Hp):(aD h H).objs.size=h.objs.size:=PySem.W.hideAll_size _ _
def Ew {b:Addr}{o:Obj}(e:h.get? b=some o) (n:H b=none):(aD h H).get? b=some o:=
 PySem.W.hideAll_get _ e fun J=>by
  have q:(H b).isSome=true:=(QI.mp J).2;rw[n] at q;simp at q
def EE {b:Addr}{o:Obj}(e:(aD h H).get? b=some o):h.get? b=some o/\H b=none:=by
 have J:h.get? b=some o:=PySem.W.of_hideAll (dX h H) e;refine#[J,?_];cases q:H b with
 |none=>rfl
 |some x=>
  have U:b∈dX h H:=QI.mpr #[Oe.mpr (xu J),by simp[q]];have z:(aD h H).get? b=none:=PySem.W.hideAll_none (dX h H) U;rw[z] at e;cases e
structure Mod (K:vF_) (mg:vG_) (base:Heap):Prop where
 kin:K.In base
 glob:base.Ns mainGlobals mg
 blt:∃mb,base.Ns builtinsNs mb/\∀x:Str,x ≠ "__name__" -> mb x=bootBuiltins x
 nolimit:base.NoLimit
structure Cx where
 prog:Program
 w:World
 K:PySem.W.Frag
 mg:Str->Option Value
 base:Heap
 A:Around
 N:List Str
 s₀:Shared
 H₀:Hp
 env:Env
 outer:List Env
 stack:List Env
 ex:List Addr
 fn:Str->Bool
 calm:Bool
 pn:List (Addr × Obj)
 xe:Value->Shared->Prop
variable {X:Cx}
def K0 (l:List Env):List Addr:=l.filterMap (·.frame)
abbrev Cx.fs (X:Cx):List Addr:=K0 X.outer
def oZ (J:Scope) (x:Str):Prop:=J.names.lookup x=some .local\/J.names.lookup x=some .cell\/J.names.lookup x=some .free
def Z4 (J:Scope) (x:Str):Prop:=J.names.lookup x=some .local\/J.names.lookup x=some .cell
def De (env:Env) (h:Heap) (m:vG_) (x:Str) (u:Value):Prop:=
 (env.kindOf x=some .local/\m x=some u)\/((env.kindOf x=some .cell\/env.kindOf x=some .free)/\∃c,env.cells.lookup x=some c/\h.IsCell c (some u))
structure Cx.Ok (X:Cx):Prop where
 mod:Mod X.K X.mg X.base
 kind:X.env.scope.kind = .function
 glob:X.env.globals=mainGlobals
 blt:X.env.builtins=builtinsNs
 above:X.s₀.heap.objs.size<=X.env.locals
 inj:∀x y c,X.env.cells.lookup x=some c->X.env.cells.lookup y=some c->x=y
 has:∀x,(X.env.kindOf x=some .cell\/X.env.kindOf x=some .free)->∃c,X.env.cells.lookup x=some c
 cab:∀x c,X.fn x=true->X.env.cells.lookup x=some c->X.s₀.heap.objs.size<=c
 hd:X.calm=true->X.A.handled=none
 frames:X.A.frames=some X.stack
 stk:X.stack=X.outer\/(X.stack=X.env::X.outer/\X.env.frame=some X.env.locals)
 exf:∀b∈X.ex,b≠X.env.locals/\∀x c,X.env.cells.lookup x=some c->c≠b
 bs:∀b o,X.base.get? b=some o->X.s₀.heap.get? b=some o/\X.H₀ b=none
 bsz:X.base.objs.size<=X.s₀.heap.objs.size
 noex:∀b o,X.base.get? b=some o->b ∉ X.ex
 exfs:∀b∈X.ex,b ∉ X.fs
 funs:X.s₀.heap.FunFrames X.base X.outer
 frf:∀b∈X.fs,X.H₀ b=none
structure Inv (X:Cx) (pins:vP_) (σ:List (Option V)) (H:Hp) (s:Shared):Prop where
 ok:X.Ok
 os:s.os=X.s₀.os
 bare:AllBare s.gens
 base:Un X.fs X.ex X.H₀ H X.s₀.heap s.heap
 loc:∃m,s.heap.Ns X.env.locals m/\∀(i:Nat) (x:Str) (v:V),X.N[i]? = some x->σ[i]? = some (some v)->oZ X.env.scope x->∃u,RelV v u/\De X.env s.heap m x u
 cell:∀x c,X.env.cells.lookup x=some c->∃v,s.heap.IsCell c v
 free:H X.env.locals=none
 freeC:∀x c,X.env.cells.lookup x=some c->H c=none
 pin:∀p∈X.pn++pins,s.heap.get? p.1=some p.2/\H p.1=none/\p.1≠X.env.locals/\p.1 ∉ X.fs/\∀v,p.2.data ≠ .cell v
 hok:HOk X.prog X.w H s.heap
 len:σ.length=X.N.length
section
variable {σ:List (Option V)}
def Cx.Ok.nofr (U:X.Ok) {b:Addr}{o:Obj}(e:X.base.get? b=some o):b ∉ X.fs:=fun J=>by
 have:=(U.funs.mem J).1;rw[e] at this;cases this
theorem Inv.bs (I:Inv X pins σ H s):∀b o,X.base.get? b=some o->s.heap.get? b=some o/\H b=none:=fun b o e=>
 #[I.base.keep b o (I.ok.bs b o e).1 (I.ok.bs b o e).2 (I.ok.nofr e) (I.ok.noex b o e),I.base.free b o (I.ok.bs b o e).1 (I.ok.bs b o e).2 (I.ok.noex b o e)]
def Inv.bk (I:Inv X pins σ H s):∀b o,X.base.get? b=some o->s.heap.get? b=some o:=fun b o e=>(I.bs b o e).1
theorem Inv.mod (I:Inv X pins σ H s):Mod X.K X.mg X.base:=I.ok.mod
def Inv.kIn (I:Inv X pins σ H s):X.K.In s.heap:=I.ok.mod.kin.keeps I.bk
theorem Inv.nolimit (I:Inv X pins σ H s):s.heap.NoLimit:=I.ok.mod.nolimit.keeps I.bk
theorem Inv.lt (I:Inv X pins σ H s):X.env.locals<s.heap.objs.size:=let ⟨_,hn,_⟩:=I.loc;hn.lt
def Inv.sz (I:Inv X pins σ H s):X.s₀.heap.objs.size<=s.heap.objs.size:=Mm I.ok.above (NI I.lt)
def Inv.nofs (I:Inv X pins σ H s) (h:s.heap.objs.size<=a):a ∉ X.fs:=fun U=>by
 obtain⟨_,o,J,_⟩:=I.ok.funs.mem U;exact absurd (Mu (xu J) (Mm I.sz h)) (Ni _)
def Inv.cne (I:Inv X pins σ H s):∀x c,X.env.cells.lookup x=some c->c≠X.env.locals:=fun x c e z=>by
 obtain⟨v,o,Y,Z⟩:=I.cell x c e;obtain⟨m,⟨o',es,ep,J,U,_⟩,_⟩:=I.loc;rw[z,J] at Y;cases Y;rw[U] at Z;cases Z
theorem Inv.funs (I:Inv X pins σ H s):s.heap.FunFrames X.base X.outer:=by
 have U:∀(l:List Env),(∀b∈K0 l,b∈X.fs)->X.s₀.heap.FunFrames X.base l->s.heap.FunFrames X.base l:=by
  intro l;induction l with
  |nil=>intro _ _;trivial
  |cons env r ih=>
   intro Z hl;obtain⟨hk,⟨L,o,J,hn,ho,hd⟩,hr⟩:=hl;have hL:L∈X.fs:=Z L (by unfold K0;rw[Of,J];exact Mi);obtain⟨sl,e⟩:=I.base.slot L o ho (I.ok.frf L hL) hL fun z=>I.ok.exfs L z hL
   exact#[hk,#[L,_,J,hn,e,hd],ih (fun b Y=>Z b (by unfold K0;rw[Of,J];exact Mf _ Y)) hr]
 exact U X.outer (fun _ Y=>Y) I.ok.funs
theorem Inv.stack (I:Inv X pins σ H s):s.heap.FunFrames X.base X.stack:=by
 rcases I.ok.stk with e | ⟨e,hf⟩
 .rw[e];exact I.funs
 .rw[e];obtain⟨m,J,_⟩:=I.loc;refine .cons (by rw[I.ok.kind];decide) hf J ?_ I.funs;exact QJ (Mm I.ok.bsz I.ok.above)
def Inv.stkSub (I:Inv X pins σ H s):∀b∈K0 X.stack,b∈X.env.locals::X.fs:=fun b J=>by
 rcases I.ok.stk with e | ⟨e,hf⟩
 .rw[e] at J;exact Mf _ J
 .rw[e] at J;unfold K0 at J;rw[Of,hf] at J;exact J
def Inv.stkFree (I:Inv X pins σ H s):∀b∈K0 X.stack,H b=none:=fun b J=>by
 rcases xo.mp (I.stkSub b J) with e | J
 .rw[e];exact I.free
 .obtain⟨_,o,U,_⟩:=I.ok.funs.mem J;exact I.base.free b o U (I.ok.frf b J) fun z=>I.ok.exfs b z J
def Inv.step {g':Array GenState}{t':Nat}{ch:vL_}(I:Inv X pins σ H s)
  (Z:∀b∈ch,(b∈X.ex\/X.s₀.heap.objs.size<=b)/\b≠X.env.locals/\(∀x c,X.env.cells.lookup x=some c->c≠b)/\∀p∈X.pn++pins,p.1≠b)
  (keep:∀b o,b≠X.env.locals->b ∉ X.fs->b ∉ ch->s.heap.get? b=some o->H b=none->h'.get? b=some o)
  (slot:∀b o,b≠X.env.locals->b∈X.fs->b ∉ ch->s.heap.get? b=some o->H b=none->∃sl,h'.get? b=some { o with slots:=sl }) (free:∀b o,b ∉ ch->s.heap.get? b=some o->H b=none->H' b=none)
  (there:∀b o,b ∉ ch->s.heap.get? b=some o->∃o',h'.get? b=some o')
  (tups:∀b xs,H b=some (.tup xs)->H' b=some (.tup xs)) (frzs:∀b o u,H b=some (.frz o u)->H' b=some (.frz o u)) (tbls:∀b ps,H b=some (.tbl ps)->∃more,H' b=some (.tbl (ps++more)))
  (ns:∀m,s.heap.Ns X.env.locals m->h'.Ns X.env.locals m) (hok:HOk X.prog X.w H' h') (hg:AllBare g') :
  Inv X pins σ H' { s with heap:=h',gens:=g',drawn:=d',toks:=t' }:=by
 have gF:∀b o,X.s₀.heap.get? b=some o->b≠X.env.locals:=fun b o e=>MJ (Mu (xu e) I.ok.above)
 have neC:∀b o,X.s₀.heap.get? b=some o->b ∉ X.ex->b ∉ ch:=fun b o e J hb=>by
  rcases(Z b hb).1 with z | z
  .exact J z
  .exact absurd (Mu (xu e) z) (Ni _)
 have U:∀x c,X.env.cells.lookup x=some c->∀v,s.heap.IsCell c v->h'.IsCell c v:=fun x c e v hQ__=>by
  obtain⟨o,ho,hd⟩:=hQ__;have Y:c ∉ ch:=fun z=>(Z c z).2.2.1 x c e rfl
  by_cases hc:c∈X.fs
  .obtain⟨sl,q⟩:=slot c o (I.cne x c e) hc Y ho (I.freeC x c e);exact#[_,q,hd]
  .exact#[o,keep c o (I.cne x c e) hc Y ho (I.freeC x c e),hd]
 refine#[I.ok,I.os,hg,#[fun b o e n hb J=>?_,fun b o e n hb J=>?_,fun b o e n J=>?_,fun b o e J=>?_,fun b xs e=>tups b xs (I.base.tups b xs e),fun b o xs e=>frzs b o xs (I.base.frzs b o xs e),fun b ps e=>?_],?_,fun x c e=>?_,?_,fun x c e=>?_,fun p hp=>?_,hok,I.len]
 .exact keep b o (gF b o e) hb (neC b o e J) (I.base.keep b o e n hb J) (I.base.free b o e n J)
 .obtain⟨sl,e1⟩:=I.base.slot b o e n hb J;obtain⟨sl',e2⟩:=slot b _ (gF b o e) hb (neC b o e J) e1 (I.base.free b o e n J);exact#[sl',e2]
 .obtain⟨o',e1⟩:=I.base.there b o e J;exact free b o' (neC b o e J) e1 (I.base.free b o e n J)
 .obtain⟨o',e1⟩:=I.base.there b o e J;exact there b o' (neC b o e J) e1
 .obtain⟨m1,e1⟩:=I.base.tbls b ps e;obtain⟨m2,e2⟩:=tbls b _ e1;exact#[m1++m2,by rw[e2,Array.append_assoc]]
 .obtain⟨m,hn,hl⟩:=I.loc;refine#[m,ns m hn,fun i x v e1 e2 e3=>?_];obtain⟨u,r,l⟩:=hl i x v e1 e2 e3;refine#[u,r,?_];rcases l with l | ⟨k,c,e,z⟩
  .exact .inl l
  .exact .inr #[k,c,e,U x c e _ z]
 .obtain⟨v,z⟩:=I.cell x c e;exact#[v,U x c e v z]
 .obtain⟨m,⟨o,_,_,ho,_⟩,_⟩:=I.loc;exact free _ o (fun z=>(Z _ z).2.1 rfl) ho I.free
 .obtain⟨v,o,ho,hd⟩:=I.cell x c e;exact free c o (fun z=>(Z c z).2.2.1 x c e rfl) ho (I.freeC x c e)
 .obtain⟨e,n,ne,nf,d⟩:=I.pin p hp;have Y:p.1 ∉ ch:=fun z=>(Z p.1 z).2.2.2 p hp rfl
  exact#[keep p.1 p.2 ne nf Y e n,free p.1 p.2 Y e n,ne,nf,d]
def Inv.un {t':Nat}(I:Inv X pins σ H s) (u:Un X.fs [] H H' s.heap h') (U:HOk X.prog X.w H' h'):Inv X pins σ H' { s with heap:=h',toks:=t' }:=by
 obtain⟨m,⟨o,es,ep,ho,r⟩,_⟩:=id I.loc;obtain⟨sl,hL⟩:=u.any ho I.free (by simp);exact I.step (g':=s.gens) (d':=s.drawn) (ch:=[]) (fun _ z=>nomatch z) (fun b o _ Z _ e n=>u.keep b o e n Z (by simp)) (fun b o _ Z _ e n=>u.slot b o e n Z (by simp)) (fun b o _ e n=>u.free b o e n (by simp)) (fun b o _ e=>u.there b o e (by simp)) u.tups u.frzs u.tbls (fun m' hm=>by
  obtain⟨o',Y,ep',J,r'⟩:=hm;rw[ho] at J;cases J;exact#[_,Y,ep',hL,r']) U I.bare
def Inv.call {t':Nat}(I:Inv X pins σ H s) (u:Un (K0 X.stack) ch H H' s.heap h') (Z:HOk X.prog X.w H' h') (hg:AllBare g')
  (U:∀b∈ch,(b∈X.ex\/X.s₀.heap.objs.size<=b)/\b≠X.env.locals/\(∀x c,X.env.cells.lookup x=some c->c≠b)/\∀p∈X.pn++pins,p.1≠b) :
  Inv X pins σ H' { s with heap:=h',gens:=g',drawn:=d',toks:=t' }:=by
 obtain⟨m,⟨o,es,ep,ho,r⟩,_⟩:=id I.loc;obtain⟨sl,hL⟩:=u.any ho I.free fun z=>(U _ z).2.1 rfl
 exact I.step (ch:=ch) U (fun b o hL hb J e n=>u.keep b o e n (fun z=>(xo.mp (I.stkSub b z)).elim hL hb) J) (fun b o _ _ J e n=>u.any e n J) (fun b o J e n=>u.free b o e n J) (fun b o J e=>u.there b o e J) u.tups u.frzs u.tbls (fun m' hm=>by
  obtain⟨o',es',ep',Y,r'⟩:=hm;rw[ho] at Y;cases Y;exact#[_,es',ep',hL,r']) Z hg
def Inv.turned {t':Nat}{it:Addr}(I:Inv X pins σ H s) (k:∀b o,b≠it->s.heap.get? b=some o->h'.get? b=some o) (Z:H it=none) (hL:it≠X.env.locals)
  (h1:it∈X.ex\/X.s₀.heap.objs.size<=it) (h2:∀x c,X.env.cells.lookup x=some c->c≠it) (h3:∀p∈X.pn++pins,p.1≠it):Inv X pins σ H { s with heap:=h',toks:=t' }:=by
 have U:∀b u,H b=some u->b≠it:=fun b u e z=>by rw[z,Z] at e;cases e
 refine I.step (g':=s.gens) (d':=s.drawn) (ch:=[it]) (fun b hb=>?_) (fun b o _ _ J e _=>k b o (fun z=>J (by simp[z])) e) (fun b o _ _ J e _=>#[o.slots,k b o (fun z=>J (by simp[z])) e]) (fun _ _ _ _ n=>n)
  (fun b o J e=>#[o,k b o (fun z=>J (by simp[z])) e]) (fun _ _ e=>e) (fun _ _ _ e=>e) (fun b ps e=>#[#v[],by rw[e];simp]) (fun m hm=>?_) (fun b u e=>?_) I.bare
 .have e:b=it:=by simpa using hb
  subst e;exact#[h1,hL,h2,h3]
 .obtain⟨o,es,ep,Y,r⟩:=hm;exact#[o,es,ep,k _ o (Mz hL) Y,r]
 .refine(I.hok b u e).stay (fun c v J q=>k c v ?_ q) (fun _ q=>q) fun _ _ q=>q
  rcases J with z | z
  .rw[z];exact U b u e
  .exact U c _ z
def Inv.tok (I:Inv X pins σ H s) (t:Nat):Inv X pins σ H { s with toks:=t }:=I.un (h':=s.heap) (t':=t) Un.refl I.hok
theorem Inv.kept {t':Nat}(I:Inv X pins σ H s) (k:∀b u,s.heap.get? b=some u->h'.get? b=some u):Inv X pins σ H { s with heap:=h',toks:=t' }:=I.un (Un.kept k) (I.hok.kept k)
theorem Inv.laid {o:HO}{t':Nat}(I:Inv X pins σ H s) (k:∀b u,s.heap.get? b=some u->h'.get? b=some u) (U:s.heap.objs.size<=a) (J:ObjOk X.prog X.w (k9 H a o) h' a o) :
  Inv X pins σ (k9 H a o) { s with heap:=h',toks:=t' }:=I.un (Un.laid k U (I.hok.fresh U)) (I.hok.laid k U J)
theorem Inv.write {x e:Addr}{o:HO}{t':Nat}(I:Inv X pins σ H s) (Z:jH (H x)) (Y:e=x\/H e=some (.own x)) (k:∀b u,b≠e->s.heap.get? b=some u->h'.get? b=some u) (J:∃u,h'.get? e=some u)
  (U:ObjOk X.prog X.w (k9 H x o) h' x o):Inv X pins σ (k9 H x o) { s with heap:=h',toks:=t' }:=I.un (Un.write Z Y k J) (I.hok.write Z Y k J U)
def Inv.weak {σ':List (Option V)}(I:Inv X pins σ H s) (J:σ'.length=σ.length) (w:∀(i:Nat) v,σ'[i]? = some (some v)->σ[i]? = some (some v)):Inv X pins σ' H s:=
 #[I.ok,I.os,I.bare,I.base,let ⟨m,hn,hl'⟩:=I.loc;#[m,hn,fun i x v Y U Z=>hl' i x v Y (w i v U) Z],I.cell,I.free,I.freeC,I.pin,I.hok,J.trans I.len]
def Inv.pins_of {pins':vP_}(I:Inv X pins σ H s) (h:∀p∈pins',s.heap.get? p.1=some p.2/\H p.1=none/\p.1≠X.env.locals/\p.1 ∉ X.fs/\∀v,p.2.data ≠ .cell v):Inv X pins' σ H s:=
 #[I.ok,I.os,I.bare,I.base,I.loc,I.cell,I.free,I.freeC,fun p J=>(Mp.mp J).elim (fun z=>I.pin p (MX _ z)) (h p),I.hok,I.len]
def xH {N:List Str}(U:N.Nodup) (a:N[i]? = some x) (b:N[j]? = some x):i=j:=by
 obtain⟨h1,J⟩:=MT.mp a;obtain⟨h2,Y⟩:=MT.mp b;exact(List.getElem_inj U).mp (J.trans Y.symm)
def BI {A:Around}{E:vQ_}{i:Nat}{x:Str}{v:V}{u:Value}{Q:Unit->Shared->Prop}(I:Inv X pins σ H s) (hN:X.N.Nodup) (hi:X.N[i]? = some x) (hx:Z4 X.env.scope x) (r:RelV v u)
  (h:∀s',Inv X pins (σ.set i (some v)) H s'->(∃a,Heap.SameBut a s.heap s'.heap/\(a=X.env.locals\/X.env.cells.lookup x=some a))->Q () s') (hf:X.fn x=true\/X.env.scope.names.lookup x=some .local:=by first | exact .inl rfl | exact .inr rfl | assumption):wpAny M A (storeName X.env x u) Q E s:=by
 obtain⟨m,hn,hl⟩:=id I.loc;have hcls:(X.env.scope.kind == .class||(X.env.scope.kind == .module&&X.env.locals != X.env.globals))=false:=by rw[I.ok.kind];rfl
 have hiσ:i<σ.length:=by rw[I.len];exact(MT.mp hi).1
 have cne:=I.cne;have Y:∀{a:Addr}{h':Heap},(∃o,s.heap.get? a=some o/\H a=none)->Heap.SameBut a s.heap h'->HOk X.prog X.w H h':=fun {a h'} ha J b ob e=>by
  obtain⟨_,_,hfree⟩:=ha;refine(I.hok b ob e).stay (fun c w' Z q=>(J.2 c ?_).trans q) (fun _ q=>q) fun _ _ q=>q
  rintro rfl;rcases Z with rfl | Z
  .rw[hfree] at e;cases e
  .rw[hfree] at Z;cases Z
 rcases hx with hk | hk
 .refine wpAny_storeName_local hk hn (fun h' hn' J=>?_) hcls;obtain⟨oL,_,_,hoL,_⟩:=id hn;refine h _ #[I.ok,I.os,I.bare,#[fun b o e n hb hx=>?_,fun b o e n hb hx=>?_,I.base.free,fun b o e hx=>?_,I.base.tups,I.base.frzs,I.base.tbls],#[_,hn',fun j y v' U e2 e3=>?_],fun y c e=>?_,I.free,I.freeC,fun p hp=>?_,Y #[oL,hoL,I.free] J,by simpa using I.len] #[_,J,.inl rfl]
  .exact(J.2 b (MJ (Mu (xu e) I.ok.above))).trans (I.base.keep b o e n hb hx)
  .obtain⟨sl,U⟩:=I.base.slot b o e n hb hx;exact#[sl,(J.2 b (MJ (Mu (xu e) I.ok.above))).trans U]
  .obtain⟨o',U⟩:=I.base.there b o e hx;exact#[o',(J.2 b (MJ (Mu (xu e) I.ok.above))).trans U]
  .by_cases hj:j=i
   .subst hj;rw[hi] at U;cases U;rw[QK hiσ] at e2;cases e2;exact#[u,r,.inl #[hk,by simp]]
   .rw[OE (Mz hj)] at e2;obtain⟨u',r',q⟩:=hl j y v' U e2 e3;refine#[u',r',?_];rcases q with ⟨k,e⟩ | ⟨k,c,e,z⟩
    .refine .inl #[k,?_];have:y≠x:=fun e=>hj (xH hN U (e▸hi))
     simp[this,e]
    .exact .inr #[k,c,e,z.sameBut J (cne y c e)]
  .obtain⟨w',z⟩:=I.cell y c e;exact#[w',z.sameBut J (cne y c e)]
  .obtain⟨e,n,ne,nf,d⟩:=I.pin p hp;exact#[(J.2 p.1 ne).trans e,n,ne,nf,d]
 .have hfn:X.fn x=true:=by
   rcases hf with z | z
   .exact z
   .rw[z] at hk;cases hk
  obtain⟨c,Z⟩:=I.ok.has x (.inl hk);obtain⟨w',z⟩:=I.cell x c Z;refine wpAny_storeName_cell I.ok.kind hk Z z (fun h' hc' J=>?_);obtain⟨oc,hoc,hocd⟩:=id z;refine h { s with heap:=h' } #[I.ok,I.os,I.bare,#[fun b o e n hb hx=>?_,fun b o e n hb hx=>?_,I.base.free,fun b o e hx=>?_,I.base.tups,I.base.frzs,I.base.tbls],#[m,hn.sameBut J (Mz (cne x c Z)),fun j y v' U e2 e3=>?_],fun y c' e=>?_,I.free,I.freeC,fun p hp=>?_,Y #[oc,hoc,I.freeC x c Z] J,by simpa using I.len] #[c,J,.inr Z]
  .exact(J.2 b (MJ (Mu (xu e) (I.ok.cab x c hfn Z)))).trans (I.base.keep b o e n hb hx)
  .obtain⟨sl,U⟩:=I.base.slot b o e n hb hx;exact#[sl,(J.2 b (MJ (Mu (xu e) (I.ok.cab x c hfn Z)))).trans U]
  .obtain⟨o',U⟩:=I.base.there b o e hx;exact#[o',(J.2 b (MJ (Mu (xu e) (I.ok.cab x c hfn Z)))).trans U]
  .by_cases hj:j=i
   .subst hj;rw[hi] at U;cases U;rw[QK hiσ] at e2;cases e2;exact#[u,r,.inr #[.inl hk,c,Z,hc']]
   .rw[OE (Mz hj)] at e2;obtain⟨u',r',q⟩:=hl j y v' U e2 e3;refine#[u',r',?_];rcases q with q | ⟨k,c',e,z'⟩
    .exact .inl q
    .refine .inr #[k,c',e,z'.sameBut J ?_];rintro rfl;exact hj (xH hN U (I.ok.inj _ _ _ e Z▸hi))
  .by_cases hcc:c'=c
   .subst hcc;exact#[_,hc']
   .obtain⟨w2,z2⟩:=I.cell y c' e;exact#[w2,z2.sameBut J hcc]
  .obtain⟨e,n,ne,nf,d⟩:=I.pin p hp;refine#[(J.2 p.1 ?_).trans e,n,ne,nf,d];intro q;rw[q,hoc] at e;have q':oc=p.2:=MB e;exact d w' (by rw[<-q'];exact hocd)
def jn {A:Around}{E:vQ_}{i:Nat}{x:Str}{v:V}{u:Value}{Q:Unit->Shared->Prop}(I:Inv X pins σ H s) (U:X.N.Nodup) (hi:X.N[i]? = some x) (Y:Z4 X.env.scope x) (r:RelV v u)
  (h:∀s',Inv X pins (σ.set i (some v)) H s'->Q () s') (J:X.fn x=true\/X.env.scope.names.lookup x=some .local:=by first | exact .inl rfl | exact .inr rfl | assumption):wpAny M A (storeName X.env x u) Q E s:=
 BI I U hi Y r (fun s' Z _=>h s' Z) J
def Inv.call' (I:Inv X pins σ H s) (Y:s'.os=s.os) (u:Un (K0 X.stack) ch H H' s.heap s'.heap) (J:HOk X.prog X.w H' s'.heap) (Z:AllBare s'.gens)
  (U:∀b∈ch,(b∈X.ex\/X.s₀.heap.objs.size<=b)/\b≠X.env.locals/\(∀x c,X.env.cells.lookup x=some c->c≠b)/\∀p∈X.pn++pins,p.1≠b):Inv X pins σ H' s':=by
 obtain⟨h',g',d',t',o'⟩:=s';have e:o'=s.os:=Y;subst e;exact I.call (g':=g') (t':=t') (d':=d') u J Z U
end
abbrev XK:=Value->Option Addr->Hp->Prop
abbrev St:=List (Option V)
variable {σ:St}
abbrev VK:=V->Hp->Prop
variable {r:List V->Hp->VK->Prop}
abbrev TE:=St->Hp->VK->Prop
variable {te:TE}
abbrev TT:=St->Hp->(Bool->Hp->Prop)->Prop
variable {tc:TT}
abbrev TA:=St->Hp->(List V->Hp->Prop)->Prop
variable {ta:TA}
structure Ends where
 nx:St->Hp->Prop
 rt:VK
 bk:St->Hp->Prop:=fun _ _=>False
 ct:St->Hp->Prop:=fun _ _=>False
abbrev TS:=Ends->St->Hp->Prop
variable {tb:TS}
def EP (X:Cx) (pins:vP_) (σ:St) (Q:VK) (u:Value) (s':Shared):Prop:=∃v H',Inv X pins σ H' s'/\RelV v u/\Q v H'
def TP (X:Cx) (pins:vP_) (σ:St) (Q:Bool->Hp->Prop) (b:Bool) (s':Shared):Prop:=∃H',Inv X pins σ H' s'/\Q b H'
def AP (X:Cx) (pins:vP_) (σ:St) (Q:List V->Hp->Prop) (us:vV_) (s':Shared):Prop:=∃vs H',Inv X pins σ H' s'/\Vals vs us/\Q vs H'
def SP (X:Cx) (pins:vP_) (D:Ends) (f:Flow) (s':Shared):Prop:=
 match f with
 |.next=>∃σ' H',Inv X pins σ' H' s'/\D.nx σ' H'
 |.brk=>∃σ' H',Inv X pins σ' H' s'/\D.bk σ' H'
 |.cont=>∃σ' H',Inv X pins σ' H' s'/\D.ct σ' H'
 |.ret u=>∃v σ' H',Inv X pins σ' H' s'/\RelV v u/\D.rt v H'
def PE (X:Cx) (e:Expr) (t:TE):Prop:=
 ∀(pins:vP_) (s:Shared) (σ:St) (H:Hp) (Q:VK),Inv X pins σ H s->t σ H Q->wpAny (model X.prog X.w) X.A (eval e X.env) (EP X pins σ Q) X.xe s
def PT (X:Cx) (e:Expr) (t:TT):Prop:=
 ∀(pins:vP_) (s:Shared) (σ:St) (H:Hp) (Q:Bool->Hp->Prop),Inv X pins σ H s->t σ H Q->wpAny (model X.prog X.w) X.A (isTrue e X.env (eval e X.env)) (TP X pins σ Q) X.xe s
def PW (X:Cx) (e:Expr) (t:TT):Prop:=
 ∀(whole:Sem Value) (pins:vP_) (s:Shared) (σ:St) (H:Hp) (Q:Bool->Hp->Prop),Inv X pins σ H s->t σ H Q->wpAny (model X.prog X.w) X.A (isTrue e X.env whole) (TP X pins σ Q) X.xe s
def PW.pt {t:TT}(h:PW X e t):PT X e t:=h _
def PA (X:Cx) (es:List Expr) (t:TA):Prop:=
 ∀(pos:Pos) (pins:vP_) (s:Shared) (σ:St) (H:Hp) (Q:List V->Hp->Prop),Inv X pins σ H s->t σ H Q->wpAny (model X.prog X.w) X.A (spliced (backTo pos (starEach es X.env))) (AP X pins σ Q) X.xe s
def PS (X:Cx) (st:Stmt) (t:TS):Prop:=
 ∀(pins:vP_) (s:Shared) (σ:St) (H:Hp) (D:Ends),Inv X pins σ H s->t D σ H->wpAny (model X.prog X.w) X.A (exec st X.env) (SP X pins D) X.xe s
def PSs (X:Cx) (st:List Stmt) (t:TS):Prop:=
 ∀(pins:vP_) (s:Shared) (σ:St) (H:Hp) (D:Ends),Inv X pins σ H s->t D σ H->wpAny (model X.prog X.w) X.A (execs st X.env) (SP X pins D) X.xe s
def u6 {α:Type}{t:Sem α}{Q Q':α->Shared->Prop}(h:wpAny M A t Q E s) (J:∀a s,Q a s->Q' a s):wpAny M A t Q' E s:=MG h J fun _ _ x=>x
section
def au (i:Nat):TE:=fun σ H Q=>∃v,σ[i]? = some (some v)/\Q v H
def tC (v:V):TE:=fun _ H Q=>Q v H
def JP {i:Nat}{x:Str}{pos:Pos}(hN:X.N[i]? = some x) (hv:oZ X.env.scope x) (Z:(x == ("__debug__" : Str))=false:=by decide) (Y:(x == ("__classdict__" : Str))=false:=by decide):PE X (.Name x pos) (au i):=by
 intro pins s σ H Q I h;obtain⟨v,e,h⟩:=h;obtain⟨m,hn,hl⟩:=I.loc;obtain⟨u,r,l⟩:=hl i x v hN e hv;have U:EP X pins σ Q u s:=#[v,H,I,r,h]
 rcases l with ⟨hk,hm⟩ | ⟨hk,c,hc,J⟩
 .exact Og (Pc I.ok.kind hk hn hm U) Z
 .rcases hk with hk | hk
  .exact Og (wpAny_loadName_cell I.ok.kind hk hc J U) Z
  .exact Og (wpAny_loadName_free I.ok.kind hk hc J U Y) Z
def bj {i j pos}:PE X (.Constant (.int i) j pos) (tC (.int i)):=fun _ _ _ H _ I h=>wpAny_Constant_int #[.int i,H,I.tok _,#[_,rfl],h]
def AZ {b j pos}:PE X (.Constant (.bool b) j pos) (tC (.bl b)):=fun _ _ _ H _ I h=>Constant_bool #[.bl b,H,I,rfl,h]
def EI {j pos}:PE X (.Constant .none j pos) (tC .non):=fun _ _ _ H _ I h=>Constant_none #[.non,H,I,rfl,h]
def EG {x j pos}:PE X (.Constant (.str x) j pos) (tC (.str x)):=fun _ _ _ H _ I h=>Calls.Constant_str #[.str x,H,I.tok _,#[_,rfl],h]
def Gl (X:Cx) (x:Str):Prop:=X.env.kindOf x=some .globalImplicit
def jP {E:vQ_}{pins:vP_}{s:Shared}{H:Hp}{x:Str}{u:Value}{pos:Pos}{Q:vQ_}(I:Inv X pins σ H s) (J:Gl X x) (Y:X.mg x=some u) (h:Q u s)
  (U:(x == ("__debug__" : Str))=false:=by decide):wpAny (model X.prog X.w) X.A (eval (.Name x pos) X.env) Q E s:=
 Calls.Name_function_global I.ok.kind J (Calls.loadGlobal_global (by rw[I.ok.glob];exact I.mod.glob.keeps I.bk) Y h) U
def aV {E:vQ_}{pins:vP_}{s:Shared}{H:Hp}{x:Str}{u:Value}{pos:Pos}{Q:vQ_}(I:Inv X pins σ H s) (U:Gl X x) (hm:X.mg x=none) (J:bootBuiltins x=some u) (h:Q u s)
  (Z:x ≠ "__name__" := by decide) (Y:(x == ("__debug__" : Str))=false:=by decide):wpAny (model X.prog X.w) X.A (eval (.Name x pos) X.env) Q E s:=by
 obtain⟨mb,h1,h2⟩:=I.mod.blt;exact Calls.Name_function_global I.ok.kind U (Calls.loadGlobal_builtin (by rw[I.ok.glob];exact I.mod.glob.keeps I.bk) hm (by rw[I.ok.blt];exact h1.keeps I.bk) ((h2 x Z).trans J) h) Y
def Lr {x:Str}{v:V}{u:Value}{pos:Pos}(Y:Gl X x) (hm:X.mg x=none) (J:bootBuiltins x=some u) (r:RelV v u) (U:x ≠ "__name__" := by decide) (Z:(x == ("__debug__" : Str))=false:=by decide):PE X (.Name x pos) (tC v):=
 fun _ _ _ H _ I h=>aV I Y hm J #[v,H,I,r,h] U Z
variable {a b:Expr}{ta tb:TE}{pos:Pos}
variable {tA tB':TT}
def Ar (t u:TT):TT:=fun σ H Q=>t σ H fun c H1=>if c=true then u σ H1 Q else Q false H1
def CF (t u:TT):TT:=fun σ H Q=>t σ H fun c H1=>if c=true then Q true H1 else u σ H1 Q
def Ec (t:TT):TT:=fun σ H Q=>t σ H fun c H1=>Q (!c) H1
def Fc (J:PT X a tA):PW X (.BoolOp .And [a] pos) tA:=by
 intro U pins s σ H Q I h;refine isTrue_and (u6 (J pins s σ H Q I h) fun c s1 e=>?_);cases c with
 |true=>exact isTrue_and_nil e
 |false=>exact e
def Bc (J:PT X a tA):PW X (.BoolOp .Or [a] pos) tA:=by
 intro U pins s σ H Q I h;refine isTrue_or (u6 (J pins s σ H Q I h) fun c s1 e=>?_);cases c with
 |false=>exact isTrue_or_nil e
 |true=>exact e
def Fh (Y:PT X a tA) (Z:PW X (.BoolOp .And (b::rest) pos) tB'):PW X (.BoolOp .And (a::b::rest) pos) (Ar tA tB'):=by
 intro wh pins s σ H Q I h;refine isTrue_and (u6 (Y pins s σ H _ I h) fun c s1 ⟨H1,J,U⟩=>?_);cases c with
 |true=>exact Z wh pins s1 σ H1 Q J U
 |false=>exact#[H1,J,U]
def Gz (Y:PT X a tA) (Z:PW X (.BoolOp .Or (b::rest) pos) tB'):PW X (.BoolOp .Or (a::b::rest) pos) (CF tA tB'):=by
 intro wh pins s σ H Q I h;refine isTrue_or (u6 (Y pins s σ H _ I h) fun c s1 ⟨H1,J,U⟩=>?_);cases c with
 |true=>exact#[H1,J,U]
 |false=>exact Z wh pins s1 σ H1 Q J U
def HW (J:PT X a tA):PT X (.UnaryOp .Not a pos) (Ec tA):=by
 intro pins s σ H Q I h;exact isTrue_not (J pins s σ H (fun c H1=>Q (!c) H1) I h)
def CH (ta tb:TE):TE:=fun σ H Q=>ta σ H fun x H1=>∃c,x = .bl c/\if c=true then tb σ H1 Q else Q (.bl false) H1
def JY (ta tb:TE):TE:=fun σ H Q=>ta σ H fun x H1=>∃c,x = .bl c/\if c=true then Q (.bl true) H1 else tb σ H1 Q
def Es (ta:TE):TE:=fun σ H Q=>ta σ H fun x H1=>∃c,x = .bl c/\Q (.bl (!c)) H1
def Ce {op} {t:TE}(h:PE X a t):PE X (.BoolOp op [a] pos) t:=fun pins s σ H Q I J=>BoolOp_one (h pins s σ H Q I J)
def Ep (Y:PE X a ta) (hb:PE X (.BoolOp .And (b::rest) pos) tb):PE X (.BoolOp .And (a::b::rest) pos) (CH ta tb):=by
 intro pins s σ H Q I h;refine BoolOp_and (u6 (Y pins s σ H _ I h) fun v s1 ⟨x,H1,U,Z,J⟩=>?_);obtain⟨c,rfl,J⟩:=J;cases Z;refine Oh ?_;cases c with
 |true=>exact hb pins s1 σ H1 Q U J
 |false=>exact#[.bl false,H1,U,rfl,J]
def BK (Y:PE X a ta) (hb:PE X (.BoolOp .Or (b::rest) pos) tb):PE X (.BoolOp .Or (a::b::rest) pos) (JY ta tb):=by
 intro pins s σ H Q I h;refine BoolOp_or (u6 (Y pins s σ H _ I h) fun v s1 ⟨x,H1,U,Z,J⟩=>?_);obtain⟨c,rfl,J⟩:=J;cases Z;refine Oh ?_;cases c with
 |false=>exact hb pins s1 σ H1 Q U J
 |true=>exact#[.bl true,H1,U,rfl,J]
def CQ (U:PE X a ta):PE X (.UnaryOp .Not a pos) (Es ta):=by
 intro pins s σ H Q I h;refine UnaryOp_ (u6 (U pins s σ H _ I h) fun v s1 ⟨x,H1,Z,Y,J⟩=>?_);obtain⟨c,rfl,J⟩:=J;cases Y;exact not_of (Oh #[.bl (!c),H1,Z,rfl,J])
end
def SqL (K:vF_) (H:Hp) (a:Addr) (xs:List V):Prop:=
 Rd H a (.lst xs) \/
  ∃(o:Obj) (its:vR_) (n:Nat),K.lookup a=some o/\o.cls = .type "list" /\ o.dict=none/\o.data = .seq its n/\its.size<=sizeLine/\Vals xs its.toList
def SqT (K:vF_) (H:Hp) (a:Addr) (xs:List V):Prop:=
 Rd H a (.tup xs) \/
  ∃(o:Obj) (its:vR_) (n:Nat),K.lookup a=some o/\o.cls = .type "tuple" /\ o.data = .seq its n/\its.size<=sizeLine/\Vals xs its.toList
def Am:Value->Option V
 |.none=>some .non
 |.bool b=>some (.bl b)
 |.int i _=>some (.int i)
 |.str x _=>some (.str x)
 |.bytes b _=>some (.byt b)
 |.float b _=>some (.flt b)
 |.ref a=>some (.ref a)
 |.type n=>some (.ty n)
 |_=>none
def RelV.abs {x:V}(r:RelV x u):Am u=some x:=by
 cases x with
 |non=>cases r;rfl
 |bl _=>cases r;rfl
 |int _=>obtain⟨t,rfl⟩:=r;rfl
 |str _=>obtain⟨t,rfl⟩:=r;rfl
 |byt _=>obtain⟨t,rfl⟩:=r;rfl
 |flt _=>obtain⟨t,rfl⟩:=r;rfl
 |ref _=>cases r;rfl
 |ty _=>cases r;rfl
def RelV.inj {x y:V}(r:RelV x u) (q:RelV y u):x=y:=MB (r.abs.symm.trans q.abs)
theorem Vals.inj:∀{xs ys:List V}{us:vV_},Vals xs us->Vals ys us->xs=ys:=by
 intro xs ys us h;induction h generalizing ys with
 |nil=>
  intro h2;cases h2;rfl
 |cons r t U=>
  intro h2;cases h2 with
  |cons J t'=>rw[r.inj J,U t']
section
variable {a:Addr}
def SqL.of (h:H a=some (.lst xs)):SqL K H a xs:=.inl (.inl h)
def SqT.of (h:H a=some (.tup xs)):SqT K H a xs:=.inl (.inl h)
def Inv.list (I:Inv X pins σ H s) (h:SqL X.K H a xs):∃its:List Value,Vals xs its/\PlainL s.heap a its.toArray/\xs.length<=sizeLine:=by
 rcases h with h | ⟨o,its,n,hk,hc,hd,hs,hz,r⟩
 .obtain⟨z,its,n,r,e⟩:=h.ok I.hok;exact#[its,r,#[_,n,e,rfl,rfl,rfl],z]
 .refine#[its.toList,r,#[o,n,I.kIn a o hk,hc,hd,by simpa using hs],?_];have e:=r.length;simp only[PU] at e;omega
def Inv.tuple (I:Inv X pins σ H s) (h:SqT X.K H a xs):∃its:List Value,Vals xs its/\IsTup s.heap a its.toArray/\xs.length<=sizeLine:=by
 rcases h with h | ⟨o,its,n,hk,hc,hs,hz,r⟩
 .obtain⟨z,its,r,p⟩:=h.ok I.hok;exact#[its,r,p,z]
 .refine#[its.toList,r,#[o,I.kIn a o hk,hc,n,by simpa using hs],?_];have e:=r.length;simp only[PU] at e;omega
def Inv.list_inj (I:Inv X pins σ H s) (h:SqL X.K H a xs) (h':SqL X.K H a ys):xs=ys:=by
 obtain⟨its,r,⟨o,n,e,_,_,d⟩,_⟩:=I.list h;obtain⟨J,Z,⟨o',n',U,_,_,Y⟩,_⟩:=I.list h';rw[e] at U;cases U;rw[d] at Y;injection Y with d1 _;have:its=J:=by simpa using congrArg Array.toList d1
 subst this;exact r.inj Z
def Inv.tuple_inj (I:Inv X pins σ H s) (h:SqT X.K H a xs) (h':SqT X.K H a ys):xs=ys:=by
 obtain⟨its,r,⟨o,e,_,n,d⟩,_⟩:=I.tuple h;obtain⟨J,Z,⟨o',U,_,n',Y⟩,_⟩:=I.tuple h';rw[e] at U;cases U;rw[d] at Y;injection Y with d1 _;have:its=J:=by simpa using congrArg Array.toList d1
 subst this;exact r.inj Z
end
abbrev Cx.wish (X:Cx) (E:vQ_):Cx:={ X with xe:=E }
abbrev Cx.nox (X:Cx):Cx:=X.wish fun _ _=>False
theorem Cx.Ok.wish (J:X.Ok) (E:vQ_):(X.wish E).Ok:=
 #[J.mod,J.kind,J.glob,J.blt,J.above,J.inj,J.has,J.cab,J.hd,J.frames,J.stk,J.exf,J.bs,J.bsz,J.noex,J.exfs,J.funs,J.frf]
def Cx.Ok.unwish (J:(X.wish E).Ok):X.Ok:=
 #[J.mod,J.kind,J.glob,J.blt,J.above,J.inj,J.has,J.cab,J.hd,J.frames,J.stk,J.exf,J.bs,J.bsz,J.noex,J.exfs,J.funs,J.frf]
theorem Inv.wish (I:Inv X pins σ H s) (E:vQ_):Inv (X.wish E) pins σ H s:=#[I.ok.wish E,I.os,I.bare,I.base,I.loc,I.cell,I.free,I.freeC,I.pin,I.hok,I.len]
theorem Inv.unwish (I:Inv (X.wish E) pins σ H s):Inv X pins σ H s:=#[I.ok.unwish,I.os,I.bare,I.base,I.loc,I.cell,I.free,I.freeC,I.pin,I.hok,I.len]
theorem SP.unwish {D:Ends}(h:SP (X.wish E) pins D f s'):SP X pins D f s':=by
 cases f with
 |next=>obtain⟨σ',H',I,q⟩:=h;exact#[σ',H',I.unwish,q]
 |brk=>obtain⟨σ',H',I,q⟩:=h;exact#[σ',H',I.unwish,q]
 |cont=>obtain⟨σ',H',I,q⟩:=h;exact#[σ',H',I.unwish,q]
 |ret u=>obtain⟨v,σ',H',I,r,q⟩:=h;exact#[v,σ',H',I.unwish,r,q]
theorem PSs.nox {st:List Stmt}{t:TS}(h:PSs X.nox st t):PSs X st t:=fun pins s σ H D I J=>
 MG (h pins s σ H D (I.wish _) J) (fun _ _ q=>q.unwish) fun _ _ z=>False.elim z
section
variable {rest:List Stmt}{t u:TS}{pos:Pos}
def Gk:TS:=fun D σ H=>D.nx σ H
def Bu (t u:TS):TS:=fun D σ H=>t { D with nx:=u D } σ H
def HU:PSs X [] Gk:=fun _ _ σ H _ I h=>OF #[σ,H,I,h]
def Dq (h1:PS X st t) (h2:PSs X rest u):PSs X (st::rest) (Bu t u):=by
 intro pins s σ H D I h;refine PV (u6 (h1 pins s σ H { D with nx:=u D } I h) fun f s1 q=>?_);cases f with
 |next=>
  obtain⟨σ',H',J,q⟩:=q;exact h2 pins s1 σ' H' D J q
 |ret v=>exact q
 |brk=>exact q
 |cont=>exact q
def Hc (h1:PS X st t):PSs X [st] t:=by
 intro pins s σ H D I h;refine PV (u6 (h1 pins s σ H D I h) fun f s1 q=>?_);cases f with
 |next=>exact OF q
 |ret v=>exact q
 |brk=>exact q
 |cont=>exact q
def Inv.quiet (I:Inv X pins σ H s):interactive X.env=false:=by simp[interactive,I.ok.kind]
def CN (te:TE):TS:=fun D σ H=>te σ H fun _ H1=>D.nx σ H1
def DQ (J:PE X e te) (Z:swapsWith e none pos.line X.env=pure false:=by rfl):PS X (.Expr e pos) (CN te):=by
 intro pins s σ H D I h;exact wpAny_Expr_any (u6 (J pins s σ H _ I h) fun v s1 ⟨x,H1,U,r1,Y⟩=>#[σ,H1,U,Y]) I.quiet Z
def zS (te:TE):TS:=fun D σ H=>te σ H D.rt
def yJ (U:PE X e te):PS X (.Return (some e) pos) (zS te):=by
 intro pins s σ H D I h;exact wpAny_Return_some (u6 (U pins s σ H _ I h) fun v s1 ⟨x,H1,Y,J,Z⟩=>#[x,σ,H1,Y,J,Z])
def Fs (c:TT) (t u:TS):TS:=fun D σ H=>c σ H fun b H1=>if b=true then t D σ H1 else u D σ H1
def HG {c:Expr}{a b:List Stmt}(hc:PT X c tc) (Y:PSs X a t) (Z:PSs X b u):PS X (.If c a b pos) (Fs tc t u):=by
 intro pins s σ H D I h;refine wpAny_If (u6 (hc pins s σ H _ I h) fun d s1 ⟨H1,J,U⟩=>?_);cases d with
 |true=>exact Y pins s1 σ H1 D J U
 |false=>exact Z pins s1 σ H1 D J U
end
abbrev TG:=V->St->Hp->(St->Hp->Prop)->Prop
abbrev Y3:=List V->St->Hp->(St->Hp->Prop)->Prop
def PG (X:Cx) (J:Expr) (t:TG):Prop:=
 ∀(pins:vP_) (s:Shared) (σ:St) (H:Hp) (v:V) (u:Value) (Q:St->Hp->Prop),Inv X pins σ H s->RelV v u->t v σ H Q ->
  wpAny (model X.prog X.w) X.A (assign J X.env u) (fun _ s'=>∃σ' H',Inv X pins σ' H' s'/\Q σ' H') X.xe s
def bo (X:Cx) (J:List Expr) (t:Y3):Prop:=
 ∀(pins:vP_) (s:Shared) (σ:St) (H:Hp) (vs:List V) (us:vV_) (Q:St->Hp->Prop),Inv X pins σ H s->Vals vs us->t vs σ H Q ->
  wpAny (model X.prog X.w) X.A (assignInOrder ((assignEach J X.env).map (·.2)) us) (fun _ s'=>∃σ' H',Inv X pins σ' H' s'/\Q σ' H') X.xe s
abbrev oG:=V->V->V->Hp->(Hp->Prop)->Prop
def vO (X:Cx) (t:oG):Prop:=
 ∀(pins:vP_) (s:Shared) (σ:St) (H:Hp) (o i v:V) (ov iv u:Value) (Q:Hp->Prop),Inv X pins σ H s->RelV o ov->RelV i iv->RelV v u->t o i v H Q ->
  wpAny (model X.prog X.w) X.A (setItem ov iv u) (fun _ s'=>∃H',Inv X pins σ H' s'/\Q H') X.xe s
section
variable {pos:Pos}
def Z5 (i:Nat):TG:=fun v σ H Q=>Q (σ.set i (some v)) H
def Z2 {i:Nat}{x:Str}(U:X.N.Nodup) (hi:X.N[i]? = some x) (Y:Z4 X.env.scope x) (J:X.fn x=true\/X.env.scope.names.lookup x=some .local:=by first | exact .inl rfl | exact .inr rfl | assumption):PG X (.Name x pos) (Z5 i):=by
 intro pins s σ H v u Q I r h;exact wpAny_assign_Name (jn I U hi Y r (fun s' Z=>#[_,H,Z,h]) J)
def xv:Y3:=fun vs σ H Q=>vs=[]/\Q σ H
def oH (t:TG) (u:Y3):Y3:=fun vs σ H Q=>∃v r,vs=v::r/\t v σ H fun σ' H'=>u r σ' H' Q
def sG:bo X [] xv:=by
 intro pins s σ H vs us Q I r h;obtain⟨e,h⟩:=h;subst e;cases r;exact assignInOrder_nil #[σ,H,I,h]
def ni {e:Expr}{es:List Expr}{t:TG}{u:Y3}(h1:PG X e t) (h2:bo X es u)
  (hs:(assignEach (e::es) X.env).map (·.2)=assign e X.env::(assignEach es X.env).map (·.2):=by rfl):bo X (e::es) (oH t u):=by
 intro pins s σ H vs us Q I r h;obtain⟨v,vr,Y,h⟩:=h;subst Y;cases r with
 |cons r J=>
  rw[hs];refine assignInOrder_cons (u6 (h1 pins s σ H _ _ _ I r h) fun _ s1 ⟨σ1,H1,Z,U⟩=>?_);exact h2 pins s1 σ1 H1 _ _ Q Z J U
def wO (K:vF_) (n:Nat) (t:Y3):TG:=fun v σ H Q=>∃a xs,v = .ref a/\SqT K H a xs/\xs.length=n/\t xs σ H Q
def yF {es:List Expr}{k:Nat}{t:Y3}{n:Nat}(hc:X.calm=true) (h:bo X es t)
  (hn:(assignEach es X.env).length=n:=by rfl) (J:(assignEach es X.env).findIdx? (·.1)=none:=by rfl):PG X (.Tuple es k pos) (wO X.K n t):=by
 intro pins s σ H v u Q I r U;obtain⟨a,xs,e1,Z,hl,U⟩:=U;subst e1;cases r;obtain⟨its,Y,ht,hz⟩:=I.tuple Z;refine assign_Tuple_tuple (I.ok.hd hc) ht (by simp[hn,<-hl,Y.length]) J fun h' hx=>?_
 have I1:Inv X pins σ H { s with heap:=h' }:=I.kept (t':=s.toks) fun b o e=>hx b o (MJ (xu e)) e
 exact h pins _ σ H xs _ Q I1 (by simpa using Y) U
def HS (to U:TE) (t:oG):TG:=fun v σ H Q=>to σ H fun o H1=>U σ H1 fun i H2=>t o i v H2 fun J=>Q σ J
def Ll {o i:Expr}{to J:TE}{t:oG}(Y:PE X o to) (hi:PE X i J) (hs:vO X t)
  (ha:∀v,assign (.Subscript o i pos) X.env v=(do
   let ov <-holding [v] (eval o X.env)
   let iv <-holding [v,ov] (eval i X.env)
   standAt pos
   holding [v,ov,iv] (setItem ov iv v)
   release [v,ov,iv] []):=by intro _;rfl):PG X (.Subscript o i pos) (HS to J t):=by
 intro pins s σ H v u Q I r h;rw[ha];refine gV (Nm (u6 (Y pins s σ H _ I h) fun ov s1 ⟨x,H1,I1,r1,q1⟩=>?_));refine gV (Nm (u6 (hi pins s1 σ H1 _ I1 q1) fun iv s2 ⟨y,H2,I2,r2,q2⟩=>?_));refine gV (OG (gV (Nm (u6 (hs pins s2 σ H2 x y v ov iv u _ I2 r1 r2 r q2) fun _ s3 ⟨Z,U,q3⟩=>?_))));exact wpAny_release #[σ,Z,U,q3]
def gC (te:TE) (g:TG):TS:=fun D σ H=>te σ H fun x H1=>g x σ H1 D.nx
def pN {tg e:Expr}{te:TE}{g:TG}(Y:PE X e te) (Z:PG X tg g) (hs:swapsWithSole [tg] e pos.line X.env=pure false:=by rfl) (hw:swappedStores [tg] e X.env=pure none:=by rfl)
  (h1:(assignEach [tg] X.env).map (·.2)=[assign tg X.env]:=by rfl):PS X (.Assign [tg] e pos) (gC te g):=by
 intro pins s σ H D I h;refine wpAny_Assign_stores (u6 (Y pins s σ H _ I h) fun v s1 ⟨x,H1,U,r1,J⟩=>?_) hs hw;rw[h1];exact u6 (Z pins s1 σ H1 x v _ U r1 J) fun _ s2 q=>q
def oN {i:Nat}{x:Str}{e:Expr}{te:TE}{pos':Pos}(hN:X.N.Nodup) (hi:X.N[i]? = some x) (U:Z4 X.env.scope x) (he:PE X e te) (hs:swapsWith e (some (.Name x pos')) pos.line X.env=pure false:=by rfl) (J:X.fn x=true\/X.env.scope.names.lookup x=some .local:=by first | exact .inl rfl | exact .inr rfl | assumption) :
  PS X (.Assign [.Name x pos'] e pos) (gC te (Z5 i)):=by
 intro pins s σ H D I h;refine wpAny_Assign_Name (u6 (he pins s σ H _ I h) fun v s1 ⟨y,H1,Z,r1,Y⟩=>?_) hs;exact jn Z hN hi U r1 (fun s2 I2=>#[_,H1,I2,Y]) J
def KZ (i j:Nat) (ta:TA):TS:=fun D σ H=>ta σ H fun vs H1=>∃v w,vs=[v,w]/\D.nx ((σ.set i (some v)).set j (some w)) H1
def Lp {i j:Nat}{x y:Str}{a b:Expr}{ta:TA}{px py pt:Pos}{kt k2 pt2} (hc:X.calm=true) (hN:X.N.Nodup) (hi:X.N[i]? = some x) (hj:X.N[j]? = some y) (Y:i≠j)
  (hx:X.env.scope.names.lookup x=some .local) (Z:X.env.scope.names.lookup y=some .local) (ha:PA X [a,b] ta)
  (hw:swappedStores [.Tuple [.Name x px,.Name y py] kt pt] (.Tuple [a,b] k2 pt2) X.env=pure (some [x,y]))
  (hs:swapsWithSole [.Tuple [.Name x px,.Name y py] kt pt] (.Tuple [a,b] k2 pt2) pos.line X.env=pure false:=by rfl) :
  PS X (.Assign [.Tuple [.Name x px,.Name y py] kt pt] (.Tuple [a,b] k2 pt2) pos) (KZ i j ta):=by
 intro pins s σ H D I h;rw[exec_Assign_arm];refine gV (OG ?_);rw[hs];refine gV (iU ?_);rw[iR #[]];refine gV (Tuple_ (u6 (ha _ pins s σ H _ I h) fun us s1 ⟨vs,H1,I1,r1,U⟩=>?_));obtain⟨v,w,e1,U⟩:=U;subst e1;obtain⟨u1,u2,rfl,rv,rw'⟩:∃u1 u2,us=[u1,u2]/\RelV v u1/\RelV w u2:=by
  cases r1 with
  |cons p q=>
   cases q with
   |cons p' q'=>
    cases q';exact#[_,_,rfl,p,p']
 refine Nn ?_ (by show 2<=sizeLine;decide);have I2:Inv X pins σ H1 { s1 with heap:=s1.heap.push { cls:=.type "tuple",data:=.seq [u1,u2].toArray } }:=I1.kept (t':=s1.toks) fun b o e=>Mg _ e
 rw[hw];refine gV (iU ?_);show wpAny (model X.prog X.w) X.A (do rule "assign.swapped-stores";let items <-unpackItems (.ref s1.heap.objs.size) 2 none;assignInOrder [fun v=>bindName X.env y v,fun v=>bindName X.env x v] items.reverse;pure Flow.next) _ _ _;refine gV (Ny (gV (unpackItems_tuple (items:=#v[u1,u2]) (I.ok.hd hc) (IsTup.new s1.heap _) fun h' J=>?_)));have I3:=I2.kept (h':=h') (t':=s1.toks) fun b o e=>J b o (MJ (xu e)) e
 show wpAny _ _ (assignInOrder [fun v=>bindName X.env y v,fun v=>bindName X.env x v] [u2,u1] >>= fun _=>pure Flow.next) _ _ _;refine gV (assignInOrder_cons (wpAny_bindName (jn I3 hN hj (.inl Z) rw' (fun s2 I4=>?_) (.inr Z))));refine assignInOrder_cons (wpAny_bindName (jn I4 hN hi (.inl hx) rv (fun s3 I5=>assignInOrder_nil (iU ?_)) (.inr hx)));rw[List.set_comm _ _ (Mz Y)] at I5;exact#[_,H1,I5,U]
end
section
variable {pos:Pos}
def Ba (c:TT) (tb:TS):TS:=fun D σ H=>∃W:Nat->St->Hp->Prop,(∃m,W m σ H)/\∀m σ H,W m σ H ->
 c σ H fun b H1=>if b=true then ∃N:St->Hp->Prop,(∀σ' H',N σ' H'->∃m',m'<m/\W m' σ' H')/\tb { D with nx:=N,ct:=N,bk:=D.nx } σ H1 else D.nx σ H1
def Jl {c:Expr}(hp:PassesOwn (model X.prog X.w) X.A X.env X.xe) (hc:PT X c tc) (hb:PSs X body tb):PS X (.While c body [] pos) (Ba tc tb):=by
 intro pins s σ H D I h;obtain⟨W,⟨m0,w0⟩,U⟩:=h;refine wpAny_While (codeAny_whileLoop (fun n s'=>∃σ' H',Inv X pins σ' H' s'/\W n σ' H') ?_ m0 #[σ,H,I,w0]);rintro n s1 ⟨σ1,H1,I1,w1⟩;refine Oi hp (u6 (hc pins s1 σ1 H1 _ I1 (U n σ1 H1 w1)) fun b s2 ⟨H2,I2,Z⟩=>?_);cases b with
 |true=>
  obtain⟨N,hN,Z⟩:=Z;rw[iO rfl];refine Oi hp (u6 (hb pins s2 σ1 H2 _ I2 Z) fun f s3 Y=>?_);cases f with
  |next=>
   obtain⟨σ3,J,I3,n3⟩:=Y;obtain⟨m',hm,w3⟩:=hN σ3 J n3;exact#[m',hm,σ3,J,I3,w3]
  |cont=>
   obtain⟨σ3,J,I3,n3⟩:=Y;obtain⟨m',hm,w3⟩:=hN σ3 J n3;exact#[m',hm,σ3,J,I3,w3]
  |brk=>exact Y
  |ret v=>exact Y
 |false=>
  rw[iR Mk];exact OF #[σ1,H2,I2,Z]
end
structure It where
 go:Nat->Hp->Prop
 yld:Nat->Hp->V->Hp->Prop
 stop:Nat->Hp->Prop
def Q4 (X:Cx) (pins:vP_) (H:Hp) (b:Addr):Prop:=
 H b=none/\b≠X.env.locals/\b ∉ X.fs/\(b∈X.ex\/X.s₀.heap.objs.size<=b)/\(∀x c,X.env.cells.lookup x=some c->c≠b)/\∀p∈X.pn++pins,p.1≠b
def Inv.fpOk {b:Addr}(I:Inv X pins σ H s) (J:s.heap.objs.size<=b) (Y:H' b=none):Q4 X pins H' b:=by
 refine#[Y,Nd (Mu I.lt J),I.nofs J,.inr (Mm I.sz J),fun x c e z=>?_,fun p U z=>?_]
 .obtain⟨v,q⟩:=I.cell x c e;exact absurd (Mu q.lt (by rw[z];exact J)) (Ni _)
 .exact absurd (Mu (xu (I.pin p U).1) (by rw[z];exact J)) (Ni _)
structure Turn (P:Program) (w:World) (K:vF_) (tg:Expr) (J:It) (fp:vL_) (it:Addr) (tn:Nat->Heap->Prop):Prop where
 mem:it∈fp
 obj:∀i h,tn i h->∀b∈fp,∃o,h.get? b=some o/\∀v,o.data ≠ .cell v
 keep:∀i h h',tn i h->(∀b∈fp,∀o,h.get? b=some o->h'.get? b=some o)->tn i h'
 item:∀(X:Cx),X.prog=P->X.w=w->X.K=K->X.calm=true->∀(i:Nat) (pins:vP_) (s:Shared) (σ:St) (H:Hp) (E:vQ_),Inv X pins σ H s->(∀b∈fp,Q4 X pins H b)->tn i s.heap->J.go i H ->
  wpAny (model P w) X.A (pyNext (.ref it)) (fun r s1=>∃u,r=some u /\
   wpAny (model P w) X.A (letOwnedTupleGo tg (.ref it) u) (fun _ s2=>∃x H',Inv X pins σ H' s2/\RelV x u/\J.yld i H x H'/\tn (i+1) s2.heap/\∀b∈fp,H' b=none) E s1) E s
 done:∀(X:Cx),X.prog=P->X.w=w->X.K=K->X.calm=true->∀(i:Nat) (pins:vP_) (s:Shared) (σ:St) (H:Hp) (E:vQ_),Inv X pins σ H s->(∀b∈fp,Q4 X pins H b)->tn i s.heap->J.stop i H ->
  wpAny (model P w) X.A (pyNext (.ref it)) (fun r s1=>r=none/\Inv X pins σ H s1) E s
 self:∀(A:Around) (i:Nat) (s:Shared) (Q:vQ_) (E:vQ_),tn i s.heap->Q (.ref it) s->wpAny (model P w) A (pyIter (.ref it)) Q E s
abbrev TI:=St->Hp->(It->Hp->Prop)->Prop
def rW (X:Cx) (pins:vP_) (σ:St) (tg:Expr) (R:It->Hp->Prop) (U:Value) (s2:Shared):Prop:=
 ∃(it:Addr) (fp:vL_) (tn:Nat->Heap->Prop) (J:It) (H':Hp),U = .ref it/\Inv X pins σ H' s2/\Turn X.prog X.w X.K tg J fp it tn/\tn 0 s2.heap/\(∀b∈fp,Q4 X pins H' b)/\R J H'
def PI (X:Cx) (tg iter:Expr) (wi:TI):Prop:=
 ∀(pins:vP_) (s:Shared) (σ:St) (H:Hp) (R:It->Hp->Prop),Inv X pins σ H s->wi σ H R ->
  wpAny (model X.prog X.w) X.A (eval iter X.env) (fun v s1=>wpAny (model X.prog X.w) X.A (pyIter v) (rW X pins σ tg R) X.xe s1) X.xe s
def lh {it:Addr}{o:Obj}{Q:Unit->Shared->Prop}(U:s.heap.get? it=some o) (Y:o.cls = .type n) (Z:o.data = .fields vs)
    (hn:["enumerate", "zip", "dict_itemiterator", "dict_reverseitemiterator", "odict_iterator", "itertools.zip_longest", "itertools.pairwise"].contains n=false) (J:Q () s):wpAny M A (letOwnedTupleGo tg (.ref it) u) Q E s:=by
  unfold letOwnedTupleGo;cases tg <;> first
    | exact iU J
    | (cases u <;> first
        | exact iU J
        | (refine gV (wpAny_load U ?_)
           rw[Y,Z];show wpAny M A (if (["enumerate", "zip", "dict_itemiterator", "dict_reverseitemiterator", "odict_iterator", "itertools.zip_longest", "itertools.pairwise"].contains n&&vs[0]? == some (rawInt _))=true then _ else _) Q E s;rw[iR (by intro h;rw[hn,OH] at h;cases h)];exact iU J))
def gH (K:vF_) (a:Addr):It:=
 #[fun i H=>∃xs x,SqL K H a xs/\xs[i]? = some x,fun i H x H'=>H'=H/\∀xs,SqL K H a xs->xs[i]? = some x,fun i H=>∃xs,SqL K H a xs/\xs.length<=i]
def gD (K:vF_) (a:Addr):It:=
 #[fun i H=>∃xs x,SqT K H a xs/\xs[i]? = some x,fun i H x H'=>H'=H/\∀xs,SqT K H a xs->xs[i]? = some x,fun i H=>∃xs,SqT K H a xs/\xs.length<=i]
def cJ (lo:Int) (n:Nat):It:=#[fun i _=>i<n,fun i H x H'=>H'=H/\x = .int (lo+i),fun i _=>n<=i]
def JW {w:World}(a it:Addr):Turn P w K tg (gH K a) [it] it (fun i h=>h.IsListIter it a i) where
 mem:=by simp
 obj:=fun i h st b J=>by
  have e:b=it:=by simpa using J
  subst e;obtain⟨o,e,c,d⟩:=st;exact#[o,e,fun v z=>by rw[d] at z;cases z]
 keep:=fun i h h' st k=>st.at fun o e=>k it (by simp) o e
 item:=by
  intro X hP hw hK hc i pins s σ H E I Y st hg;subst hP hw hK;obtain⟨xs,x,Z,hx⟩:=hg;obtain⟨its,rv,p,hz⟩:=I.list Z;obtain⟨u,hu,ru⟩:=rv.get hx;obtain⟨f0,f1,f2,f3,f4,f5⟩:=Y it (by simp);refine wpAny_pyNext_list_item st p.isList (x:=u) (by simpa using hu) fun h' U sb=>?_
  have I1:Inv X pins σ H { s with heap:=h' }:=I.turned (t':=s.toks) (fun b o J e=>(sb.2 b J).trans e) f0 f1 f3 f4 f5;obtain⟨o,e,c,d⟩:=id U;exact#[u,rfl,lh (s:={ s with heap:=h' }) e c d #[] #[x,H,I1,ru,#[rfl,fun ys hy=>by rw[I.list_inj hy Z];exact hx],U,fun b J=>(Y b J).1]]
 done:=by
  intro X hP hw hK hc i pins s σ H E I Y st hg;subst hP hw hK;obtain⟨xs,Z,hx⟩:=hg;obtain⟨its,rv,p,hz⟩:=I.list Z;obtain⟨f0,f1,f2,f3,f4,f5⟩:=Y it (by simp);have hl:=rv.length;exact wpAny_pyNext_list_end (I.ok.hd hc) st p.isList (by simp;omega) fun h' eb=>#[rfl,I.turned (t':=s.toks) (fun b o J e=>eb b o J e) f0 f1 f3 f4 f5]
 self:=fun _ _ _ _ _ st h=>wpAny_pyIter_listiter st h
def BH {w:World}(a it:Addr):Turn P w K tg (gD K a) [it] it (fun i h=>h.IsTupleIter it a i) where
 mem:=by simp
 obj:=fun i h st b J=>by
  have e:b=it:=by simpa using J
  subst e;obtain⟨o,e,c,d⟩:=st;exact#[o,e,fun v z=>by rw[d] at z;cases z]
 keep:=fun i h h' st k=>st.at fun o e=>k it (by simp) o e
 item:=by
  intro X hP hw hK hc i pins s σ H E I Y st hg;subst hP hw hK;obtain⟨xs,x,Z,hx⟩:=hg;obtain⟨its,rv,p,hz⟩:=I.tuple Z;obtain⟨u,hu,ru⟩:=rv.get hx;obtain⟨f0,f1,f2,f3,f4,f5⟩:=Y it (by simp);refine wpAny_pyNext_tuple_item st (show s.heap.IsTuple a its.toArray from p) (x:=u) (by simpa using hu) fun h' U sb=>?_
  have I1:Inv X pins σ H { s with heap:=h' }:=I.turned (t':=s.toks) (fun b o J e=>(sb.2 b J).trans e) f0 f1 f3 f4 f5;obtain⟨o,e,c,d⟩:=id U;exact#[u,rfl,lh (s:={ s with heap:=h' }) e c d #[] #[x,H,I1,ru,#[rfl,fun ys hy=>by rw[I.tuple_inj hy Z];exact hx],U,fun b J=>(Y b J).1]]
 done:=by
  intro X hP hw hK hc i pins s σ H E I Y st hg;subst hP hw hK;obtain⟨xs,Z,hx⟩:=hg;obtain⟨its,rv,p,hz⟩:=I.tuple Z;obtain⟨f0,f1,f2,f3,f4,f5⟩:=Y it (by simp);have hl:=rv.length;exact wpAny_pyNext_tuple_end (I.ok.hd hc) st (show s.heap.IsTuple a its.toArray from p) (by simp;omega) fun h' eb=>#[rfl,I.turned (t':=s.toks) (fun b o J e=>eb b o J e) f0 f1 f3 f4 f5]
 self:=fun _ _ _ _ _ st h=>wpAny_pyIter_tupleiter st h
def KC {w:World}(it:Addr) (lo:Int) (n:Nat):Turn P w K tg (cJ lo n) [it] it (fun i h=>IsRangeIter h it (lo+(i:Nat)*1) ((n:Int) - (i:Nat)) 1) where
 mem:=by simp
 obj:=fun i h st b J=>by
  have e:b=it:=by simpa using J
  subst e;exact#[_,st,fun v z=>by
   have z':Data.fields _=Data.cell v:=z;cases z']
 keep:=fun i h h' st k=>k it (by simp) _ st
 item:=by
  intro X hP hw Z hc i pins s σ H E I Y st hg;subst hP hw Z;obtain⟨f0,f1,f2,f3,f4,f5⟩:=Y it (by simp);have W:=Walks.range (prog:=X.prog) (w:=X.w) (I.ok.hd hc) it lo 1 n;refine W.item i s _ _ hg st fun v h' tk hv U kk=>?_
  obtain⟨t,rfl⟩:=hv;have I1:Inv X pins σ H { s with heap:=h',toks:=tk }:=I.turned (fun b o J e=>kk b o (by simpa using J) e) f0 f1 f3 f4 f5;refine#[_,rfl,lh (s:={ s with heap:=h',toks:=tk }) (n := "range_iterator") U rfl rfl #[] #[.int (lo+i),H,I1,#[t,?_],#[rfl,rfl],U,fun b J=>(Y b J).1]];rw[Int.mul_one]
 done:=by
  intro X hP hw Z hc i pins s σ H E I Y st hg;subst hP hw Z;obtain⟨f0,f1,f2,f3,f4,f5⟩:=Y it (by simp);exact wpAny_pyNext_range_end (I.ok.hd hc) st (by have:n<=i:=hg;omega) fun h' eb=>#[rfl,I.turned (t':=s.toks) (fun b o J e=>eb b o J e) f0 f1 f3 f4 f5]
 self:=fun _ _ _ _ _ st h=>wpAny_pyIter_rangeiter st h
def DC {R:It->Hp->Prop}{lo hi:Int}{t u v:Tok}{U:Nat}(I:Inv X pins σ H s) (h1:-(2 ^ 62)<=lo) (h2:lo<2 ^ 62) (h3:-(2 ^ 62)<=hi) (Z:hi<2 ^ 62)
  (q:R (cJ lo (hi - lo).toNat) H):wpAny (model X.prog X.w) X.A (pyIter (.ref s.heap.objs.size)) (rW X pins σ tg R) E { s with heap:=s.heap.push { cls:=.type "range",data:=.fields #v[.int lo t,.int hi u,.int 1 v] },toks:=U }:=by
 refine wpAny_pyIter_range (IsRange.new ..) (small_one h1 h2 h3 Z) ?_;have J:Inv X pins σ H { s with heap:=s.heap.push { cls:=.type "range",data:=.fields #v[.int lo t,.int hi u,.int 1 v] },toks:=U }:=I.kept fun b o e=>Mg _ e
 refine#[(s.heap.push { cls:=.type "range",data:=.fields #v[.int lo t,.int hi u,.int 1 v] }).objs.size,[(s.heap.push { cls:=.type "range",data:=.fields #v[.int lo t,.int hi u,.int 1 v] }).objs.size],_,_,H,rfl,
  J.kept (t':=U) fun b o e=>Mg _ e,KC _ lo (hi - lo).toNat,?_,fun b hb=>?_,q]
 .have e1:lo+((0:Nat):Int)*1=lo:=by simp
  have Y:(((hi - lo).toNat:Nat):Int) - ((0:Nat):Int)=Builtin.Range.rangeSize lo hi 1:=by rw[rangeSize_one];split <;> omega
  show IsRangeIter _ _ (lo+((0:Nat):Int)*1) ((((hi - lo).toNat:Nat):Int) - ((0:Nat):Int)) 1;rw[e1,Y];exact MN _ rfl
 .have e:b=(s.heap.push { cls:=.type "range",data:=.fields #v[.int lo t,.int hi u,.int 1 v] }).objs.size:=by simpa using hb
  subst e;exact J.fpOk (tx _) (J.hok.fresh (tx _))
def Ju (ta:TA):TI:=fun σ H R=>ta σ H fun vs H1=>∃j:Int,vs=[.int j] /\ -(2 ^ 62)<=j/\j<2 ^ 62/\R (cJ 0 j.toNat) H1
def vL {ta:TA}{p pos:Pos}(U:Gl X "range") (hm:X.mg "range" = none) (Z:PA X [a] ta) (hs:starEach [a] X.env=[(false,eval a X.env)]:=by rfl):PI X tg (.Call (.Name "range" p) [a] [] pos) (Ju ta):=by
 intro pins s σ H R I h;refine Call_ (aV I U hm boot_range (OI (u6 (Z pos pins s σ H _ I h) fun us s1 ⟨vs,H1,I1,r1,J⟩=>?_) hs rfl));obtain⟨j,e,J,q2,q⟩:=J;subst e;cases r1 with
 |cons r Y=>
  cases Y;obtain⟨t,rfl⟩:=r;exact call_range_1 (DC I1 ∅ ∅ J q2 (by simpa using q))
def Fe (wi:TI) (g:TG) (tb:TS):TS:=fun D σ H=>wi σ H fun J H1=>∃W:Nat->Nat->St->Hp->Prop,(∃m,W 0 m σ H1)/\∀i m σ H,W i m σ H ->
 (J.stop i H/\D.nx σ H)\/(J.go i H/\∃N:St->Hp->Prop,(∀σ' H',N σ' H'->∃m',m'<m/\W (i+1) m' σ' H')/\∀x H',J.yld i H x H'->g x σ H' fun σ2 H2=>tb { D with nx:=N,ct:=N,bk:=D.nx } σ2 H2)
def fP (fp:vL_) (h:Heap):List (Addr × Obj):=fp.filterMap fun b=>(h.get? b).map fun o=>(b,o)
def eZ {b:Addr}{o:Obj}(J:b∈fp) (e:h.get? b=some o):(b,o)∈fP fp h:=List.mem_filterMap.mpr #[b,J,by rw[e];rfl]
def Ko (U:p∈fP fp h):p.1∈fp/\h.get? p.1=some p.2:=by
 obtain⟨b,Y,e⟩:=List.mem_filterMap.mp U;cases q:h.get? b with
 |none=>rw[q] at e;cases e
 |some o=>
  rw[q] at e;have J:(b,o)=p:=MB e;subst J;exact#[Y,q]
def Inv.pinned (I:Inv X pins σ H s) (Y:∀b∈fp,Q4 X pins H b) (ho:∀b∈fp,∃o,s.heap.get? b=some o/\∀v,o.data ≠ .cell v):Inv X (pins++fP fp s.heap) σ H s:=
 I.pins_of fun p hp=>(Mp.mp hp).elim (fun z=>I.pin p (MO _ z)) fun z=>by
  obtain⟨U,e⟩:=Ko z;obtain⟨f0,f1,Z,_⟩:=Y p.1 U;obtain⟨o,J,d⟩:=ho p.1 U;rw[e] at J;cases J;exact#[e,f0,f1,Z,d]
def Inv.unpinned {J:vP_}(I:Inv X (pins++J) σ H s):Inv X pins σ H s:=I.pins_of fun p U=>I.pin p (MO _ (MX _ U))
def kM {iter:Expr}{body:List Stmt}{g:TG}{tb:TS}{pos:Pos}(hp:PassesOwn (model X.prog X.w) X.A X.env X.xe) (hc:X.calm=true) (hi:PI X tg iter wi) (hg:PG X tg g) (hb:PSs X body tb)
  (hs:∀x,foldedSetIterable iter X.env x=pure x:=by intro _;rfl):PS X (.For tg iter body [] pos) (Fe wi g tb):=by
 intro pins s σ H D I h;refine wpAny_For (u6 (hi pins s σ H _ I h) fun v s1 h1=>u6 h1 fun itv s2 h2=>?_) hs;obtain⟨it,fp,tn,J,H2,e,I2,T,st2,f2,W,⟨m0,w0⟩,turn⟩:=h2;subst e;have Y:∀{H':Hp},(∀b∈fp,H' b=none)->∀b∈fp,Q4 X pins H' b:=fun hn b hb=>#[hn b hb,(f2 b hb).2]
 refine codeAny_forLoop_any (fun n s'=>∃i σ' H',Inv X pins σ' H' s'/\tn i s'.heap/\(∀b∈fp,H' b=none)/\W i n σ' H') ?_ m0 #[0,σ,H2,I2,st2,fun b hb=>(f2 b hb).1,w0];rintro n s3 ⟨i,σ3,H3,I3,st3,fr3,w3⟩;rcases turn i n σ3 H3 w3 with ⟨stop,qn⟩ | ⟨go,N,hN,step⟩
 .refine Oi hp (u6 (T.done X rfl rfl rfl hc i pins s3 σ3 H3 X.xe I3 (Y fr3) st3 stop) fun r s4 ⟨hr,I4⟩=>?_);subst hr;exact OF #[σ3,H3,I4,qn]
 .refine Oi hp (u6 (T.item X rfl rfl rfl hc i pins s3 σ3 H3 X.xe I3 (Y fr3) st3 go) fun r s4 ⟨u,hr,h4⟩=>?_);subst hr;refine Oi hp (u6 h4 fun _ s5 ⟨x,H5,I5,r5,y5,st5,fr5⟩=>?_);have I5':=I5.pinned (Y fr5) (T.obj _ _ st5);refine Oi hp (u6 (hg _ s5 σ3 H5 x u _ I5' r5 (step x H5 y5)) fun _ s6 ⟨σ6,H6,I6,q6⟩=>?_);refine Oi hp (u6 (hb _ s6 σ6 H6 _ I6 q6) fun f s7 q7=>?_);have again:∀{σ7:St}{Z:Hp},Inv X (pins++fP fp s5.heap) σ7 Z s7->N σ7 Z->∃m,m<n/\∃i σ' H',Inv X pins σ' H' s7/\tn i s7.heap/\(∀b∈fp,H' b=none)/\W i m σ' H':=fun {σ7 Z} U n7=>by
   obtain⟨m',hm,w7⟩:=hN σ7 Z n7;refine#[m',hm,i+1,σ7,Z,U.unpinned,T.keep _ _ _ st5 fun b hb o e=>(U.pin (b,o) (MO _ (MO _ (eZ hb e)))).1,fun b hb=>?_,w7];obtain⟨o,e,d⟩:=T.obj _ _ st5 b hb;exact(U.pin (b,o) (MO _ (MO _ (eZ hb e)))).2.1
  cases f with
  |next=>obtain⟨σ7,Z,U,n7⟩:=q7;exact again U n7
  |cont=>obtain⟨σ7,Z,U,n7⟩:=q7;exact again U n7
  |brk=>obtain⟨σ7,Z,U,q7⟩:=q7;exact#[σ7,Z,U.unpinned,q7]
  |ret v=>obtain⟨x7,σ7,Z,U,r7,q7⟩:=q7;exact#[x7,σ7,Z,U.unpinned,r7,q7]
def AK {K:vF_}{xs:List V}{g:TG}{tb:TS}{D:Ends}{H:Hp}(J:Nat->St->Hp->Prop) (Z:J 0 σ H) (Y:∀i σ H,i<=xs.length->J i σ H->SqL K H a xs)
  (hs:∀i x σ H,xs[i]? = some x->J i σ H->g x σ H fun σ2 H2=>tb { D with nx:=J (i+1),ct:=J (i+1),bk:=D.nx } σ2 H2) (hd:∀σ H,J xs.length σ H->D.nx σ H) :
  ∃W:Nat->Nat->St->Hp->Prop,(∃m,W 0 m σ H)/\∀i m σ H,W i m σ H ->
   ((gH K a).stop i H/\D.nx σ H)\/((gH K a).go i H/\∃N:St->Hp->Prop,(∀σ' H',N σ' H'->∃m',m'<m/\W (i+1) m' σ' H')/\∀x H',(gH K a).yld i H x H'->g x σ H' fun σ2 H2=>tb { D with nx:=N,ct:=N,bk:=D.nx } σ2 H2):=by
 refine#[fun i m σ H=>m=xs.length - i/\i<=xs.length/\J i σ H,#[xs.length,by simp,MY _,Z],?_];rintro i m σ H ⟨rfl,hi,p⟩;have q:=Y i σ H hi p;by_cases U:i<xs.length
 .refine .inr #[#[xs,xs[i],q,by simp[U]],J (i+1),fun σ' H' p'=>#[xs.length - (i+1),by omega,rfl,U,p'],fun x H' y=>?_];obtain⟨e,y⟩:=y;subst e;exact hs i x σ _ (y xs q) p
 .have e:i=xs.length:=by omega
  subst e;exact .inl #[#[xs,q,tx _],hd σ H p]
def dD {K:vF_}{xs:List V}{g:TG}{tb:TS}{D:Ends}{H:Hp}(J:Nat->St->Hp->Prop) (Z:J 0 σ H) (Y:∀i σ H,i<=xs.length->J i σ H->SqT K H a xs)
  (hs:∀i x σ H,xs[i]? = some x->J i σ H->g x σ H fun σ2 H2=>tb { D with nx:=J (i+1),ct:=J (i+1),bk:=D.nx } σ2 H2) (hd:∀σ H,J xs.length σ H->D.nx σ H) :
  ∃W:Nat->Nat->St->Hp->Prop,(∃m,W 0 m σ H)/\∀i m σ H,W i m σ H ->
   ((gD K a).stop i H/\D.nx σ H)\/((gD K a).go i H/\∃N:St->Hp->Prop,(∀σ' H',N σ' H'->∃m',m'<m/\W (i+1) m' σ' H')/\∀x H',(gD K a).yld i H x H'->g x σ H' fun σ2 H2=>tb { D with nx:=N,ct:=N,bk:=D.nx } σ2 H2):=by
 refine#[fun i m σ H=>m=xs.length - i/\i<=xs.length/\J i σ H,#[xs.length,by simp,MY _,Z],?_];rintro i m σ H ⟨rfl,hi,p⟩;have q:=Y i σ H hi p;by_cases U:i<xs.length
 .refine .inr #[#[xs,xs[i],q,by simp[U]],J (i+1),fun σ' H' p'=>#[xs.length - (i+1),by omega,rfl,U,p'],fun x H' y=>?_];obtain⟨e,y⟩:=y;subst e;exact hs i x σ _ (y xs q) p
 .have e:i=xs.length:=by omega
  subst e;exact .inl #[#[xs,q,tx _],hd σ H p]
def Lo {lo:Int}{n:Nat}{g:TG}{tb:TS}{D:Ends}{H:Hp}(J:Nat->St->Hp->Prop) (Y:J 0 σ H)
  (Z:∀i σ H,i<n->J i σ H->g (.int (lo+i)) σ H fun σ2 H2=>tb { D with nx:=J (i+1),ct:=J (i+1),bk:=D.nx } σ2 H2) (hd:∀σ H,J n σ H->D.nx σ H) :
  ∃W:Nat->Nat->St->Hp->Prop,(∃m,W 0 m σ H)/\∀i m σ H,W i m σ H ->
   ((cJ lo n).stop i H/\D.nx σ H)\/((cJ lo n).go i H/\∃N:St->Hp->Prop,(∀σ' H',N σ' H'->∃m',m'<m/\W (i+1) m' σ' H')/\∀x H',(cJ lo n).yld i H x H'->g x σ H' fun σ2 H2=>tb { D with nx:=N,ct:=N,bk:=D.nx } σ2 H2):=by
 refine#[fun i m σ H=>m=n - i/\i<=n/\J i σ H,#[n,by simp,MY _,Y],?_];rintro i m σ H ⟨rfl,hi,p⟩;by_cases U:i<n
 .refine .inr #[U,J (i+1),fun σ' H' p'=>#[n - (i+1),by omega,rfl,U,p'],fun x H' y=>?_];obtain⟨e,y⟩:=y;subst e y;exact Z i σ _ U p
 .have e:i=n:=by omega
  subst e;exact .inl #[tx _,hd σ H p]
abbrev R2:=V->V->Hp->VK->Prop
def OpR (X:Cx) (f:Value->Value->Sem Value) (r:R2):Prop:=
 ∀(pins:vP_) (s:Shared) (σ:St) (H:Hp) (x y:V) (v u:Value) (Q:VK),Inv X pins σ H s->RelV x v->RelV y u->r x y H Q ->
  wpAny (model X.prog X.w) X.A (f v u) (EP X pins σ Q) X.xe s
def kC (X:Cx) (f:Value->Sem Value) (r:V->Hp->VK->Prop):Prop:=
 ∀(pins:vP_) (s:Shared) (σ:St) (H:Hp) (x:V) (v:Value) (Q:VK),Inv X pins σ H s->RelV x v->r x H Q ->
  wpAny (model X.prog X.w) X.A (f v) (EP X pins σ Q) X.xe s
def CallR (X:Cx) (f:Value) (r:List V->Hp->VK->Prop):Prop:=
 ∀(pins:vP_) (s:Shared) (σ:St) (H:Hp) (xs:List V) (us:vV_) (Q:VK),Inv X pins σ H s->Vals xs us->r xs H Q ->
  wpAny (model X.prog X.w) X.A (call f us) (EP X pins σ Q) X.xe s
def FA (X:Cx) (r:V->Hp->(Bool->Hp->Prop)->Prop):Prop:=
 ∀(pins:vP_) (s:Shared) (σ:St) (H:Hp) (x:V) (v:Value) (Q:Bool->Hp->Prop),Inv X pins σ H s->RelV x v->r x H Q ->
  wpAny (model X.prog X.w) X.A (truthy v) (TP X pins σ Q) X.xe s
def ee (r:R2) (ta tb:TE):TE:=fun σ H Q=>ta σ H fun x H1=>tb σ H1 fun y H2=>r x y H2 Q
def LG (r:V->Hp->VK->Prop) (ta:TE):TE:=fun σ H Q=>ta σ H fun x H1=>r x H1 Q
def rI (C:Int->Int->Prop) (g:Int->Int->V):R2:=fun x y H Q=>∃i j,x = .int i/\y = .int j/\C i j/\Q (g i j) H
def V5 (g:Int->Int->V):R2:=fun x y H Q=>∃i j,x = .int i/\y = .int j/\Q (g i j) H
def rU (g:Int->V):V->Hp->VK->Prop:=fun x H Q=>∃i,x = .int i/\Q (g i) H
section
variable {a b c:Expr}{ta tb tc:TE}{pos:Pos}
def oJ (Y:PE X a ta) (hb:PE X b tb) {R:V->V->Hp->Prop}(I:Inv X pins σ H s)
  (h:ta σ H fun x H1=>tb σ H1 fun y H2=>R x y H2) {f:Value->Value->Sem Value}
  (J:∀v u s2 x y H2,Inv X pins σ H2 s2->RelV x v->RelV y u->R x y H2->wpAny (model X.prog X.w) X.A (f v u) Q X.xe s2) :
  wpAny (model X.prog X.w) X.A (eval a X.env) (fun v s₁=>wpAny (model X.prog X.w) X.A (eval b X.env) (fun u s₂=>wpAny (model X.prog X.w) X.A (f v u) Q X.xe s₂) X.xe s₁) X.xe s:=by
 refine u6 (Y pins s σ H _ I h) fun v s1 ⟨x,H1,I1,r1,Z⟩=>?_
 refine u6 (hb pins s1 σ H1 _ I1 Z) fun u s2 ⟨y,H2,I2,U,q2⟩=>?_
 exact J v u s2 x y H2 I2 r1 U q2
def kJ {J:Operator}{r:R2}(Y:OpR X (binaryOp J) r) (ha:PE X a ta) (hb:PE X b tb):PE X (.BinOp a J b pos) (ee r ta tb):=by
 intro pins s σ H Q I h;exact wpAny_BinOp (oJ ha hb I h fun v u s2 x y H2 Z U ry q=>Y pins s2 σ H2 x y v u Q Z U ry q)
def zw {J:UnaryOp}{r:V->Hp->VK->Prop}(ho:kC X (unaryOp J) r) (U:PE X a ta):PE X (.UnaryOp J a pos) (LG r ta):=by
 intro pins s σ H Q I h;exact UnaryOp_ (u6 (U pins s σ H _ I h) fun v s1 ⟨x,H1,Z,Y,q1⟩=>ho pins s1 σ H1 x v Q Z Y q1)
def kB {C:Int->Int->Prop}{g:Int->Int->Int}
  (J:∀(i j:Int) (t u:Tok) (s:Shared) (Q:vQ_) (E:vQ_),C i j->Q (.int (g i j) s.toks) { s with toks:=s.toks+1 }->wpAny (model X.prog X.w) X.A (f (.int i t) (.int j u)) Q E s) :
  OpR X f (rI C fun i j=>.int (g i j)):=by
 intro pins s σ H x y v u Q I U Z h;obtain⟨i,j,rfl,rfl,Y,q⟩:=h;obtain⟨t,rfl⟩:=U;obtain⟨t',rfl⟩:=Z;exact J i j t t' s _ _ Y #[.int (g i j),H,I.tok _,#[_,rfl],q]
def vn {g:Int->Int->Int}
  (J:∀(i j:Int) (t u:Tok) (s:Shared) (Q:vQ_) (E:vQ_),Q (.int (g i j) s.toks) { s with toks:=s.toks+1 }->wpAny (model X.prog X.w) X.A (f (.int i t) (.int j u)) Q E s) :
  OpR X f (V5 fun i j=>.int (g i j)):=by
 intro pins s σ H x y v u Q I U Y h;obtain⟨i,j,rfl,rfl,q⟩:=h;obtain⟨t,rfl⟩:=U;obtain⟨t',rfl⟩:=Y;exact J i j t t' s _ _ #[.int (g i j),H,I.tok _,#[_,rfl],q]
def ig {f:Value->Value->Sem Value}{g:Int->Int->Bool}
  (J:∀(i j:Int) (t u:Tok) (s:Shared) (Q:vQ_) (E:vQ_),Q (.bool (g i j)) s->wpAny (model X.prog X.w) X.A (f (.int i t) (.int j u)) Q E s) :
  OpR X f (V5 fun i j=>.bl (g i j)):=by
 intro pins s σ H x y v u Q I U Y h;obtain⟨i,j,rfl,rfl,q⟩:=h;obtain⟨t,rfl⟩:=U;obtain⟨t',rfl⟩:=Y;exact J i j t t' s _ _ #[.bl (g i j),H,I,rfl,q]
def tD (i j:Int):Prop:=0<=j/\j<=1000000/\i.natAbs<2 ^ 64
def op_add:OpR X (binaryOp .Add) (V5 fun i j=>.int (i+j)):=vn fun _ _ _ _ _ _ _ q=>add_int q
def Ao:OpR X (binaryOp .Sub) (V5 fun i j=>.int (i - j)):=vn fun _ _ _ _ _ _ _ q=>sub_int q
def AX:OpR X (binaryOp .Mod) (rI (fun _ j=>j≠0) fun i j=>.int (i.fmod j)):=kB fun _ _ _ _ _ _ _ J q=>mod_int' J q
def AM:OpR X (binaryOp .Pow) (rI tD fun i j=>.int (i ^ j.toNat)):=kB fun _ _ _ _ _ _ _ J q=>pow_int_small J.1 J.2.1 J.2.2 q
def Az {g:Int->Int}
  (J:∀(i:Int) (t:Tok) (s:Shared) (Q:vQ_) (E:vQ_),Q (.int (g i) s.toks) { s with toks:=s.toks+1 }->wpAny (model X.prog X.w) X.A (f (.int i t)) Q E s) :
  kC X f (rU fun i=>.int (g i)):=by
 intro pins s σ H x v Q I U h;obtain⟨i,rfl,q⟩:=h;obtain⟨t,rfl⟩:=U;exact J i t s _ _ #[.int (g i),H,I.tok _,#[_,rfl],q]
def AG:kC X (unaryOp .USub) (rU fun i=>.int (-i)):=Az fun _ _ _ _ _ q=>neg_int q
end
def qL:V->V->Bool
 |.non,.non=>true | .non,.int _=>true | .int _,.non=>true | .non,.bl _=>true | .bl _,.non=>true | .non,.str _=>true | .str _,.non=>true
 |.int _,.int _=>true | .bl _,.bl _=>true | .str _,.str _=>true | .byt _,.byt _=>true
 |.int _,.str _=>true | .str _,.int _=>true | .bl _,.str _=>true | .str _,.bl _=>true
 |_,_=>false
def nj:R2:=fun x y H Q=>qL x y=true/\Q (.bl (decide (x=y))) H
def md:R2:=fun x y H Q=>qL x y=true/\Q (.bl (!decide (x=y))) H
def tO {i j:Int}:decide (V.int i=V.int j)=(i == j):=by
 rw[Oj];simp
def qO {i j:Bool}:decide (V.bl i=V.bl j)=(i == j):=by
 rw[Oj];simp
def sm {i j:Str}:decide (V.str i=V.str j)=(i == j):=by
 rw[Oj];simp
def sN {i j:Array UInt8}:decide (V.byt i=V.byt j)=(i.toList == j.toList):=by
 rw[Oj];cases i;cases j;simp
section
variable {a b c:Expr}{ta tb tc:TE}{pos:Pos}
def D0 {Q:VK}{k k':Bool}(I:Inv X pins σ H s) (q:Q (.bl k) H) (e:k=k'):EP X pins σ Q (.bool k') s:=by
 subst e;exact#[.bl k,H,I,rfl,q]
def op_eq:OpR X (compareOp .Eq) nj:=by
 intro pins s σ H x y v u Q I Y J h;obtain⟨U,q⟩:=h;cases x with
 |non=>
  cases Y;cases y with
  |non=>cases J;exact PySem.EqNone.eq_none_none (D0 I q (by simp))
  |bl j=>cases J;exact PySem.EqNone.eq_none_bool (D0 I q (by simp))
  |int j=>obtain⟨t',rfl⟩:=J;exact PySem.EqNone.eq_none_int (D0 I q (by simp))
  |str j=>obtain⟨t',rfl⟩:=J;exact PySem.EqNone.eq_none_str (D0 I q (by simp))
  |_=>exact absurd (show false=true from U) Mk
 |bl i=>
  cases Y;cases y with
  |non=>cases J;exact PySem.EqNone.eq_bool_none (D0 I q (by simp))
  |bl j=>cases J;exact eq_bool (D0 I q qO)
  |str j=>obtain⟨t',rfl⟩:=J;exact PySem.EqMixed.eq_bool_str (D0 I q (by simp))
  |_=>exact absurd (show false=true from U) Mk
 |int i=>
  obtain⟨t,rfl⟩:=Y;cases y with
  |non=>cases J;exact PySem.EqNone.eq_int_none (D0 I q (by simp))
  |int j=>obtain⟨t',rfl⟩:=J;exact eq_int (D0 I q tO)
  |str j=>obtain⟨t',rfl⟩:=J;exact PySem.EqMixed.eq_int_str (D0 I q (by simp))
  |_=>exact absurd (show false=true from U) Mk
 |str i=>
  obtain⟨t,rfl⟩:=Y;cases y with
  |non=>cases J;exact PySem.EqNone.eq_str_none (D0 I q (by simp))
  |bl j=>cases J;exact PySem.EqMixed.eq_str_bool (D0 I q (by simp))
  |int j=>obtain⟨t',rfl⟩:=J;exact PySem.EqMixed.eq_str_int (D0 I q (by simp))
  |str j=>obtain⟨t',rfl⟩:=J;exact eq_str (D0 I q sm)
  |_=>exact absurd (show false=true from U) Mk
 |byt i=>
  obtain⟨t,rfl⟩:=Y;cases y with
  |byt j=>obtain⟨t',rfl⟩:=J;exact PySem.W.eq_bytes (D0 I q sN)
  |_=>exact absurd (show false=true from U) Mk
 |_=>cases y <;> exact absurd (show false=true from U) Mk
def op_ne:OpR X (compareOp .NotEq) md:=by
 intro pins s σ H x y v u Q I Y J h;obtain⟨U,q⟩:=h;cases x with
 |non=>
  cases Y;cases y with
  |non=>cases J;exact PySem.EqNone.ne_none_none (D0 I q (by simp))
  |bl j=>cases J;exact PySem.EqNone.ne_none_bool (D0 I q (by simp))
  |int j=>obtain⟨t',rfl⟩:=J;exact PySem.EqNone.ne_none_int (D0 I q (by simp))
  |str j=>obtain⟨t',rfl⟩:=J;exact PySem.EqNone.ne_none_str (D0 I q (by simp))
  |_=>exact absurd (show false=true from U) Mk
 |bl i=>
  cases Y;cases y with
  |non=>cases J;exact PySem.EqNone.ne_bool_none (D0 I q (by simp))
  |bl j=>cases J;exact ne_bool (D0 I q (congrArg not qO))
  |str j=>obtain⟨t',rfl⟩:=J;exact PySem.EqMixed.ne_bool_str (D0 I q (by simp))
  |_=>exact absurd (show false=true from U) Mk
 |int i=>
  obtain⟨t,rfl⟩:=Y;cases y with
  |non=>cases J;exact PySem.EqNone.ne_int_none (D0 I q (by simp))
  |int j=>obtain⟨t',rfl⟩:=J;exact ne_int (D0 I q (congrArg not tO))
  |str j=>obtain⟨t',rfl⟩:=J;exact PySem.EqMixed.ne_int_str (D0 I q (by simp))
  |_=>exact absurd (show false=true from U) Mk
 |str i=>
  obtain⟨t,rfl⟩:=Y;cases y with
  |non=>cases J;exact PySem.EqNone.ne_str_none (D0 I q (by simp))
  |bl j=>cases J;exact PySem.EqMixed.ne_str_bool (D0 I q (by simp))
  |int j=>obtain⟨t',rfl⟩:=J;exact PySem.EqMixed.ne_str_int (D0 I q (by simp))
  |str j=>obtain⟨t',rfl⟩:=J;exact ne_str (D0 I q (congrArg not sm))
  |_=>exact absurd (show false=true from U) Mk
 |byt i=>
  obtain⟨t,rfl⟩:=Y;cases y with
  |byt j=>obtain⟨t',rfl⟩:=J;exact PySem.W.ne_bytes (D0 I q (congrArg not sN))
  |_=>exact absurd (show false=true from U) Mk
 |_=>cases y <;> exact absurd (show false=true from U) Mk
def qR:OpR X (compareOp .Lt) (V5 fun i j=>.bl (decide (i<j))):=ig fun _ _ _ _ _ _ _ q=>lt_int q
def uV:OpR X (compareOp .LtE) (V5 fun i j=>.bl (decide (i<=j))):=ig fun _ _ _ _ _ _ _ q=>le_int q
def Ci:OpR X (compareOp .Gt) (V5 fun i j=>.bl (decide (j<i))):=ig fun _ _ _ _ _ _ _ q=>gt_int q
def Mb:OpR X (compareOp .GtE) (V5 fun i j=>.bl (decide (j<=i))):=ig fun _ _ _ _ _ _ _ q=>ge_int q
def Kn:OpR X (compareOp .Is) (fun x y H Q=>y = .non/\Q (.bl (decide (x = .non))) H):=by
 intro pins s σ H x y v u Q I J U h;obtain⟨rfl,q⟩:=h;cases U;refine is_none_gen (D0 I q ?_);cases x <;> first
  | (cases J;rfl)
  | (obtain⟨t,rfl⟩:=J;rfl)
def Bn:OpR X (compareOp .IsNot) (fun x y H Q=>y = .non/\Q (.bl (!decide (x = .non))) H):=by
 intro pins s σ H x y v u Q I J U h;obtain⟨rfl,q⟩:=h;cases U;refine isnot_none_gen (D0 I q ?_);cases x <;> first
  | (cases J;rfl)
  | (obtain⟨t,rfl⟩:=J;rfl)
def OpR.or {r J:R2}(h:OpR X f r) (h':OpR X f J):OpR X f (fun x y H Q=>r x y H Q\/J x y H Q):=by
 intro pins s σ H x y v u Q I U Y q;rcases q with q | q
 .exact h pins s σ H x y v u Q I U Y q
 .exact h' pins s σ H x y v u Q I U Y q
def fL (b:Expr) {J:CmpOp}(h:J ≠ .In:=by decide) (h2:J ≠ .NotIn:=by decide):behindInMarks J b=false:=by
 have U:(J == CmpOp.In)=false:=by cases J <;> first | rfl | exact absurd rfl h
 have Y:(J == CmpOp.NotIn)=false:=by cases J <;> first | rfl | exact absurd rfl h2
 cases b <;> simp[behindInMarks,U,Y]
def mJ {J:CmpOp}{r:R2}(Y:OpR X (compareOp J) r) (ha:PE X a ta) (hb:PE X b tb) (hm:behindInMarks J b=false):PE X (.Compare a [J] [b] pos) (ee r ta tb):=by
 intro pins s σ H Q I h;exact wpAny_Compare1 (oJ ha hb I h fun v u s2 x y H2 Z U ry q=>Y pins s2 σ H2 x y v u Q Z U ry q) hm
def zE (t:TE):TT:=fun σ H Q=>t σ H fun x H'=>∃k,x = .bl k/\Q k H'
def Kf {J:CmpOp}{r:R2}(Z:OpR X (compareOp J) r) (ha:PE X a ta) (hb:PE X b tb) (hm:behindInMarks J b=false):PT X (.Compare a [J] [b] pos) (zE (ee r ta tb)):=by
 intro pins s σ H Q I h;refine wpAny_isTrue_Compare1 (u6 (ha pins s σ H _ I h) fun v s1 ⟨x,H1,I1,r1,q1⟩=>u6 (hb pins s1 σ H1 _ I1 q1) fun u s2 ⟨y,H2,I2,r2,q2⟩=>
  u6 (Z pins s2 σ H2 x y v u _ I2 r1 r2 q2) fun c s3 ⟨z,H3,U,Y,k,e,q3⟩=>?_) hm
 subst e;cases Y;exact Oh #[H3,U,q3]
def se (r U:R2) (ta tb tc:TE):TE:=fun σ H Q=>ta σ H fun x H1=>tb σ H1 fun y H2=>r x y H2 fun z J=>∃k,z = .bl k /\
 (if k=true then tc σ J fun Y Z=>U y Y Z Q else Q (.bl false) J)
def Gw {U J:CmpOp}{r Z:R2}(ho:OpR X (compareOp U) r) (Y:OpR X (compareOp J) Z) (ha:PE X a ta) (hb:PE X b tb) (hc:PE X c tc)
  (hm:lastMarks [U,J] [b,c]=false:=by with_unfolding_all rfl):PE X (.Compare a [U,J] [b,c] pos) (se r Z ta tb tc):=by
 intro pins s σ H Q I h;refine Compare_chain (u6 (ha pins s σ H _ I h) fun v s1 ⟨x,H1,I1,r1,q1⟩=>chain_link (u6 (hb pins s1 σ H1 _ I1 q1) fun u s2 ⟨y,H2,I2,r2,q2⟩=>
  u6 (ho pins s2 σ H2 x y v u _ I2 r1 r2 q2) fun d s3 ⟨z,H3,I3,r3,k,e,q3⟩=>?_)) hm
 subst e;cases r3;refine Oh ?_;cases k with
 |false=>exact ite_ff #[.bl false,H3,I3,rfl,q3]
 |true=>exact ite_tt (chain_last (u6 (hc pins s3 σ H3 _ I3 q3) fun w' s4 ⟨z',H4,I4,r4,q4⟩=>Y pins s4 σ H4 y z' u w' Q I4 r2 r4 q4))
def pF (K:vF_) (x:V) (H:Hp) (k:Bool):Prop:=
 match x with
 |.non=>k=false
 |.bl b=>k=b
 |.int i=>k=(i != 0)
 |.str y=>y.length<=sizeLine/\k=((y.length:Int) != 0)
 |.byt y=>y.size<=sizeLine/\k=((y.size:Int) != 0)
 |.ref p=>(∃xs,SqL K H p xs/\k = !xs.isEmpty)\/(∃xs,SqT K H p xs/\k = !xs.isEmpty)\/∃kvs,H p=some (.dK kvs)/\k = !kvs.isEmpty
 |_=>False
def zT {κ:Type}{J:List (κ × V)}{vs:List (κ × Value)}(r:KV J vs):(!vs.isEmpty) = !J.isEmpty:=by
 cases r <;> rfl
def tX (r:Vals xs its):(!its.toArray.isEmpty) = !xs.isEmpty:=by
 cases r <;> simp
def dG:(sizeLine:Nat)<2 ^ 63:=by rw[MU];decide
def Fu:FA X (fun x H Q=>∃k,pF X.K x H k/\Q k H):=by
 intro pins s σ H x v Q I Z h;obtain⟨k,e,q⟩:=h;have hl:=dG;have hs:sizeLine=16777216:=MU;cases x with
 |non=>
  cases Z;have J:k=false:=e;subst J;exact truthy_none #[H,I,q]
 |bl b=>
  cases Z;have J:k=b:=e;subst J;exact Oh #[H,I,q]
 |int i=>
  obtain⟨t,rfl⟩:=Z;have J:k=(i != 0):=e;subst J;exact PySem.P.truthy_int #[H,I,q]
 |str y=>
  obtain⟨t,rfl⟩:=Z;obtain⟨hy,J⟩:y.length<=sizeLine/\k=((y.length:Int) != 0):=e;subst J;exact PySem.P.truthy_str ∅ #[H,I.tok _,q]
 |byt y=>
  obtain⟨t,rfl⟩:=Z;obtain⟨hy,J⟩:y.size<=sizeLine/\k=((y.size:Int) != 0):=e;subst J;exact PySem.W.truthy_bytes ∅ #[H,I.tok _,q]
 |ref p=>
  cases Z;have J:(∃xs,SqL X.K H p xs/\k = !xs.isEmpty)\/(∃xs,SqT X.K H p xs/\k = !xs.isEmpty)\/∃U,H p=some (.dK U)/\k = !U.isEmpty:=e;rcases J with ⟨xs,hx,J⟩ | ⟨xs,hx,J⟩ | ⟨U,hx,J⟩
  .subst J;obtain⟨its,r,pl,hz⟩:=I.list hx;have Y:=r.length;exact wpAny_truthy_list pl.isList (by simp only[Mv];omega) #[H,I.tok _,by rw[tX r];exact q]
  .subst J;obtain⟨its,r,pl,hz⟩:=I.tuple hx;have Y:=r.length;exact truthy_tuple pl (by simp only[Mv];omega) #[H,I.tok _,by rw[tX r];exact q]
  .subst J;obtain⟨hz,hS,vs,r,m⟩:U.length<=sizeLine/\(p == sysModules)=false/\∃vs,KV U vs/\s.heap.DictOf (pz X.prog X.w) p vs:=I.hok p _ hx;have Y:U.length=vs.length:=Paired.length r;exact wpAny_truthy_dict hS m ∅ #[H,I.tok _,by rw[zT r];exact q]
 |_=>exact(show False from e).elim
def GX (J:PE X a ta) (Y:∀whole,isTrue a X.env whole=(do let v <-whole;standAt a.pos;holding [v] (truthy v))) :
  PT X a (fun σ H Q=>ta σ H fun x H'=>∃k,pF X.K x H' k/\Q k H'):=by
 intro pins s σ H Q I h;exact isTrue_plain (u6 (J pins s σ H _ I h) fun v s1 ⟨x,H1,Z,U,q1⟩=>Fu pins s1 σ H1 x v Q Z U q1) (Y _)
def CY:OpR X (binaryOp .Add) (fun x y H Q=>∃i j,x = .str i/\y = .str j/\i.length+j.length<=sizeLine/\Q (.str (i++j)) H):=by
 intro pins s σ H x y v u Q I J Y h;obtain⟨i,j,rfl,rfl,U,q⟩:=h;obtain⟨t,rfl⟩:=J;obtain⟨t',rfl⟩:=Y;exact add_str (fun t' Z=>#[.str (i++j),H,I.tok _,#[_,rfl],q]) U
def ar {x:V}(r:Vals [x] us):∃u,us=[u]/\RelV x u:=by
 cases r with
 |cons J U=>cases U;exact#[_,rfl,J]
def CB {x y:V}(r:Vals [x,y] us):∃u w',us=[u,w']/\RelV x u/\RelV y w':=by
 cases r with
 |cons U Y=>
  cases Y with
  |cons J Z=>cases Z;exact#[_,_,rfl,U,J]
def zN:CallR X (.builtin "abs") (fun xs H Q=>∃i,xs=[.int i]/\Q (.int (if i<0 then -i else i)) H):=by
 intro pins s σ H xs us Q I r h;obtain⟨i,rfl,q⟩:=h;obtain⟨u,rfl,t,rfl⟩:=ar r;exact call_abs_int fun u J=>#[.int (if i<0 then -i else i),H,I.tok _,#[_,rfl],q]
def LS:CallR X (.type "int") (fun xs H Q=>(∃i,xs=[.int i]/\Q (.int i) H)\/∃k,xs=[.bl k]/\Q (.int (if k then 1 else 0)) H):=by
 intro pins s σ H xs us Q I r h;rcases h with ⟨i,rfl,q⟩ | ⟨k,rfl,q⟩
 .obtain⟨u,rfl,t,rfl⟩:=ar r;exact call_int_int #[.int i,H,I,#[_,rfl],q]
 .obtain⟨u,rfl,J⟩:=ar r;cases J;exact call_int_bool #[.int (if k then 1 else 0),H,I.tok _,#[_,rfl],q]
def IH:CallR X (.type "str") (fun xs H Q=>∃i,xs=[.int i]/\i.natAbs.log2<1920/\Q (.str (toString i)) H):=by
 intro pins s σ H xs us Q I r h;obtain⟨i,rfl,J,q⟩:=h;obtain⟨u,rfl,t,rfl⟩:=ar r;exact PySem.P.str_of_int J #[.str _,H,I.tok _,#[_,rfl],q]
end
structure Room (k:Nat) (A:Around):Prop where
 hd:A.handled=none
 dp:A.depth+3*k+5<recursionLimit
 un:A.units+16*k+200<cLine
 gd:A.guards=some []
def Room.mono (r:Room k A) (h:j<=k):Room j A:=#[r.hd,by have:=r.dp;omega,by have:=r.un;omega,r.gd]
theorem Room.deeper (r:Room (k+1) A) (env:Env):Room k (A.deeper env):=
 #[r.hd,by have:=r.dp;show A.depth+1+3*k+5<_;omega,by have:=r.un;show A.units+3+16*k+200<_;omega,r.gd]
def Jq :(A.under (.builtin "type.__call__" #[.ref C::us,kw])).depth=A.depth+1:=by
 first | rfl | simp[Around.under,Code.weight,Code.isCreation,Code.isGuard,Code.isCaller,Code.frames,Code.isFrame,guardIds]
def He :(A.under (.builtin "type.__call__" #[.ref C::us,kw])).units=A.units+1:=by
 first | rfl | simp[Around.under,Code.cUnits,Code.frames,Code.isFrame]
def Room.make (r:Room (k+1) A) (C:Addr) (us:vV_) (kw:List (Str × Value)):Room k (A.under (.builtin "type.__call__" #[.ref C::us,kw])):=
 #[r.hd,by have:=r.dp;rw[Jq];omega,by have:=r.un;rw[He];omega,by have:=r.gd;simp[Around.under,Code.guards,Code.isGuard,guardIds,pushGuards,this]]
theorem Room.depth (r:Room k A):A.depth<recursionLimit:=by have:=r.dp;omega
def Dh:TA:=fun _ H Q=>Q [] H
def GB (ta:TE) (J:TA):TA:=fun σ H Q=>ta σ H fun x H1=>J σ H1 fun xs H2=>Q (x::xs) H2
section
variable {t:TA}{pos:Pos}
def aI:PA X [] Dh:=fun _ _ _ _ H Q I h=>Calls.spliced_nil #[[],H,I,.nil,h]
def V3 (Y:PE X e te) (hr:PA X es t) (hs:starEach (e::es) X.env=(false,eval e X.env)::starEach es X.env:=by rfl):PA X (e::es) (GB te t):=by
 intro pos pins s σ H Q I h;rw[hs];show wpAny _ _ (spliced ((false,eval e X.env)::backTo pos (starEach es X.env))) _ _ s;refine Calls.spliced_cons (u6 (Y pins s σ H _ I h) fun u s1 ⟨x,H1,I1,Z,q1⟩=>?_);exact u6 (hr pos pins s1 σ H1 _ I1 q1) fun us s2 ⟨xs,H2,U,J,q2⟩=>#[x::xs,H2,U,.cons Z J,q2]
def zW (t:TA):TE:=fun σ H Q=>t σ H fun xs H1=>xs.length<=sizeLine/\∀p,H1 p=none->Q (.ref p) (k9 H1 p (.tup xs))
def Gm (t:TA):TE:=fun σ H Q=>t σ H fun xs H1=>xs.length<=sizeLine/\∀p,H1 p=none->Q (.ref p) (k9 H1 p (.lst xs))
def EC {x1} (h:PA X es t):PE X (.Tuple es x1 pos) (zW t):=by
 intro pins s σ H Q I Y;refine wpAny_Tuple_spliced (u6 (h pos pins s σ H _ I Y) fun us s1 ⟨xs,H1,J,r,z,q⟩=>#[by rw[<-r.length];exact z,?_]);have U:H1 s1.heap.objs.size=none:=J.hok.fresh (tx _);refine#[.ref s1.heap.objs.size,k9 H1 s1.heap.objs.size (.tup xs),J.laid (t':=s1.toks) (fun b u e=>Mg _ e) (tx _) ?_,rfl,q _ U];exact#[z,us,r,#[_,MN _ rfl,rfl,_,rfl]]
def iM (h:PA X es t):PE X (.List es pos) (Gm t):=by
 intro pins s σ H Q I Y;refine wpAny_List_spliced (u6 (h pos pins s σ H _ I Y) fun us s1 ⟨xs,H1,J,r,z,q⟩=>#[by rw[<-r.length];exact z,?_]);have U:H1 s1.heap.objs.size=none:=J.hok.fresh (tx _);refine#[.ref s1.heap.objs.size,k9 H1 s1.heap.objs.size (.lst xs),J.laid (t':=s1.toks) (fun b u e=>Mg _ e) (tx _) ?_,rfl,q _ U];exact#[z,us,0,r,MN _ rfl]
end
abbrev Sp:=List V->Hp->VK->XK->Prop
variable {sp:Sp}
abbrev T7:=List Env->Hp->Shared->XK->Value->Shared->Prop
variable {CX:T7}
structure Env0 (P:Program) (w:World) (K:vF_) (mg:vG_) (base:Heap) (A:Around) (outer:List Env) (s:Shared) (H:Hp):Prop where
 frames:A.frames=some outer
 mod:Mod K mg base
 bs:∀b o,base.get? b=some o->s.heap.get? b=some o/\H b=none
 bsz:base.objs.size<=s.heap.objs.size
 funs:s.heap.FunFrames base outer
 frf:∀b∈K0 outer,H b=none
 hok:HOk P w H s.heap
 bare:AllBare s.gens
def CE (outer:List Env) (P:Program) (w:World) (H:Hp) (s:Shared) (Q:VK) (u:Value) (s':Shared):Prop:=
 ∃v H',s'.os=s.os/\AllBare s'.gens/\Un (K0 outer) [] H H' s.heap s'.heap/\HOk P w H' s'.heap/\RelV v u/\Q v H'
def CR (CX:T7) (outer:List Env) (P:Program) (w:World) (H:Hp) (s:Shared) (Q:VK) (E:XK) (r:Result) (s':Shared):Prop:=
 match r with
 |.ok (.ret u)=>CE outer P w H s Q u s'
 |.ok _=>False
 |.error e=>CX outer H s E e s'
structure FnOk (P:Program) (w:World) (K:vF_) (mg:vG_) (base:Heap) (CX:T7) (k:Nat) (f:Addr) (fd:FuncData) (ps:List Str) (sp:Sp):Prop where
 len:∀vs H Q E,sp vs H Q E->vs.length=ps.length
 run:∀(A:Around) (outer:List Env) (s:Shared) (H:Hp) (args:Args) (us:vV_) (vs:List V) (Q:VK) (E:XK),Room k A->Env0 P w K mg base A outer s H->BindsTo s fd args (ps.zip us)->Vals vs us->sp vs H Q E ->
  codeAny (model P w) A (.call (.ref f) args) (CR CX outer P w H s Q E) s
def Inv.env0 (I:Inv X pins σ H s):Env0 X.prog X.w X.K X.mg X.base X.A X.stack s H:=
 #[I.ok.frames,I.ok.mod,I.bs,Mm I.ok.bsz I.sz,I.stack,I.stkFree,I.hok,I.bare]
def Inv.after {Q:VK}(I:Inv X pins σ H s) (h:CE X.stack X.prog X.w H s Q u s'):EP X pins σ Q u s':=by
 obtain⟨v,H',os,J,Z,U,r,q⟩:=h;obtain⟨hh,g,d,t,Y⟩:=s';obtain rfl:Y=s.os:=os;exact#[v,H',I.call (h':=hh) (g':=g) (d':=d) (t':=t) (ch:=[]) Z U J (fun b z=>absurd z (by simp)),r,q]
def pT (sp:Sp) (dvs:List V) (E:XK) (t:TA):TE:=fun σ H Q=>t σ H fun vs H1=>sp (vs++dvs) H1 Q E
def Binds (K:vF_) (fd:FuncData) (ps:List Str) (ds:vV_):Prop:=
 ∀(s:Shared) (us:vV_),K.In s.heap->(us++ds).length=ps.length->BindsTo s fd #[us,[]] (ps.zip (us++ds))
def Binds.all {ps:List Str}(h:∀us:List Value,us.length=ps.length->bindArgs fd #[us,[]]=pure (ps.zip us)):Binds K fd ps []:=fun s us _ J=>by
 rw[MQ] at J ⊢;exact .of_eq (h us J)
def oa (CX:T7) (X:Cx) (E:XK):Prop:=∀(pins:vP_) (σ:St) (H:Hp) (s:Shared) (e:Value) (s':Shared),Inv X pins σ H s->CX X.stack H s E e s'->X.xe e s'
section
variable {f C:Addr}{ps:List Str}{dvs:List V}{ds:vV_}{E:XK}{m:Str}{p pos apos:Pos}{o:Expr}{ta:TE}{t:TA}
def Bf {Q:VK}{vs:List V}(F:FnOk X.prog X.w X.K X.mg X.base CX k f fd ps sp) (hr:Room k X.A) (hb:Binds X.K fd ps ds) (hd:Vals dvs ds) (Y:oa CX X E)
  (I:Inv X pins σ H s) (r:Vals vs us) (h:sp (vs++dvs) H Q E):wpAny (model X.prog X.w) X.A (call (.ref f) us) (EP X pins σ Q) X.xe s:=by
 have U:Vals (vs++dvs) (us++ds):=r.append hd;have Z:(us++ds).length=ps.length:=by rw[<-U.length];exact F.len _ _ _ _ h
 refine Pd (Pe (F.run X.A X.stack s H #[us,[]] (us++ds) (vs++dvs) Q E hr I.env0 (hb s us I.kIn Z) U h) fun r s' J=>?_);cases r with
 |error e=>exact Y pins σ H s e s' I J
 |ok fl=>
  cases fl with
  |ret u=>exact I.after J
  |next=>exact False.elim J
  |brk=>exact False.elim J
  |cont=>exact False.elim J
def Fo (F:FnOk X.prog X.w X.K X.mg X.base CX k f fd ps sp) (hr:Room k X.A) (hg:Gl X x) (hm:X.mg x=some (.ref f)) (hk:PySem.W.keepIn X.K (.ref f)=true) (hb:Binds X.K fd ps ds) (hd:Vals dvs ds) (Z:oa CX X E)
  (ha:PA X (e::es) t) (J:(x == ("__debug__" : Str))=false:=by decide) (he:starEach (e::es) X.env=(false,eval e X.env)::starEach es X.env:=by rfl) (U:(backTo pos (starEach es X.env)).any (·.1)=false:=by rfl) :
  PE X (.Call (.Name x p) (e::es) [] pos) (pT sp dvs E t):=by
 intro pins s σ H Q I h;refine NU (jP I hg hm ?_ J);refine QL (h₀:=X.base) I.ok.mod.kin hk (u6 (ha pos pins s σ H _ I h) fun us s1 ⟨vs,H1,Y,r,q⟩=>#[Y.kIn,?_]) he U;exact Bf F hr hb hd Z Y r q
end
structure FnScope (N P:List Str) (sc:Scope):Prop where
 kind:sc.kind = .function
 co:sc.isCoroutine=false
 gen:sc.isGenerator=false
 nd:N.Nodup
 pre:N.take P.length=P
 par:∀x∈P,sc.names.lookup x=some .local\/sc.names.lookup x=some .cell
 nofree:∀y∈sc.names,y.2 ≠ .free
theorem rh {J:Str->Option NameKind}:∀{binds:List (Str × Value)}{m:vG_},(∀v,(x,v) ∉ binds)->bindL J binds m x=m x
 |[],_,_=>rfl
 |(n,v)::r,m,h=>by
  unfold bindL;rw[rh fun w U=>h w (Mf _ U)];split
  .have:x≠n:=by rintro rfl;exact h v Mi
   simp[this]
  .rfl
theorem vN {J:Str->Option NameKind}:∀{binds:List (Str × Value)}{m:vG_},(∀v,(x,v) ∉ binds)->bindC J binds m x=m x
 |[],_,_=>rfl
 |(n,v)::r,m,h=>by
  unfold bindC;rw[vN fun w U=>h w (Mf _ U)];split
  .rfl
  .have:x≠n:=by rintro rfl;exact h v Mi
   simp[this]
theorem fH {J:Str->Option NameKind}{v:Value}:∀{P:List Str}{vs:vV_}{i:Nat}{m:vG_},P.Nodup->P[i]? = some x->vs[i]? = some v->J x=some .local ->
  bindL J (P.zip vs) m x=some v
 |[],_,_,_,_,h,_,_=>by simp at h
 |_::_,[],_,_,_,_,h,_=>by simp at h
 |p::P,w::vs,0,m,nd,h1,h2,hk=>by
  simp at h1 h2;subst h1;subst h2;show bindL J ((p,w)::P.zip vs) m p=_;unfold bindL;rw[rh fun v U=>(MZ.mp nd).1 (Ol U).1,iO hk];simp
 |p::P,w::vs,i+1,m,nd,h1,h2,hk=>by
  show bindL J ((p,w)::P.zip vs) m x=_;unfold bindL;exact fH (i:=i) (MZ.mp nd).2 (by simpa using h1) (by simpa using h2) hk
theorem uG {J:Str->Option NameKind}{v:Value}:∀{P:List Str}{vs:vV_}{i:Nat}{m:vG_},P.Nodup->P[i]? = some x->vs[i]? = some v->J x≠some .local ->
  bindC J (P.zip vs) m x=some v
 |[],_,_,_,_,h,_,_=>by simp at h
 |_::_,[],_,_,_,_,h,_=>by simp at h
 |p::P,w::vs,0,m,nd,h1,h2,hk=>by
  simp at h1 h2;subst h1;subst h2;show bindC J ((p,w)::P.zip vs) m p=_;unfold bindC;rw[vN fun v U=>(MZ.mp nd).1 (Ol U).1,iR hk];simp
 |p::P,w::vs,i+1,m,nd,h1,h2,hk=>by
  show bindC J ((p,w)::P.zip vs) m x=_;unfold bindC;exact uG (i:=i) (MZ.mp nd).2 (by simpa using h1) (by simpa using h2) hk
def start (N:List Str) (vs:List V):St:=vs.map some++List.replicate (N.length - vs.length) none
def P5 (CX:T7) (P:Program) (w:World) (K:vF_) (mg:vG_) (base:Heap) (N:List Str) (qual:Str) (scope:Scope) (f:Addr) (cd:Value) (A:Around) (outer:List Env) (s:Shared) (H:Hp) (E:XK):Cx where
 prog:=P
 w:=w
 K:=K
 mg:=mg
 base:=base
 A:=A.deeper (envOfC qual scope s.heap.objs.size f cd)
 N:=N
 s₀:=s
 H₀:=H
 env:=envOfC qual scope s.heap.objs.size f cd
 outer:=outer
 stack:=envOfC qual scope s.heap.objs.size f cd::outer
 ex:=[]
 calm:=true
 fn:=fun _=>true
 pn:=[]
 xe:=fun e s'=>wpAny (model P w) (A.deeper (envOfC qual scope s.heap.objs.size f cd)) (leaving (envOfC qual scope s.heap.objs.size f cd) e) (fun _ J=>CX outer H s E e J) (fun U J=>CX outer H s E U J) s'
def tK {J:Scope}{n:Nat}(h:J.names.lookup x=some .cell):∃c,(cellsFrom n J.names []).lookup x=some c:=by
 have q:=RA J.names n [] (.inl h);exact RB.mp q
def Ke {w:World}{N ps:List Str}{cd:Value}{s1:Shared}{E:XK}{vs:List V}
  (S:FnScope N ps scope) (hd:A.handled=none) (J:Env0 P w K mg base A outer s H) (hl:vs.length=ps.length) (r:Vals vs us)
  (x:InCallC s s.heap.objs.size (bindL (envOfC qual scope s.heap.objs.size f cd).kindOf (ps.zip us) fun _=>none) (cellsFrom (s.heap.objs.size+1) scope.names []) (bindC (envOfC qual scope s.heap.objs.size f cd).kindOf (ps.zip us) fun _=>none) s1) :
  Inv (P5 CX P w K mg base N qual scope f cd A outer s H E) [] (start N vs) H s1:=by
 have hpl:ps.length<=N.length:=by have:=congrArg List.length S.pre;rw[Np] at this;omega
 obtain⟨h1,tk,rfl,hk⟩:=x.done;have U:∀b:Addr,b ∉ (P5 CX P w K mg base N qual scope f cd A outer s H E).ex:=fun b z=>absurd (show b∈([]:vL_) from z) (by simp)
 refine#[#[J.mod,S.kind,rfl,rfl,tx _,fun y z c h1 h2=>?_,fun y Y=>?_,fun y c _ h=>?_,fun _=>hd,Around.frames_deeper J.frames,.inr #[rfl,rfl],fun b z=>absurd z (U b),J.bs,J.bsz,fun b _ _=>U b,fun b z=>absurd z (U b),J.funs,J.frf],
  rfl,J.bare,Un.kept hk,#[_,x.toInCall.ns,fun i y v h1 h2 h3=>?_],fun y c h=>#[_,x.cell y c h],J.hok.fresh (tx _),fun y c h=>?_,fun p hp=>absurd (show p∈([]:vP_) from hp) (by simp),J.hok.kept hk,?_]
 .exact name_of_addr x.apart (Pf h1) (Pf h2)
 .have Y:scope.names.lookup y=some .cell\/scope.names.lookup y=some .free:=Y;rcases Y with Y | Y
  .exact tK Y
  .exact absurd rfl (S.nofree _ (Pf Y))
 .exact NI (x.above y c (Pf h))
 .have hi:i<vs.length:=by
   unfold start at h2;by_cases hi:i<vs.length
   .exact hi
   .rw[NJ (by simpa using hi)] at h2;rw[List.getElem?_replicate] at h2;split at h2 <;> cases h2
  have ha:vs[i]? = some v:=by
   unfold start at h2;rw[NK (by simpa using hi),Nq] at h2;cases e:vs[i]? with
   |none=>rw[e] at h2;cases h2
   |some a=>rw[e] at h2;cases h2;rfl
  obtain⟨u,hu,rv⟩:=r.get ha;have hp:ps[i]? = some y:=by
   rw[<-S.pre,PX ∅];exact h1
  have Z:ps.Nodup:=by rw[<-S.pre];exact S.nd.sublist (List.take_sublist _ _)
  refine#[u,rv,?_];rcases S.par y (Om hp) with k | k
  .exact .inl #[k,fH Z hp hu k]
  .obtain⟨c,e⟩:=tK (n:=s.heap.objs.size+1) k;refine .inr #[.inl k,c,e,?_];have q:=x.cell y c e;rw[uG Z hp hu (by show scope.names.lookup y≠_;rw[k];decide)] at q;exact q
 .exact J.hok.fresh (NI (x.above y c (Pf h)))
 .unfold start;show _=N.length;rw[MC,Mj,RC];omega
def rB {CX:T7}{w:World}{K:vF_}{mg:vG_}{base:Heap}{k:Nat}{name qual:Str}{body:List Stmt}{scope:Scope}{dV kV doc pm cdv ct oc:Value}{an od:vA_}
  {osl:vS_}{N ps:List Str}{sp:Sp}(lk:K.lookup f=some #[oc,od,.func (PySem.W.fnOf name qual params body scope dV kV doc pm an cdv ct),osl]) (hcd:PySem.W.codeIn K cdv qual=true) (S:FnScope N ps scope)
  (len:∀vs H Q E,sp vs H Q E->vs.length=ps.length)
  (U:∀(A:Around) (outer:List Env) (s:Shared) (H:Hp) (vs:List V) (Q:VK) (E:XK),Room k (A.deeper (envOfC qual scope s.heap.objs.size f cdv))->sp vs H Q E ->
   ∃t,PSs (P5 CX P w K mg base N qual scope f cdv A outer s H E) body t/\t { nx:=fun _ H'=>Q .non H',rt:=Q } (start N vs) H) :
  FnOk P w K mg base CX (k+1) f (PySem.W.fnOf name qual params body scope dV kV doc pm an cdv ct) ps sp:=by
 refine#[len,fun A outer s H args us vs Q E hr e0 hb r hsp=>?_];have hl:=len _ _ _ _ hsp;have KX:K.In s.heap:=e0.mod.kin.keeps fun b o e=>(e0.bs b o e).1
 have lim:s.heap.NoLimit:=e0.mod.nolimit.keeps fun b o e=>(e0.bs b o e).1
 have Y:∀y∈ps.zip us,scope.names.lookup y.1=some .local\/(scope.names.lookup y.1=some .cell/\((cellsFrom (s.heap.objs.size+1) scope.names []).lookup y.1).isSome=true):=fun ⟨n,v⟩ hy=>by
  rcases S.par n (Ol hy).1 with q | q
  .exact .inl q
  .exact .inr #[q,RA _ _ _ (.inl q)]
 refine codeAny_call_function hr.depth (KX _ _ lk) rfl S.co S.gen rfl (PySem.W.codeRec_of KX hcd) (hb _ _ _ _ ?_);refine wpAny_newFunctionEnv_cells S.kind Y fun env he s1 x=>?_
 subst he;refine#[lim.keeps x.toInCall.keep,codeAny_func ?_];obtain⟨t,ht,hq⟩:=U A outer s H vs Q E (hr.deeper _) hsp;have I:Inv (P5 CX P w K mg base N qual scope f cdv A outer s H E) [] (start N vs) H s1:=Ke S hr.hd e0 hl r x;refine MG (ht [] s1 (start N vs) H _ I hq) (fun fl s' Z=>?_) fun e s' Z=>Z
 have fin:∀{σ':St}{H':Hp}{v:V}{u:Value},Inv (P5 CX P w K mg base N qual scope f cdv A outer s H E) [] σ' H' s'->RelV v u->Q v H'->CE outer P w H s Q u s':=
  fun {σ' H' v u} J rv q=>#[v,H',J.os,J.bare,J.base,J.hok,rv,q]
 cases fl with
 |ret u=>
  obtain⟨v,σ',H',J,rv,q⟩:=Z;exact fin J rv q
 |next=>
  obtain⟨σ',H',J,q⟩:=Z;exact fin (v:=V.non) (u:=Value.none) J rfl q
 |brk=>
  obtain⟨_,_,_,q⟩:=Z;exact False.elim q
 |cont=>
  obtain⟨_,_,_,q⟩:=Z;exact False.elim q
section
variable {p pos:Pos}{t:TA}{id T:String}
def gb (r:List V->Hp->VK->Prop) (t:TA):TE:=fun σ H Q=>t σ H fun vs H1=>r vs H1 Q
def wF (Y:CallR X (.builtin id) r) (hg:Gl X x) (hm:X.mg x=none) (Z:bootBuiltins x=some (.builtin id)) (ha:PA X (e::es) t) (hn:x ≠ "__name__" := by decide) (J:(x == ("__debug__" : Str))=false:=by decide)
  (he:starEach (e::es) X.env=(false,eval e X.env)::starEach es X.env:=by rfl) (U:(backTo pos (starEach es X.env)).any (·.1)=false:=by rfl):PE X (.Call (.Name x p) (e::es) [] pos) (gb r t):=by
 intro pins s σ H Q I h;refine NU (aV I hg hm Z ?_ hn J);exact PyProof.Rows.callWith_builtin1 (u6 (ha pos pins s σ H _ I h) fun us s1 ⟨vs,H1,I1,r1,q1⟩=>Y pins s1 σ H1 vs us Q I1 r1 q1) he U
def iZ (Y:CallR X (.type T) r) (hg:Gl X x) (hm:X.mg x=none) (Z:bootBuiltins x=some (.type T)) (ha:PA X (e::es) t) (hn:x ≠ "__name__" := by decide) (J:(x == ("__debug__" : Str))=false:=by decide)
  (he:starEach (e::es) X.env=(false,eval e X.env)::starEach es X.env:=by rfl) (U:(backTo pos (starEach es X.env)).any (·.1)=false:=by rfl):PE X (.Call (.Name x p) (e::es) [] pos) (gb r t):=by
 intro pins s σ H Q I h;refine NU (aV I hg hm Z ?_ hn J);exact OI (u6 (ha pos pins s σ H _ I h) fun us s1 ⟨vs,H1,I1,r1,q1⟩=>Y pins s1 σ H1 vs us Q I1 r1 q1) he U
end
end L2
variable {xs ys:List L2.V}{f':Int->Int->L2.V}{H H' H1:L2.Hp}{X:L2.Cx}{σ:L2.St}{r:List L2.V->L2.Hp->L2.VK->Prop}{te:L2.TE}{tc:L2.TT}{ta:L2.TA}{tb:L2.TS}{sp:L2.Sp}{CX:L2.T7}
namespace HT
open PySem PyProof.Rows
section
variable {w:World}
def cat_tup {t b:Addr}{vs J:vV_}{Q:vQ_}(ht:IsTup s.heap t vs.toArray) (hb:IsTup s.heap b J.toArray) (hv:vs≠[])
  (h1:J=[]->Q (.ref t) s) (h2:J≠[]->Q (.ref s.heap.objs.size) { s with heap:=s.heap.push { cls:=.type "tuple",data:=.seq (vs++J).toArray } })
  (hsz:vs.length+J.length<=sizeLine):wpAny (model prog w) A (binaryOp .Add (.ref t) (.ref b)) Q E s:=by
 obtain⟨⟨cls,dd,data,sl⟩,ho,hc,n,hd⟩:=id ht;obtain⟨⟨cls2,dd2,data2,Z⟩,U,Y,n2,hd2⟩:=id hb;simp only at hc hd Y hd2;subst hc hd Y hd2;have e:vs.toArray++J.toArray=(vs++J).toArray:=by simp
 by_cases hw:J=[]
 .exact concat_meets #[_,ho,rfl] #[_,U,rfl] QM seq_tuple_add QN QO (QP _ _)
   (tuple_addW1 t b vs.toArray J.toArray n n2 dd dd2 sl Z (by simpa using hv) (by simp[hw])) #[ho,U,h1 hw]
 .refine concat_meets #[_,ho,rfl] #[_,U,rfl] QM seq_tuple_add QN QO (QP _ _)
   (tuple_addW2 t b vs.toArray J.toArray n n2 dd dd2 sl Z (by simpa using hv) (by simpa using hw) (by rw[Mv,Mv];exact hsz)) #[ho,U,?_]
  rw[e];exact h2 hw
def sIx (n d:Nat):Option Int->Nat
 |none=>d
 |some v=>if v<0 then (v+(n:Int)).toNat else min v.toNat n
def sIx_none (n d:Nat):sIx n d none=d:=rfl
def sIx_nat (n d k:Nat):sIx n d (some (k:Int))=min k n:=by
 show (if (k:Int)<0 then ((k:Int)+(n:Int)).toNat else min (k:Int).toNat n)=min k n;rw[iR ∅,Nz]
def Ct (n d:Nat) (U:d<=n) (o:Option Int):sIx n d o<=n:=by
 cases o with
 |none=>exact U
 |some v=>
  show (if v<0 then (v+(n:Int)).toNat else min v.toNat n)<=n;by_cases J:v<0
  .rw[iO J];omega
  .rw[iR J];exact Nat.min_le_right _ _
def vq (v:Int) (n d:Nat):(if v<0 then max (v+(n:Int)) 0 else min v (n:Int))=((sIx n d (some v):Nat):Int):=by
 show (if v<0 then max (v+(n:Int)) 0 else min v (n:Int))=(((if v<0 then (v+(n:Int)).toNat else min v.toNat n):Nat):Int);by_cases J:v<0
 .simp only[iO J];omega
 .simp only[iR J];omega
def qd (lo hi:Option Int) (n:Nat):Builtin.Slice.sliceAdjust lo hi 1 (n:Int)=(((sIx n 0 lo:Nat):Int),((sIx n n hi:Nat):Int)):=by
 have h1:¬ ((1:Int)<0):=by omega
 unfold Builtin.Slice.sliceAdjust;simp only[h1,Nr];refine MD ?_ ?_
 .cases lo with
  |none=>rfl
  |some v=>exact vq v n 0
 .cases hi with
  |none=>rfl
  |some v=>exact vq v n n
def ui (i j:Nat):Builtin.Slice.slicePlaces (i:Int) (j:Int) 1=j - i:=by
 unfold Builtin.Slice.slicePlaces;have h1:(1:Int)>0:=by omega
 simp only[h1,MV,Int.ediv_one];split <;> omega
def yx {v:Value}{o:Option Int}{Q:Option Int->Shared->Prop}(p:IsPart v o) (h:Q o s):wpAny (model prog w) A (Builtin.Slice.slicePartIndex v) Q E s:=by
 cases p with
 |none=>exact OJ h
 |int i t=>exact slicePart_int h
def qE {lo hi:Option Int}{n:Nat}{Q:Int × Int × Nat->Shared->Prop}(Z:s.heap.IsSliceOf sl vl vu .none) (pl:IsPart vl lo) (Y:IsPart vu hi)
  (h:Q (((sIx n 0 lo:Nat):Int),1,sIx n n hi - sIx n 0 lo) s):wpAny (model prog w) A (Builtin.Slice.sliceApplied (.ref sl) (pure (n:Int))) Q E s:=by
 obtain⟨os,U,hcs,J⟩:=id Z;unfold Builtin.Slice.sliceApplied Builtin.Slice.sliceFields;refine gV (gV (Mr U J (x:=vl) rfl (gV (Mr U J (x:=vu) rfl (gV (Mr U J (x:=.none) rfl (iU ?_)))))));refine gV (OJ ?_);show wpAny _ _ (if ((1:Int) == 0)=true then _ else _) _ _ s;rw[iR #[]];refine gV (yx pl (gV (yx Y (gV (iU ?_)))));show wpAny _ _ (match Builtin.Slice.sliceAdjust lo hi 1 (n:Int) with | (lo,hi)=>pure (lo,(1:Int),Builtin.Slice.slicePlaces lo hi 1)) _ _ s;rw[qd lo hi n];show wpAny _ _ (pure (((sIx n 0 lo:Nat):Int),(1:Int),Builtin.Slice.slicePlaces ((sIx n 0 lo:Nat):Int) ((sIx n n hi:Nat):Int) 1)) _ _ s;rw[ui];exact iU h
def GR (xs:vR_) (i k:Nat):((List.range k).filterMap fun (m:Nat)=>xs[((i:Int)+(m:Int)*1).toNat]?).toArray=((xs.toList.drop i).take k).toArray:=by
 have e:(fun (m:Nat)=>xs[((i:Int)+(m:Int)*1).toNat]?)=fun m=>xs[i+m]?:=by
  funext m;have:((i:Int)+(m:Int)*1).toNat=i+m:=by omega
  rw[this]
 rw[e];have:=pick_run xs i k;rw[List.filterMap_map] at this;have J:((fun x=>xs[x]?)∘fun x=>i+x)=fun m=>xs[i+m]?:=rfl
 rw[J] at this;rw[this]
def getItem_tuple_cut {t sl:Addr}{items:vR_}{lo hi:Option Int}{Q:vQ_}(U:IsTup s.heap t items) (hs:s.heap.IsSliceOf sl vl vu .none) (pl:IsPart vl lo) (pu:IsPart vu hi)
  (hw:¬ (sIx items.size 0 lo=0/\sIx items.size items.size hi=items.size))
  (h:Q (.ref s.heap.objs.size) { s with heap:=s.heap.push { cls:=.type "tuple",data:=.seq ((items.toList.drop (sIx items.size 0 lo)).take (sIx items.size items.size hi - sIx items.size 0 lo)).toArray } })
  (hsz:items.size<=sizeLine):wpAny (model prog w) A (getItem (.ref t) (.ref sl)) Q E s:=by
 have J:sizeOk (.seq ((items.toList.drop (sIx items.size 0 lo)).take (sIx items.size items.size hi - sIx items.size 0 lo)).toArray):=by
  show ((items.toList.drop (sIx items.size 0 lo)).take (sIx items.size items.size hi - sIx items.size 0 lo)).toArray.size<=sizeLine;rw[Mv,Np,MH,PU];omega
 have hj:sIx items.size items.size hi<=items.size:=Ct _ _ (tx _) hi;obtain⟨os,hos,Z,hds⟩:=id hs;have Y:s.TypeIs (.ref sl) "slice" := #[os,hos,Z]
 unfold getItem
 try with_reducible refine Nm ?_
 first | refine gV (iU ?_) | skip
 refine gV (PY U.typeIs #[] ?_);refine gV (Nu (name:=Str.ofString "__getitem__") U.typeIs NA
  (Na NA U.typeIs PZ ?_ (Qa _ _)))
 show wpAny _ _ (Builtin.Tuple.tupleItemsOf (.ref t) >>= _) _ _ s;refine gV (tupleItemsOf_ U ?_);refine gV (NV Y ?_);rw[iO #[]];refine gV (qE hs pl pu ?_);have hno:¬ ((((sIx items.size 0 lo:Nat):Int) == 0&&(1:Int) == 1&&(sIx items.size items.size hi - sIx items.size 0 lo) == items.size)=true):=by
  intro q;rw[MF,MF] at q;have q1:((sIx items.size 0 lo:Nat):Int)=0:=eq_of_beq q.1.1;have q2:sIx items.size items.size hi - sIx items.size 0 lo=items.size:=eq_of_beq q.2;exact hw #[by omega,by omega]
 show wpAny _ _ (if (((sIx items.size 0 lo:Nat):Int) == 0&&(1:Int) == 1&&(sIx items.size items.size hi - sIx items.size 0 lo) == items.size)=true then _ else _) _ _ s;rw[iR hno,GR]
 first
  | exact gV (m:=Builtin.Tuple.tupleExact _) (Nn (iU #[_,rfl,iU h]) J)
  | exact gV (m:=Builtin.Tuple.tupleExact _) (Nn (gV (iU (iU #[_,rfl,iU h]))) J)
  | exact gV (gV (m:=Builtin.Tuple.tupleExact _) (Nn (iU (iU #[_,rfl,iU h])) J))
  | exact gV (gV (m:=Builtin.Tuple.tupleExact _) (Nn (iU #[_,rfl,iU h]) J))
end
end HT
namespace L2
open PySem PySem.Spec PyProof.Rows
abbrev TO:=St->Hp->(Option Int->Hp->Prop)->Prop
def PO (X:Cx) (e:Option Expr) (t:TO):Prop:=
 ∀(pins:vP_) (s:Shared) (σ:St) (H:Hp) (Q:Option Int->Hp->Prop),Inv X pins σ H s->t σ H Q ->
  wpAny (model X.prog X.w) X.A (evalPart e X.env) (fun u s'=>∃o H',Inv X pins σ H' s'/\IsPart u o/\Q o H') X.xe s
def GV:TO:=fun _ H Q=>Q none H
def Lq (t:TE):TO:=fun σ H Q=>t σ H fun x H1=>∃i,x = .int i/\Q (some i) H1
section
variable {lo hi:Option Expr}{tl th:TO}{pos:Pos}
def uv:PO X none GV:=by
 intro pins s σ H Q I h;rw[evalPart_none];exact iU #[none,H,I,.none,h]
def xK (h:PE X e te):PO X (some e) (Lq te):=by
 intro pins s σ H Q I Z;rw[evalPart_some];refine u6 (h pins s σ H _ I Z) fun u s1 ⟨x,H1,U,J,Y⟩=>?_
 obtain⟨i,rfl,q⟩:=Y;obtain⟨t,rfl⟩:=J;exact#[some i,H1,U,.int i t,q]
def SlR (X:Cx) (r:V->Option Int->Option Int->Hp->VK->Prop):Prop:=
 ∀(pins:vP_) (s:Shared) (σ:St) (H:Hp) (x:V) (v vl vu:Value) (lo hi:Option Int) (sl:Addr) (Q:VK),Inv X pins σ H s->RelV x v->s.heap.IsSliceOf sl vl vu .none->IsPart vl lo->IsPart vu hi->r x lo hi H Q ->
  ∃T id,typeLookup (.type T) "__getitem__" = pure (some (.builtin id))/\s.TypeIs v T/\wpAny (model X.prog X.w) X.A (getItem v (.ref sl)) (EP X pins σ Q) X.xe s
def SlR.or {r J:V->Option Int->Option Int->Hp->VK->Prop}(h:SlR X r) (h':SlR X J):SlR X (fun x lo hi H Q=>r x lo hi H Q\/J x lo hi H Q):=by
 intro pins s σ H x v Y vu lo hi sl Q I U hs pl Z q;rcases q with q | q
 .exact h pins s σ H x v Y vu lo hi sl Q I U hs pl Z q
 .exact h' pins s σ H x v Y vu lo hi sl Q I U hs pl Z q
def KP (r:V->Option Int->Option Int->Hp->VK->Prop) (te:TE) (tl th:TO):TE:=fun σ H Q=>te σ H fun x H1=>tl σ H1 fun l H2=>th σ H2 fun u J=>r x l u J Q
def xb {r:V->Option Int->Option Int->Hp->VK->Prop}(hr:SlR X r) (he:PE X e te) (Z:PO X lo tl) (hu:PO X hi th):PE X (.Subscript e (.Slice lo hi none p2) pos) (KP r te tl th):=by
 intro pins s σ H Q I h;refine Subscript_ (u6 (he pins s σ H _ I h) fun v s1 ⟨x,H1,I1,r1,q1⟩=>?_);refine wpAny_Slice (u6 (Z pins s1 σ H1 _ I1 q1) fun J s2 ⟨l,H2,I2,pl,q2⟩=>u6 (hu pins s2 σ H2 _ I2 q2) fun U s3 ⟨u,Y,I3,pu,q3⟩=>?_);rw[evalPart_none];refine iU ?_;have I4:Inv X pins σ Y { s3 with heap:=s3.heap.push { cls:=.type "slice",data:=.fields #v[J,U,.none] } }:=I3.kept (t':=s3.toks) fun b ob q=>Mg _ q
 obtain⟨T,id,hT,ht,hg⟩:=hr pins { s3 with heap:=s3.heap.push { cls:=.type "slice",data:=.fields #v[J,U,.none] } } σ Y x v J U l u s3.heap.objs.size Q I4 r1 (QQ ..) pl pu q3;show wpAny (model X.prog X.w) X.A (subscriptTail e (.Slice lo hi none p2) v (.ref s3.heap.objs.size)) (EP X pins σ Q) X.xe { s3 with heap:=s3.heap.push { cls:=.type "slice",data:=.fields #v[J,U,.none] } };exact tail_any (ops:=[.ref s3.heap.objs.size,v]) ht hT hg (by with_unfolding_all rfl)
def U5 (xs:List V) (lo hi:Option Int):List V:=(xs.drop (HT.sIx xs.length 0 lo)).take (HT.sIx xs.length xs.length hi - HT.sIx xs.length 0 lo)
def zt (xs:List V) (lo hi:Option Int):(U5 xs lo hi).length<=xs.length:=by
 unfold U5;rw[Np,MH];omega
def IA (K:vF_):V->Option Int->Option Int->Hp->VK->Prop:=fun x lo hi H Q=>∃a xs,x = .ref a/\SqT K H a xs /\
 ¬ (HT.sIx xs.length 0 lo=0/\HT.sIx xs.length xs.length hi=xs.length)/\∀p,H p=none->Q (.ref p) (k9 H p (.tup (U5 xs lo hi)))
def Jg:SlR X (IA X.K):=by
 intro pins s σ H x v vl vu lo hi sl Q I Z hs pl pu h;obtain⟨a,xs,rfl,hx,hw,q⟩:=h;cases Z;obtain⟨its,r,Y,U⟩:=I.tuple hx;have J:its.toArray.size=xs.length:=by rw[Mv];exact r.length.symm
 refine#["tuple",_,NA.lookup,Y.typeIs,?_];refine HT.getItem_tuple_cut Y hs pl pu (by rw[J];exact hw) ?_ (by rw[J];exact U);rw[J];refine#[.ref s.heap.objs.size,_,I.laid (t':=s.toks) (o:=.tup (U5 xs lo hi)) (fun b ob q=>Mg _ q) (tx _) ?_,rfl,q _ (I.hok.fresh (tx _))];exact#[Mm (zt xs lo hi) U,_,(r.drop (HT.sIx xs.length 0 lo)).take (HT.sIx xs.length xs.length hi - HT.sIx xs.length 0 lo),IsTup.new _ _]
def vd (K:vF_):R2:=fun x y H Q=>∃a b xs ys,x = .ref a/\y = .ref b/\SqT K H a xs/\SqT K H b ys/\xs≠[]/\xs.length+ys.length<=sizeLine /\
 (ys=[]->Q (.ref a) H)/\(ys≠[]->∀p,H p=none->Q (.ref p) (k9 H p (.tup (xs++ys))))
def Vals.nil_iff (r:Vals xs us):us=[]↔xs=[]:=by
 cases r with
 |nil=>simp
 |cons _ _=>simp
def Co:OpR X (binaryOp .Add) (vd X.K):=by
 intro pins s σ H x y v u Q I rx ry h;obtain⟨a,b,xs,ys,rfl,rfl,ha,hb,hx,Y,q1,q2⟩:=h;cases rx;cases ry;obtain⟨its,U,p1,_⟩:=I.tuple ha;obtain⟨Z,J,p2,_⟩:=I.tuple hb;refine HT.cat_tup p1 p2 (fun z=>hx (U.nil_iff.mp z)) (fun z=>#[.ref a,H,I,rfl,q1 (J.nil_iff.mp z)]) (fun z=>?_) (by rw[<-U.length,<-J.length];exact Y);refine#[.ref s.heap.objs.size,_,I.laid (t':=s.toks) (o:=.tup (xs++ys)) (fun b ob q=>Mg _ q) (tx _) ?_,rfl,q2 (fun w=>z (J.nil_iff.mpr w)) _ (I.hok.fresh (tx _))];exact#[by rw[MC];exact Y,_,U.append J,IsTup.new _ _]
end
def U0 (n:Nat) (i:Int):Option Nat:=if 0<=i then (if i<n then some i.toNat else none) else if -(n:Int)<=i then some (i+n).toNat else none
def C1 {α:Type}(xs:List α) (i:Int):Option α:=(U0 xs.length i).bind fun j=>xs[j]?
def qM {n:Nat}{i:Int}(h:U0 n i=some j):seqIndex? i n=some j/\j<n /\ -(n:Int)<=i/\i<n:=by
 unfold U0 at h;by_cases J:0<=i
 .rw[iO J] at h;by_cases h1:i<n
  .rw[iO h1] at h;have e:i.toNat=j:=MB h;exact#[by rw[seqIndex_of J h1,e],by omega,by omega,h1]
  .rw[iR h1] at h;cases h
 .rw[iR J] at h;by_cases h1:-(n:Int)<=i
  .rw[iO h1] at h;have e:(i+n).toNat=j:=MB h;exact#[by rw[seqIndex_neg ∅ h1,e],by omega,h1,by omega]
  .rw[iR h1] at h;cases h
def vz {α:Type}{xs:List α}{i:Int}{v:α}(h:C1 xs i=some v):∃j,seqIndex? i xs.length=some j/\xs[j]? = some v/\j<xs.length /\ -(xs.length:Int)<=i/\i<xs.length:=by
 unfold C1 at h;cases e:U0 xs.length i with
 |none=>rw[e] at h;cases h
 |some j=>
  rw[e] at h;obtain⟨h1,h2,h3,J⟩:=qM e;exact#[j,h1,h,h2,h3,J]
def jZ {α:Type}{xs:List α}{v:α}(h:xs[j]? = some v):C1 xs (j:Int)=some v:=by
 have J:j<xs.length:=(MT.mp h).1;have e:U0 xs.length (j:Int)=some j:=by
  unfold U0;rw[iO ∅,iO ∅];simp
 unfold C1;rw[e];exact h
def sj {α:Type}(xs:List α) (v:α):C1 (xs++[v]) (-1)=some v:=by
 have J:(xs++[v]).length=xs.length+1:=by simp
 have e:U0 (xs++[v]).length (-1)=some xs.length:=by
  unfold U0;rw[J,iR #[],iO ∅];congr 1;omega
 unfold C1;rw[e];show (xs++[v])[xs.length]? = some v;simp
def pI (b:Expr):Prop:=∀o i,subscripted b false o i=operate [o,i] (getItem o i)
def IxR (X:Cx) (r:R2):Prop:=
 ∀(value slice:Expr) (pins:vP_) (s:Shared) (σ:St) (H:Hp) (x y:V) (v u:Value) (Q:VK),Inv X pins σ H s->RelV x v->RelV y u->r x y H Q ->
  subscripted slice false v u=operate [v,u] (getItem v u)->wpAny (model X.prog X.w) X.A (subscriptTail value slice v u) (EP X pins σ Q) X.xe s
def Lw (X:Cx) (id:String) (r:V->List V->Hp->VK->Prop):Prop:=
 ∀(pins:vP_) (s:Shared) (σ:St) (H:Hp) (x:V) (xs:List V) (v:Value) (us:vV_) (Q:VK),Inv X pins σ H s->RelV x v->Vals xs us->r x xs H Q ->
  wpAny (model X.prog X.w) X.A (call (.builtin id) (v::us)) (EP X pins σ Q) X.xe s
section
variable {a b:Expr}{ta tb:TE}{pos:Pos}
def IxR.or {r Y:R2}(h:IxR X r) (h':IxR X Y):IxR X (fun x y H Q=>r x y H Q\/Y x y H Q):=by
 intro U J pins s σ H x y v u Q I Z ry q hs;rcases q with q | q
 .exact h U J pins s σ H x y v u Q I Z ry q hs
 .exact h' U J pins s σ H x y v u Q I Z ry q hs
def sL {r:R2}(hr:IxR X r) (Y:PE X a ta) (hb:PE X b tb) (hs:pI b):PE X (.Subscript a b pos) (ee r ta tb):=by
 intro pins s σ H Q I h;exact Subscript_ (oJ Y hb I h fun v u s2 x y H2 U J Z q=>hr a b pins s2 σ H2 x y v u Q U J Z q (hs _ _))
def mj (K:vF_):R2:=fun x y H Q=>∃p xs i v,x = .ref p/\y = .int i/\SqL K H p xs/\C1 xs i=some v/\Q v H
def ny (K:vF_):R2:=fun x y H Q=>∃p xs i v,x = .ref p/\y = .int i/\SqT K H p xs/\C1 xs i=some v/\Q v H
def ix_list:IxR X (mj X.K):=by
 intro Y Z pins s σ H x y v u Q I rx ry h hs;obtain⟨p,xs,i,z,rfl,rfl,hq,he,q⟩:=h;cases rx;obtain⟨t,rfl⟩:=ry;obtain⟨its,r,pl,hz⟩:=I.list hq;obtain⟨j,h1,h2,h3,h4,h5⟩:=vz he;obtain⟨w,ew,U⟩:=r.get h2;have hl:=r.length;have hn:=dG;have J:EP X pins σ Q w s:=#[z,H,I,U,q]
 by_cases h0:0<=i
 .have hj:i.toNat=j:=by
   rw[seqIndex_of h0 h5] at h1;exact MB h1
  exact item_listR pl.isList h0 ∅ (by rw[hj];simpa using ew) J hs
 .have hj:(i+(its.toArray.size:Int)).toNat=j:=by
   rw[seqIndex_neg ∅ h4] at h1;rw[Mv,<-hl];exact MB h1
  exact subscriptTail_builtinR (x:=w) pl.isList.typeIs slot_list_getitem.lookup
   (wpAny_getItem_list_neg (Q:=fun r s'=>r=w/\EP X pins σ Q r s') pl.isList ∅ (by rw[Mv] <;> omega) ∅ (by rw[hj];simpa using ew) #[rfl,J]) hs
def Cp:IxR X (ny X.K):=by
 intro U Y pins s σ H x y v u Q I rx ry h hs;obtain⟨p,xs,i,z,rfl,rfl,hq,he,q⟩:=h;cases rx;obtain⟨t,rfl⟩:=ry;obtain⟨its,r,pl,hz⟩:=I.tuple hq;obtain⟨j,h1,h2,h3,h4,h5⟩:=vz he;obtain⟨w,ew,J⟩:=r.get h2;have hl:=r.length;have hn:=dG;have Z:EP X pins σ Q w s:=#[z,H,I,J,q]
 exact subscriptTail_builtinR (x:=w) pl.typeIs slot_tuple_getitem.lookup
  (getItem_tuple (j:=j) (Q:=fun r s'=>r=w/\EP X pins σ Q r s') pl ∅ ∅ (by rw[Mv,<-hl];exact h1) (by simpa using ew) #[rfl,Z]) hs
def AA (its:vV_) (n j:Nat) (u:Value):Obj.mapSeq (·.setIfInBounds j u) { cls:=.type "list",data:=.seq its.toArray n }={ cls:=.type "list",data:=.seq (its.set j u).toArray n }:=by
 simp[Obj.mapSeq]
theorem Inv.lst (I:Inv X pins σ H s) (h:H p=some (.lst xs)) :
  ∃(its:vV_) (n:Nat),Vals xs its/\s.heap.get? p=some { cls:=.type "list",data:=.seq its.toArray n }/\xs.length<=sizeLine:=by
 obtain⟨z,its,n,r,e⟩:=I.hok p _ h;exact#[its,n,r,e,z]
def Inv.lstUpd {pins:vP_}{H:Hp}{s:Shared}{xs ys:List V}{its its':vV_}{n J:Nat}(I:Inv X pins σ H s) (h:H p=some (.lst xs))
  (Y:s.heap.get? p=some { cls:=.type "list",data:=.seq its.toArray n }) (U:f { cls:=.type "list",data:=.seq its.toArray n }={ cls:=.type "list",data:=.seq its'.toArray J }) (r:Vals ys its') (hz:ys.length<=sizeLine) (t:Nat) :
  Inv X pins σ (k9 H p (.lst ys)) { s with heap:=s.heap.update p f,toks:=t }:=by
 have e:(s.heap.update p f).get? p=some { cls:=.type "list",data:=.seq its'.toArray J }:=by
  rw[NF f Y (by rw[U] <;> rfl),U]
 refine I.write (x:=p) (e:=p) (by rw[h];trivial) (.inl rfl) (fun b u Z q=>(Nj _ _ (Mz Z)).trans q) #[_,e] ?_;exact#[hz,its',J,r,e]
def AI:V->V->V->Hp->(Hp->Prop)->Prop:=fun o i v H Q=>∃p xs k j,o = .ref p/\i = .int k/\H p=some (.lst xs)/\U0 xs.length k=some j/\Q (k9 H p (.lst (xs.set j v)))
def Bl:vO X AI:=by
 intro pins s σ H o i v ov iv u Q I ro ri rv h;obtain⟨p,xs,k,j,rfl,rfl,Z,hj,q⟩:=h;cases ro;obtain⟨t,rfl⟩:=ri;obtain⟨its,n,r,U,hz⟩:=I.lst Z;obtain⟨h1,h2,h3,Y⟩:=qM hj;have J:=r.length;have hn:=dG;have I':Inv X pins σ (k9 H p (.lst (xs.set j v))) { s with heap:=s.heap.update p (Obj.mapSeq (·.setIfInBounds j u)) }:=
  I.lstUpd Z U (AA its n j u) (r.set rv j) (by rw[List.length_set];exact hz) s.toks
 by_cases h0:0<=k
 .have hk:k.toNat=j:=by
   rw[seqIndex_of h0 Y] at h1;exact MB h1
  exact PySem.W.ki_setAt U h0 ∅ (by rw[Mv,<-J];exact Y) (by rw[hk];exact#[_,I',q])
 .have hk:(k+(its.toArray.size:Int)).toNat=j:=by
   rw[seqIndex_neg ∅ h3] at h1;rw[Mv,<-J];exact MB h1
  exact PySem.W.ki_setBack U ∅ (by rw[Mv,<-J];exact h3) ∅ (by rw[hk];exact#[_,I',q])
def Lj (lo hi:Option Int) (n:Nat):(sliceBounds lo hi none n).1=((HT.sIx n 0 lo:Nat):Int)/\(sliceBounds lo hi none n).2.1=((HT.sIx n n hi:Nat):Int)/\(sliceBounds lo hi none n).2.2=1:=by
 have key:∀i:Int,(sliceBounds (some i) none none n).1=((HT.sIx n 0 (some i):Nat):Int):=fun i=>by
  simp only[sliceBounds,HT.sIx,Option.getD_none,show (1:Int)>0 by decide,MV];by_cases h:i<0
  .simp only[h,MV] <;> omega
  .simp only[h,Nr] <;> omega
 refine#[?_,?_,rfl]
 .cases lo with
  |none=>simp[sliceBounds,HT.sIx]
  |some i=>exact key i
 .cases hi with
  |none=>simp[sliceBounds,HT.sIx]
  |some i=>exact key i
def EX (its:vV_) (lo hi:Option Int):slicePick its.toArray lo hi none=((its.drop (HT.sIx its.length 0 lo)).take (HT.sIx its.length its.length hi - HT.sIx its.length 0 lo)).toArray:=by
 obtain⟨h1,h2,h3⟩:=Lj lo hi its.toArray.size;unfold slicePick;rw[h1,h2,h3];simp only[sliceRange_one,pick_run,Mv] <;> rfl
def DB (K:vF_):V->Option Int->Option Int->Hp->VK->Prop:=fun x lo hi H Q=>∃a xs,x = .ref a/\SqL K H a xs/\∀p,H p=none->Q (.ref p) (k9 H p (.lst (U5 xs lo hi)))
def pS:SlR X (DB X.K):=by
 intro pins s σ H x v vl vu lo hi sl Q I Y hs pl pu h;obtain⟨a,xs,rfl,hx,q⟩:=h;cases Y;obtain⟨its,r,U,Z⟩:=I.list hx;have J:=r.length;refine#["list",_,slot_list_getitem.lookup,U.isList.typeIs,?_];refine wpAny_getItem_list_slice U.isList hs pl pu .none (by simp) ?_ (by rw[Mv] <;> omega);rw[EX,<-J];refine#[.ref s.heap.objs.size,_,I.laid (t':=s.toks) (o:=.lst (U5 xs lo hi)) (fun b ob q=>Mg _ q) (tx _) ?_,rfl,q _ (I.hok.fresh (tx _))];exact#[Mm (zt xs lo hi) Z,_,0,(r.drop (HT.sIx xs.length 0 lo)).take (HT.sIx xs.length xs.length hi - HT.sIx xs.length 0 lo),MN _ rfl]
def call_len_seq:CallR X (.builtin "len") (fun xs H Q=>∃p ys,xs=[.ref p]/\(SqL X.K H p ys\/SqT X.K H p ys)/\Q (.int ys.length) H):=by
 intro pins s σ H xs us Q I r h;obtain⟨p,ys,rfl,U,q⟩:=h;obtain⟨u,rfl,rx⟩:=ar r;cases rx;have hn:=dG;rcases U with U | U
 .obtain⟨its,Y,Z,hz⟩:=I.list U;have J:=Y.length;exact Calls.call_len_list Z.isList (by simp only[Mv] <;> omega) #[.int ys.length,H,I.tok _,#[s.toks+1,by rw[Mv,J]],q]
 .obtain⟨its,Y,Z,hz⟩:=I.tuple U;have J:=Y.length;exact len_tuple Z (by simp only[Mv] <;> omega) #[.int ys.length,H,I.tok _,#[s.toks+1,by rw[Mv,J]],q]
def HQ:CallR X (.builtin "len") (fun xs H Q=>∃z,xs=[.str z]/\z.length<=sizeLine/\Q (.int z.length) H):=by
 intro pins s σ H xs us Q I r h;obtain⟨z,rfl,U,q⟩:=h;obtain⟨u,rfl,t,rfl⟩:=ar r;have J:=dG;exact len_str ∅ #[.int z.length,H,I.tok _,#[_,rfl],q]
def CallR.or {J:List V->Hp->VK->Prop}(h:CallR X f r) (h':CallR X f J):CallR X f (fun xs H Q=>r xs H Q\/J xs H Q):=by
 intro pins s σ H xs us Q I U q;rcases q with q | q
 .exact h pins s σ H xs us Q I U q
 .exact h' pins s σ H xs us Q I U q
def kD:CallR X (.type "list") (fun xs H Q=>∃p ys,xs=[.ref p]/\(SqL X.K H p ys\/SqT X.K H p ys)/\∀l,H l=none->Q (.ref l) (k9 H l (.lst ys))):=by
 intro pins s σ H xs us Q I r h;obtain⟨p,ys,rfl,Y,q⟩:=h;obtain⟨u,rfl,rx⟩:=ar r;cases rx;have fin:∀(its:vV_),Vals ys its->ys.length<=sizeLine->∀(h':Heap) (U:Nat),(∀b o',s.heap.get? b=some o'->h'.get? b=some o') ->
   h'.get? s.heap.objs.size=some { cls:=.type "list",dict:=none,data:=.seq its.toArray U,slots:=#v[] }->EP X pins σ Q (.ref s.heap.objs.size) { s with heap:=h' }:=fun its J hz h' U kp e=>
  #[.ref s.heap.objs.size,_,I.laid (t':=s.toks) kp (tx _) (show ObjOk X.prog X.w _ h' _ (.lst ys) from #[hz,its,U,J,e]),rfl,q _ (I.hok.fresh (tx _))]
 rcases Y with Y | Y
 .obtain⟨its,J,pl,hz⟩:=I.list Y;have Z:=J.length;obtain⟨o,ho,hc,n,hd⟩:=pl.isList;exact call_list_seq p (.inl rfl) ho hc hd (fun h' U kp e=>fin its J hz h' U kp e) (by simp only[Mv] <;> omega)
 .obtain⟨its,J,pl,hz⟩:=I.tuple Y;have Z:=J.length;obtain⟨o,ho,hc,n,hd⟩:=pl;exact call_list_seq p (.inr rfl) ho hc hd (fun h' U kp e=>fin its J hz h' U kp e) (by simp only[Mv] <;> omega)
def wj:CallR X (.type "tuple") (fun xs H Q=>∃p ys,xs=[.ref p]/\((SqL X.K H p ys/\∀l,H l=none->Q (.ref l) (k9 H l (.tup ys)))\/(SqT X.K H p ys/\Q (.ref p) H))):=by
 intro pins s σ H xs us Q I r h;obtain⟨p,ys,rfl,h⟩:=h;obtain⟨u,rfl,rx⟩:=ar r;cases rx;rcases h with ⟨U,q⟩ | ⟨U,q⟩
 .obtain⟨its,J,Y,hz⟩:=I.list U;have Z:=J.length;refine call_tuple_list Y.isList (fun h' kp=>?_) (by simp only[Mv] <;> omega);have I1:Inv X pins σ H { s with heap:=h' }:=I.kept (t':=s.toks) kp;have I2:Inv X pins σ (k9 H h'.objs.size (.tup ys)) { s with heap:=h'.push { cls:=.type "tuple",data:=.seq its.toArray } }:=
   I1.laid (t':=s.toks) (fun b o e=>Mg _ e) (tx _) (show ObjOk X.prog X.w _ _ _ (.tup ys) from #[hz,its,J,IsTup.new _ _])
  exact#[.ref h'.objs.size,_,I2,rfl,q _ (I1.hok.fresh (tx _))]
 .obtain⟨its,J,Y,hz⟩:=I.tuple U;exact call_tuple_same Y #[.ref p,H,I,rfl,q]
def uX (K:vF_) (T:String) (x:V) (H:Hp):Prop:=match x with
 |.str _=>T = "str"
 |.int _=>T = "int"
 |.ref p=>(T = "list" /\ ∃xs,SqL K H p xs)\/(T = "tuple" /\ ∃o,K.lookup p=some o/\o.cls = .type "tuple" /\ o.dict=none) \/
   (T = "dict" /\ ((∃kvs,H p=some (.dK kvs))\/∃kvs,H p=some (.dT kvs)))\/(T = "set" /\ ∃S n,H p=some (.set S n))
 |_=>False
def Dl {x:V}{v:Value}(I:Inv X pins σ H s) (r:RelV x v) (J:uX X.K T x H) :
  s.TypeIs v T/\∀a,v = .ref a->∃ob,s.heap.get? a=some ob/\ob.dict=none:=by
 cases x with
 |str z=>
  obtain⟨t,rfl⟩:=r;cases (show T = "str" from J);exact#[typeIs_str s z t,fun _ e=>nomatch e]
 |int i=>
  obtain⟨t,rfl⟩:=r;cases (show T = "int" from J);exact#[typeIs_int s i t,fun _ e=>nomatch e]
 |ref p=>
  cases r;rcases J with ⟨rfl,xs,hq⟩ | ⟨rfl,o,hk,hc,Z⟩ | ⟨rfl,hk⟩ | ⟨rfl,S,n,hk⟩
  .obtain⟨its,_,pl,_⟩:=I.list hq;refine#[pl.isList.typeIs,fun a e=>?_];cases e;obtain⟨o,n,e,c,Z,_⟩:=pl;exact#[o,e,Z]
  .refine#[#[o,I.kIn p o hk,hc],fun a e=>?_];cases e;exact#[o,I.kIn _ o hk,Z]
  .have z:∃o,s.heap.get? p=some o/\o.ExactDict:=by
    rcases hk with ⟨U,hk⟩ | ⟨U,hk⟩
    .obtain⟨_,_,_,_,o,_,_,e,ex,_⟩:=I.hok p _ hk;exact#[o,e,ex]
    .obtain⟨_,_,_,_,o,_,_,e,ex,_⟩:=I.hok p _ hk;exact#[o,e,ex]
   obtain⟨o,e,ex⟩:=z;refine#[#[o,e,ex.1],fun a Y=>?_];cases Y;exact#[o,e,ex.2.1]
  .obtain⟨o,_,_,_,e,ex,_⟩:=I.hok p _ hk;refine#[#[o,e,ex.1],fun a Y=>?_];cases Y;exact#[o,e,ex.2.1]
 |_=>exact False.elim J
def DZ (K:vF_) (T:String) (r:V->List V->Hp->VK->Prop) (to:TE) (t:TA):TE:=fun σ H Q=>to σ H fun x H1=>uX K T x H1/\t σ H1 fun xs H2=>r x xs H2 Q
variable {o:Expr}{to:TE}{t:TA}{apos cpos:Pos}{T id:String}{r:V->List V->Hp->VK->Prop}
def EW (pa:PlainAttrs T) (slot:Slot T name id) (hty:typeOf (.builtin id)=pure (.type "method_descriptor")) (hm:Lw X id r) (ho:PE X o to) (ha:PA X (e::es) t)
  (U:attributeBase o name X.env (eval o X.env)=eval o X.env:=by rfl)
  (Z:((backTo cpos (starEach (e::es) X.env)).all (fun x=>!x.1)&&(backToKw cpos (keywordEach [] X.env)).all (fun x=>x.1.isSome)
   && decide ((e::es).length+([]:List Keyword).length+(if ([]:List Keyword).isEmpty then 0 else 1)<30))=true:=by rfl)
  (Y:(apos.endLine == cpos.line)=true:=by rfl) (hs:starEach (e::es) X.env=(false,eval e X.env)::starEach es X.env:=by rfl) (J:(backTo cpos (starEach es X.env)).any (·.1)=false:=by rfl) :
  PE X (.Call (.Attribute o name apos) (e::es) [] cpos) (DZ X.K T r to t):=by
 intro pins s σ H Q I h;refine wpAny_Call_method_late U Z Y rfl (u6 (ho pins s σ H _ I h) fun v s1 ⟨x,H1,I1,r1,ty,q1⟩=>?_);obtain⟨h1,h2⟩:=Dl I1 r1 ty;refine#[T,id,pa,slot,hty,h1,h2,?_];have hA:=ha cpos pins s1 σ H1 _ I1 q1;rw[hs] at hA ⊢;refine Calls.callWith_builtin (by show (false||(backTo cpos (starEach es X.env)).any (·.1))=false;rw[J] <;> rfl) (Calls.evalArgs_plain ?_);exact u6 hA fun us s2 ⟨vs,H2,I2,r2,q2⟩=>hm pins s2 σ H2 x vs v us Q I2 r1 r2 q2
end
def HV (X:Cx) (id:String) (r:V->List V->Hp->VK->Prop):Prop:=
 ∀(pins:vP_) (s:Shared) (σ:St) (H:Hp) (x:V) (xs:List V) (v:Value) (us:vV_) (Q:VK),Inv X pins σ H s->RelV x v->Vals xs us->r x xs H Q ->
  wpAny (model X.prog X.w) X.A (call (.builtin id) (v::us)) (EP X pins σ Q) X.xe s
def Vals.one:∀{x:V}{us:vV_},Vals [x] us->∃u,us=[u]/\RelV x u:=by
 intro x us h;cases h with
 |cons r t=>
  cases t;exact#[_,rfl,r]
theorem Vals.reverse (h:Vals xs us):Vals xs.reverse us.reverse:=by
 induction h with
 |nil=>exact .nil
 |cons r t J=>rw[NW,NW];exact Vals.append J (.cons r .nil)
theorem Vals.rep (h:Vals xs us):∀k:Nat,Vals (List.replicate k xs).flatten (List.replicate k us).flatten
 |0=>.nil
 |k+1=>by
  rw[Oo,Oo,Pg,Pg];exact Vals.append h (Vals.rep h k)
theorem xf (its:vV_):∀(k:Nat) (acc:vV_),
  List.foldl (fun x1 x2=>x1++x2) acc.toArray (List.replicate k its.toArray)=(acc++(List.replicate k its).flatten).toArray
 |0,acc=>by simp
 |k+1,acc=>by
  have e:acc.toArray++its.toArray=(acc++its).toArray:=by simp
  have J:(acc++its)++(List.replicate k its).flatten=acc++(List.replicate (k+1) its).flatten:=by
   rw[Oo,Pg,NL]
  rw[<-J,<-xf its k (acc++its),<-e,Oo,Ph]
section
variable {l b:Addr}{zs:List V}
def Inv.lset {its its':vV_}{n:Nat}{t':Nat}(I:Inv X pins σ H s) (Z:H l=some (.lst xs))
  (e:s.heap.get? l=some { cls:=.type "list",data:=.seq its.toArray n }) (U:f its.toArray=its'.toArray) (J:Vals ys its') (hz:ys.length<=sizeLine) :
  Inv X pins σ (k9 H l (.lst ys)) { s with heap:=s.heap.update l (Obj.mapSeq f),toks:=t' }:=by
 have q:=PySem.IsL.update e f;rw[U] at q;refine I.write (x:=l) (e:=l) (by rw[Z];exact trivial) (.inl rfl) (fun b' u Y hu=>(Nj s.heap (Obj.mapSeq f) (Mz Y)).trans hu) #[_,q] ?_;exact#[hz,its',_,J,q]
def Inv.lnew {t':Nat}(I:Inv X pins σ H s) (J:Vals ys its) (hz:ys.length<=sizeLine) :
  Inv X pins σ (k9 H s.heap.objs.size (.lst ys)) { s with heap:=s.heap.push { cls:=.type "list",data:=.seq its.toArray },toks:=t' }:=
 I.laid (fun _ _ q=>Mg _ q) (tx _) #[hz,its,0,J,MN _ rfl]
theorem Inv.fresh (I:Inv X pins σ H s):H s.heap.objs.size=none:=I.hok.fresh (tx _)
def Inv.lstM (I:Inv X pins σ H s) (J:H l=some (.lst xs)):xs.length<=sizeLine/\∃(its:vV_) (n:Nat),Vals xs its/\xs.length=its.length/\s.heap.get? l=some { cls:=.type "list",data:=.seq its.toArray n }:=by
 obtain⟨z,its,n,r,e⟩:=I.hok l _ J;exact#[z,its,n,r,r.length,e]
def BM {n:Nat}(h:n<=sizeLine):Builtin.List.listTooLong n=false:=by
 unfold Builtin.List.listTooLong;exact MK ∅
end
def Ff:V->List V->Hp->VK->Prop:=fun x vs H Q=>∃l xs y,x = .ref l/\vs=[y]/\H l=some (.lst xs)/\xs.length<sizeLine/\Q .non (k9 H l (.lst (xs++[y])))
def va:HV X "list.append" Ff:=by
 intro pins s σ H x vs v us Q I U Z h;obtain⟨l,xs,y,rfl,rfl,J,hz,q⟩:=h;cases U;obtain⟨u,rfl,Y⟩:=Z.one;obtain⟨z,its,n,r,hl,e⟩:=I.lstM J;refine call_meets F.slot_list_append #[_,e,rfl] F.entry_list_append (F.args_list_append_2 _ _) (PySem.list_append l its.toArray n u (by rw[Mv];omega)) #[e,?_];refine#[.non,_,I.lset (its':=its++[u]) J e (by simp) (r.append (.cons Y .nil)) ?_,rfl,q];rw[MC,NM];omega
def mM:R2:=fun x y H Q=>∃l b xs zs,x = .ref l/\y = .ref b/\H l=some (.lst xs)/\H b=some (.lst zs)/\xs.length+zs.length<=sizeLine/\∀p,H p=none->Q (.ref p) (k9 H p (.lst (xs++zs)))
def jO:OpR X (binaryOp .Add) mM:=by
 intro pins s σ H x y v u Q I U ry h;obtain⟨l,b,xs,zs,rfl,rfl,Z,hB,hz,q⟩:=h;cases U;cases ry;obtain⟨z,its,n,r,hl,e⟩:=I.lstM Z;obtain⟨z2,J,n2,r2,hl2,e2⟩:=I.lstM hB;refine PySem.P.add_list e e2 ?_ (by rw[Mv,Mv];omega);have Y:its.toArray++J.toArray=(its++J).toArray:=by simp
 rw[Y];exact#[.ref _,_,I.lnew (t':=s.toks) (r.append r2) (by rw[MC];omega),rfl,q _ I.fresh]
def pZ:R2:=fun x y H Q=>∃l k xs,x = .ref l/\y = .int k/\H l=some (.lst xs) /\ -(2 ^ 63)<=k/\k<2 ^ 63/\xs.length*k.toNat<=sizeLine /\
 ∀p,H p=none->Q (.ref p) (k9 H p (.lst (List.replicate k.toNat xs).flatten))
def Cz {α:Type}(xs:List α) (k:Nat):(List.replicate k xs).flatten.length=k*xs.length:=by
 induction k with
 |zero=>simp
 |succ k J=>rw[Oo,Pg,MC,J,Nat.succ_mul,NO]
def qz:OpR X (binaryOp .Mult) pZ:=by
 intro pins s σ H x y v u Q I rx ry h;obtain⟨l,k,xs,rfl,rfl,hH,h1,h2,hz,q⟩:=h;cases rx;obtain⟨t,rfl⟩:=ry;obtain⟨z,its,n,r,hl,e⟩:=I.lstM hH;have hlen:its.toArray.size*k.toNat<=sizeLine:=by rw[Mv,<-hl];exact hz
 have Y:¬ its.toArray.size*k.toNat>(2 ^ 63 - 1) / 8:=by
  have:(sizeLine:Nat)<=(2 ^ 63 - 1) / 8:=by decide
  omega
 have Z:¬ (!Builtin.List.listFitsIndex k)=true:=by
  rw[fitsIndex_both h1 h2];exact Mk
 have J:¬ Builtin.List.listTooLong (its.toArray.size*k.toNat)=true:=by
  rw[BM hlen];exact Mk
 have hnew:List.foldl (fun x1 x2=>x1++x2) #v[] (List.replicate (if its.toArray.isEmpty=true then 0 else k.toNat) its.toArray)=(List.replicate k.toNat its).flatten.toArray:=by
  have f0:∀m:Nat,List.foldl (fun x1 x2=>x1++x2) #v[] (List.replicate m its.toArray)=(List.replicate m its).flatten.toArray:=fun m=>by
   have:=xf its m [];rw[Nk] at this;exact this
  rw[f0];cases its with
  |nil=>simp
  |cons a r'=>rw[iR (by simp)]
 refine wpAny_binaryOp_repeat_ref (T := "list") (U := "int") #[] #[_,e,rfl] (fun s'=>typeIs_int s' k t) noFill_list_mul F.fills_int_mul F.slot_int_rmul repeat_list F.slot_int_index.lookup
  (call_meets F.slot_int_rmul (typeIs_int s k t) F.entry_int_rmul (F.args_int_rmul_2 _ _) (int___rmul___int_list k t l its.toArray n)
   #[e,rfl,#[_,e,rfl],call_meets F.slot_list_mul #[_,e,rfl] F.entry_list_mul (F.args_list_mul_2 _ _) (AutoListH.list___mul___list_int_3 l its.toArray n k t Z Y J) #[e,?_]])
 rw[hnew];exact#[.ref _,_,I.lnew (t':=s.toks) (r.rep k.toNat) (by rw[Cz,Qb];exact hz),rfl,q _ I.fresh]
end L2
namespace Att
open PySem PySem.W PySem.Calls PyProof.Rows
def JS :∀(ns:List Int) (vs:vV_),WellAll P h vs (ns.map WData.int)->IntsAre vs ns:=by
 intro ns;induction ns with
 |nil=>
  intro vs w;rw[NX] at w;cases w;exact .nil
 |cons n ns J=>
  intro vs w;rw[Mo] at w;cases w with
  |cons a b=>
   cases a;exact .cons _ _ (J _ b)
def DX {l:OpenLaw}{n:Nat}(hn:l.most=some n) {J:vV_}
  (U:l.row.toRowW.claim.pre args=true) (hwl:WellAll P h J args) :
  ∃a vs ns,J=[Value.ref a]/\args=[WData.list (ns.map WData.int)]/\h.get? a=some { cls:=.type "list",data:=.seq vs.toArray }/\IntsAre vs ns/\ns.length<=n:=by
 have hsh:WShape.hasAll [] args [.list .int]=true:=(pre_splitW U).1;have hc:l.pre.holds [] { args:=args }=true:=(pre_splitW U).2;obtain⟨d,r,rfl,h1,h2⟩:=hasAllW_cons hsh;obtain rfl:=hasAllW_nil h2;obtain⟨xs,rfl,h3⟩:=hasW_list h1;obtain⟨ns,rfl⟩:=items_int h3;have Y:ns.length<=n:=by
  unfold OpenLaw.pre at hc;have h4:(WTm.not (.lt (.lit (.int (n:Int))) (.len (.arg 0)))).holds [] { args:=[.list (ns.map .int)] }=true:=by
   have h4:=(holds_andW hc).1;rw[hn] at h4;exact h4
  have h5:=condW_of h4 (w_not (w_lt w_lit (w_len_list (w_arg rfl))));rw[Mj] at h5;refine Qc fun q=>?_
  have q':(n:Int)<((ns.length:Nat):Int):=by omega
  first
   | (rw[MA q'] at h5;exact absurd h5 #[])
   | (simp at h5;omega)
 cases hwl with
 |cons w1 w2=>
  cases w2;cases w1 with
  |list ho Z=>exact#[_,_,ns,rfl,rfl,ho,JS ns _ Z,Y]
def Gi (l:OpenLaw) (args:List WData):l.row.toRowW.claim.post args (.bool true) args=true:=
 postW_of (r:=l.row.toRowW) (X:=(true == true))
  (show WShape.has [] (.bool true) .bool=true by first | rfl | decide | simp[WShape.has,WShape.arms,WShape.armsAll])
  (show (WTm.eq .res (.lit (.bool true))).value [] { args:=args,res:=some (.bool true),after:=args }=some (.bool (true == true)) from w_eq_bool (w_res rfl) w_lit) rfl
def attach_call {l:OpenLaw}{n:Nat}{loose:List Str}{XP:(Str->Option Value)->Heap->Prop}{YP:World->Heap->Prop}{d:DefRec}
  (hn:l.most=some n) (hdf:d.params.defaults=[])
  (call:∀(w:World) (s₀ s₁:Shared) (mg mb:vG_) (fa:Addr) (o:Obj) (pm cd doc:Value) (a:Addr) (vs:vV_) (ns:List Int),
   Ground q loose [] XP w s₀ mg mb s₁.heap->YP w s₁.heap ->
   s₁.heap.get? fa=some o->o.data = .func (docDef d.name d.params d.body d.scope pm cd doc)->s₁.heap.CodeRec cd d.name->mg d.name=some (.ref fa) ->
   s₁.heap.get? a=some { cls:=.type "list",data:=.seq vs.toArray }->IntsAre vs ns->ns.length<=n->s₁.gens = #v[] ->
   codeAny (model l.prog w) callerA (.call (.ref fa) #[[.ref a],[]]) (fun r s'=>r = .ok (.ret (.bool true))/\OldK s₁.heap s'.heap/\s'.os=s₁.os/\AllBare s'.gens) s₁) :
  WalkO q loose XP YP l.row.toRowW d [] (fun f vs=>PySem.call f vs):=by
 intro w s₀ s₁ mg mb G Y fa o pm cd doc dV kV ho hd hcd hD hmg hg args vals as hpre hlay hrd hwl hlo;obtain rfl:dV = .none:=Dflts.none hD hdf;obtain rfl:kV = .none:=Dflts.noKw hD;obtain⟨a,vs,ns,rfl,rfl,Z,J,U⟩:=DX hn hpre hwl;refine enter_call (Pe (call w s₀ s₁ mg mb fa o pm cd doc a vs ns G Y ho (fd_plain hd) hcd hmg Z J U hg) fun r s' hq=>?_);obtain⟨rfl,h2,h3,h4⟩:=hq;exact#[.inl #[.bool true,.bool true,[],rfl,fun _=>rfl,.bool true,Gi l _,fun _=>#[List.Pairwise.nil,fun _ hm=>(nomatch hm)]],h2,h3,h4]
end Att
namespace L2
open PySem PySem.Spec PyProof.Rows
theorem vZ:∀{vs:vV_}{ns:List Int},IntsAre vs ns->Vals (ns.map V.int) vs
 |_,_,.nil=>.nil
 |_,_,.cons n t h=>.cons #[t,rfl] (vZ h)
def oi (H:Hp):Prop:=∀b,H b=none\/∃o xs,H b=some (.frz o (.lst xs))
def HD {w:World}{K:vF_}{mg mb:vG_}{CX:T7}{k:Nat}{fa a:Addr}{fd:FuncData}{x:Str}{sp:Sp}{J:Shared}{vs:vV_}{ns:List Int}
  (KX:K.In J.heap) (hns:J.heap.Ns mainGlobals mg) (Y:J.heap.Ns builtinsNs mb) (hbb:∀x:Str,x ≠ "__name__" -> mb x=bootBuiltins x) (hlim:J.heap.NoLimit) (hg:J.gens = #v[])
  (ha:J.heap.get? a=some { cls:=.type "list",data:=.seq vs.toArray }) (hi:IntsAre vs ns) (hl:ns.length<=sizeLine) (hr:Room k callerA)
  (F:∀base:Heap,K.In base->base.Ns mainGlobals mg->FnOk P w K mg base CX k fa fd [x] sp) (hbind:∀(s:Shared) (u:Value),BindsTo s fd #[[u],[]] [(x,u)])
  (hsp:∀H:Hp,oi H->SqL K H a (ns.map V.int)->sp [.ref a] H (fun v _=>v = .bl true) fun _ _ _=>False)
  (hCX:∀H e s',CX [] H J (fun _ _ _=>False) e s'->False) :
  codeAny (model P w) callerA (.call (.ref fa) #[[.ref a],[]]) (fun r s'=>r = .ok (.ret (.bool true))/\OldK J.heap s'.heap/\s'.os=J.os/\AllBare s'.gens) J:=by
 have rv:=vZ hi;have lenV:=hi.length;have fK:∀H:Hp,oi H->SqL K H a (ns.map V.int)->HOk P w H J.heap->(∀b,H b≠none->b=a)->(H a≠none->K.lookup a=none) ->
   codeAny (model P w) callerA (.call (.ref fa) #[[.ref a],[]]) (fun r s'=>r = .ok (.ret (.bool true))/\OldK J.heap s'.heap/\s'.os=J.os/\AllBare s'.gens) J:=by
  intro H hO hS hok hA hK;have U:∀{b:Addr}{o:Obj},J.heap.get? b=some o->H b=none->(aD J.heap H).get? b=some o:=fun e n=>Ew e n
  have noA:∀{b:Addr}{o:Obj}{es:Array DictEntry}{ep:Nat},J.heap.get? b=some o->o.data = .dict es ep->H b=none:=fun {b o es ep} e d=>by
   cases q:H b with
   |none=>rfl
   |some u=>
    have e':b=a:=hA b (by rw[q];simp);subst e';rw[ha] at e;cases e;have d':Data.seq vs.toArray _=Data.dict es ep:=d;cases d'
  have Z:∀{b:Addr}{m:vG_},J.heap.Ns b m->(aD J.heap H).Ns b m:=fun {b m} ⟨o,es,ep,e,d,r⟩=>#[o,es,ep,U e (noA e d),d,r]
  have hKb:K.In (aD J.heap H):=fun b o e=>U (KX b o e) (by
   cases q:H b with
   |none=>rfl
   |some u=>
    have e':b=a:=hA b (by rw[q];simp);subst e';rw[hK (by rw[q];simp)] at e;cases e)
  have hM:Mod K mg (aD J.heap H):=#[hKb,Z hns,#[mb,Z Y,hbb],let ⟨mc,h1,h2⟩:=hlim;#[mc,Z h1,h2]]
  have e0:Env0 P w K mg (aD J.heap H) callerA [] J H:=#[rfl,hM,fun b o e=>EE e,Qd (FW _ _),trivial,fun b Y=>absurd (show b∈([]:vL_) from Y) (by simp),hok,.of_eq hg]
  refine Pe ((F _ hKb (Z hns)).run callerA [] J H #[[.ref a],[]] [.ref a] [.ref a] _ _ hr e0 (hbind J (.ref a)) (.cons rfl .nil) (hsp H hO hS)) fun r s' h=>?_
  cases r with
  |error e=>exact(hCX H e s' h).elim
  |ok fl=>
   cases fl with
   |next=>exact False.elim h
   |brk=>exact False.elim h
   |cont=>exact False.elim h
   |ret u=>
    obtain⟨v,H',os,bare,un,hok',r',q⟩:=h;have q':v = .bl true:=q;subst q';obtain rfl:u=Value.bool true:=r';refine#[rfl,OldK.of_keep fun b o e=>?_,os,bare];cases q:H b with
    |none=>exact un.keep b o e q (by intro z;exact absurd (show b∈([]:vL_) from z) (by simp)) (by simp)
    |some u=>
     rcases hO b with z | ⟨ob,xs,z⟩
     .rw[q] at z;cases z
     .have z2:=un.frzs b ob _ z;obtain⟨e1,_⟩:=hok b _ z;obtain⟨e2,_⟩:=hok' b _ z2;rw[e] at e1;cases e1;exact e2
 cases hk:K.lookup a with
 |some o=>
  have e:=KX a o hk;rw[ha] at e;cases e;refine fK (fun _=>none) (fun _=>.inl rfl) (.inr #[_,vs.toArray,_,hk,rfl,rfl,rfl,by rw[Mv,lenV];exact hl,by simpa using rv]) (fun b u z=>by have z':(none:Option HO)=some u:=z;cases z') (fun b z=>absurd rfl z) fun z=>absurd rfl z
 |none=>
  refine fK (fun b=>if b=a then some (.frz { cls:=.type "list",data:=.seq vs.toArray } (.lst (ns.map V.int))) else none) (fun b=>?_) (.inl (.inr #[{ cls:=.type "list",data:=.seq vs.toArray },iO rfl])) (fun b u z=>?_) (fun b z=>?_) fun _=>hk
  .by_cases Y:b=a
   .exact .inr #[_,_,iO Y]
   .exact .inl (iR Y)
  .by_cases Y:b=a
   .have z':=(iO Y).symm.trans z;cases z';subst Y;exact#[ha,by rw[Mj];exact hl,vs,_,rv,ha]
   .have z':=(iR Y).symm.trans z;cases z'
  .by_cases Y:b=a
   .exact Y
   .exact absurd (iR Y) z
def walk_of {l:PySem.W.OpenLaw}{n:Nat}{d:DefRec}{K:Params->PySem.W.Frag}{CX:World->T7}{sp:World->Sp}
  (hn:l.most=some n) (hn2:n<=sizeLine) (hdf:d.params.defaults=[]) (hr:Room k callerA)
  (hY:∀(w:World) (h:Heap),YP w h->(K w.params).In h)
  (F:∀(w:World) (mg:vG_) (fa:Addr) (h:Heap),(K w.params).In h->h.Ns mainGlobals mg->mg d.name=some (.ref fa) ->
   ∃fd:FuncData,(∀(s:Shared) (u:Value),BindsTo s fd #[[u],[]] [(x,u)]) /\
    ∀base:Heap,(K w.params).In base->base.Ns mainGlobals mg->FnOk l.prog w (K w.params) mg base (CX w) k fa fd [x] (sp w))
  (hsp:∀(w:World) (H:Hp) (a:Addr) (ns:List Int),ns.length<=n->oi H->SqL (K w.params) H a (ns.map V.int)->sp w [.ref a] H (fun v _=>v = .bl true) fun _ _ _=>False)
  (hCX:∀(w:World) (H:Hp) (s:Shared) (e:Value) (s':Shared),CX w [] H s (fun _ _ _=>False) e s'->False) :
  PySem.W.WalkO q loose XP YP l.row.toRowW d [] (fun f vs=>PySem.call f vs):=by
 refine Att.attach_call hn hdf fun w s₀ s₁ mg mb fa o pm cd doc a vs ns G Y ho hd hcd hmg Z U J hg=>?_
 have KX:=hY w _ Y;obtain⟨fd,hb,hF⟩:=F w mg fa _ KX G.T.g hmg;exact HD KX G.T.g G.T.b G.T.builtins G.T.nolimit hg Z U (Mm J hn2) hr hF hb (fun H hO hS=>hsp w H a ns J hO hS) fun H e s'=>hCX w H s₁ e s'
def X8 (s:Stmt):Arguments:=match s with
 |.FunctionDef _ a _ _ _ _ _ _ _ _=>a
 |_=>{ posonlyargs:=[],args:=[],vararg:=none,kwonlyargs:=[],kw_defaults:=[],kwarg:=none,defaults:=[] }
def O6 (s:Stmt):List Stmt:=match s with
 |.FunctionDef _ _ b _ _ _ _ _ _ _=>b
 |_=>[]
def B8 (s:Stmt):Scope:=match s with
 |.FunctionDef _ _ _ _ _ _ sc _ _ _=>sc
 |_=>{ kind:=.function,names:=[],isGenerator:=false,isCoroutine:=false }
abbrev W3:T7:=fun _ _ _ _ _ _=>False
abbrev E0:XK:=fun _ _ _=>False
def JN :oa W3 X E0:=fun _ _ _ _ _ _ _ h=>h.elim
structure Fun (K:vF_) (x qual:Str) (st:Stmt) (f:Addr) (fd:FuncData):Prop where
 ex:∃(oc:Value) (od:vA_) (kV doc pm:Value) (an:vA_) (cdv ct:Value) (osl:vS_),
  fd=PySem.W.fnOf x qual (X8 st) (O6 st) (B8 st) .none kV doc pm an cdv ct/\K.lookup f=some #[oc,od,.func fd,osl]/\PySem.W.codeIn K cdv qual=true
 kp:PySem.W.keepIn K (.ref f)=true
section
variable {P:Program}{w:World}
def Fun.ok {x qual:Str}{st:Stmt}{fd:FuncData}{N ps:List Str}{k:Nat}{sp:Sp}(F:Fun K x qual st f fd) (S:FnScope N ps (B8 st)) (Y:∀vs H Q E,sp vs H Q E->vs.length=ps.length)
  (J:∀(cdv:Value) (A:Around) (outer:List Env) (s:Shared) (H:Hp) (vs:List V) (Q:VK) (E:XK),Room k (A.deeper (envOfC qual (B8 st) s.heap.objs.size f cdv))->sp vs H Q E ->
   ∃t,PSs (P5 W3 P w K mg base N qual (B8 st) f cdv A outer s H E).nox (O6 st) t/\t { nx:=fun _ H'=>Q .non H',rt:=Q } (start N vs) H):FnOk P w K mg base W3 (k+1) f fd ps sp:=by
 obtain⟨oc,od,kV,doc,pm,an,cdv,ct,osl,rfl,lk,U⟩:=F.ex;refine rB lk U S Y fun A outer s H vs Q E hr Z=>?_
 obtain⟨t,h,q⟩:=J cdv A outer s H vs Q E hr Z;exact#[t,h.nox,q]
def Fun.binds {ps:List Str}(F:Fun K x qual st f fd)
  (h:∀(kV doc pm:Value) (an:vA_) (cdv ct:Value) (us:vV_),us.length=ps.length->bindArgs (PySem.W.fnOf x qual (X8 st) (O6 st) (B8 st) .none kV doc pm an cdv ct) #[us,[]]=pure (ps.zip us)):Binds K fd ps []:=by
 obtain⟨oc,od,kV,doc,pm,an,cdv,ct,osl,rfl,U,J⟩:=F.ex;exact .all (h kV doc pm an cdv ct)
def Hv {kV doc pm ct:Value}(l:K.lookup f=some #[oc,od,.func (PySem.W.fnOf x qual (X8 st) (O6 st) (B8 st) .none kV doc pm an cdv ct),osl])
  (c:PySem.W.codeIn K cdv qual=true) (k:PySem.W.keepIn K (.ref f)=true):Fun K x qual st f (PySem.W.fnOf x qual (X8 st) (O6 st) (B8 st) .none kV doc pm an cdv ct):=#[#[oc,od,kV,doc,pm,an,cdv,ct,osl,rfl,l,c],k]
end
def pv (i:Nat) {x:Str}{pos:Pos}(Y:X.N[i]? = some x:=by rfl) (U:oZ X.env.scope x:=by first | exact Or.inl rfl | exact Or.inr (Or.inl rfl) | exact Or.inr (Or.inr rfl)) (Z:(x == ("__debug__" : Str))=false:=by decide)
  (J:(x == ("__classdict__" : Str))=false:=by decide):PE X (.Name x pos) (au i):=JP Y U Z J
def qj {A B:Prop}(h:B):if false=true then A else B:=by
 rw[iR Mk];exact h
def xI {A B:Prop}(h:A):if true=true then A else B:=by
 rw[iO rfl];exact h
def B6 (X:Cx) (N':List Str) (scope:Scope) (cl:List (Str × Addr)) (C:Addr) (s0:Shared) (H0:Hp) (ex:vL_):Cx:=
 { X with N:=N',env:=compEnvC scope cl C X.env,s₀:=s0,H₀:=H0,outer:=X.stack,stack:=X.stack,ex:=ex,fn:=fun _=>false,pn:=[],xe:=fun _ _=>False }
def dZ (X:Cx) (ifs:List Expr) (t:TT):Prop:=
 ∀(pins:vP_) (s:Shared) (σ:St) (H:Hp) (Q:Bool->Hp->Prop),Inv X pins σ H s->t σ H Q ->
  wpAny (model X.prog X.w) X.A (forIn ifs true fun c r=>if r=true then do let ok <-isTrue c X.env (eval c X.env);pure (ForInStep.yield ok) else pure (ForInStep.yield r)) (TP X pins σ Q) X.xe s
def AH:TT:=fun _ H Q=>Q true H
def Hs :dZ X [] AH:=fun pins s σ H Q I h=>wpAny_tests_nil #[H,I,h]
def HI {c:Expr}{t:TT}(h:PT X c t):dZ X [c] t:=fun pins s σ H Q I q=>wpAny_tests_one (h pins s σ H Q I q)
def K2 (n:Nat) (idx:List Nat) (σ:St):St:=List.replicate n none++idx.map fun i=>(σ[i]?).join
def eA (n:Nat) (idx:List Nat) (wi:TI) (g:TG) (tc:TT) (te:TE):TE:=fun σ H Q=>wi σ H fun J H1=>∀D,H1 D=none ->
 ∃W:Nat->Nat->Hp->Prop,(∃m,W 0 m (k9 H1 D (.lst [])))/\∀i m H,W i m H ->
  (J.stop i H/\Q (.ref D) H)\/(J.go i H/\∀x H',J.yld i H x H'->g x (K2 n idx σ) H' fun σ2 H2=>(σ2.length=(K2 n idx σ).length/\∀(j:Nat) (v:V),(K2 n idx σ)[j]? = some (some v)->σ2[j]? = some (some v))/\tc σ2 H2 fun b U=>
   if b=true then te σ2 U fun v Y=>∃ys,Y D=some (.lst ys)/\ys.length<sizeLine/\∃m',m'<m/\W (i+1) m' (k9 Y D (.lst (ys++[v]))) else ∃m',m'<m/\W (i+1) m' U)
structure CompOk (X:Cx) (scope:Scope) (cl:List (Str × Addr)) (N':List Str) (n:Nat) (idx:List Nat):Prop where
 clos:closureFor scope X.env=pure cl
 sub:∀x c,cl.lookup x=some c->X.env.cells.lookup x=some c
 cell:∀y∈scope.names,y.2 ≠ .cell
 kind:scope.kind = .function
 names:∀y∈scope.names,y.2 = .local->scope.names.lookup y.1=some .local
 has:∀x,((relabel scope X.env).names.lookup x=some .cell\/(relabel scope X.env).names.lookup x=some .free)->∃c,cl.lookup x=some c
 len:N'.length=n+idx.length
 cap:∀(j i:Nat) (y:Str),idx[j]? = some i->N'[n+j]? = some y->X.N[i]? = some y/\(X.env.scope.names.lookup y=some .cell\/X.env.scope.names.lookup y=some .free)/\((relabel scope X.env).names.lookup y=some .cell\/(relabel scope X.env).names.lookup y=some .free)
section
variable {n:Nat}{pos:Pos}{wi:TI}{g:TG}
def EU (σ:St):(K2 n idx σ).length=n+idx.length:=by simp[K2]
def HJ {v:V}(h:(K2 n idx σ)[j]? = some (some v)):∃k i,j=n+k/\idx[k]? = some i/\σ[i]? = some (some v):=by
 unfold K2 at h;by_cases J:j<n
 .rw[NK (by simpa using J)] at h;simp[J] at h
 .rw[NJ (by simpa using Qc J)] at h;simp only[RC,Nq] at h;refine#[j - n,?_];cases e:idx[j - n]? with
  |none=>rw[e] at h;simp at h
  |some i=>
   rw[e] at h;simp only[Qe,MP] at h;exact#[i,by omega,rfl,by simpa using Option.join_eq_some_iff.mp h]
def ET (k:CompOk X scope cl N' n idx) {pins:vP_}{s2:Shared}{fp:vL_}{h4:Heap}{t4:Nat}{m:vG_}(I:Inv X pins σ H2 s2) (f:∀b∈fp,Q4 X pins H2 b) (fo:∀b∈fp,b<s2.heap.objs.size)
  (hC:s2.heap.objs.size+1<=C) (ns:h4.Ns C m) (U:∀b o,s2.heap.get? b=some o->h4.get? b=some o) (hD:h4.get? s2.heap.objs.size=some { cls:=.type "list",data:=.seq ([]:vV_).toArray }) :
  Inv (B6 X N' scope cl C s2 H2 fp) [] (K2 n idx σ) (k9 H2 s2.heap.objs.size (.lst [])) { s2 with heap:=h4,toks:=t4 }:=by
 have fresh:H2 s2.heap.objs.size=none:=I.hok.fresh (tx _);have fC:H2 C=none:=I.hok.fresh ∅;have J:∀x c,(B6 X N' scope cl C s2 H2 fp).env.cells.lookup x=some c->X.env.cells.lookup x=some c:=fun x c e=>k.sub x c e
 have Z:∀x c,X.env.cells.lookup x=some c->c<s2.heap.objs.size:=fun x c e=>by
  obtain⟨v,q⟩:=I.cell x c e;exact q.lt
 have ok:(B6 X N' scope cl C s2 H2 fp).Ok:={
  mod:=I.ok.mod
  kind:=k.kind
  glob:=I.ok.glob
  blt:=I.ok.blt
  above:=by show s2.heap.objs.size<=C;omega
  inj:=fun x y c e1 e2=>I.ok.inj x y c (J x c e1) (J y c e2)
  has:=fun x h=>k.has x h
  cab:=fun x c h _=>by cases h
  hd:=I.ok.hd
  frames:=I.ok.frames
  stk:=.inl rfl
  exf:=fun b hb=>#[MJ (Mu (fo b hb) (by show s2.heap.objs.size<=C;omega)),fun x c e z=>(f b hb).2.2.2.2.1 x c (J x c e) z]
  bs:=fun b o e=>I.bs b o e
  bsz:=Mm I.ok.bsz I.sz
  noex:=fun b o e hb=>by
   rcases(f b hb).2.2.2.1 with z | z
   .exact I.ok.noex b o e z
   .exact absurd (Mu (xu e) (Mm I.ok.bsz z)) (Ni _)
  exfs:=fun b hb z=>by
   rcases xo.mp (I.stkSub b z) with y | y
   .exact(f b hb).2.1 y
   .exact(f b hb).2.2.1 y
  funs:=I.stack
  frf:=I.stkFree }
 refine#[ok,rfl,I.bare,Un.laid U (tx _) fresh,#[m,ns,fun j y v e1 e2 e3=>?_],fun x c e=>?_,?_,fun x c e=>?_,fun p hp=>(by cases hp),I.hok.laid U (tx _) #[MY _,[],_,.nil,hD],?_]
 .obtain⟨kk,i,rfl,hk,hv⟩:=HJ e2;obtain⟨hN,ok,Y⟩:=k.cap kk i y hk e1;obtain⟨c,hc⟩:=k.has y Y;obtain⟨m0,_,hl⟩:=I.loc;have hc':=k.sub y c hc;obtain⟨u,r,l⟩:=hl i y v hN hv (by rcases ok with z | z;exact .inr (.inl z);exact .inr (.inr z));refine#[u,r,.inr #[Y,c,hc,?_]];rcases l with ⟨z,_⟩ | ⟨_,c',e',q⟩
  .have z':X.env.scope.names.lookup y=some .local:=z;rcases ok with w | w <;> · rw[w] at z';cases z'
  .rw[hc'] at e';cases e';obtain⟨o,ho,hd⟩:=q;exact#[o,U _ o ho,hd]
 .obtain⟨v,q⟩:=I.cell x c (J x c e);obtain⟨o,ho,hd⟩:=q;exact#[v,o,U c o ho,hd]
 .show k9 H2 s2.heap.objs.size (.lst []) C=none;rw[t7 (Nd hC)];exact fC
 .have:=Z x c (J x c e);rw[t7 (MJ this)];exact I.freeC x c (J x c e)
 .rw[EU,<-k.len];rfl
def FH {w:World}{R:Result->Shared->Prop}{pos:Pos}{it J:Value}(I:Nat->Shared->Prop)
  (U:∀n s,I n s->wpAny (model prog w) A (pyNext it) (fun r s1=>match r with
   |none=>R (.ok .next) s1
   |some v=>wpAny (model prog w) A (letOwnedTupleGo target it v) (fun _ s1'=>wpAny (model prog w) A (assign target env v) (fun _ s2=>
     wpAny (model prog w) A (forIn ifs true fun c r=>if r=true then do let ok <-isTrue c env (eval c env);pure (ForInStep.yield ok) else pure (ForInStep.yield r)) (fun ok s3=>
      if ok=true then wpAny (model prog w) A (eval elt env) (fun x s4=>
       wpAny (model prog w) A (call (.builtin "list.append") [J,x]) (fun _ s5=>∃m,m<n/\I m s5) (notedBy (model prog w) A env fun e s'=>R (.error e) s') s4) (notedBy (model prog w) A env fun e s'=>R (.error e) s') s3
      else ∃m,m<n/\I m s3) (notedBy (model prog w) A env fun e s'=>R (.error e) s') s2) (notedBy (model prog w) A env fun e s'=>R (.error e) s') s1') (notedBy (model prog w) A env fun e s'=>R (.error e) s') s1) (notedBy (model prog w) A env fun e s'=>R (.error e) s') s)
  (n:Nat) (h:I n s) :
  codeAny (model prog w) A (.compLoop (.ListComp elt [#[target,iter,ifs,0]] scope pos) 0 it J env) R s:=by
 refine codeAny_loop rfl I (fun n s hI=>?_) n h;show wpAny _ A ((compTurn (.ListComp elt [#[target,iter,ifs,0]] scope pos) 0 it J env).onRaise (fun x=>do noteFrame x env;theTreesLotGoes x)) _ _ s;refine wpAny_noted ?_;rw[compTurn_list];refine gV (OG (gV (MG (U n s hI) (fun r s₁ Z=>?_) fun _ _ h'=>h')));cases r with
 |none=>exact iU Z
 |some v=>
  refine gV (MG Z (fun _ s1' Y=>?_) fun _ _ h'=>h');refine gV (MG Y (fun _ s₂ h₂=>gV (MG h₂ (fun ok s₃ h₃=>?_) fun _ _ h'=>h')) fun _ _ h'=>h');cases ok with
  |false=>exact iU #[rfl,h₃]
  |true=>
   exact gV (gV (MG h₃ (fun x s₄ h₄=>gV (MG h₄ (fun _ s₅ h₅=>iU (iU #[rfl,h₅])) fun _ _ h'=>h')) fun _ _ h'=>h'))
end
section
variable {n:Nat}{pos:Pos}{wi:TI}{g:TG}
def yA {use:Option (Value->Sem Unit)}{Q':vQ_}(hc:X.calm=true) (k:CompOk X scope cl N' n idx) (hi:PI X tg iter wi)
  (hg:∀C s0 H0 ex,PG (B6 X N' scope cl C s0 H0 ex) tg g) (ht:∀C s0 H0 ex,dZ (B6 X N' scope cl C s0 H0 ex) ifs tc) (he:∀C s0 H0 ex,PE (B6 X N' scope cl C s0 H0 ex) elt te)
  (hs:∀x,foldedSetIterable iter X.env x=pure x) {Q:VK}(I0:Inv X pins σ H s) (h:eA n idx wi g tc te σ H Q)
  (last:∀(C D:Addr) (s':Shared) (H':Hp) (m:vG_),Inv X pins σ H' s'->Q4 X pins H' C->s'.heap.Ns C m->Q (.ref D) H'->compPost (model X.prog X.w) X.A X.xe use Q' (.ref D) C (.ok .next) s') :
  wpAny (model X.prog X.w) X.A (comprehension (.ListComp elt [#[tg,iter,ifs,0]] scope pos) scope X.env pos2 (newList []) false (eval iter X.env) use) Q' X.xe s:=by
 refine wpAny_comprehension_free (use:=use) rfl hs k.clos k.kind k.names (u6 (hi pins s σ H _ I0 h) fun v s1 h1=>u6 h1 fun itv s2 h2=>?_);obtain⟨it,fp,tn,J,H2,e,I2,T,st2,f2,hW⟩:=h2;subst e;have fo2:∀b∈fp,b<s2.heap.objs.size:=fun b U=>by
  obtain⟨o,e,_⟩:=T.obj _ _ st2 b U;exact xu e
 obtain⟨W,⟨m0,w0⟩,turn⟩:=hW s2.heap.objs.size (I2.hok.fresh (tx _));refine Nn (wpAny_newFunctionEnv k.cell (by intro y hy;simp at hy) (fun h4 hns4 Z=>?_) k.kind)
 dsimp only at hns4 Z ⊢
 generalize hH3:s2.heap.push { cls:=.type "list",dict:=none,data:=.seq ([]:vV_).toArray }=h3 at hns4 Z ⊢;have hCe:h3.objs.size=s2.heap.objs.size+1:=by rw[<-hH3,NY]
 have k34:∀b o,b≠h3.objs.size->h3.get? b=some o->h4.get? b=some o:=fun b o nb e=>Z.extBut b o nb (Mg _ e)
 have keep:∀b o,s2.heap.get? b=some o->h4.get? b=some o:=fun b o e=>k34 b o (MJ (by rw[hCe];exact Nat.lt_succ_of_lt (xu e))) (by rw[<-hH3];exact Mg _ e)
 have hD:h4.get? s2.heap.objs.size=some { cls:=.type "list",data:=.seq ([]:vV_).toArray }:=k34 _ _ (MJ (by rw[hCe];exact Nat.lt_succ_self _)) (by rw[<-hH3];exact MN _ rfl);have I4:=ET k I2 f2 fo2 (Qd hCe.symm) hns4 keep hD (t4:=s2.toks+([]:List (Str × Value)).length);have Y:∀{H':Hp},(∀b∈fp,H' b=none)->∀b∈fp,Q4 (B6 X N' scope cl h3.objs.size s2 H2 fp) [] H' b:=fun hn b U=>
  #[hn b U,MJ (by rw[hCe];exact Nat.lt_succ_of_lt (fo2 b U)),fun z=>(xo.mp (I2.stkSub b z)).elim (f2 b U).2.1 (f2 b U).2.2.1,.inl U,fun x c e=>(f2 b U).2.2.2.2.1 x c (k.sub x c e),fun p hp=>(by cases hp)]
 have fr4:∀b∈fp,k9 H2 s2.heap.objs.size (.lst []) b=none:=fun b U=>by rw[t7 (MJ (fo2 b U))];exact(f2 b U).1
 have fin:∀(s':Shared) (H':Hp),Inv (B6 X N' scope cl h3.objs.size s2 H2 fp) [] (K2 n idx σ) H' s'->Q (.ref s2.heap.objs.size) H' ->
   compPost (model X.prog X.w) X.A X.xe use Q' (.ref s2.heap.objs.size) h3.objs.size (.ok .next) s':=fun s' H' I' q=>by
  obtain⟨m',hn',_⟩:=I'.loc;have B:=I'.base;refine last _ _ s' H' m' ?_ (I2.fpOk (by rw[hCe];exact Pj _) I'.free) hn' q;refine I2.call' (s':=s') (ch:=fp) (show s'.os=s2.os from I'.os) #[fun b o e nn U hx=>B.keep b o e nn U hx,fun b o e nn U hx=>B.slot b o e nn U hx,B.free,fun b o e hx=>B.there b o e hx,B.tups,B.frzs,B.tbls] I'.hok I'.bare fun b U=>?_
  obtain⟨p1,p2,p3,p4,p5,p6⟩:=f2 b U;exact#[p4,p2,p5,p6]
 have loop:∀s4:Shared,s4={ s2 with heap:=h4,toks:=s2.toks+([]:List (Str × Value)).length } ->
   codeAny (model X.prog X.w) X.A (.compLoop (.ListComp elt [#[tg,iter,ifs,0]] scope pos) 0 (.ref it) (.ref s2.heap.objs.size) (compEnvC scope cl h3.objs.size X.env)) (compPost (model X.prog X.w) X.A X.xe use Q' (.ref s2.heap.objs.size) h3.objs.size) s4:=by
  rintro s4 rfl;refine FH (fun m s'=>∃i H',Inv (B6 X N' scope cl h3.objs.size s2 H2 fp) [] (K2 n idx σ) H' s'/\tn i s'.heap/\(∀b∈fp,H' b=none)/\W i m H') ?_ m0 #[0,_,I4,T.keep _ _ _ st2 (fun b _ o e=>keep b o e),fr4,w0];rintro m s3 ⟨i,H3,I3,st3,fr3,w3⟩;rcases turn i m H3 w3 with ⟨stop,q⟩ | ⟨go,step⟩
  .refine MG (T.done (B6 X N' scope cl h3.objs.size s2 H2 fp) rfl rfl rfl hc i [] s3 _ H3 (fun _ _=>False) I3 (Y fr3) st3 stop) (fun r s5 ⟨hr,I5⟩=>?_) fun _ _ z=>z.elim
   subst hr;exact fin s5 H3 I5 q
  .refine MG (T.item (B6 X N' scope cl h3.objs.size s2 H2 fp) rfl rfl rfl hc i [] s3 _ H3 (fun _ _=>False) I3 (Y fr3) st3 go) (fun r s5 ⟨u,hr,h5⟩=>?_) fun _ _ z=>z.elim
   subst hr;refine MG h5 (fun _ s6 ⟨x,H6,I6,r6,y6,st6,fr6⟩=>?_) fun _ _ z=>z.elim
   have I6':=I6.pinned (Y fr6) (T.obj _ _ st6);have again:∀{σ7:St}{H7:Hp}{s7:Shared},Inv (B6 X N' scope cl h3.objs.size s2 H2 fp) ([]++fP fp s6.heap) σ7 H7 s7->σ7.length=(K2 n idx σ).length->(∀(j:Nat) v,(K2 n idx σ)[j]? = some (some v)->σ7[j]? = some (some v))->(∃m',m'<m/\W (i+1) m' H7) ->
     ∃m',m'<m/\∃i H',Inv (B6 X N' scope cl h3.objs.size s2 H2 fp) [] (K2 n idx σ) H' s7/\tn i s7.heap/\(∀b∈fp,H' b=none)/\W i m' H':=fun {σ7 H7 s7} I7 hl hw ⟨m',hm,w7⟩=>by
    refine#[m',hm,i+1,H7,(I7.unpinned).weak hl.symm hw,T.keep _ _ _ st6 fun b U o e=>(I7.pin (b,o) (MO _ (MO _ (eZ U e)))).1,fun b U=>?_,w7];obtain⟨o,e,d⟩:=T.obj _ _ st6 b U;exact(I7.pin (b,o) (MO _ (MO _ (eZ U e)))).2.1
   refine MG (hg _ _ _ _ _ s6 _ H6 x u _ I6' r6 (step x H6 y6)) (fun _ s7 ⟨σ7,H7,I7,⟨hl,hw⟩,q7⟩=>?_) fun _ _ z=>z.elim
   refine MG (ht _ _ _ _ _ s7 σ7 H7 _ I7 q7) (fun ok s8 ⟨H8,I8,q8⟩=>?_) fun _ _ z=>z.elim
   cases ok with
   |false=>
    rw[iR Mk] at q8 ⊢;exact again I8 hl hw q8
   |true=>
    rw[iO rfl] at q8 ⊢;refine MG (he _ _ _ _ _ s8 σ7 H8 _ I8 q8) (fun v9 s9 ⟨x9,H9,I9,r9,ys,e9,l9,q9⟩=>?_) fun _ _ z=>z.elim
    refine MG (va (X:=B6 X N' scope cl h3.objs.size s2 H2 fp) _ s9 σ7 H9 (.ref s2.heap.objs.size) [x9] (.ref s2.heap.objs.size) [v9] (fun _ H'=>H'=k9 H9 s2.heap.objs.size (.lst (ys++[x9]))) I9 rfl (.cons r9 .nil) #[s2.heap.objs.size,ys,x9,rfl,rfl,e9,l9,rfl]) (fun _ s10 ⟨_,H10,I10,_,e10⟩=>?_) fun _ _ z=>z.elim
    subst e10;exact again I10 hl hw q9
 exact codeAny_compStart_list (loop _ rfl) (T.self _ 0 _ _ _ (T.keep _ _ _ st2 (fun b _ o e=>keep b o e)) (loop _ rfl))
def Bq (hc:X.calm=true) (k:CompOk X scope cl N' n idx) (hi:PI X tg iter wi)
  (Z:∀C s0 H0 ex,PG (B6 X N' scope cl C s0 H0 ex) tg g) (ht:∀C s0 H0 ex,dZ (B6 X N' scope cl C s0 H0 ex) ifs tc) (Y:∀C s0 H0 ex,PE (B6 X N' scope cl C s0 H0 ex) elt te)
  (hs:∀x,foldedSetIterable iter X.env x=pure x:=by intro _;rfl):PE X (.ListComp elt [#[tg,iter,ifs,0]] scope pos) (eA n idx wi g tc te):=by
 intro pins s σ H Q I0 h;rw[eval_ListComp];refine yA (use:=none) (Q':=EP X pins σ Q) hc k hi Z ht Y hs I0 h ?_;intro C D' s' H' m IX J hn q;exact#[m,hn,fun h' U=>#[.ref D',H',IX.turned (t':=s'.toks) (it:=C) (h':=h') (fun b o nb e=>(U.2 b nb).trans e) J.1 J.2.1 J.2.2.2.1 J.2.2.2.2.1 J.2.2.2.2.2,rfl,q]]
def qg {i:Nat}{py J:Pos}(hN:X.N.Nodup) (hi':X.N[i]? = some y) (hx:Z4 X.env.scope y) (hc:X.calm=true) (k:CompOk X scope cl N' n idx) (hi:PI X tg iter wi)
  (hg:∀C s0 H0 ex,PG (B6 X N' scope cl C s0 H0 ex) tg g) (ht:∀C s0 H0 ex,dZ (B6 X N' scope cl C s0 H0 ex) ifs tc) (he:∀C s0 H0 ex,PE (B6 X N' scope cl C s0 H0 ex) elt te)
  (hs:∀x,foldedSetIterable iter X.env x=pure x:=by intro _;rfl) (Y:swapsWith (.ListComp elt [#[tg,iter,ifs,0]] scope pos) (some (.Name y py)) J.line X.env=pure true:=by rfl)
  (hf:X.fn y=true\/X.env.scope.names.lookup y=some .local:=by first | exact .inl rfl | exact .inr rfl | assumption) :
  PS X (.Assign [.Name y py] (.ListComp elt [#[tg,iter,ifs,0]] scope pos) J) (gC (eA n idx wi g tc te) (Z5 i)):=by
 intro pins s σ H D I h;rw[exec_Assign_Name_used _ _ _ _ Y];refine gV (OG (gV ?_));show wpAny _ X.A (do let _ <-comprehension (.ListComp elt [#[tg,iter,ifs,0]] scope pos) scope X.env _ (newList []) false (eval iter X.env) (some (assign (.Name y py) X.env))) _ _ s;refine gV (MG (yA (use:=some (assign (.Name y py) X.env)) (Q':=fun _ s'=>SP X pins D .next s') hc k hi hg ht he hs I h ?_) (fun _ s' hq=>iU (iU hq)) fun _ _ e=>e);intro C D' s' H' m IX U hn q;show wpAny _ X.A (assign (.Name y py) X.env (.ref D')) _ _ _;obtain⟨o,es,ep,ho,hd,hr⟩:=hn;have IP:=IX.pinned (fp:=[C]) (fun b hb=>by rw[Mq.mp hb];exact U) (fun b hb=>by rw[Mq.mp hb];exact#[o,ho,fun v z=>by rw[hd] at z;cases z]);refine MG (Z2 hN hi' hx hf _ s' σ H' (.ref D') (.ref D') D.nx IP rfl q) (fun _ Z ⟨σ2,H2,I2,q2⟩=>?_) fun _ _ e=>e
 have pn:=I2.pin (C,o) (MO _ (MO _ (eZ (Mq.mpr rfl) ho)));refine#[m,#[o,es,ep,pn.1,hd,hr],fun h' hsb=>#[σ2,H2,?_,q2]];have It:=I2.unpinned.turned (t':=Z.toks) (it:=C) (h':=h') (fun b o nb e=>(hsb.2 b nb).trans e) pn.2.1 U.2.1 U.2.2.2.1 U.2.2.2.2.1 U.2.2.2.2.2;exact It
end
end L2
namespace DL
open PySem PySem.Spec L2
def A1 {α β γ:Type}{o:Option (α × β)}{f:α × β->Option γ}{r:γ}(h:o.bind f=some r) (k:∀x y,o=some (x,y)->f (x,y)=some r->G):G:=by
 obtain⟨⟨x,y⟩,a,b⟩:=Oq.mp h;exact k x y a b
def Y6 {α γ:Type}{o:Option α}{f:α->Option γ}{r:γ}(h:o.bind f=some r) (k:∀x,o=some x->f x=some r->G):G:=by
 obtain⟨x,a,b⟩:=Oq.mp h;exact k x a b
def mapP {α β γ:Type}{o:Option (α × β)}{f:α × β->γ}{r:γ}(h:o.map f=some r) (k:∀x y,o=some (x,y)->f (x,y)=r->G):G:=by
 obtain⟨⟨x,y⟩,a,b⟩:=Qf.mp h;exact k x y a b
def S5 {α γ:Type}{o:Option α}{f:α->γ}{r:γ}(h:o.map f=some r) (k:∀x,o=some x->f x=r->G):G:=by
 obtain⟨x,a,b⟩:=Qf.mp h;exact k x a b
inductive D where
 | non | bl (b:Bool) | int (i:Int) | str (x:Str) | tup (ds:List D) | lst (ds:List D)
 | feed | scr (ns:List Int) | fn (x:Str) | exc (c:Str) (ds:List D)
variable {d y:D}{p':D->D->Option D}
abbrev vD_:=List D
variable {ds:vD_}
mutual
def D.py:D->PyData
 |.non=>.none
 |.bl b=>.bool b
 |.int i=>.int i
 |.str x=>.str x
 |.tup ds=>.tuple (D.pys ds)
 |.lst ds=>.list (D.pys ds)
 |.feed=>.none
 |.scr _=>.none
 |.fn _=>.none
 |.exc _ _=>.none
def D.pys:List D->List PyData
 |[]=>[]
 |d::r=>D.py d::D.pys r
end
mutual
def D.plain:D->Bool
 |.non=>true
 |.bl _=>true
 |.int _=>true
 |.str _=>true
 |.tup ds=>D.plains ds
 |.lst ds=>D.plains ds
 |.feed=>false
 |.scr _=>false
 |.fn _=>false
 |.exc _ _=>false
def D.plains:List D->Bool
 |[]=>true
 |d::r=>D.plain d&&D.plains r
end
structure FS where
 cells:List Int
 pos:Int
 left:Int
 turn:Int
 kind:Nat
abbrev vO_:=Option FS
variable {fs':vO_}
def M9 (c:Addr) (f:FS):List V:=if f.kind=1 then [V.ref c,V.int f.pos,V.int f.left] else [V.ref c,V.int f.pos,V.int f.left,V.int f.turn]
def ef (c:Addr) (f:FS):HO:=if f.kind=0 then .dK [(Sum.inr ("cells" : Str),V.ref c),(Sum.inr ("at" : Str),V.int f.pos),(Sum.inr ("left" : Str),V.int f.left),(Sum.inr ("turn" : Str),V.int f.turn)] else .lst (M9 c f)
def iX {c:Addr}{f:FS}(h:¬ f.kind=0):ef c f = .lst (M9 c f):=iR h
def Bm {c:Addr}(h:ef c f = .tup xs):False:=by unfold ef at h;split at h <;> cases h
def GS {c:Addr}{o:Obj}{u:HO}(h:ef c f = .frz o u):False:=by unfold ef at h;split at h <;> cases h
def FeedR (N:vB_) (H:Hp):Option Addr->Option FS->Prop
 |none,none=>True
 |some a,some f=>f.cells.length<=63/\∃c,H a=some (ef c f)/\¬ N c/\H c=some (.lst (f.cells.map V.int))
 |_,_=>False
def SqF (K:vF_) (H:Hp) (a:Addr) (xs:List V):Prop:=
 (∃o,H a=some (.frz o (.lst xs))) \/
  ∃(o:Obj) (its:vR_) (n:Nat),K.lookup a=some o/\o.cls = .type "list" /\ o.dict=none/\o.data = .seq its n/\its.size<=sizeLine/\Vals xs its.toList
def SqF.sq (h:SqF K H a xs):SqL K H a xs:=by
 rcases h with ⟨o,h⟩ | h
 .exact .inl (.inr #[o,h])
 .exact .inr h
def fnm:List Str:=["word", "at"]
def ExO (H:Hp) (a C:Addr) (xs:List V):Prop:=∃o,H a=some (.frz o (.own a))/\o.cls = .ref C/\(∃vs,o.data = .fields vs)/\xs.length<=2/\(xs=[]\/∃dx od,o.dict=some dx/\H dx=some (.frz od (.xd (fnm.zip xs))))
mutual
def Rep (K:vF_) (N:vB_) (fa:vA_) (H:Hp):D->V->Prop
 |.non,v=>v = .non
 |.bl b,v=>v = .bl b
 |.int i,v=>v = .int i
 |.str x,v=>v = .str x/\x.length<=sizeLine
 |.tup ds,v=>∃a xs,v = .ref a/\SqT K H a xs/\Reps K N fa H ds xs
 |.lst ds,v=>∃a xs,v = .ref a/\¬ N a/\H a=some (.lst xs)/\Reps K N fa H ds xs
 |.feed,v=>∃a,fa=some a/\v = .ref a
 |.scr ns,v=>ns.length<=63/\∃a,v = .ref a/\SqF K H a (ns.map V.int)
 |.fn x,v=>∃a,v = .ref a/\PySem.W.nsIn K mainGlobals x=some (some (.ref a))
 |.exc c ds,v=>∃a C xs,v = .ref a/\PySem.W.nsIn K mainGlobals c=some (some (.ref C))/\ExO H a C xs/\Reps K N fa H ds xs
def Reps (K:vF_) (N:vB_) (fa:vA_) (H:Hp):List D->List V->Prop
 |[],xs=>xs=[]
 |d::r,xs=>∃x ys,xs=x::ys/\Rep K N fa H d x/\Reps K N fa H r ys
end
def RepB (K:vF_) (N:vB_) (fa:vA_) (H:Hp):D->V->Prop
 |.lst ds,v=>∃a xs,v = .ref a/\fa≠some a/\H a=some (.lst xs)/\Reps K N fa H ds xs
 |d,v=>Rep K N fa H d v
def aJ (K:vF_) (N:vB_) (fa:vA_) (H:Hp):List D->List V->Prop
 |[],xs=>xs=[]
 |d::r,xs=>∃x ys,xs=x::ys/\RepB K N fa H d x/\aJ K N fa H r ys
def vQ (K:vF_) (H:Hp) (a:Addr):Sum (List V) (Obj × HO)->Prop
 |.inl xs=>SqF K H a xs
 |.inr p=>H a=some (.frz p.1 p.2)
structure Car (K:vF_) (N:vB_) (fa:vA_) (H:Hp) (N':vB_) (fa':vA_) (H':Hp):Prop where
 ls:∀b xs,¬ N b->H b=some (.lst xs)->H' b=some (.lst xs)/\¬ N' b
 tp:∀b xs,SqT K H b xs->SqT K H' b xs
 fz:∀b xs,vQ K H b xs->vQ K H' b xs
 fe:∀a,fa=some a->fa'=some a
section
variable {N':vB_}
def ExO.go (c:Car K N fa H N' fa' H') (h:ExO H a C xs):ExO H' a C xs:=by
 obtain⟨o,e,q,r,l,z⟩:=h;refine#[o,c.fz a (.inr (o,_)) e,q,r,l,z.imp id ?_];rintro⟨dx,od,y,w⟩;exact#[dx,od,y,c.fz dx (.inr (od,_)) w]
mutual
theorem Rep.go (c:Car K N fa H N' fa' H'):∀(d:D) (v:V),Rep K N fa H d v->Rep K N' fa' H' d v
 |.non,v,h=>by simpa only[Rep] using h
 |.bl b,v,h=>by simpa only[Rep] using h
 |.int i,v,h=>by simpa only[Rep] using h
 |.str x,v,h=>by simpa only[Rep] using h
 |.tup ds,v,h=>by
  simp only[Rep] at h ⊢;obtain⟨a,xs,e,q,r⟩:=h;exact#[a,xs,e,c.tp a xs q,Reps.go c ds xs r]
 |.lst ds,v,h=>by
  simp only[Rep] at h ⊢;obtain⟨a,xs,e,n,q,r⟩:=h;obtain⟨U,J⟩:=c.ls a xs n q;exact#[a,xs,e,J,U,Reps.go c ds xs r]
 |.feed,v,h=>by
  simp only[Rep] at h ⊢;obtain⟨a,e,q⟩:=h;exact#[a,c.fe a e,q]
 |.scr ns,v,h=>by
  simp only[Rep] at h ⊢;obtain⟨l,a,e,q⟩:=h;exact#[l,a,e,c.fz a (.inl _) q]
 |.fn x,v,h=>by simpa only[Rep] using h
 |.exc x ds,v,h=>by
  simp only[Rep] at h ⊢;obtain⟨a,C,xs,e,n,q,r⟩:=h;exact#[a,C,xs,e,n,q.go c,Reps.go c ds xs r]
theorem Reps.go (c:Car K N fa H N' fa' H'):∀(ds:vD_) (xs:List V),Reps K N fa H ds xs->Reps K N' fa' H' ds xs
 |[],xs,h=>by simpa only[Reps] using h
 |d::r,xs,h=>by
  simp only[Reps] at h ⊢;obtain⟨x,ys,e,h1,h2⟩:=h;exact#[x,ys,e,Rep.go c d x h1,Reps.go c r ys h2]
end
def Rep.b (J:∀a,fa=some a->N a) {v:V}(h:Rep K N fa H d v):RepB K N fa H d v:=by
 cases d with
 |lst ds=>
  simp only[Rep] at h;obtain⟨a,xs,e,n,q,r⟩:=h;exact#[a,xs,e,fun z=>n (J a z),q,r]
 |_=>simpa only[RepB] using h
def W7 (K:vF_) (N:vB_) (fa:vA_) (H:Hp):D->V->Prop
 |.lst ds,v=>∃a xs,v = .ref a/\H a=some (.lst xs)/\Reps K N fa H ds xs
 |d,v=>Rep K N fa H d v
def Rep.o {v:V}(h:Rep K N fa H d v):W7 K N fa H d v:=by
 cases d with
 |lst ds=>
  simp only[Rep] at h;obtain⟨a,xs,e,_,q,r⟩:=h;exact#[a,xs,e,q,r]
 |_=>simpa only[W7] using h
def RepB.o {v:V}(h:RepB K N fa H d v):W7 K N fa H d v:=by
 cases d with
 |lst ds=>
  obtain⟨a,xs,e,_,q,r⟩:=h;exact#[a,xs,e,q,r]
 |_=>simpa only[W7,RepB] using h
theorem Reps.length:∀{ds:vD_}{xs:List V},Reps K N fa H ds xs->xs.length=ds.length
 |[],xs,h=>by simp only[Reps] at h;subst h;rfl
 |d::r,xs,h=>by
  simp only[Reps] at h;obtain⟨x,ys,e,h1,h2⟩:=h;subst e;simp[Reps.length h2]
theorem Reps.get:∀{ds:vD_}{xs:List V}{i:Nat}{d:D},Reps K N fa H ds xs->ds[i]? = some d->∃x,xs[i]? = some x/\Rep K N fa H d x
 |[],xs,i,d,h,e=>by simp at e
 |d::r,xs,0,d',h,e=>by
  simp only[Reps] at h;obtain⟨x,ys,J,h1,h2⟩:=h;simp at e;subst J;subst e;exact#[x,rfl,h1]
 |d::r,xs,i+1,d',h,e=>by
  simp only[Reps] at h;obtain⟨x,ys,J,h1,h2⟩:=h;subst J;obtain⟨y,U,h3⟩:=Reps.get h2 (by simpa using e);exact#[y,by simpa using U,h3]
def Reps.get':∀{ds:vD_}{xs:List V}{i:Nat}{x:V},Reps K N fa H ds xs->xs[i]? = some x->∃d,ds[i]? = some d/\Rep K N fa H d x:=fun {ds xs i x} h e=>by
 have U:=h.length;have hi:i<xs.length:=(MT.mp e).1;obtain⟨y,J,h3⟩:=Reps.get h (ME (show i<ds.length by omega));rw[e] at J;cases J;exact#[_,ME (show i<ds.length by omega),h3]
theorem Reps.append:∀{ds es:vD_}{xs ys:List V},Reps K N fa H ds xs->Reps K N fa H es ys->Reps K N fa H (ds++es) (xs++ys)
 |[],es,xs,ys,h,q=>by simp only[Reps] at h;subst h;simpa using q
 |d::r,es,xs,ys,h,q=>by
  simp only[Reps] at h;obtain⟨x,zs,J,h1,h2⟩:=h;subst J;simp only[QR,Reps];exact#[x,_,rfl,h1,Reps.append h2 q]
def Reps.one {x:V}(h:Rep K N fa H d x):Reps K N fa H [d] [x]:=by
 simp only[Reps];exact#[x,[],rfl,h,rfl]
def Reps.nil:Reps K N fa H [] []:=by simp only[Reps]
theorem Reps.take:∀{ds:vD_}{xs:List V}(n:Nat),Reps K N fa H ds xs->Reps K N fa H (ds.take n) (xs.take n)
 |_,_,0,_=>by simp only[List.take_zero,Reps]
 |[],xs,n+1,h=>by simp only[Reps] at h;subst h;simp only[List.take_nil,Reps]
 |d::r,xs,n+1,h=>by
  simp only[Reps] at h;obtain⟨x,zs,J,h1,h2⟩:=h;subst J;simp only[List.take_succ_cons,Reps];exact#[x,_,rfl,h1,Reps.take n h2]
theorem Reps.drop:∀{ds:vD_}{xs:List V}(n:Nat),Reps K N fa H ds xs->Reps K N fa H (ds.drop n) (xs.drop n)
 |_,_,0,h=>by simpa using h
 |[],xs,n+1,h=>by simp only[Reps] at h;subst h;simp only[List.drop_nil,Reps]
 |d::r,xs,n+1,h=>by
  simp only[Reps] at h;obtain⟨x,zs,J,h1,h2⟩:=h;subst J;simpa using Reps.drop n h2
theorem Reps.ints:∀{ns:List Int},Reps K N fa H (ns.map D.int) (ns.map V.int)
 |[]=>by simp only[NX,Reps]
 |n::r=>by
  simp only[Mo,Reps,Rep];exact#[_,_,rfl,rfl,Reps.ints]
theorem Reps.reverse:∀{ds:vD_}{xs:List V},Reps K N fa H ds xs->Reps K N fa H ds.reverse xs.reverse
 |[],xs,h=>by simp only[Reps] at h;subst h;simp only[List.reverse_nil,Reps]
 |d::r,xs,h=>by
  simp only[Reps] at h;obtain⟨x,zs,J,h1,h2⟩:=h;subst J;simp only[NW];exact Reps.append (Reps.reverse h2) (Reps.one h1)
end
inductive Sl where
 | no | v (d:D) | own (ds:vD_)
variable {sl:List Sl}{mk:List Sl->D->Option (List Sl)}
structure DS where
 sl:List Sl
 fs:Option FS
variable {s1 s2:DS}
def NN (F:vB_) (fa:vA_) (O:vL_):Addr->Prop:=fun b=>F b\/b∈O\/fa=some b
def SlR (K:vF_) (N:vB_) (fa:vA_) (H:Hp):List Sl->List (Option V)->List Addr->Prop
 |[],σ,O=>σ=[]/\O=[]
 |.no::r,σ,O=>∃v τ,σ=v::τ/\SlR K N fa H r τ O
 |.v d::r,σ,O=>∃u τ,σ=some u::τ/\Rep K N fa H d u/\SlR K N fa H r τ O
 |.own ds::r,σ,O=>∃a xs τ P,σ=some (.ref a)::τ/\O=a::P/\H a=some (.lst xs)/\Reps K N fa H ds xs/\SlR K N fa H r τ P
structure Stp (fa:vA_) (O:vL_) (H:Hp) (fa':vA_) (O':vL_) (H':Hp):Prop where
 sub:∀b∈O',b∈O\/H b=none
 fe:fa'=fa\/(fa=none/\∀a,fa'=some a->H a=none)
 same:∀b u,H b=some u->b ∉ O->fa≠some b->H' b=some u
 mon:∀b,H' b=none->H b=none
structure StE (fa:vA_) (O:vL_) (H:Hp) (fa':vA_) (O':vL_) (H':Hp):Prop where
 sub:∀b∈O',b∈O
 fe:fa'=fa\/(fa=none/\∀a,fa'=some a->H a=none)
 same:∀b u,H b=some u->fa≠some b->H' b=some u
 mon:∀b,H' b=none->H b=none
structure DI (K:vF_) (F:vB_) (H0:Hp) (fa0:vA_) (σ:St) (H:Hp) (fa:vA_) (O:vL_) (s:DS):Prop where
 nd:O.Nodup
 sl:SlR K (NN F fa O) fa H s.sl σ O
 fr:∀b∈O,H0 b=none
 st:Stp fa0 [] H0 fa [] H
 tr:∀b,F b->H0 b≠none
 ff:∀a,fa0=some a->F a
 fd:FeedR (NN F fa O) H fa s.fs
 nf:∀a,fa=some a->a ∉ O
section
variable {fa'':vA_}{O O' O'':vL_}{H'':Hp}
def StE.stp (h:StE fa O H fa' O' H'):Stp fa O H fa' O' H':=#[fun b J=>.inl (h.sub b J),h.fe,fun b u e _ n=>h.same b u e n,h.mon]
def StE.refl:StE fa O H fa O H:=#[fun _ h=>h,.inl rfl,fun _ _ e _=>e,fun _ h=>h]
theorem Stp.refl:Stp fa O H fa O H:=StE.refl.stp
theorem StE.trans (a:StE fa O H fa' O' H') (b:StE fa' O' H' fa'' O'' H''):StE fa O H fa'' O'' H'':=by
 refine#[fun c J=>a.sub c (b.sub c J),?_,fun c u e n=>?_,fun c h=>a.mon c (b.mon c h)]
 .rcases a.fe with e | ⟨e,h⟩
  .rcases b.fe with e' | ⟨e',h'⟩
   .exact .inl (e'.trans e)
   .exact .inr #[e▸e',fun c z=>a.mon c (h' c z)]
  .rcases b.fe with e' | ⟨e',h'⟩
   .exact .inr #[e,fun c z=>h c (e'▸z)]
   .exact .inr #[e,fun c z=>a.mon c (h' c z)]
 .refine b.same c u (a.same c u e n) fun z=>?_
  rcases a.fe with q | ⟨q,h⟩
  .rw[q] at z;exact n z
  .rw[h c z] at e;cases e
theorem Stp.trans (a:Stp fa O H fa' O' H') (b:Stp fa' O' H' fa'' O'' H''):Stp fa O H fa'' O'' H'':=by
 refine#[fun c J=>?_,?_,fun c u e J n=>?_,fun c h=>a.mon c (b.mon c h)]
 .rcases b.sub c J with q | q
  .exact a.sub c q
  .exact .inr (a.mon c q)
 .rcases a.fe with e | ⟨e,h⟩
  .rcases b.fe with e' | ⟨e',h'⟩
   .exact .inl (e'.trans e)
   .exact .inr #[e▸e',fun c z=>a.mon c (h' c z)]
  .rcases b.fe with e' | ⟨e',h'⟩
   .exact .inr #[e,fun c z=>h c (e'▸z)]
   .exact .inr #[e,fun c z=>a.mon c (h' c z)]
 .refine b.same c u (a.same c u e J n) (fun z=>?_) fun z=>?_
  .rcases a.sub c z with q | q
   .exact J q
   .rw[q] at e;cases e
  .rcases a.fe with q | ⟨q,h⟩
   .rw[q] at z;exact n z
   .rw[h c z] at e;cases e
def Stp.fa_keep (a:Stp fa O H fa' O' H') {x:Addr}(h:fa=some x):fa'=some x:=by
 rcases a.fe with e | ⟨e,_⟩
 .rw[e,h]
 .rw[h] at e;cases e
variable {F:vB_}{H0:Hp}{fa0:vA_}{s:DS}
def FeedR.no_frz {fs:vO_}{o:Obj}{u:HO}(h:FeedR N H fa fs) (e:fa=some a) (q:H a=some (.frz o u)):False:=by
 subst e;cases fs with
 |none=>exact h
 |some f=>
  obtain⟨_,c,h1,_⟩:=h;rw[h1] at q;exact GS (MB q)
def FeedR.no_tup {fs:vO_}(h:FeedR N H fa fs) (e:fa=some a) (z:Rd H a (.tup xs)):False:=by
 rcases z with z | ⟨o,z⟩
 .subst e;cases fs with
  |none=>exact h
  |some f=>
   obtain⟨_,c,h1,_⟩:=h;rw[h1] at z;exact Bm (MB z)
 .exact h.no_frz e z
def FeedR.tracked {fs:vO_}(h:FeedR N H fa fs) (e:fa=some a):H a≠none:=by
 subst e;cases fs with
 |none=>exact h.elim
 |some f=>
  obtain⟨_,c,h1,_⟩:=h;rw[h1];simp
def SqT.stp' (a:Stp fa O H fa' O' H') (Y:∀x,fa=some x->∀xs,¬ Rd H x (.tup xs)) (Z:∀x∈O,∀xs,¬ Rd H x (.tup xs)) {b:Addr}(h:SqT K H b xs):SqT K H' b xs:=by
 rcases h with h | h
 .refine .inl ?_;have U:b ∉ O:=fun z=>Z b z xs h
  have J:fa≠some b:=fun z=>Y b z xs h
  rcases h with h | ⟨o,h⟩
  .exact .inl (a.same _ _ h U J)
  .exact .inr #[o,a.same _ _ h U J]
 .exact .inr h
theorem SlR.owned:∀{sl:List Sl}{N:vB_}{σ:List (Option V)}{O:vL_},SlR K N fa H sl σ O->∀b∈O,∃xs,H b=some (.lst xs)
 |[],N,σ,O,h,b,hb=>by simp only[SlR] at h;rw[h.2] at hb;cases hb
 |.no::r,N,σ,O,h,b,hb=>by
  simp only[SlR] at h;obtain⟨v,τ,_,h⟩:=h;exact SlR.owned h b hb
 |.v d::r,N,σ,O,h,b,hb=>by
  simp only[SlR] at h;obtain⟨v,τ,_,_,h⟩:=h;exact SlR.owned h b hb
 |.own ds::r,N,σ,O,h,b,hb=>by
  simp only[SlR] at h;obtain⟨a,xs,τ,P,_,rfl,e,_,h⟩:=h;rcases xo.mp hb with z | z
  .subst z;exact#[xs,e]
  .exact SlR.owned h b z
theorem DI.owned (I:DI K F H0 fa0 σ H fa O s) {b:Addr}(J:b∈O):∃xs,H b=some (.lst xs):=SlR.owned I.sl b J
def DI.trF (I:DI K F H0 fa0 σ H fa O s) {b:Addr}(J:F b):H b≠none:=fun z=>I.tr b J (I.st.mon b z)
def DI.nn_tracked (I:DI K F H0 fa0 σ H fa O s) {b:Addr}(h:NN F fa O b):H b≠none:=by
 rcases h with h | h | h
 .exact I.trF h
 .obtain⟨xs,e⟩:=I.owned h;rw[e];simp
 .exact I.fd.tracked h
def DI.nf_step (I:DI K F H0 fa0 σ H fa O s) (h:fa'=fa\/(fa=none/\∀a,fa'=some a->H a=none)):∀a,fa'=some a->a ∉ O:=fun a e m=>by
 rcases h with z | ⟨z,y⟩
 .rw[z] at e;exact I.nf a e m
 .obtain⟨xs,q⟩:=I.owned m;rw[y a e] at q;cases q
def DI.car (I:DI K F H0 fa0 σ H fa O s) (a:Stp fa O H fa' O' H'):Car K (NN F fa O) fa H (NN F fa' O') fa' H':=by
 have nt:∀x xs,H x=some (.lst xs)->∀ys,¬ Rd H x (.tup ys):=fun x xs e ys z=>by
  rcases z with z | ⟨o,z⟩ <;> · rw[e] at z;cases z
 refine#[fun b xs n q=>?_,fun b xs q=>?_,fun b xs q=>?_,fun x e=>a.fa_keep e]
 .have Y:b ∉ O:=fun z=>n (.inr (.inl z))
  have U:fa≠some b:=fun z=>n (.inr (.inr z))
  have Z:H b≠none:=by rw[q];simp
  refine#[a.same _ _ q Y U,fun z=>?_]
  .rcases z with z | z | z
   .exact n (.inl z)
   .rcases a.sub b z with y | y
    .exact Y y
    .exact Z y
   .rcases a.fe with e | ⟨e,h⟩
    .rw[e] at z;exact U z
    .exact Z (h b z)
 .refine SqT.stp' a (fun x e ys z=>?_) (fun x hx ys=>?_) q
  .exact I.fd.no_tup e z
  .obtain⟨xs,e⟩:=I.owned hx;exact nt x xs e ys
 .have J:∀o u,H b=some (.frz o u)->H' b=some (.frz o u):=fun o u q=>by
   refine a.same _ _ q (fun z=>?_) fun z=>?_
   .obtain⟨ys,e⟩:=I.owned z;rw[e] at q;cases q
   .exact I.fd.no_frz z q
  cases xs with
  |inl xs=>exact q.imp (fun ⟨o,q⟩=>#[o,J _ _ q]) id
  |inr p=>exact J _ _ q
end
structure Gh where
 F:Addr->Prop
 H0:Hp
 fa0:Option Addr
 xq:L2.St->XK
abbrev GI (K:vF_) (g:Gh):=DI K g.F g.H0 g.fa0
section
variable {N':vB_}{g:Gh}{σ:L2.St}{O O':vL_}{s:DS}
theorem SlR.go (c:Car K N fa H N' fa' H'):∀{sl:List Sl}{σ:List (Option V)}{O:vL_},(∀a xs,a∈O->H a=some (.lst xs)->H' a=some (.lst xs))->SlR K N fa H sl σ O->SlR K N' fa' H' sl σ O
 |[],σ,O,_,h=>by simpa only[SlR] using h
 |.no::r,σ,O,ho,h=>by
  simp only[SlR] at h ⊢;obtain⟨v,τ,e,h⟩:=h;exact#[v,τ,e,SlR.go c ho h]
 |.v d::r,σ,O,ho,h=>by
  simp only[SlR] at h ⊢;obtain⟨u,τ,e,q,h⟩:=h;exact#[u,τ,e,Rep.go c d u q,SlR.go c ho h]
 |.own ds::r,σ,O,ho,h=>by
  simp only[SlR] at h ⊢;obtain⟨a,xs,τ,P,e,rfl,J,q,h⟩:=h;exact#[a,xs,τ,P,e,rfl,ho a xs (Mi ..) J,Reps.go c ds xs q,SlR.go c (fun b ys U=>ho b ys (Mf _ U)) h]
theorem SlR.val:∀{sl:List Sl}{σ:List (Option V)}{O:vL_}{i:Nat}{d:D},SlR K N fa H sl σ O->sl[i]? = some (.v d)->∃u,σ[i]? = some (some u)/\Rep K N fa H d u
 |[],σ,O,i,d,h,e=>by simp at e
 |.no::r,σ,O,i,d,h,e=>by
  simp only[SlR] at h;obtain⟨v,τ,rfl,h⟩:=h;cases i with
  |zero=>simp at e
  |succ i=>simpa using SlR.val h (by simpa using e)
 |.v d'::r,σ,O,i,d,h,e=>by
  simp only[SlR] at h;obtain⟨u,τ,rfl,q,h⟩:=h;cases i with
  |zero=>simp at e;subst e;exact#[u,rfl,q]
  |succ i=>simpa using SlR.val h (by simpa using e)
 |.own ds::r,σ,O,i,d,h,e=>by
  simp only[SlR] at h;obtain⟨a,xs,τ,P,rfl,rfl,J,q,h⟩:=h;cases i with
  |zero=>simp at e
  |succ i=>simpa using SlR.val h (by simpa using e)
theorem SlR.own:∀{sl:List Sl}{σ:List (Option V)}{O:vL_}{i:Nat}{ds:vD_},SlR K N fa H sl σ O->sl[i]? = some (.own ds)->∃a xs,σ[i]? = some (some (.ref a))/\a∈O/\H a=some (.lst xs)/\Reps K N fa H ds xs
 |[],σ,O,i,d,h,e=>by simp at e
 |.no::r,σ,O,i,d,h,e=>by
  simp only[SlR] at h;obtain⟨v,τ,rfl,h⟩:=h;cases i with
  |zero=>simp at e
  |succ i=>simpa using SlR.own h (by simpa using e)
 |.v d'::r,σ,O,i,d,h,e=>by
  simp only[SlR] at h;obtain⟨u,τ,rfl,q,h⟩:=h;cases i with
  |zero=>simp at e
  |succ i=>simpa using SlR.own h (by simpa using e)
 |.own ds::r,σ,O,i,d,h,e=>by
  simp only[SlR] at h;obtain⟨a,xs,τ,P,rfl,rfl,J,q,h⟩:=h;cases i with
  |zero=>simp at e;subst e;exact#[a,xs,rfl,Mi ..,J,q]
  |succ i=>
   obtain⟨b,ys,U,m,Z,Y⟩:=SlR.own h (by simpa using e);exact#[b,ys,by simpa using U,Mf _ m,Z,Y]
theorem SlR.put:∀{sl:List Sl}{σ:List (Option V)}{O:vL_}(i:Nat) {d:D}{u:V},SlR K N fa H sl σ O->Rep K N fa H d u ->
  ∃P,P.Sublist O/\SlR K N fa H (sl.set i (.v d)) (σ.set i (some u)) P/\(O.Nodup->∀a,sl[i]?.isSome=true->(∃ds,sl[i]? = some (.own ds))->σ[i]? = some (some (.ref a))->a ∉ P)
 |[],σ,O,i,d,u,h,q=>by
  simp only[SlR] at h;refine#[O,QS _,?_,fun _ a z=>by simp at z];rw[h.1,h.2];simp[SlR]
 |.no::r,σ,O,i,d,u,h,q=>by
  simp only[SlR] at h;obtain⟨v,τ,rfl,h⟩:=h;cases i with
  |zero=>exact#[O,QS _,by simp only[Ot,SlR];exact#[u,τ,rfl,q,h],fun _ a _ z=>by obtain⟨ds,z⟩:=z;simp at z]
  |succ i=>
   obtain⟨P,U,h1,h2⟩:=SlR.put i h q;exact#[P,U,by simp only[NP,SlR];exact#[v,_,rfl,h1],by simpa using h2]
 |.v d'::r,σ,O,i,d,u,h,q=>by
  simp only[SlR] at h;obtain⟨v,τ,rfl,qv,h⟩:=h;cases i with
  |zero=>exact#[O,QS _,by simp only[Ot,SlR];exact#[u,τ,rfl,q,h],fun _ a _ z=>by obtain⟨ds,z⟩:=z;simp at z]
  |succ i=>
   obtain⟨P,U,h1,h2⟩:=SlR.put i h q;exact#[P,U,by simp only[NP,SlR];exact#[v,_,rfl,qv,h1],by simpa using h2]
 |.own ds::r,σ,O,i,d,u,h,q=>by
  simp only[SlR] at h;obtain⟨a,xs,τ,P,rfl,rfl,ha,qv,h⟩:=h;cases i with
  |zero=>
   refine#[P,List.sublist_cons_self ..,by simp only[Ot,SlR];exact#[u,τ,rfl,q,h],fun Z b _ _ e=>?_];simp at e;subst e;exact(MZ.mp Z).1
  |succ i=>
   obtain⟨P',U,h1,h2⟩:=SlR.put i h q;refine#[a::P',U.cons_cons a,by simp only[NP,SlR];exact#[a,xs,_,P',rfl,rfl,ha,qv,h1],fun Z b e1 Y e3=>?_];have J:=MZ.mp Z;have n1:=h2 J.2 b (by simpa using e1) (by simpa using Y) (by simpa using e3);intro z;rcases xo.mp z with z | z
   .subst z;obtain⟨dz,Y⟩:=Y;obtain⟨b',_,e4,m,_⟩:=SlR.own h (i:=i) (by simpa using Y);rw[QT] at e3;rw[e3] at e4;cases e4;exact J.1 m
   .exact n1 z
theorem SlR.putN:∀{sl:List Sl}{σ:List (Option V)}{O:vL_}(i:Nat) {ds:vD_}{p:Addr}{xs:List V},SlR K N fa H sl σ O->i<sl.length->p ∉ O->O.Nodup->H p=some (.lst xs)->Reps K N fa H ds xs ->
  ∃P,(∀b∈P,b=p\/b∈O)/\P.Nodup/\SlR K N fa H (sl.set i (.own ds)) (σ.set i (some (.ref p))) P
 |[],σ,O,i,ds,p,xs,h,hi,hp,nd,e,q=>by simp at hi
 |.no::r,σ,O,i,ds,p,xs,h,hi,hp,nd,e,q=>by
  simp only[SlR] at h;obtain⟨v,τ,rfl,h⟩:=h;cases i with
  |zero=>exact#[p::O,fun b U=>xo.mp U,MZ.mpr #[hp,nd],by simp only[Ot,SlR];exact#[p,xs,τ,O,rfl,rfl,e,q,h]]
  |succ i=>
   obtain⟨P,h1,h2,h3⟩:=SlR.putN i h (by simpa using hi) hp nd e q;exact#[P,h1,h2,by simp only[NP,SlR];exact#[v,_,rfl,h3]]
 |.v d'::r,σ,O,i,ds,p,xs,h,hi,hp,nd,e,q=>by
  simp only[SlR] at h;obtain⟨v,τ,rfl,Y,h⟩:=h;cases i with
  |zero=>exact#[p::O,fun b U=>xo.mp U,MZ.mpr #[hp,nd],by simp only[Ot,SlR];exact#[p,xs,τ,O,rfl,rfl,e,q,h]]
  |succ i=>
   obtain⟨P,h1,h2,h3⟩:=SlR.putN i h (by simpa using hi) hp nd e q;exact#[P,h1,h2,by simp only[NP,SlR];exact#[v,_,rfl,Y,h3]]
 |.own ds'::r,σ,O,i,ds,p,xs,h,hi,hp,nd,e,q=>by
  simp only[SlR] at h;obtain⟨a,ys,τ,P,rfl,rfl,ha,Y,h⟩:=h;have J:=MZ.mp nd;cases i with
  |zero=>
   refine#[p::P,fun b U=>(xo.mp U).imp id fun z=>Mf _ z,MZ.mpr #[fun z=>hp (Mf _ z),J.2],?_];simp only[Ot,SlR];exact#[p,xs,τ,P,rfl,rfl,e,q,h]
  |succ i=>
   obtain⟨Z,h1,h2,h3⟩:=SlR.putN i h (by simpa using hi) (fun z=>hp (Mf _ z)) J.2 e q;refine#[a::Z,fun b U=>?_,MZ.mpr #[fun z=>?_,h2],by simp only[NP,SlR];exact#[a,ys,_,Z,rfl,rfl,ha,Y,h3]]
   .rcases xo.mp U with z | z
    .exact .inr (by rw[z];exact Mi ..)
    .exact(h1 b z).imp id fun y=>Mf _ y
   .rcases h1 a z with y | y
    .exact hp (by rw[y];exact Mi ..)
    .exact J.1 y
theorem SlR.rew:∀{sl:List Sl}{σ:List (Option V)}{O:vL_}{i:Nat}{ds es:vD_}{a:Addr}{ys:List V},SlR K N fa H sl σ O->O.Nodup->(∀b∈O,N b)->sl[i]? = some (.own ds)->σ[i]? = some (some (.ref a))->H' a=some (.lst ys) ->
  Car K N fa H N fa H'->(∀b u,b≠a->H b=some u->H' b=some u)->Reps K N fa H' es ys->SlR K N fa H' (sl.set i (.own es)) σ O
 |[],σ,O,i,ds,es,a,ys,h,nd,hN,e1,e2,e3,c,k,q=>by simp at e1
 |.no::r,σ,O,i,ds,es,a,ys,h,nd,hN,e1,e2,e3,c,k,q=>by
  simp only[SlR] at h;obtain⟨v,τ,rfl,h⟩:=h;cases i with
  |zero=>simp at e1
  |succ i=>simp only[NP,SlR];exact#[v,τ,rfl,SlR.rew h nd hN (by simpa using e1) (by simpa using e2) e3 c k q]
 |.v d'::r,σ,O,i,ds,es,a,ys,h,nd,hN,e1,e2,e3,c,k,q=>by
  simp only[SlR] at h;obtain⟨v,τ,rfl,Y,h⟩:=h;cases i with
  |zero=>simp at e1
  |succ i=>simp only[NP,SlR];exact#[v,τ,rfl,Rep.go c _ _ Y,SlR.rew h nd hN (by simpa using e1) (by simpa using e2) e3 c k q]
 |.own ds'::r,σ,O,i,ds,es,a,ys,h,nd,hN,e1,e2,e3,c,k,q=>by
  simp only[SlR] at h;obtain⟨b,zs,τ,P,rfl,rfl,ha,Y,h⟩:=h;have J:=MZ.mp nd;cases i with
  |zero=>
   simp at e2;subst e2;simp only[Ot,SlR];exact#[b,ys,τ,P,rfl,rfl,e3,q,SlR.go c (fun x xs U z=>k x _ (fun y=>J.1 (y▸U)) z) h]
  |succ i=>
   have nb:b≠a:=fun z=>by
    obtain⟨a',_,Z,m,_⟩:=SlR.own h (i:=i) (by simpa using e1);rw[QT] at e2;rw[e2] at Z;cases Z;exact J.1 (z▸m)
   simp only[NP,SlR];exact#[b,zs,τ,P,rfl,rfl,k b _ nb ha,Reps.go c _ _ Y,SlR.rew h J.2 (fun x U=>hN x (Mf _ U)) (by simpa using e1) (by simpa using e2) e3 c k q]
theorem RepB.stp {v:V}(I:GI K g σ H fa O s) (a:StE fa O H fa' O' H') (h:RepB K (NN g.F fa O) fa H d v):RepB K (NN g.F fa' O') fa' H' d v:=by
 have c:=I.car a.stp;cases d with
 |lst ds=>
  obtain⟨x,xs,e,J,q,r⟩:=h;refine#[x,xs,e,fun z=>?_,a.same _ _ q J,Reps.go c ds xs r];rcases a.fe with y | ⟨_,y⟩
  .rw[y] at z;exact J z
  .rw[y x z] at q;cases q
 |_=>
  simp only[RepB] at h ⊢;exact Rep.go c _ _ h
def Rep.stp {v:V}(I:GI K g σ H fa O s) (a:Stp fa O H fa' O' H') (h:Rep K (NN g.F fa O) fa H d v):Rep K (NN g.F fa' O') fa' H' d v:=Rep.go (I.car a) d v h
def Reps.stp (I:GI K g σ H fa O s) (a:Stp fa O H fa' O' H') (h:Reps K (NN g.F fa O) fa H ds xs):Reps K (NN g.F fa' O') fa' H' ds xs:=Reps.go (I.car a) ds xs h
def F4 {o:HO}(h:H p=none):StE fa O H fa O (k9 H p o):=
 #[fun _ h=>h,.inl rfl,fun b u e _=>by rw[t7 (O0 e h)];exact e,fun b z=>by
  by_cases J:b=p
  .subst J;exact h
  .rw[t7 J] at z;exact z]
def FeedR.car {fs:vO_}(c:Car K N fa H N' fa H') (h:∀a,fa=some a->H' a=H a) (f:FeedR N H fa fs):FeedR N' H' fa fs:=by
 cases fa with
 |none=>cases fs <;> simpa only[FeedR] using f
 |some a=>
  cases fs with
  |none=>simpa only[FeedR] using f
  |some x=>
   simp only[FeedR] at f ⊢;obtain⟨l,b,h1,h2,h3⟩:=f;obtain⟨q,n⟩:=c.ls b _ h2 h3;exact#[l,b,by rw[h a rfl];exact h1,n,q]
def FeedR.same_new {fs:vO_}{o:HO}(f:FeedR N H fa fs) (h:H p=none):∀a,fa=some a->k9 H p o a=H a:=fun a e=>t7 fun z=>f.tracked e (z▸h)
def DI.new {o:HO}(I:GI K g σ H fa O s) (h:H p=none):GI K g σ (k9 H p o) fa O s:=by
 have a:StE fa O H fa O (k9 H p o):=F4 h;refine#[I.nd,SlR.go (I.car a.stp) (fun b xs J e=>?_) I.sl,I.fr,I.st.trans ((F4 (O:=[]) h).stp),I.tr,I.ff,I.fd.car (I.car a.stp) (I.fd.same_new h),I.nf];rw[t7 (O0 e h)];exact e
end
abbrev DE:=DS->Option (D × DS)
variable {fe:DE}
abbrev DT:=DS->Option (Bool × DS)
variable {fc:DT}
abbrev DA:=DS->Option (List D × DS)
variable {f fi:DA}
inductive Fl where
 | next | brk | cont | ret (d:D) | thr (c:Str) (ds:vD_)
abbrev DM:=DS->Option (Fl × DS)
structure NewL (K:vF_) (g:Gh) (σ:L2.St) (H:Hp) (fa:vA_) (O:vL_) (s:DS) (p:Addr) (xs:List V) (ds:vD_):Prop where
 gi:GI K g σ H fa O s
 ls:H p=some (.lst xs)
 sl:SlR K (fun b=>NN g.F fa O b\/b=p) fa H s.sl σ O
 fd:FeedR (fun b=>NN g.F fa O b\/b=p) H fa s.fs
 rs:Reps K (fun b=>NN g.F fa O b\/b=p) fa H ds xs
 nf:fa≠some p
section
variable (K:vF_) (g:Gh)
def liftE (f:DE):TE:=fun σ H Q=>∃fa O s d s',GI K g σ H fa O s/\f s=some (d,s') /\
 ∀v H' fa' O',StE fa O H fa' O' H'->GI K g σ H' fa' O' s'->Rep K (NN g.F fa' O') fa' H' d v->Q v H'
def liftB (f:DE):TE:=fun σ H Q=>∃fa O s d s',GI K g σ H fa O s/\f s=some (d,s') /\
 ∀v H' fa' O',StE fa O H fa' O' H'->GI K g σ H' fa' O' s'->RepB K (NN g.F fa' O') fa' H' d v->Q v H'
def liftF (f:DA):TE:=fun σ H Q=>∃fa O s ds s',GI K g σ H fa O s/\f s=some (ds,s') /\
 ∀p xs H' fa' O',StE fa O H fa' O' H'->NewL K g σ H' fa' O' s' p xs ds->H p=none->Q (.ref p) H'
def liftT (f:DT):TT:=fun σ H Q=>∃fa O s d s',GI K g σ H fa O s/\f s=some (d,s') /\
 ∀H' fa' O',StE fa O H fa' O' H'->GI K g σ H' fa' O' s'->Q d H'
def liftA (f:DA):TA:=fun σ H Q=>∃fa O s ds s',GI K g σ H fa O s/\f s=some (ds,s') /\
 ∀vs H' fa' O',StE fa O H fa' O' H'->GI K g σ H' fa' O' s'->Reps K (NN g.F fa' O') fa' H' ds vs->Q vs H'
def liftBA (f:DA):TA:=fun σ H Q=>∃fa O s ds s',GI K g σ H fa O s/\f s=some (ds,s') /\
 ∀vs H' fa' O',StE fa O H fa' O' H'->GI K g σ H' fa' O' s'->aJ K (NN g.F fa' O') fa' H' ds vs->Q vs H'
def FlK (E:Ends) (fa:vA_) (O:vL_) (H:Hp) (fl:Fl) (s':DS):Prop:=
 match fl with
 |.next=>∀σ' H' fa' O',Stp fa O H fa' O' H'->GI K g σ' H' fa' O' s'->E.nx σ' H'
 |.brk=>∀σ' H' fa' O',Stp fa O H fa' O' H'->GI K g σ' H' fa' O' s'->E.bk σ' H'
 |.cont=>∀σ' H' fa' O',Stp fa O H fa' O' H'->GI K g σ' H' fa' O' s'->E.ct σ' H'
 |.ret d=>∀σ' v H' fa' O',Stp fa O H fa' O' H'->GI K g σ' H' fa' O' s'->Rep K (NN g.F fa' O') fa' H' d v->E.rt v H'
 |.thr c ds=>∀σ' C dx od xs H' fa' O',Stp fa O H fa' O' H'->GI K g σ' H' fa' O' s'->PySem.W.nsIn K mainGlobals c=some (some (.ref C))->H' dx=some (.frz od (.xd (fnm.zip xs)))->Reps K (NN g.F fa' O') fa' H' ds xs->g.xq σ' (.ref C) (some dx) H'
def liftS (f:DM):TS:=fun E σ H=>∃fa O s fl s',GI K g σ H fa O s/\f s=some (fl,s')/\FlK K g E fa O H fl s'
end
section
variable {g:Gh}{σ:L2.St}
def liftE.elim {f:DE}{Q:VK}(h:liftE K g f σ H Q) (k:∀fa O s d s',GI K g σ H fa O s->f s=some (d,s')->(∀v H' fa' O',StE fa O H fa' O' H'->GI K g σ H' fa' O' s'->Rep K (NN g.F fa' O') fa' H' d v->Q v H')->G):G:=by
 obtain⟨fa,O,s,d,s',a,b,c⟩:=h;exact k fa O s d s' a b c
def liftB.elim {f:DE}{Q:VK}(h:liftB K g f σ H Q) (k:∀fa O s d s',GI K g σ H fa O s->f s=some (d,s')->(∀v H' fa' O',StE fa O H fa' O' H'->GI K g σ H' fa' O' s'->RepB K (NN g.F fa' O') fa' H' d v->Q v H')->G):G:=by
 obtain⟨fa,O,s,d,s',a,b,c⟩:=h;exact k fa O s d s' a b c
def liftF.elim {Q:VK}(h:liftF K g f σ H Q) (k:∀fa O s d s',GI K g σ H fa O s->f s=some (d,s')->(∀p xs H' fa' O',StE fa O H fa' O' H'->NewL K g σ H' fa' O' s' p xs d->H p=none->Q (.ref p) H')->G):G:=by
 obtain⟨fa,O,s,d,s',a,b,c⟩:=h;exact k fa O s d s' a b c
def liftT.elim {f:DT}{Q:Bool->Hp->Prop}(h:liftT K g f σ H Q) (k:∀fa O s d s',GI K g σ H fa O s->f s=some (d,s')->(∀H' fa' O',StE fa O H fa' O' H'->GI K g σ H' fa' O' s'->Q d H')->G):G:=by
 obtain⟨fa,O,s,d,s',a,b,c⟩:=h;exact k fa O s d s' a b c
def liftA.elim {Q:List V->Hp->Prop}(h:liftA K g f σ H Q) (k:∀fa O s d s',GI K g σ H fa O s->f s=some (d,s')->(∀vs H' fa' O',StE fa O H fa' O' H'->GI K g σ H' fa' O' s'->Reps K (NN g.F fa' O') fa' H' d vs->Q vs H')->G):G:=by
 obtain⟨fa,O,s,d,s',a,b,c⟩:=h;exact k fa O s d s' a b c
def liftBA.elim {Q:List V->Hp->Prop}(h:liftBA K g f σ H Q) (k:∀fa O s d s',GI K g σ H fa O s->f s=some (d,s')->(∀vs H' fa' O',StE fa O H fa' O' H'->GI K g σ H' fa' O' s'->aJ K (NN g.F fa' O') fa' H' d vs->Q vs H')->G):G:=by
 obtain⟨fa,O,s,d,s',a,b,c⟩:=h;exact k fa O s d s' a b c
def liftS.elim {f:DM}{E:Ends}(h:liftS K g f E σ H) (k:∀fa O s d s',GI K g σ H fa O s->f s=some (d,s')->(FlK K g E fa O H d s')->G):G:=by
 obtain⟨fa,O,s,d,s',a,b,c⟩:=h;exact k fa O s d s' a b c
end
structure EO (X:Cx) (g:Gh) (e:Expr) (f:DE):Prop where
 pe:PE X e (liftE X.K g f)
structure BO (X:Cx) (g:Gh) (e:Expr) (f:DE):Prop where
 pe:PE X e (liftB X.K g f)
structure FO (X:Cx) (g:Gh) (e:Expr) (f:DA):Prop where
 pe:PE X e (liftF X.K g f)
structure TO (X:Cx) (g:Gh) (e:Expr) (f:DT):Prop where
 pe:PT X e (liftT X.K g f)
structure WO (X:Cx) (g:Gh) (e:Expr) (f:DT):Prop where
 pe:PW X e (liftT X.K g f)
structure AO (X:Cx) (g:Gh) (es:List Expr) (f:DA):Prop where
 pe:PA X es (liftA X.K g f)
structure BAO (X:Cx) (g:Gh) (es:List Expr) (f:DA):Prop where
 pe:PA X es (liftBA X.K g f)
structure SO (X:Cx) (g:Gh) (st:Stmt) (f:DM):Prop where
 pe:PS X st (liftS X.K g f)
structure SSO (X:Cx) (g:Gh) (st:List Stmt) (f:DM):Prop where
 pe:PSs X st (liftS X.K g f)
section
variable {g:Gh}{f:DE}
def me {t t':TE}(h:PE X e t) (w:∀σ H Q,t' σ H Q->t σ H Q):PE X e t':=fun pins s σ H Q I q=>h pins s σ H Q I (w σ H Q q)
def Fb {t t':TT}(h:PT X e t) (w:∀σ H Q,t' σ H Q->t σ H Q):PT X e t':=fun pins s σ H Q I q=>h pins s σ H Q I (w σ H Q q)
def Ku {t t':TT}(h:PW X e t) (w:∀σ H Q,t' σ H Q->t σ H Q):PW X e t':=fun J pins s σ H Q I q=>h J pins s σ H Q I (w σ H Q q)
def vD {t t':TA}(h:PA X es t) (w:∀σ H Q,t' σ H Q->t σ H Q):PA X es t':=fun pos pins s σ H Q I q=>h pos pins s σ H Q I (w σ H Q q)
def Kd {t t':TS}(h:PS X st t) (w:∀E σ H,t' E σ H->t E σ H):PS X st t':=fun pins s σ H E I q=>h pins s σ H E I (w E σ H q)
def FP {st:List Stmt}{t t':TS}(h:PSs X st t) (w:∀E σ H,t' E σ H->t E σ H):PSs X st t':=fun pins s σ H E I q=>h pins s σ H E I (w E σ H q)
theorem EO.w {f:DE}{t:TE}(h:PE X e t) (w:∀σ H Q,liftE X.K g f σ H Q->t σ H Q):EO X g e f:=#[me h w]
theorem BO.w {f:DE}{t:TE}(h:PE X e t) (w:∀σ H Q,liftB X.K g f σ H Q->t σ H Q):BO X g e f:=#[me h w]
theorem FO.w {f:DA}{t:TE}(h:PE X e t) (w:∀σ H Q,liftF X.K g f σ H Q->t σ H Q):FO X g e f:=#[me h w]
theorem TO.w {f:DT}{t:TT}(h:PT X e t) (w:∀σ H Q,liftT X.K g f σ H Q->t σ H Q):TO X g e f:=#[Fb h w]
theorem WO.w {f:DT}{t:TT}(h:PW X e t) (w:∀σ H Q,liftT X.K g f σ H Q->t σ H Q):WO X g e f:=#[Ku h w]
theorem AO.w {f:DA}{t:TA}(h:PA X es t) (w:∀σ H Q,liftA X.K g f σ H Q->t σ H Q):AO X g es f:=#[vD h w]
theorem BAO.w {f:DA}{t:TA}(h:PA X es t) (w:∀σ H Q,liftBA X.K g f σ H Q->t σ H Q):BAO X g es f:=#[vD h w]
theorem SO.w {f:DM}{t:TS}(h:PS X st t) (w:∀E σ H,liftS X.K g f E σ H->t E σ H):SO X g st f:=#[Kd h w]
theorem SSO.w {st:List Stmt}{f:DM}{t:TS}(h:PSs X st t) (w:∀E σ H,liftS X.K g f E σ H->t E σ H):SSO X g st f:=#[FP h w]
theorem EO.b (h:EO X g e f):BO X g e f:=BO.w h.pe fun σ H Q ⟨fa,O,s,d,s',I,e,k⟩=>#[fa,O,s,d,s',I,e,fun v H' fa' O' a J r=>k v H' fa' O' a J (r.b fun _ z=>.inr (.inr z))]
def l5 (f:DA):DE:=fun s=>(f s).map fun p=>(.lst p.1,p.2)
def kb {O O':vL_}{s s':DS}(I:GI K g σ H fa O s) (a:StE fa O H fa' O' H') (U:GI K g σ H' fa' O' s') (e:H p=none) (J:fa'≠some p):¬ NN g.F fa' O' p:=by
 rintro(z | z | z)
 .exact I.trF z e
 .obtain⟨ys,q⟩:=I.owned (a.sub p z);rw[e] at q;cases q
 .exact J z
def FO.v {f:DA}(h:FO X g e f):EO X g e (l5 f):=EO.w h.pe fun σ H Q U=>by
 refine U.elim fun fa O s d s' I e k=>?_
 simp only[l5] at e;cases q:f s with
 |none=>rw[q] at e;cases e
 |some p=>
  obtain⟨ds,s1⟩:=p;rw[q] at e;simp only[Qe,MP,Ms] at e;obtain⟨J,Y⟩:=e;subst J;subst Y;refine#[fa,O,s,ds,s1,I,q,fun p xs H' fa' O' a L J=>k _ H' fa' O' a L.gi ?_];simp only[Rep];exact#[p,xs,rfl,kb I a L.gi J L.nf,L.ls,Reps.go #[fun b ys n q=>#[q,fun z=>n (.inl z)],fun _ _ q=>q,fun _ _ q=>q,fun _ q=>q] ds xs L.rs]
end
def iT {g:Gh}{O:vL_}{s:DS}{o:HO}(I:GI K g σ H fa O s) (J:H p=none):Car K (NN g.F fa O) fa H (fun b=>NN g.F fa O b\/b=p) fa (k9 H p o):=by
 have c:=I.car (F4 (fa:=fa) (O:=O) (o:=o) J).stp;refine#[fun b xs n q=>?_,c.tp,c.fz,c.fe];obtain⟨Y,U⟩:=c.ls b xs n q;refine#[Y,?_];rintro(z | z)
 .exact U z
 .subst z;rw[J] at q;cases q
def aS {g:Gh}{O:vL_}{s:DS}(I:GI K g σ H fa O s) (J:H p=none) (r:Reps K (NN g.F fa O) fa H ds xs):NewL K g σ (k9 H p (.lst xs)) fa O s p xs ds:=
 #[I.new J,C0,SlR.go (iT I J) (fun b ys _ e=>by rw[t7 (O0 e J)];exact e) I.sl,I.fd.car (iT I J) (I.fd.same_new J),Reps.go (iT I J) ds xs r,fun z=>I.fd.tracked z J]
def dC (d:D):DE:=fun s=>some (d,s)
def dV (i:Nat):DE:=fun s=>match s.sl[i]? with
 |some (.v d)=>some (d,s)
 |some (.own ds)=>some (.lst ds,{ s with sl:=s.sl.set i (.v (.lst ds)) })
 |_=>none
def dL (i:Nat):DE:=fun s=>match s.sl[i]? with
 |some (.v d)=>some (d,s)
 |some (.own ds)=>some (.lst ds,s)
 |_=>none
section
variable {g:Gh}
def T3 {pos:Pos}(h:PE X (.Name x pos) (au i)):BO X g (.Name x pos) (dL i):=BO.w h fun σ H Q U=>by
 refine U.elim fun fa O s d s' I e k=>?_
 simp only[dL] at e;cases q:s.sl[i]? with
 |none=>rw[q] at e;cases e
 |some z=>
  rw[q] at e;cases z with
  |no=>cases e
  |v Z=>
   cases e;obtain⟨u,J,r⟩:=SlR.val I.sl q;exact#[u,J,k u H fa O StE.refl I (r.b fun _ z=>.inr (.inr z))]
  |own ds=>
   cases e;obtain⟨a,xs,J,m,Y,r⟩:=SlR.own I.sl q;exact#[_,J,k _ H fa O StE.refl I #[a,xs,rfl,fun z=>I.nf a z m,Y,r]]
def bz {pos:Pos}(h:PE X (.Name x pos) (au i)):EO X g (.Name x pos) (dV i):=EO.w h fun σ H Q hQ=>by
 refine hQ.elim fun fa O s d s' I e k=>?_
 simp only[dV] at e;cases q:s.sl[i]? with
 |none=>rw[q] at e;cases e
 |some z=>
  rw[q] at e;cases z with
  |no=>cases e
  |v d'=>
   cases e;obtain⟨u,J,r⟩:=SlR.val I.sl q;exact#[u,J,k u H fa O StE.refl I r]
  |own ds=>
   cases e;obtain⟨a,xs,J,m,e2,r⟩:=SlR.own I.sl q;have i':i<s.sl.length:=(MT.mp q).1
   let N1:Addr->Prop:=fun b=>NN g.F fa O b/\b≠a
   have Y:Car X.K (NN g.F fa O) fa H N1 fa H:=#[fun b ys n z=>#[z,fun y=>n y.1],fun _ _ z=>z,fun _ _ z=>z,fun _ z=>z]
   have S1:=SlR.go Y (fun _ _ _ z=>z) I.sl;have R1:Rep X.K N1 fa H (.lst ds) (.ref a):=by
    simp only[Rep];exact#[a,xs,rfl,fun z=>z.2 rfl,e2,Reps.go Y ds xs r]
   obtain⟨P,hs,S2,hn⟩:=SlR.put i S1 R1;have na:a ∉ P:=hn I.nd a (by rw[q];rfl) #[ds,q] J;have eσ:σ.set i (some (V.ref a))=σ:=by
    apply List.ext_getElem?;intro j;by_cases hj:j=i
    .subst hj;rw[J,QK (MT.mp J).1]
    .rw[OE (Mz hj)]
   rw[eσ] at S2;have sub:∀b∈P,b∈O:=fun b Z=>hs.subset Z
   have a1:StE fa O H fa P H:=#[sub,.inl rfl,fun _ _ z _=>z,fun _ z=>z]
   have U:Car X.K N1 fa H (NN g.F fa P) fa H:=#[fun b ys n z=>#[z,fun y=>n #[by
     rcases y with y | y | y
     .exact .inl y
     .exact .inr (.inl (sub b y))
     .exact .inr (.inr y),fun w=>by
     subst w;rcases y with y | y | y
     .exact I.tr b y (I.fr b m)
     .exact na y
     .exact I.nf b y m]],fun _ _ z=>z,fun _ _ z=>z,fun _ z=>z]
   refine#[_,J,k _ H fa P a1 #[hs.nodup I.nd,SlR.go U (fun _ _ _ z=>z) S2,fun b Z=>I.fr b (sub b Z),I.st,I.tr,I.ff,(I.fd.car Y fun _ _=>rfl).car U fun _ _=>rfl,fun b z y=>I.nf b z (sub b y)] (Rep.go U _ _ R1)]
def ko {v:V}(h:PE X e (tC v)) (r:∀K N fa H,Rep K N fa H d v):EO X g e (dC d):=EO.w h fun σ H Q U=>by
 refine U.elim fun fa O s Z s' I q k=>?_
 simp only[dC,MP,Ms] at q;obtain⟨J,Y⟩:=q;subst J;subst Y;exact k v H fa O StE.refl I (r _ _ _ _)
def iP {i j pos}:EO X g (.Constant (.int i) j pos) (dC (.int i)):=ko bj fun _ _ _ _=>by simp only[Rep]
def aG {i j pos}:EO X g (.Constant (.bool i) j pos) (dC (.bl i)):=ko AZ fun _ _ _ _=>by simp only[Rep]
def BU {j pos}:EO X g (.Constant .none j pos) (dC .non):=ko EI fun _ _ _ _=>by simp only[Rep]
def Kv {x j pos} (J:x.length<=sizeLine):EO X g (.Constant (.str x) j pos) (dC (.str x)):=ko EG fun _ _ _ _=>by simp only[Rep];exact#[trivial,J]
end
def J5 (K:vF_) (r:R2) (p:D->D->Option D):Prop:=
 ∀(g:Gh) (σ:L2.St) (H:Hp) (fa:vA_) (O:vL_) (s:DS) (x y:V) (d1 d2 d:D) (Q:VK),GI K g σ H fa O s->RepB K (NN g.F fa O) fa H d1 x->RepB K (NN g.F fa O) fa H d2 y->p d1 d2=some d ->
  (∀v H',StE fa O H fa O H'->GI K g σ H' fa O s->Rep K (NN g.F fa O) fa H' d v->Q v H')->r x y H Q
def zr (K:vF_) (r:V->Hp->VK->Prop) (p:D->Option D):Prop:=
 ∀(g:Gh) (σ:L2.St) (H:Hp) (fa:vA_) (O:vL_) (s:DS) (x:V) (d1 d:D) (Q:VK),GI K g σ H fa O s->RepB K (NN g.F fa O) fa H d1 x->p d1=some d ->
  (∀v H',StE fa O H fa O H'->GI K g σ H' fa O s->Rep K (NN g.F fa O) fa H' d v->Q v H')->r x H Q
def mI (K:vF_) (r:R2) (p:D->D->Option (List D)):Prop:=
 ∀(g:Gh) (σ:L2.St) (H:Hp) (fa:vA_) (O:vL_) (s:DS) (x y:V) (d1 d2:D) (ds:vD_) (Q:VK),GI K g σ H fa O s->RepB K (NN g.F fa O) fa H d1 x->RepB K (NN g.F fa O) fa H d2 y->p d1 d2=some ds ->
  (∀q xs H',StE fa O H fa O H'->NewL K g σ H' fa O s q xs ds->H q=none->Q (.ref q) H')->r x y H Q
def Z8 (K:vF_) (r:List V->Hp->VK->Prop) (p:List D->Option D):Prop:=
 ∀(g:Gh) (σ:L2.St) (H:Hp) (fa:vA_) (O:vL_) (s:DS) (xs:List V) (ds:vD_) (d:D) (Q:VK),GI K g σ H fa O s->aJ K (NN g.F fa O) fa H ds xs->p ds=some d ->
  (∀v H',StE fa O H fa O H'->GI K g σ H' fa O s->Rep K (NN g.F fa O) fa H' d v->Q v H')->r xs H Q
def iI (K:vF_) (r:List V->Hp->VK->Prop) (p:List D->Option (List D)):Prop:=
 ∀(g:Gh) (σ:L2.St) (H:Hp) (fa:vA_) (O:vL_) (s:DS) (xs:List V) (ds es:vD_) (Q:VK),GI K g σ H fa O s->aJ K (NN g.F fa O) fa H ds xs->p ds=some es ->
  (∀q ys H',StE fa O H fa O H'->NewL K g σ H' fa O s q ys es->H q=none->Q (.ref q) H')->r xs H Q
def a9 (p:D->D->Option D) (a b:DE):DE:=fun s=>(a s).bind fun x=>(b x.2).bind fun y=>(p x.1 y.1).map fun d=>(d,y.2)
def V0 (p:D->D->Option (List D)) (a b:DE):DA:=fun s=>(a s).bind fun x=>(b x.2).bind fun y=>(p x.1 y.1).map fun d=>(d,y.2)
def k6 (p:D->Option D) (a:DE):DE:=fun s=>(a s).bind fun x=>(p x.1).map fun d=>(d,x.2)
def pR {α:Type}{p:D->D->Option α}{a b:DE}{s s':DS}{d:α}(h:((a s).bind fun x=>(b x.2).bind fun y=>(p x.1 y.1).map fun d=>(d,y.2))=some (d,s')):∃x s1 y,a s=some (x,s1)/\b s1=some (y,s')/\p x y=some d:=by
 refine A1 h fun x s1 h1 h=>?_
 refine A1 h fun y s2 h2 h=>?_
 refine S5 h fun Y h3 h=>?_
 simp only[Ms] at h;obtain⟨J,U⟩:=h;subst J;subst U;exact#[x,s1,y,h1,h2,h3]
section
variable {g:Gh}{a b:Expr}{fa fb:DE}{pos:Pos}{r:R2}{p:D->D->Option D}
def iG {r:R2}{p:D->D->Option D}(hr:J5 X.K r p) (σ:L2.St) (H:Hp) (Q:VK) (h:liftE X.K g (a9 p fa fb) σ H Q):ee r (liftB X.K g fa) (liftB X.K g fb) σ H Q:=by
 obtain⟨f0,O,s,d,s',I,e,k⟩:=h;obtain⟨x,s1,y,h1,h2,h3⟩:=pR e;refine#[f0,O,s,x,s1,I,h1,fun v H1 f1 O1 a1 Y r1=>#[f1,O1,s1,y,s',Y,h2,fun u H2 J Z U I2 r2=>?_]];exact hr g σ H2 J Z s' v u x y d Q I2 (RepB.stp Y U r1) r2 h3 fun z H3 a3 I3 r3=>k z H3 J Z (a1.trans (U.trans a3)) I3 r3
def Bv {r:R2}{p:D->D->Option (List D)}(hr:mI X.K r p) (σ:L2.St) (H:Hp) (Q:VK) (h:liftF X.K g (V0 p fa fb) σ H Q):ee r (liftB X.K g fa) (liftB X.K g fb) σ H Q:=by
 obtain⟨f0,O,s,d,s',I,e,k⟩:=h;obtain⟨x,s1,y,h1,h2,h3⟩:=pR e;refine#[f0,O,s,x,s1,I,h1,fun v H1 f1 O1 a1 Y r1=>#[f1,O1,s1,y,s',Y,h2,fun u H2 U Z J I2 r2=>?_]];exact hr g σ H2 U Z s' v u x y d Q I2 (RepB.stp Y J r1) r2 h3 fun q xs H3 a3 L e1=>k q xs H3 U Z (a1.trans (J.trans a3)) L (a1.mon _ (J.mon _ e1))
def JO {J:Operator}(Y:OpR X (binaryOp J) r) (Z:J5 X.K r p) (U:BO X g a fa) (hb:BO X g b fb):EO X g (.BinOp a J b pos) (a9 p fa fb):=EO.w (kJ Y U.pe hb.pe) (iG Z)
def wJ {J:Operator}{p:D->D->Option (List D)}(Y:OpR X (binaryOp J) r) (Z:mI X.K r p) (U:BO X g a fa) (hb:BO X g b fb):FO X g (.BinOp a J b pos) (V0 p fa fb):=FO.w (kJ Y U.pe hb.pe) (Bv Z)
def IV {J:CmpOp}(Y:OpR X (compareOp J) r) (Z:J5 X.K r p) (U:BO X g a fa) (hb:BO X g b fb) (hm:behindInMarks J b=false):EO X g (.Compare a [J] [b] pos) (a9 p fa fb):=EO.w (mJ Y U.pe hb.pe hm) (iG Z)
def IQ {r:R2}(U:IxR X r) (Z:J5 X.K r p) (J:BO X g a fa) (hb:BO X g b fb) (Y:pI b):EO X g (.Subscript a b pos) (a9 p fa fb):=EO.w (sL U J.pe hb.pe Y) (iG Z)
def HH {J:UnaryOp}{r:V->Hp->VK->Prop}{p:D->Option D}(Z:kC X (unaryOp J) r) (hr:zr X.K r p) (ha:BO X g a fa):EO X g (.UnaryOp J a pos) (k6 p fa):=EO.w (zw Z ha.pe) fun σ H Q hQ=>by
 refine hQ.elim fun f0 O s d s' I e k=>?_
 refine A1 e fun x s1 h1 h=>?_
 refine S5 h fun d' h3 h=>?_
 simp only[Ms] at h;obtain⟨e1,e2⟩:=h;subst e1;subst e2;exact#[f0,O,s,x,s1,I,h1,fun v H1 f1 O1 a1 I1 r1=>hr g σ H1 f1 O1 s1 v x d' Q I1 r1 h3 fun z H3 a3 U Y=>k z H3 f1 O1 (a1.trans a3) U Y]
def dB (f:DE):DT:=fun s=>(f s).bind fun x=>match x.1 with | .bl b=>some (b,x.2) | _=>none
def jx {f:DE}{s s':DS}{b:Bool}(h:dB f s=some (b,s')):f s=some (.bl b,s'):=by
 refine A1 h fun x s1 h1 h=>?_
 cases x with
 |bl c=>simp only[MP,Ms] at h;rw[h1,h.1,h.2]
 |_=>cases h
def wU {J:CmpOp}(ho:OpR X (compareOp J) r) (hr:J5 X.K r p) (U:BO X g a fa) (hb:BO X g b fb) (hm:behindInMarks J b=false):TO X g (.Compare a [J] [b] pos) (dB (a9 p fa fb)):=
 TO.w (Kf ho U.pe hb.pe hm) fun σ H Q ⟨Z,O,s,d,s',I,e,k⟩=>iG hr σ H _ #[Z,O,s,.bl d,s',I,jx e,fun v H' f1 O1 a Y r=>by
  simp only[Rep] at r;exact#[d,r,k H' f1 O1 a Y]]
def w9:D->Option Bool
 |.non=>some false
 |.bl b=>some b
 |.int i=>some (i != 0)
 |.str x=>some ((x.length:Int) != 0)
 |.tup ds=>some (!ds.isEmpty)
 |.lst ds=>some (!ds.isEmpty)
 |_=>none
def o6 (f:DE):DT:=fun s=>(f s).bind fun x=>(w9 x.1).map fun b=>(b,x.2)
def tV {α β:Type}{xs:List α}{ys:List β}(h:xs.length=ys.length):xs.isEmpty=ys.isEmpty:=by cases xs <;> cases ys <;> simp_all
def Y2 {e:Expr}{f:DE}(h:BO X g e f) (J:∀whole,isTrue e X.env whole=(do let v <-whole;standAt e.pos;holding [v] (truthy v)):=by intro _;rfl):TO X g e (o6 f):=
 TO.w (GX h.pe J) fun σ H Q U=>by
  refine U.elim fun f0 O s d s' I e k=>?_
  obtain⟨⟨x,s1⟩,h1,h.pe⟩:=Oq.mp e;obtain⟨Y,h3,h.pe⟩:=Qf.mp h.pe;simp only[Ms] at h.pe;obtain⟨e1,Z⟩:=h.pe;subst e1;subst Z;refine#[f0,O,s,x,s1,I,h1,fun v H' f1 O1 a I1 r=>#[Y,?_,k H' f1 O1 a I1]];cases x with
  |non=>simp only[RepB,Rep] at r;subst r;cases h3;rfl
  |bl b=>simp only[RepB,Rep] at r;subst r;cases h3;rfl
  |int i=>simp only[RepB,Rep] at r;subst r;cases h3;rfl
  |str x=>simp only[RepB,Rep] at r;obtain⟨r,l⟩:=r;subst r;cases h3;exact#[l,rfl]
  |tup ds=>
   simp only[RepB,Rep] at r;obtain⟨c,xs,r,q,w⟩:=r;subst r;cases h3;exact .inr (.inl #[xs,q,by rw[tV w.length]])
  |lst ds=>
   obtain⟨c,xs,r,_,q,w⟩:=r;subst r;cases h3;exact .inl #[xs,SqL.of q,by rw[tV w.length]]
  |feed=>cases h3
  |scr _=>cases h3
  |fn _=>cases h3
  |exc _ _=>cases h3
def r8 (a b:DT):DT:=fun s=>(a s).bind fun x=>if x.1=true then b x.2 else some (false,x.2)
def u4 (a b:DT):DT:=fun s=>(a s).bind fun x=>if x.1=true then some (true,x.2) else b x.2
def t9 (a:DT):DT:=fun s=>(a s).map fun x=>(!x.1,x.2)
def v7 (a b:DE):DE:=fun s=>(dB a s).bind fun x=>if x.1=true then b x.2 else some (.bl false,x.2)
def A4 (a b:DE):DE:=fun s=>(dB a s).bind fun x=>if x.1=true then some (.bl true,x.2) else b x.2
def A5 (a:DE):DE:=fun s=>(dB a s).map fun x=>(.bl (!x.1),x.2)
variable {ta tb:DT}
def Du (h:TO X g a ta):WO X g (.BoolOp .And [a] pos) ta:=#[Fc h.pe]
def Lm (h:TO X g a ta):WO X g (.BoolOp .Or [a] pos) ta:=#[Bc h.pe]
def gu (ha:TO X g a ta) (hb:WO X g (.BoolOp .And (b::rest) pos) tb):WO X g (.BoolOp .And (a::b::rest) pos) (r8 ta tb):=WO.w (Fh ha.pe hb.pe) fun σ H Q Z=>by
 refine Z.elim fun f0 O s d s' I e k=>?_
 refine A1 e fun x s1 h1 h=>?_
 refine#[f0,O,s,x,s1,I,h1,fun H1 f1 O1 U J=>?_];cases x with
 |true=>rw[iO rfl] at h ⊢;exact#[f1,O1,s1,d,s',J,h,fun H2 Y O2 a2 I2=>k H2 Y O2 (U.trans a2) I2]
 |false=>
  rw[iR Mk] at h ⊢;simp only[MP,Ms] at h;obtain⟨e1,e2⟩:=h;subst e1;subst e2;exact k H1 f1 O1 U J
def gn (ha:TO X g a ta) (hb:WO X g (.BoolOp .Or (b::rest) pos) tb):WO X g (.BoolOp .Or (a::b::rest) pos) (u4 ta tb):=WO.w (Gz ha.pe hb.pe) fun σ H Q Z=>by
 refine Z.elim fun f0 O s d s' I e k=>?_
 refine A1 e fun x s1 h1 h=>?_
 refine#[f0,O,s,x,s1,I,h1,fun H1 f1 O1 U J=>?_];cases x with
 |false=>rw[iR Mk] at h ⊢;exact#[f1,O1,s1,d,s',J,h,fun H2 Y O2 a2 I2=>k H2 Y O2 (U.trans a2) I2]
 |true=>
  rw[iO rfl] at h ⊢;simp only[MP,Ms] at h;obtain⟨e1,e2⟩:=h;subst e1;subst e2;exact k H1 f1 O1 U J
def WO.t {f:DT}(h:WO X g e f):TO X g e f:=#[h.pe.pt]
def cF (Y:TO X g a ta):TO X g (.UnaryOp .Not a pos) (t9 ta):=TO.w (HW Y.pe) fun σ H Q J=>by
 refine J.elim fun f0 O s d s' I e k=>?_
 refine mapP e fun x s1 h1 h=>?_
 simp only[Ms] at h;obtain⟨Z,U⟩:=h;subst Z;subst U;exact#[f0,O,s,x,s1,I,h1,fun H1 f1 O1 a1 I1=>k H1 f1 O1 a1 I1]
def kc {op} {f:DE}(h:EO X g a f):EO X g (.BoolOp op [a] pos) f:=#[Ce h.pe]
def jA (ha:EO X g a fa) (hb:EO X g (.BoolOp .And (b::rest) pos) fb):EO X g (.BoolOp .And (a::b::rest) pos) (v7 fa fb):=EO.w (Ep ha.pe hb.pe) fun σ H Q Z=>by
 refine Z.elim fun f0 O s d s' I e k=>?_
 refine A1 e fun x s1 h1 h=>?_
 refine#[f0,O,s,_,s1,I,jx h1,fun v H1 f1 O1 U J r=>#[x,by simpa only[Rep] using r,?_]];cases x with
 |true=>rw[iO rfl] at h ⊢;exact#[f1,O1,s1,d,s',J,h,fun v H2 Y O2 a2 I2=>k v H2 Y O2 (U.trans a2) I2]
 |false=>
  rw[iR Mk] at h ⊢;simp only[MP,Ms] at h;obtain⟨e1,e2⟩:=h;subst e1;subst e2;exact k _ H1 f1 O1 U J (by simp only[Rep])
def LV (ha:EO X g a fa) (hb:EO X g (.BoolOp .Or (b::rest) pos) fb):EO X g (.BoolOp .Or (a::b::rest) pos) (A4 fa fb):=EO.w (BK ha.pe hb.pe) fun σ H Q Z=>by
 refine Z.elim fun f0 O s d s' I e k=>?_
 refine A1 e fun x s1 h1 h=>?_
 refine#[f0,O,s,_,s1,I,jx h1,fun v H1 f1 O1 U J r=>#[x,by simpa only[Rep] using r,?_]];cases x with
 |false=>rw[iR Mk] at h ⊢;exact#[f1,O1,s1,d,s',J,h,fun v H2 Y O2 a2 I2=>k v H2 Y O2 (U.trans a2) I2]
 |true=>
  rw[iO rfl] at h ⊢;simp only[MP,Ms] at h;obtain⟨e1,e2⟩:=h;subst e1;subst e2;exact k _ H1 f1 O1 U J (by simp only[Rep])
def wY (Y:EO X g a fa):EO X g (.UnaryOp .Not a pos) (A5 fa):=EO.w (CQ Y.pe) fun σ H Q J=>by
 refine J.elim fun f0 O s d s' I e k=>?_
 refine mapP e fun x s1 h1 h=>?_
 simp only[Ms] at h;obtain⟨Z,U⟩:=h;subst Z;subst U;exact#[f0,O,s,_,s1,I,jx h1,fun v H1 f1 O1 a1 I1 r=>#[x,by simpa only[Rep] using r,k _ H1 f1 O1 a1 I1 (by simp only[Rep])]]
def A6 (c:DT) (a b:DE):DE:=fun s=>(c s).bind fun x=>if x.1=true then a x.2 else b x.2
def b9:DA:=fun s=>some ([],s)
def a7 (a:DE) (r:DA):DA:=fun s=>(a s).bind fun x=>(r x.2).map fun y=>(x.1::y.1,y.2)
def fS {a:DE}{r:DA}{s s':DS}(h:a7 a r s=some (ds,s')):∃d s1 es,a s=some (d,s1)/\r s1=some (es,s')/\ds=d::es:=by
 refine A1 h fun x s1 h1 h=>?_
 refine mapP h fun y s2 h2 h=>?_
 simp only[Ms] at h;exact#[x,s1,y,h1,by rw[h2,h.2],h.1.symm]
variable {fr:DA}
def nH:AO X g [] b9:=AO.w aI fun σ H Q U=>by
 refine U.elim fun Y O s d s' I e k=>?_
 simp only[b9,MP,Ms] at e;obtain⟨J,Z⟩:=e;subst J;subst Z;exact k [] H Y O StE.refl I (by simp only[Reps])
def mU (ha:EO X g a fa) (hr:AO X g es fr) (hs:starEach (a::es) X.env=(false,eval a X.env)::starEach es X.env:=by rfl):AO X g (a::es) (a7 fa fr):=AO.w (V3 ha.pe hr.pe hs) fun σ H Q Z=>by
 refine Z.elim fun f0 O s ds s' I e k=>?_
 obtain⟨d,s1,es,h1,h2,h3⟩:=fS e;subst h3;refine#[f0,O,s,d,s1,I,h1,fun v H1 f1 O1 a1 U r1=>#[f1,O1,s1,es,s',U,h2,fun vs H2 Y O2 J I2 r2=>?_]];refine k (v::vs) H2 Y O2 (a1.trans J) I2 ?_;simp only[Reps];exact#[v,vs,rfl,Rep.stp U J.stp r1,r2]
def oF:BAO X g [] b9:=BAO.w aI fun σ H Q U=>by
 refine U.elim fun Y O s d s' I e k=>?_
 simp only[b9,MP,Ms] at e;obtain⟨J,Z⟩:=e;subst J;subst Z;exact k [] H Y O StE.refl I (by simp only[aJ])
def Fv (ha:BO X g a fa) (hr:BAO X g es fr) (hs:starEach (a::es) X.env=(false,eval a X.env)::starEach es X.env:=by rfl):BAO X g (a::es) (a7 fa fr):=BAO.w (V3 ha.pe hr.pe hs) fun σ H Q Z=>by
 refine Z.elim fun f0 O s ds s' I e k=>?_
 obtain⟨d,s1,es,h1,h2,h3⟩:=fS e;subst h3;refine#[f0,O,s,d,s1,I,h1,fun v H1 f1 O1 a1 U r1=>#[f1,O1,s1,es,s',U,h2,fun vs H2 Y O2 J I2 r2=>?_]];exact k (v::vs) H2 Y O2 (a1.trans J) I2 #[v,vs,rfl,RepB.stp U J r1,r2]
def i7 (f:DA):DE:=fun s=>(f s).bind fun x=>if x.1.length<=sizeLine then some (.tup x.1,x.2) else none
def n9 (f:DA):DA:=fun s=>(f s).bind fun x=>if x.1.length<=sizeLine then some (x.1,x.2) else none
def Hj {x1} (h:AO X g es fr):EO X g (.Tuple es x1 pos) (i7 fr):=EO.w (EC h.pe) fun σ H Q hQ=>by
 refine hQ.elim fun f0 O s d s' I e k=>?_
 obtain⟨⟨ds,s1⟩,h1,h.pe⟩:=Oq.mp e;by_cases J:ds.length<=sizeLine
 .rw[iO J] at h.pe;simp only[MP,Ms] at h.pe;obtain⟨e1,e2⟩:=h.pe;subst e1;subst e2;refine#[f0,O,s,ds,s1,I,h1,fun vs H1 f1 O1 a1 I1 U=>#[by rw[U.length];exact J,fun p Z=>?_]];have Y:StE f1 O1 H1 f1 O1 (k9 H1 p (.tup vs)):=F4 Z;refine k _ _ f1 O1 (a1.trans Y) (I1.new Z) ?_;simp only[Rep];exact#[p,vs,rfl,SqT.of C0,Reps.stp I1 Y.stp U]
 .rw[iR J] at h.pe;cases h.pe
def si (h:AO X g es fr):FO X g (.List es pos) (n9 fr):=FO.w (iM h.pe) fun σ H Q hQ=>by
 refine hQ.elim fun f0 O s d s' I e k=>?_
 obtain⟨⟨ds,s1⟩,h1,h.pe⟩:=Oq.mp e;by_cases J:ds.length<=sizeLine
 .rw[iO J] at h.pe;simp only[MP,Ms] at h.pe;obtain⟨e1,e2⟩:=h.pe;subst e1;subst e2;refine#[f0,O,s,ds,s1,I,h1,fun vs H1 f1 O1 Z I1 Y=>#[by rw[Y.length];exact J,fun p U=>?_]];have a2:StE f1 O1 H1 f1 O1 (k9 H1 p (.lst vs)):=F4 U;exact k p vs _ f1 O1 (Z.trans a2) (aS I1 U Y) (Z.mon _ U)
 .rw[iR J] at h.pe;cases h.pe
end
section
variable {g:Gh}{σ:L2.St}{O O':vL_}{s s':DS}
def NN.mono {F:vB_}{P:vL_}(h:∀b∈P,b∈O) {b:Addr}(z:NN F fa P b):NN F fa O b:=by
 rcases z with z | z | z
 .exact .inl z
 .exact .inr (.inl (h b z))
 .exact .inr (.inr z)
def vT {F:vB_}(h:∀b,NN F fa O b->N b):Car K N fa H (NN F fa O) fa H:=#[fun b xs n q=>#[q,fun z=>n (h b z)],fun _ _ q=>q,fun _ _ q=>q,fun _ q=>q]
theorem DI.put (I:GI K g σ H fa O s) (i:Nat) {v:V}(r:Rep K (NN g.F fa O) fa H d v):∃P,(∀b∈P,b∈O)/\GI K g (σ.set i (some v)) H fa P { s with sl:=s.sl.set i (.v d) }:=by
 obtain⟨P,U,S,_⟩:=SlR.put i I.sl r;have sub:∀b∈P,b∈O:=fun b J=>U.subset J
 have c:Car K (NN g.F fa O) fa H (NN g.F fa P) fa H:=vT fun b=>NN.mono sub
 exact#[P,sub,U.nodup I.nd,SlR.go c (fun _ _ _ z=>z) S,fun b J=>I.fr b (sub b J),I.st,I.tr,I.ff,I.fd.car c fun _ _=>rfl,fun b z y=>I.nf b z (sub b y)]
def gQ {P:vL_}(h:∀b∈P,b∈O):StE fa O H fa P H:=#[h,.inl rfl,fun _ _ e _=>e,fun _ e=>e]
def NewL.put (L:NewL K g σ H fa O s p xs ds) (i:Nat) (hi:i<s.sl.length) (U:g.H0 p=none) (Y:p ∉ O):∃P,(∀b∈P,b=p\/b∈O)/\GI K g (σ.set i (some (.ref p))) H fa P { s with sl:=s.sl.set i (.own ds) }:=by
 obtain⟨P,h1,h2,S⟩:=SlR.putN i L.sl hi Y L.gi.nd L.ls L.rs;have c:Car K (fun b=>NN g.F fa O b\/b=p) fa H (NN g.F fa P) fa H:=vT fun b z=>by
  rcases z with z | z | z
  .exact .inl (.inl z)
  .rcases h1 b z with y | y
   .exact .inr y
   .exact .inl (.inr (.inl y))
  .exact .inl (.inr (.inr z))
 refine#[P,h1,h2,SlR.go c (fun _ _ _ z=>z) S,fun b J=>?_,L.gi.st,L.gi.tr,L.gi.ff,L.fd.car c fun _ _=>rfl,fun b z J=>?_]
 .rcases h1 b J with y | y
  .rw[y];exact U
  .exact L.gi.fr b y
 .rcases h1 b J with y | y
  .rw[y] at z;exact L.nf z
  .exact L.gi.nf b z y
theorem DI.rew (I:GI K g σ H fa O s) {es:vD_}(Y:s.sl[i]? = some (.own ds)) (Z:σ[i]? = some (some (.ref a))) (m:a∈O) (e3:H a=some (.lst xs)) (r:Reps K (NN g.F fa O) fa H es ys) :
  GI K g σ (k9 H a (.lst ys)) fa O { s with sl:=s.sl.set i (.own es) }/\Stp fa O H fa O (k9 H a (.lst ys)):=by
 have U:Stp fa O H fa O (k9 H a (.lst ys)):=#[fun b J=>.inl J,.inl rfl,fun b u e n _=>by
  rw[t7 (show b≠a from fun z=>n (by rw[z];exact m))];exact e,fun b z=>by
  by_cases J:b=a
  .subst J;rw[C0] at z;cases z
  .rw[t7 J] at z;exact z]
 have c:=I.car U;have k:∀b u,b≠a->H b=some u->k9 H a (.lst ys) b=some u:=fun b u n e=>by rw[t7 n];exact e
 refine#[#[I.nd,SlR.rew I.sl I.nd (fun b J=>.inr (.inl J)) Y Z C0 c k (Reps.go c es ys r),I.fr,?_,I.tr,I.ff,I.fd.car c fun b J=>?_,I.nf],U]
 .refine#[fun b J=>(by cases J),I.st.fe,fun b u e n f=>?_,fun b z=>I.st.mon b (U.mon b z)];refine k b u (fun z=>?_) (I.st.same b u e n f);rw[z,I.fr a m] at e;cases e
 .refine t7 fun z=>?_
  subst z;exact I.nf _ J m
end
def FlK.shift {g:Gh}{E:Ends}{O O':vL_}{s:DS}(a:Stp fa O H fa' O' H') (h:FlK K g E fa O H fl s):FlK K g E fa' O' H' fl s:=by
 cases fl with
 |next=>exact fun σ' H2 U Y J Z=>h σ' H2 U Y (a.trans J) Z
 |brk=>exact fun σ' H2 U Y J Z=>h σ' H2 U Y (a.trans J) Z
 |cont=>exact fun σ' H2 U Y J Z=>h σ' H2 U Y (a.trans J) Z
 |ret d=>exact fun σ' v H2 U Y J Z=>h σ' v H2 U Y (a.trans J) Z
 |thr c ds=>exact fun σ' C dx od xs H2 U Y J Z=>h σ' C dx od xs H2 U Y (a.trans J) Z
def j8:DM:=fun s=>some (.next,s)
def w5 (b:DM) (x:Fl × DS):Option (Fl × DS):=match x.1 with
 |.next=>b x.2
 |.brk=>some (.brk,x.2)
 |.cont=>some (.cont,x.2)
 |.ret d=>some (.ret d,x.2)
 |.thr c ds=>some (.thr c ds,x.2)
def d6 (a b:DM):DM:=fun s=>(a s).bind (w5 b)
section
variable {g:Gh}{rest:List Stmt}{pos:Pos}{a b:DM}{f:DE}
def Q5:SSO X g [] j8:=SSO.w HU fun E σ H J=>by
 refine J.elim fun fa O s fl s' I e k=>?_
 cases e;exact k σ H fa O Stp.refl I
def F3 (h:SO X g st a):SSO X g [st] a:=#[Hc h.pe]
def B4 (h:SO X g st a) (Y:SSO X g rest b):SSO X g (st::rest) (d6 a b):=SSO.w (Dq h.pe Y.pe) fun E σ H J=>by
 refine J.elim fun fa O s fl s' I e k=>?_
 refine A1 e fun f1 s1 h1 h2=>?_
 refine#[fa,O,s,f1,s1,I,h1,?_];cases f1 with
 |next=>exact fun σ' H' f1 O1 Z U=>#[f1,O1,s1,fl,s',U,h2,k.shift Z]
 |brk=>cases h2;exact k
 |cont=>cases h2;exact k
 |ret d=>cases h2;exact k
 |thr c ds=>cases h2;exact k
def i8 (f:DE):DM:=fun s=>(f s).map fun x=>(.ret x.1,x.2)
def O8 (J:EO X g e f):SO X g (.Return (some e) pos) (i8 f):=SO.w (yJ J.pe) fun E σ H U=>by
 refine U.elim fun fa O s fl s' I q k=>?_
 refine mapP q fun d s1 h1 h2=>?_
 cases h2;exact#[fa,O,s,d,s1,I,h1,fun v H' f1 O1 Z Y r=>k σ v H' f1 O1 Z.stp Y r]
def j7 (c:DT) (a b:DM):DM:=fun s=>(c s).bind fun x=>if x.1=true then a x.2 else b x.2
def Q6 {c:Expr}(Z:TO X g c fc) (ha:SSO X g la a) (hb:SSO X g lb b):SO X g (.If c la lb pos) (j7 fc a b):=SO.w (HG Z.pe ha.pe hb.pe) fun E σ H Y=>by
 refine Y.elim fun fa O s fl s' I e k=>?_
 refine A1 e fun x s1 h1 h=>?_
 refine#[fa,O,s,x,s1,I,h1,fun H1 f1 O1 U J=>?_];cases x with
 |false=>rw[iR Mk] at h ⊢;exact#[f1,O1,s1,fl,s',J,h,k.shift U.stp]
 |true=>rw[iO rfl] at h ⊢;exact#[f1,O1,s1,fl,s',J,h,k.shift U.stp]
def liftG (K:vF_) (g:Gh) (t:D->DS->Option DS):TG:=fun v σ H Q=>∃fa O s d s',GI K g σ H fa O s/\Rep K (NN g.F fa O) fa H d v/\t d s=some s'/\∀σ' H' fa' O',Stp fa O H fa' O' H'->GI K g σ' H' fa' O' s'->Q σ' H'
def liftGs (K:vF_) (g:Gh) (t:List D->DS->Option DS):Y3:=fun vs σ H Q=>∃fa O s ds s',GI K g σ H fa O s/\Reps K (NN g.F fa O) fa H ds vs/\t ds s=some s'/\∀σ' H' fa' O',Stp fa O H fa' O' H'->GI K g σ' H' fa' O' s'->Q σ' H'
section
variable {g:Gh}{σ:L2.St}{Q:L2.St->Hp->Prop}
def liftG.elim {t:D->DS->Option DS}{v:V}(h:liftG K g t v σ H Q) (k:∀fa O s d s',GI K g σ H fa O s->Rep K (NN g.F fa O) fa H d v->t d s=some s'->(∀σ' H' fa' O',Stp fa O H fa' O' H'->GI K g σ' H' fa' O' s'->Q σ' H')->G):G:=by
 obtain⟨fa,O,s,d,s',a,r,b,c⟩:=h;exact k fa O s d s' a r b c
def liftGs.elim {t:List D->DS->Option DS}{v:List V}(h:liftGs K g t v σ H Q) (k:∀fa O s d s',GI K g σ H fa O s->Reps K (NN g.F fa O) fa H d v->t d s=some s'->(∀σ' H' fa' O',Stp fa O H fa' O' H'->GI K g σ' H' fa' O' s'->Q σ' H')->G):G:=by
 obtain⟨fa,O,s,d,s',a,r,b,c⟩:=h;exact k fa O s d s' a r b c
end
structure GO (X:Cx) (g:Gh) (e:Expr) (t:D->DS->Option DS):Prop where
 pe:PG X e (liftG X.K g t)
structure GsO (X:Cx) (g:Gh) (es:List Expr) (t:List D->DS->Option DS):Prop where
 pe:bo X es (liftGs X.K g t)
def d8 (i:Nat) (d:D):DS->Option DS:=fun s=>some { s with sl:=s.sl.set i (.v d) }
def Cg {t t':TG}(h:PG X e t) (w:∀v σ H Q,t' v σ H Q->t v σ H Q):PG X e t':=fun pins s σ H v u Q I r q=>h pins s σ H v u Q I r (w v σ H Q q)
def HX {t t':Y3}(h:bo X es t) (w:∀v σ H Q,t' v σ H Q->t v σ H Q):bo X es t':=fun pins s σ H v u Q I r q=>h pins s σ H v u Q I r (w v σ H Q q)
theorem GO.w {f:D->DS->Option DS}{t:TG}(h:PG X e t) (w:∀v σ H Q,liftG X.K g f v σ H Q->t v σ H Q):GO X g e f:=#[Cg h w]
theorem GsO.w {f:List D->DS->Option DS}{t:Y3}(h:bo X es t) (w:∀v σ H Q,liftGs X.K g f v σ H Q->t v σ H Q):GsO X g es f:=#[HX h w]
def Lf (h:PG X (.Name x pos) (Z5 i)):GO X g (.Name x pos) (d8 i):=GO.w h fun v σ H Q J=>by
 refine J.elim fun fa O s d s' I r e k=>?_
 cases e;obtain⟨P,sub,U⟩:=I.put i r;exact k _ H fa P (gQ sub).stp U
def t6:List D->DS->Option DS
 |[],s=>some s
 |_::_,_=>none
def l8 (t:D->DS->Option DS) (u:List D->DS->Option DS):List D->DS->Option DS
 |[],_=>none
 |d::r,s=>(t d s).bind (u r)
def Fi:GsO X g [] t6:=GsO.w sG fun v σ H Q J=>by
 refine J.elim fun fa O s ds s' I r e k=>?_
 cases ds with
 |nil=>cases e;simp only[Reps] at r;exact#[r,k σ H fa O Stp.refl I]
 |cons d U=>cases e
def Ij {es:List Expr}{t:D->DS->Option DS}{u:List D->DS->Option DS}(h:GO X g e t) (hr:GsO X g es u) (hs:(assignEach (e::es) X.env).map (·.2)=assign e X.env::(assignEach es X.env).map (·.2):=by rfl):GsO X g (e::es) (l8 t u):=
 GsO.w (ni h.pe hr.pe hs) fun v σ H Q hQ=>by
  refine hQ.elim fun fa O s ds s' I r e k=>?_
  cases ds with
  |nil=>cases e
  |cons d Y=>
   refine Y6 e fun s1 h1 h2=>?_
   simp only[Reps] at r;obtain⟨x,ys,rfl,U,ry⟩:=r;exact#[x,ys,rfl,fa,O,s,d,s1,I,U,h1,fun σ1 H1 f1 O1 J I1=>#[f1,O1,s1,Y,s',I1,Reps.stp I J ry,h2,fun σ2 H2 Z O2 a2 I2=>k σ2 H2 Z O2 (J.trans a2) I2]]
def p9 (n:Nat) (u:List D->DS->Option DS) (d:D) (s:DS):Option DS:=match d with
 |.tup ds=>if ds.length=n then u ds s else none
 |_=>none
def Kx {es:List Expr}{k:Nat}{n:Nat}{u:List D->DS->Option DS}(Z:X.calm=true) (h:GsO X g es u) (hn:(assignEach es X.env).length=n:=by rfl) (U:(assignEach es X.env).findIdx? (·.1)=none:=by rfl):GO X g (.Tuple es k pos) (p9 n u):=
 GO.w (yF Z h.pe hn U) fun v σ H Q Y=>by
  refine Y.elim fun fa O s d s' I r e k=>?_
  cases d with
  |tup ds=>
   simp only[p9] at e;by_cases J:ds.length=n
   .rw[iO J] at e;simp only[Rep] at r;obtain⟨a,xs,rfl,q,w⟩:=r;exact#[a,xs,rfl,q,by rw[w.length];exact J,fa,O,s,ds,s',I,w,e,k]
   .rw[iR J] at e;cases e
  |_=>cases e
def j4 (f:DE) (t:D->DS->Option DS):DM:=fun s=>(f s).bind fun x=>(t x.1 x.2).map fun s'=>(.next,s')
def wA {f:DE}{t:D->DS->Option DS}(E:Ends) (σ:L2.St) (H:Hp) (h:liftS X.K g (j4 f t) E σ H):gC (liftE X.K g f) (liftG X.K g t) E σ H:=by
 obtain⟨fa,O,s,fl,s',I,q,k⟩:=h;refine A1 q fun d s1 h1 h2=>?_
 refine S5 h2 fun s2 h3 Z=>?_
 cases Z;exact#[fa,O,s,d,s1,I,h1,fun v H1 f1 O1 a1 I1 r=>#[f1,O1,s1,d,_,I1,r,h3,fun σ2 H2 J O2 Y U=>k σ2 H2 J O2 (a1.stp.trans Y) U]]
def GD {tg:Expr}{t:D->DS->Option DS}(J:EO X g e f) (Y:GO X g tg t) (U:swapsWithSole [tg] e pos.line X.env=pure false:=by rfl) (Z:swappedStores [tg] e X.env=pure none:=by rfl)
  (h1:(assignEach [tg] X.env).map (·.2)=[assign tg X.env]:=by rfl):SO X g (.Assign [tg] e pos) (j4 f t):=SO.w (pN J.pe Y.pe U Z h1) wA
def Bb {i:Nat}{x:Str}{pos':Pos}(hN:X.N.Nodup) (hi:X.N[i]? = some x) (hx:Z4 X.env.scope x) (U:EO X g e f) (hs:swapsWith e (some (.Name x pos')) pos.line X.env=pure false:=by rfl) (J:X.fn x=true\/X.env.scope.names.lookup x=some .local:=by first | exact .inl rfl | exact .inr rfl | assumption) :
  SO X g (.Assign [.Name x pos'] e pos) (j4 f (d8 i)):=SO.w (oN hN hi hx U.pe hs J) fun E σ H h=>by
 obtain⟨fa,O,s,d,s1,I,h1,k⟩:=wA E σ H h;refine#[fa,O,s,d,s1,I,h1,fun v H1 f1 O1 a1 I1 r=>?_];obtain⟨Y,O2,s2,d2,s3,I2,r2,Z,k2⟩:=k v H1 f1 O1 a1 I1 r;cases Z;obtain⟨P,sub,I'⟩:=I2.put i r2;exact k2 _ H1 Y P (gQ sub).stp I'
def E4 (i:Nat) (f:DA):DM:=fun s=>(f s).bind fun x=>if i<x.2.sl.length then some (.next,{ x.2 with sl:=x.2.sl.set i (.own x.1) }) else none
def fX {i:Nat}{x:Str}{f:DA}{pos':Pos}(hN:X.N.Nodup) (hi:X.N[i]? = some x) (hx:Z4 X.env.scope x) (he:FO X g e f) (hs:swapsWith e (some (.Name x pos')) pos.line X.env=pure false:=by rfl) (hf:X.fn x=true\/X.env.scope.names.lookup x=some .local:=by first | exact .inl rfl | exact .inr rfl | assumption) :
  SO X g (.Assign [.Name x pos'] e pos) (E4 i f):=SO.w (oN hN hi hx he.pe hs hf) fun E σ H Z=>by
 refine Z.elim fun fa O s fl s' I q k=>?_
 refine A1 q fun ds s1 h1 h2=>?_
 by_cases U:i<s1.sl.length
 .simp only[] at h2;rw[iO U] at h2;cases h2;refine#[fa,O,s,ds,s1,I,h1,fun p xs H1 f1 O1 J L Y=>?_];have np:p ∉ O1:=fun z=>by
   obtain⟨ys,e⟩:=I.owned (J.sub p z);rw[Y] at e;cases e
  obtain⟨P,sub,I'⟩:=L.put i U (I.st.mon p Y) np;refine k _ H1 f1 P #[fun b hb=>?_,J.fe,fun b u e _ n=>J.same b u e n,J.mon] I';rcases sub b hb with y | y
  .exact .inr (by rw[y];exact Y)
  .exact .inl (J.sub b y)
 .simp only[] at h2;rw[iR U] at h2;cases h2
def J0 (i:Nat) (f:DE):DM:=fun s=>match s.sl[i]? with
 |some (.own _)=>(f s).bind fun x=>match x.2.sl[i]? with
  |some (.own ds)=>if ds.length<sizeLine then some (.next,{ x.2 with sl:=x.2.sl.set i (.own (ds++[x.1])) }) else none
  |_=>none
 |_=>none
def Ki {i:Nat}{x:Str}{p1 p2 Z p4:Pos}(hv:PE X (.Name x p1) (au i)) (he:EO X g e f) (Y:attributeBase (.Name x p1) ("append" : Str) X.env (eval (.Name x p1) X.env)=eval (.Name x p1) X.env:=by rfl)
  (hfew:((backTo Z (starEach [e] X.env)).all (fun x=>!x.1)&&(backToKw Z (keywordEach [] X.env)).all (fun x=>x.1.isSome)
   && decide ([e].length+([]:List Keyword).length+(if ([]:List Keyword).isEmpty then 0 else 1)<30))=true:=by rfl)
  (U:(p2.endLine == Z.line)=true:=by rfl) (hs:starEach [e] X.env=(false,eval e X.env)::starEach [] X.env:=by rfl) (J:(backTo Z (starEach [] X.env)).any (·.1)=false:=by rfl)
  (hsw:swapsWith (.Call (.Attribute (.Name x p1) ("append" : Str) p2) [e] [] Z) none p4.line X.env=pure false:=by rfl) :
  SO X g (.Expr (.Call (.Attribute (.Name x p1) ("append" : Str) p2) [e] [] Z) p4) (J0 i f):=
 SO.w (DQ (EW PySem.F.plainAttrs_list PySem.F.slot_list_append PySem.F.type_list_append va hv (V3 he.pe aI hs) Y hfew U hs J) hsw) fun E σ H hQ=>by
  refine hQ.elim fun fa O s fl s' I q k=>?_
  cases q0:s.sl[i]? with
  |none=>simp only[J0,q0] at q;cases q
  |some z=>
  cases z with
  |no=>simp only[J0,q0] at q;cases q
  |v _=>simp only[J0,q0] at q;cases q
  |own ds0=>
  simp only[J0,q0] at q;obtain⟨a,xs0,e1,m,e2,_⟩:=SlR.own I.sl q0;refine A1 q fun d s1 h1 h2=>?_
  cases q2:s1.sl[i]? with
  |none=>simp only[q2] at h2;cases h2
  |some z=>
   cases z with
   |no=>simp only[q2] at h2;cases h2
   |v _=>simp only[q2] at h2;cases h2
   |own ds=>
    simp only[q2] at h2;by_cases hl:ds.length<sizeLine
    .rw[iO hl] at h2;cases h2;refine#[_,e1,.inl #[rfl,xs0,SqL.of e2],fa,O,s,d,s1,I,h1,fun v H1 f1 O1 a1 I1 r=>?_];obtain⟨b,xs,e3,m1,e4,r1⟩:=SlR.own I1.sl q2;rw[e1] at e3;cases e3;obtain⟨I2,a2⟩:=I1.rew q2 e1 m1 e4 (Reps.append r1 (Reps.one r));exact#[a,xs,v,rfl,rfl,e4,by rw[r1.length];exact hl,k σ _ f1 O1 (a1.stp.trans a2) I2]
    .rw[iR hl] at h2;cases h2
end
def A9 (t:D->DS->Option DS) (b:DM):List D->DS->Option (Fl × DS)
 |[],s=>some (.next,s)
 |d::r,s=>(t d s).bind fun s1=>(b s1).bind fun x=>match x.1 with
  |.next=>A9 t b r x.2
  |.cont=>A9 t b r x.2
  |.brk=>some (.next,x.2)
  |.ret v=>some (.ret v,x.2)
  |.thr c ds=>some (.thr c ds,x.2)
def W4 (K:vF_) (g:Gh) (f1:vA_) (O1:vL_) (H1:Hp) (t:D->DS->Option DS) (b:DM) (ds:vD_) (fl:Fl) (sf:DS) (i:Nat):L2.St->Hp->Prop:=fun σ' H'=>
 ∃fa' O' s',Stp f1 O1 H1 fa' O' H'/\GI K g σ' H' fa' O' s'/\A9 t b (ds.drop i) s'=some (fl,sf)
section
variable {g:Gh}{f1:vA_}{O1:vL_}{t:D->DS->Option DS}{b:DM}{fl:Fl}{sf:DS}{E:Ends}{σ':L2.St}
def su {α:Type}{l:List α}{d:α}(h:l[i]? = some d):l.drop i=d::l.drop (i+1):=by
 obtain⟨hi,e⟩:=MT.mp h;rw[RD hi,e]
def fv (hk:FlK K g E f1 O1 H1 fl sf) {x:V}(hd:ds[i]? = some d) (hr:∀fa' O',Stp f1 O1 H1 fa' O' H'->Rep K (NN g.F fa' O') fa' H' d x) (h:W4 K g f1 O1 H1 t b ds fl sf i σ' H') :
  liftG K g t x σ' H' fun σ2 H2=>liftS K g b { E with nx:=W4 K g f1 O1 H1 t b ds fl sf (i+1),ct:=W4 K g f1 O1 H1 t b ds fl sf (i+1),bk:=E.nx } σ2 H2:=by
 obtain⟨fa',O',s',st,I,e⟩:=h;rw[su hd,A9] at e;refine Y6 e fun s1 h1 h2=>?_
 refine A1 h2 fun fb s2 h3 h4=>?_
 refine#[fa',O',s',d,s1,I,hr fa' O' st,h1,fun σ2 H2 f2 O2 a2 I2=>#[f2,O2,s1,fb,s2,I2,h3,?_]];cases fb with
 |next=>exact fun σ3 H3 Z J Y U=>#[Z,J,s2,st.trans (a2.trans Y),U,h4]
 |cont=>exact fun σ3 H3 Z J Y U=>#[Z,J,s2,st.trans (a2.trans Y),U,h4]
 |brk=>cases h4;exact fun σ3 H3 Z J Y U=>hk σ3 H3 Z J (st.trans (a2.trans Y)) U
 |ret v=>cases h4;exact fun σ3 v H3 Z J Y U r=>hk σ3 v H3 Z J (st.trans (a2.trans Y)) U r
 |thr c es=>cases h4;exact fun σ3 C dx od xs H3 Z J Y U=>hk σ3 C dx od xs H3 Z J (st.trans (a2.trans Y)) U
def fZ (hk:FlK K g E f1 O1 H1 fl sf) {n:Nat}(J:ds.length<=n) (h:W4 K g f1 O1 H1 t b ds fl sf n σ' H'):E.nx σ' H':=by
 obtain⟨fa',O',s',st,I,e⟩:=h;rw[RE J,A9] at e;cases e;exact hk σ' H' fa' O' st I
end
def G5 (f:DE) (t:D->DS->Option DS) (b:DM):DM:=fun s=>(f s).bind fun x=>match x.1 with
 |.lst ds=>A9 t b ds x.2
 |.tup ds=>A9 t b ds x.2
 |_=>none
section
variable {g:Gh}{f:DE}{t:D->DS->Option DS}{b:DM}{pos:Pos}
def JD (K:vF_) (tl:TE):TI:=fun σ H R=>tl σ H fun x H1=>∃a,x = .ref a/\(((∃xs,SqL K H1 a xs)/\R (gH K a) H1)\/((∃xs,SqT K H1 a xs)/\R (gD K a) H1))
def tH (Z:PE X l tl):PI X tg l (JD X.K tl):=by
 intro pins s σ H R I h;refine u6 (Z pins s σ H _ I h) fun v s1 ⟨x,H1,J,r1,q1⟩=>?_
 obtain⟨a,e,q⟩:=q1;subst e;cases r1;rcases q with ⟨⟨xs,U⟩,q⟩ | ⟨⟨xs,U⟩,q⟩
 .obtain⟨its,rv,p,hz⟩:=J.list U;refine QU p.isList ?_;refine#[s1.heap.objs.size,[s1.heap.objs.size],_,_,H1,rfl,J.kept (t':=s1.toks) fun b o e=>Mg _ e,JW a _,#[_,MN _ rfl,rfl,rfl],fun b Y=>?_,q];have e:b=s1.heap.objs.size:=by simpa using Y
  subst e;exact J.fpOk (tx _) (J.hok.fresh (tx _))
 .obtain⟨its,rv,p,hz⟩:=J.tuple U;refine Pk (show s1.heap.IsTuple a its.toArray from p) ?_;refine#[s1.heap.objs.size,[s1.heap.objs.size],_,_,H1,rfl,J.kept (t':=s1.toks) fun b o e=>Mg _ e,BH a _,#[_,MN _ rfl,rfl,rfl],fun b Y=>?_,q];have e:b=s1.heap.objs.size:=by simpa using Y
  subst e;exact J.fpOk (tx _) (J.hok.fresh (tx _))
def om (hp:PassesOwn (model X.prog X.w) X.A X.env X.xe) (hc:X.calm=true) (he:EO X g iter f) (hg:GO X g tg t) (hb:SSO X g body b) (hs:∀x,foldedSetIterable iter X.env x=pure x:=by intro _;rfl) :
  SO X g (.For tg iter body [] pos) (G5 f t b):=SO.w (kM hp hc (tH he.pe) hg.pe hb.pe hs) fun E σ H hQ=>by
 refine hQ.elim fun fa O s fl sf I q k=>?_
 refine A1 q fun d s1 h1 h2=>?_
 refine#[fa,O,s,d,s1,I,h1,fun v H1 f1 O1 a1 J r=>?_];have k1:=k.shift a1.stp;cases d with
 |lst ds=>
  simp only[Rep] at r;obtain⟨a,xs,rfl,na,q,w⟩:=r;refine#[a,rfl,.inl #[#[xs,SqL.of q],AK (xs:=xs) (W4 X.K g f1 O1 H1 t b ds fl sf) #[f1,O1,s1,Stp.refl,J,h2] ?_ ?_ ?_]]
  .rintro i σ' H' _ ⟨fa',O',s',st,I',e⟩;exact SqL.of ((J.car st).ls a xs na q).1
  .intro i x σ' H' U h;obtain⟨d,Z,Y⟩:=Reps.get' w U;exact fv k1 Z (fun fa' O' st=>Rep.stp J st Y) h
  .intro σ' H' h;exact fZ k1 (Qd w.length.symm) h
 |tup ds=>
  simp only[Rep] at r;obtain⟨a,xs,rfl,q,w⟩:=r;refine#[a,rfl,.inr #[#[xs,q],dD (xs:=xs) (W4 X.K g f1 O1 H1 t b ds fl sf) #[f1,O1,s1,Stp.refl,J,h2] ?_ ?_ ?_]]
  .rintro i σ' H' _ ⟨fa',O',s',st,I',e⟩;exact(J.car st).tp a xs q
  .intro i x σ' H' U h;obtain⟨d,Z,Y⟩:=Reps.get' w U;exact fv k1 Z (fun fa' O' st=>Rep.stp J st Y) h
  .intro σ' H' h;exact fZ k1 (Qd w.length.symm) h
 |_=>cases h2
def B5 (lo:Int) (n:Nat):List D:=(List.range n).map fun (i:Nat)=>D.int (lo+(i:Int))
def mR {lo:Int}{n:Nat}(h:i<n):(B5 lo n)[i]? = some (.int (lo+(i:Int))):=by simp[B5,h]
def cP (lo:Int) (n:Nat):(B5 lo n).length=n:=by simp[B5]
def R9:List D->Option (List D)
 |[.int j]=>if -(2 ^ 62)<=j/\j<2 ^ 62 then some (B5 0 j.toNat) else none
 |[.int i,.int j]=>if -(2 ^ 62)<=i/\i<2 ^ 62 /\ -(2 ^ 62)<=j/\j<2 ^ 62 then some (B5 i (j - i).toNat) else none
 |_=>none
def cQ (f:DA) (t:D->DS->Option DS) (b:DM):DM:=fun s=>(f s).bind fun x=>(R9 x.1).bind fun ds=>A9 t b ds x.2
def tU {es:vD_}(h:R9 ds=some es) (l:ds=[a]):∃j:Int,a = .int j /\ -(2 ^ 62)<=j/\j<2 ^ 62/\es=B5 0 j.toNat:=by
 subst l;cases a with
 |int j=>
  have h:(if -(2 ^ 62)<=j/\j<2 ^ 62 then some (B5 0 j.toNat) else none)=some es:=h;by_cases J:-(2 ^ 62)<=j/\j<2 ^ 62
  .rw[iO J] at h;cases h;exact#[j,rfl,J.1,J.2,rfl]
  .rw[iR J] at h;cases h
 |_=>cases h
def nK {fa:DE}(hp:PassesOwn (model X.prog X.w) X.A X.env X.xe) (hc:X.calm=true) (U:Gl X "range") (hm:X.mg "range" = none) (ha:EO X g a fa) (hg:GO X g tg t) (hb:SSO X g body b)
  (J:starEach [a] X.env=[(false,eval a X.env)]:=by rfl) (hs:∀x,foldedSetIterable (.Call (.Name "range" p) [a] [] cpos) X.env x=pure x:=by intro _;rfl) :
  SO X g (.For tg (.Call (.Name "range" p) [a] [] cpos) body [] pos) (cQ (a7 fa b9) t b):=
 SO.w (kM hp hc (vL U hm (mU ha nH J).pe J) hg.pe hb.pe hs) fun E σ H Z=>by
  refine Z.elim fun fa O s fl sf I q k=>?_
  refine A1 q fun ds s1 h1 h2=>?_
  refine Y6 h2 fun es h3 h4=>?_
  obtain⟨d,s2,rs,e1,e2,Y⟩:=fS h1;cases e2;obtain⟨j,rfl,j1,j2,rfl⟩:=tU h3 Y;refine#[fa,O,s,ds,s1,I,h1,fun vs H1 f1 O1 a1 I1 r=>?_];have k1:=k.shift a1.stp;rw[Y] at r;simp only[Reps,Rep] at r;obtain⟨x,ys,rfl,rfl,rfl⟩:=r;refine#[j,rfl,j1,j2,Lo (lo:=0) (n:=j.toNat) (W4 X.K g f1 O1 H1 t b (B5 0 j.toNat) fl sf) #[f1,O1,s1,Stp.refl,I1,h4] ?_ ?_]
  .intro i σ' H' hi h;exact fv k1 (mR hi) (fun fa' O' st=>by simp only[Rep]) h
  .intro σ' H' h;exact fZ k1 (by rw[cP];exact tx _) h
def N5 (c:DT) (b:DM):Nat->DS->Option (Fl × DS)
 |0,_=>none
 |n+1,s=>(c s).bind fun x=>if x.1=true then (b x.2).bind fun y=>match y.1 with
   |.next=>N5 c b n y.2
   |.cont=>N5 c b n y.2
   |.brk=>some (.next,y.2)
   |.ret v=>some (.ret v,y.2)
   |.thr c ds=>some (.thr c ds,y.2)
  else some (.next,x.2)
open Classical in
def U2 (c:DT) (b:DM):DM:=fun s=>if h:∃n r,N5 c b n s=some r then N5 c b h.choose s else none
theorem nG {c:DT}{b:DM}:∀(n:Nat) {s:DS}{r:Fl × DS},N5 c b n s=some r->N5 c b (n+1) s=some r
 |0,s,r,h=>by cases h
 |n+1,s,r,h=>by
  rw[N5] at h ⊢;refine A1 h fun x s1 h1 h2=>?_
  refine Oq.mpr #[(x,s1),h1,?_];cases x with
  |false=>exact h2
  |true=>
   simp only[MV] at h2 ⊢;refine A1 h2 fun y s2 h3 J=>?_
   refine Oq.mpr #[(y,s2),h3,?_];cases y with
   |next=>exact nG n J
   |cont=>exact nG n J
   |brk=>exact J
   |ret v=>exact J
   |thr c ds=>exact J
def tY {c:DT}{b:DM}{n:Nat}(J:n<=m) {s:DS}{r:Fl × DS}(h:N5 c b n s=some r):N5 c b m s=some r:=by
 induction J with
 |refl=>exact h
 |step _ U=>exact nG _ U
def pH {c:DT}{b:DM}{n:Nat}{s:DS}{r:Fl × DS}(h:N5 c b n s=some r):U2 c b s=some r:=by
 have J:∃n r,N5 c b n s=some r:=#[n,r,h]
 unfold U2;rw[dif_pos J];obtain⟨Z,h'⟩:=J.choose_spec;have Y:=tY (Nat.le_max_left n J.choose) h;have U:=tY (Nat.le_max_right n J.choose) h';rw[Y] at U;rw[h',U]
def tJ {c:DT}{b:DM}{s:DS}{r:Fl × DS}(h:U2 c b s=some r):∃n,N5 c b n s=some r:=by
 unfold U2 at h;by_cases J:∃n r,N5 c b n s=some r
 .rw[dif_pos J] at h;exact#[_,h]
 .rw[dif_neg J] at h;cases h
def vp {c:DT}{b:DM}{s:DS}{r:Fl × DS}(h1:c s=some (true,s1)) (h2:b s1=some (.next,s2)) (h3:U2 c b s2=some r):U2 c b s=some r:=by
 obtain⟨n,h⟩:=tJ h3;refine pH (n:=n+1) ?_;rw[N5,h1];simp only[Mh,MV,h2];exact h
def rP {c:DT}{b:DM}{s:DS}(h1:c s=some (false,s1)):U2 c b s=some (.next,s1):=by
 refine pH (n:=1) ?_;rw[N5,h1];simp
def CJ {c:Expr}(hp:PassesOwn (model X.prog X.w) X.A X.env X.xe) (hc:TO X g c fc) (hb:SSO X g body b):SO X g (.While c body [] pos) (U2 fc b):=SO.w (Jl hp hc.pe hb.pe) fun E σ H hQ=>by
 refine hQ.elim fun fa O s fl sf I q k=>?_
 obtain⟨n,h⟩:=tJ q;refine#[fun m σ' H'=>∃fa' O' s',Stp fa O H fa' O' H'/\GI X.K g σ' H' fa' O' s'/\N5 fc b m s'=some (fl,sf),#[n,fa,O,s,Stp.refl,I,h],?_];rintro m σ1 H1 ⟨f1,O1,s1,a1,I1,h1⟩;cases m with
 |zero=>cases h1
 |succ m=>
  rw[N5] at h1;refine A1 h1 fun x s2 h2 h3=>?_
  refine#[f1,O1,s1,x,s2,I1,h2,fun H2 f2 O2 a2 I2=>?_];cases x with
  |false=>rw[iR Mk] at h3 ⊢;cases h3;exact k σ1 H2 f2 O2 (a1.trans a2.stp) I2
  |true=>
   rw[iO rfl] at h3 ⊢;refine A1 h3 fun y s3 h4 h5=>?_
   refine#[fun σ' H'=>∃fa' O' s',Stp fa O H fa' O' H'/\GI X.K g σ' H' fa' O' s'/\N5 fc b m s'=some (fl,sf),fun σ' H' z=>#[m,Nat.lt_succ_self m,z],f2,O2,s2,y,s3,I2,h4,?_];have J:=a1.trans a2.stp;cases y with
   |next=>exact fun σ3 H3 U Y a3 Z=>#[U,Y,s3,J.trans a3,Z,h5]
   |cont=>exact fun σ3 H3 U Y a3 Z=>#[U,Y,s3,J.trans a3,Z,h5]
   |brk=>cases h5;exact fun σ3 H3 U Y a3 Z=>k σ3 H3 U Y (J.trans a3) Z
   |ret v=>cases h5;exact fun σ3 v H3 U Y a3 Z r=>k σ3 v H3 U Y (J.trans a3) Z r
   |thr c es=>cases h5;exact fun σ3 C dx od xs H3 U Y a3 Z=>k σ3 C dx od xs H3 U Y (J.trans a3) Z
end
abbrev c8:=List D->Option FS->Option (D × Option FS)
variable {mo mt:c8}
def eB (K:vF_) (n:Nat) (m:c8):Sp:=fun vs H Q _=>∃(F:vB_) (fa:vA_) (ds:vD_) (fs:vO_) (d:D) (fs':vO_),
 (∀b,F b->H b≠none)/\(∀a,fa=some a->F a)/\Reps K F fa H ds vs/\FeedR F H fa fs/\m ds fs=some (d,fs')/\ds.length=n /\
  ∀v H' fa',Stp fa [] H fa' [] H'->FeedR (fun b=>F b\/fa'=some b) H' fa' fs'->Rep K (fun b=>F b\/fa'=some b) fa' H' d v->Q v H'
abbrev gh (P:Program) (w:World) (K:vF_) (mg:vG_) (base:Heap) (k:Nat) (f:Addr) (fd:FuncData) (ps:List Str) (m:c8):Prop:=FnOk P w K mg base W3 k f fd ps (eB K ps.length m)
def w8 (n:Nat) (b:DM):c8:=fun ds fs=>(b #[ds.map .v++List.replicate (n - ds.length) .no,fs]).bind fun x=>match x.1 with
 |.ret d=>some (d,x.2.fs)
 |.next=>some (.non,x.2.fs)
 |_=>none
theorem vP :∀n:Nat,SlR K N fa H (List.replicate n .no) (List.replicate n none) []
 |0=>by simp[SlR]
 |n+1=>by
  simp only[Oo,SlR];exact#[_,_,rfl,vP n]
theorem ma {n:Nat}:∀{ds:vD_}{vs:List V},Reps K N fa H ds vs->SlR K N fa H (ds.map .v++List.replicate n .no) (vs.map some++List.replicate n none) []
 |[],vs,h=>by simp only[Reps] at h;subst h;simpa using vP n
 |d::r,vs,h=>by
  simp only[Reps] at h;obtain⟨x,ys,rfl,h1,h2⟩:=h;simp only[Mo,QR,SlR];exact#[x,_,rfl,h1,ma h2]
section
variable {P:Program}{w:World}
def zj {f:Addr}{N ps:List Str}{b:DM}(F:Fun K x qual st f fd) (S:FnScope N ps (B8 st))
  (J:∀(cdv:Value) (A:Around) (outer:List Env) (s:Shared) (H:Hp) (E:XK) (g:Gh),Room k (A.deeper (PyProof.Rows.envOfC qual (B8 st) s.heap.objs.size f cdv))->SSO (P5 W3 P w K mg base N qual (B8 st) f cdv A outer s H E).nox g (O6 st) b) :
  gh P w K mg base (k+1) f fd ps (w8 N.length b):=by
 refine F.ok S (fun vs H Q E h=>?_) (fun cdv A outer s H vs Q E hr h=>?_)
 .obtain⟨F,fa,ds,fs,d,fs',_,_,r,_,_,hl,_⟩:=h;rw[r.length];exact hl
 obtain⟨F,fa,ds,fs,d,fs',tr,ff,r,fd,e,hl,q⟩:=h;refine#[_,(J cdv A outer s H E #[F,H,fa,fun _=>E0] hr).pe,?_];refine A1 e fun fl s' h1 h2=>?_
 have hN:∀b,NN F fa [] b->F b:=fun b z=>by
  rcases z with z | z | z
  .exact z
  .cases z
  .exact ff b z
 have c:Car K F fa H (NN F fa []) fa H:=#[fun b xs n q=>#[q,fun z=>n (hN b z)],fun _ _ q=>q,fun _ _ q=>q,fun _ q=>q]
 have el:(L2.start N vs)=vs.map some++List.replicate (N.length - ds.length) none:=by rw[L2.start,r.length]
 have I:GI K #[F,H,fa,fun _=>E0] (L2.start N vs) H fa [] #[ds.map .v++List.replicate (N.length - ds.length) .no,fs]:=by
  refine#[Qg,?_,fun b hb=>(by cases hb),Stp.refl,tr,ff,fd.car c fun _ _=>rfl,fun _ _ z=>(by cases z)];rw[el];exact ma (Reps.go c ds vs r)
 have Z:∀{fa':vA_}{O':vL_}{H':Hp}{σ':L2.St}{v:V}{dd:D},Stp fa [] H fa' O' H'->GI K #[F,H,fa,fun _=>E0] σ' H' fa' O' s'->Rep K (NN F fa' O') fa' H' dd v->dd=d->s'.fs=fs'->Q v H':=by
  intro fa' O' H' σ' v dd U Y r1 e1 e2;subst e1;subst e2;have c1:Car K (NN F fa' O') fa' H' (fun b=>F b\/fa'=some b) fa' H':=#[fun b xs n q=>#[q,fun z=>n (by
   rcases z with z | z
   .exact .inl z
   .exact .inr (.inr z))],fun _ _ q=>q,fun _ _ q=>q,fun _ q=>q]
  exact q v H' fa' #[fun b hb=>(by cases hb),U.fe,U.same,U.mon] (Y.fd.car c1 fun _ _=>rfl) (Rep.go c1 _ _ r1)
 refine#[fa,[],_,fl,s',I,h1,?_];cases fl with
 |next=>
  simp only[MP,Ms] at h2;exact fun σ' H' fa' O' U Y=>Z U Y (v:=.non) (dd:=.non) (by simp only[Rep]) h2.1 h2.2
 |ret dd=>
  simp only[MP,Ms] at h2;exact fun σ' v H' fa' O' U Y r1=>Z U Y r1 h2.1 h2.2
 |brk=>cases h2
 |cont=>cases h2
 |thr _ _=>cases h2
end
def d7 (m:c8) (f:DA):DE:=fun s=>(f s).bind fun x=>(m x.1 x.2.fs).map fun y=>(y.1,{ x.2 with fs:=y.2 })
section
variable {g:Gh}{f:Addr}{ps:List Str}{m:c8}{p pos:Pos}{t:DA}
def DD {n:Nat}(hn:∀s ds s',t s=some (ds,s')->ds.length=n) (σ:L2.St) (H:Hp) (Q:VK) (h:liftE X.K g (d7 m t) σ H Q):pT (eB X.K n m) [] E0 (liftA X.K g t) σ H Q:=by
 obtain⟨fa,O,s,d,s',I,q,k⟩:=h;refine A1 q fun ds s1 h1 h2=>?_
 refine mapP h2 fun d1 fs1 h3 h4=>?_
 simp only[Ms] at h4;obtain⟨e1,e2⟩:=h4;subst e1;subst e2;refine#[fa,O,s,ds,s1,I,h1,fun vs H1 f1 O1 a1 J r=>?_];show eB X.K n m (vs++[]) H1 Q E0;rw[MQ];refine#[NN g.F f1 O1,f1,ds,s1.fs,d1,fs1,fun b U=>J.nn_tracked U,fun a ha=>.inr (.inr ha),r,J.fd,h3,hn s ds s1 h1,fun v H2 Y Z fd2 r2=>?_];have a3:StE f1 O1 H1 Y O1 H2:=#[fun b U=>U,Z.fe,fun b u e n=>Z.same b u e (by simp) n,Z.mon]
 have c:=J.car a3.stp;have c2:Car X.K (fun b=>NN g.F f1 O1 b\/Y=some b) Y H2 (NN g.F Y O1) Y H2:=#[fun b xs n q=>#[q,fun z=>n (by
   rcases z with z | z | z
   .exact .inl (.inl z)
   .exact .inl (.inr (.inl z))
   .exact .inr z)],fun _ _ q=>q,fun _ _ q=>q,fun _ q=>q]
 refine k v H2 Y O1 (a1.trans a3) #[J.nd,SlR.go c (fun b xs U e=>?_) J.sl,J.fr,J.st.trans #[fun b U=>(by cases U),Z.fe,fun b u e n z=>Z.same b u e n z,Z.mon],J.tr,J.ff,fd2.car c2 fun _ _=>rfl,J.nf_step a3.fe] (Rep.go c2 _ _ r2);exact a3.same b _ e fun z=>J.nf b z U
def Gs (F:gh X.prog X.w X.K X.mg X.base k f fd ps m) (hr:Room k X.A) (hg:Gl X x) (hm:X.mg x=some (.ref f)) (hk:PySem.W.keepIn X.K (.ref f)=true) (hb:Binds X.K fd ps [])
  (Y:AO X g (e::es) t) (hn:∀s ds s',t s=some (ds,s')->ds.length=ps.length) (J:(x == ("__debug__" : Str))=false:=by decide) (Z:starEach (e::es) X.env=(false,eval e X.env)::starEach es X.env:=by rfl) (U:(backTo pos (starEach es X.env)).any (·.1)=false:=by rfl) :
  EO X g (.Call (.Name x p) (e::es) [] pos) (d7 m t):=EO.w (Fo F hr hg hm hk hb .nil JN Y.pe J Z U) (DD hn)
def aw:∀s ds s',b9 s=some (ds,s')->ds.length=0:=fun s ds s' h=>by cases h;rfl
def M0 {r:DA}{n:Nat}(h:∀s ds s',r s=some (ds,s')->ds.length=n):∀s ds s',a7 a r s=some (ds,s')->ds.length=n+1:=fun s ds s' q=>by
 obtain⟨d,s1,es,h1,h2,h3⟩:=fS q;subst h3;simp[h _ _ _ h2]
end
def lE (K:vF_) (N:vB_) (fa:vA_) (H1:Hp) (J:It) (ds:vD_):Prop:=∀N' fa' H',Car K N fa H1 N' fa' H'->(∀b u,H1 b=some u->fa≠some b->H' b=some u)->∀i:Nat,
 (∀d,ds[i]? = some d->J.go i H'/\∀x H'',J.yld i H' x H''->H''=H'/\Rep K N' fa' H' d x)/\(ds.length<=i->J.stop i H')
def liftI (K:vF_) (g:Gh) (f:DA):TI:=fun σ H R=>∃fa O s ds s',GI K g σ H fa O s/\f s=some (ds,s')/\ds.length<=sizeLine /\
 ∀J H' fa' O',StE fa O H fa' O' H'->GI K g σ H' fa' O' s'->lE K (NN g.F fa' O') fa' H' J ds->R J H'
section
variable {g:Gh}{σ:L2.St}
def liftI.elim {R:It->Hp->Prop}(h:liftI K g f σ H R) (k:∀fa O s ds s',GI K g σ H fa O s->f s=some (ds,s')->ds.length<=sizeLine->(∀J H' fa' O',StE fa O H fa' O' H'->GI K g σ H' fa' O' s'->lE K (NN g.F fa' O') fa' H' J ds->R J H')->G):G:=by
 obtain⟨fa,O,s,d,s',a,r,b,c⟩:=h;exact k fa O s d s' a r b c
end
structure IO (X:Cx) (g:Gh) (tg iter:Expr) (f:DA):Prop where
 pe:PI X tg iter (liftI X.K g f)
def T6 (f:DE):DA:=fun s=>(f s).bind fun x=>match x.1 with
 |.lst ds=>some (ds,x.2)
 |.tup ds=>some (ds,x.2)
 |_=>none
def V4 (f:DA):DA:=fun s=>(f s).bind fun x=>(R9 x.1).map fun ds=>(ds,x.2)
section
variable {g:Gh}{f:DE}
def KD {t t':TI}(h:PI X tg iter t) (w:∀σ H R,t' σ H R->t σ H R):PI X tg iter t':=fun pins s σ H R I q=>h pins s σ H R I (w σ H R q)
theorem IO.w {f:DA}{t:TI}(h:PI X tg iter t) (w:∀σ H R,liftI X.K g f σ H R->t σ H R):IO X g tg iter f:=#[KD h w]
def fw (h:EO X g iter f):IO X g tg iter (T6 f):=IO.w (tH h.pe) fun σ H R hQ=>by
 refine hQ.elim fun fa O s ds s' I e hz k=>?_
 refine A1 e fun d s1 h1 h2=>?_
 refine#[fa,O,s,d,s1,I,h1,fun v H1 f1 O1 a1 I1 r=>?_];cases d with
 |lst es=>
  cases h2;simp only[Rep] at r;obtain⟨a,xs,rfl,na,q,w⟩:=r;refine#[a,rfl,.inl #[#[xs,SqL.of q],k _ H1 f1 O1 a1 I1 fun N' fa' H' c _ i=>#[fun d hd=>?_,fun Z=>?_]]]
  .obtain⟨x,J,Y⟩:=Reps.get w hd;have U:=(c.ls a xs na q).1;refine#[#[xs,x,SqL.of U,J],fun y H'' hy=>?_];obtain⟨e1,e2⟩:=hy;have:=e2 xs (SqL.of U);rw[J] at this;cases this;exact#[e1,Rep.go c d x Y]
  .exact#[xs,SqL.of (c.ls a xs na q).1,by rw[w.length];exact Z]
 |tup es=>
  cases h2;simp only[Rep] at r;obtain⟨a,xs,rfl,q,w⟩:=r;refine#[a,rfl,.inr #[#[xs,q],k _ H1 f1 O1 a1 I1 fun N' fa' H' c _ i=>#[fun d hd=>?_,fun Z=>?_]]]
  .obtain⟨x,J,Y⟩:=Reps.get w hd;have U:=c.tp a xs q;refine#[#[xs,x,U,J],fun y H'' hy=>?_];obtain⟨e1,e2⟩:=hy;have:=e2 xs U;rw[J] at this;cases this;exact#[e1,Rep.go c d x Y]
  .exact#[xs,c.tp a xs q,by rw[w.length];exact Z]
 |_=>cases h2
def HK (lo:Int) (n:Nat):lE K N fa H1 (cJ lo n) (B5 lo n):=fun N' fa' H' c _ i=>#[fun d J=>by
 have hi:i<n:=by have:=(MT.mp J).1;rwa [cP] at this
 rw[mR hi] at J;cases J;refine#[hi,fun x H'' Z=>?_];obtain⟨Y,e2⟩:=Z;subst e2;exact#[Y,by simp only[Rep]],fun U=>by rw[cP] at U;exact U]
def sV {fa:DE}(U:Gl X "range") (hm:X.mg "range" = none) (ha:EO X g a fa) (J:starEach [a] X.env=[(false,eval a X.env)]:=by rfl) :
  IO X g tg (.Call (.Name "range" p) [a] [] cpos) (V4 (a7 fa b9)):=IO.w (vL U hm (mU ha nH J).pe J) fun σ H R Z=>by
 refine Z.elim fun fa O s es s' I q hz k=>?_
 refine A1 q fun ds s1 h1 h2=>?_
 refine S5 h2 fun es' h3 h4=>?_
 cases h4;obtain⟨d,s2,rs,e1,e2,Y⟩:=fS h1;cases e2;obtain⟨j,rfl,j1,j2,rfl⟩:=tU h3 Y;refine#[fa,O,s,ds,_,I,h1,fun vs H1 f1 O1 a1 I1 r=>?_];rw[Y] at r;simp only[Reps,Rep] at r;obtain⟨x,ys,rfl,rfl,rfl⟩:=r;exact#[j,rfl,j1,j2,k _ H1 f1 O1 a1 I1 (HK 0 j.toNat)]
end
def eF (sl:List Sl) (i:Nat):Sl:=match sl[i]? with
 |some (Sl.v d)=>Sl.v d
 |_=>Sl.no
def Q8 (idx:List Nat) (sl:List Sl):List Sl:=idx.map (eF sl)
def E8 (mk:D->Option (List Sl)) (fc:DT) (fe:DE):List D->Option FS->Option (List D × Option FS)
 |[],fs=>some ([],fs)
 |d::r,fs=>(mk d).bind fun sl=>(fc #[sl,fs]).bind fun c=>if c.1=true then (fe c.2).bind fun y=>(E8 mk fc fe r y.2.fs).map fun z=>(y.1::z.1,z.2) else E8 mk fc fe r c.2.fs
def K9 (idx:List Nat) (fi:DA) (fc:DT) (fe:DE):DA:=fun s=>(fi s).bind fun x=>if x.1.length<=sizeLine then (E8 (fun d=>some (.v d::Q8 idx x.2.sl)) fc fe x.1 x.2.fs).map fun y=>(y.1,{ x.2 with fs:=y.2 }) else none
def FF (g:Gh) (fa:vA_) (O:vL_) (p:Addr):Addr->Prop:=fun b=>NN g.F fa O b\/b=p
structure CI (K:vF_) (g:Gh) (f1:vA_) (O1:vL_) (Hd:Hp) (p:Addr) (fa:vA_) (H:Hp) (ys:List V) (res:vD_) (fs:vO_):Prop where
 st:Stp f1 [p] Hd fa [p] H
 ls:H p=some (.lst ys)
 rs:Reps K (FF g fa O1 p) fa H res ys
 fd:FeedR (FF g fa O1 p) H fa fs
 nf:fa≠some p
section
variable {g:Gh}{f1:vA_}{O1:vL_}{Hd:Hp}{p:Addr}{res:vD_}{fs:vO_}
def CI.nofa (c:CI K g f1 O1 Hd p fa H ys res fs):fa≠some p:=c.nf
def zZ (Y:∀xs,fa≠none->∀a,fa=some a->¬ Rd H a (.tup xs)) (J:∀a,fa=some a->∀o u,¬ H a=some (.frz o u)) (a:StE fa [] H fa' [] H'):Car K (FF g fa O1 p) fa H (FF g fa' O1 p) fa' H':=by
 refine#[fun b xs n q=>#[a.same b _ q fun z=>n (.inl (.inr (.inr z))),fun z=>?_],fun b xs q=>?_,fun b xs q=>?_,fun x e=>a.stp.fa_keep e]
 .rcases z with (z | z | z) | z
  .exact n (.inl (.inl z))
  .exact n (.inl (.inr (.inl z)))
  .rcases a.fe with e | ⟨e,h⟩
   .exact n (.inl (.inr (.inr (e▸z))))
   .rw[h b z] at q;cases q
  .exact n (.inr z)
 .refine SqT.stp' a.stp (fun x e ys=>Y ys (by rw[e];simp) x e) (fun x U=>by cases U) q
 .cases xs with
  |inl xs=>exact q.imp (fun ⟨o,q⟩=>#[o,a.same _ _ q fun z=>J b z _ _ q]) id
  |inr p=>exact a.same _ _ q fun z=>J b z _ _ q
def Gn (h:FeedR N H fa fs):∀xs,fa≠none->∀a,fa=some a->¬ Rd H a (.tup xs):=fun xs _ a e z=>h.no_tup e z
def CI.step (c:CI K g f1 O1 Hd p fa H ys res fs) (a:StE fa [] H fa' [] H') {g':Gh}{s':DS}(U:∀b,FF g fa' O1 p b->NN g'.F fa' [] b) (I:GI K g' σ H' fa' [] s'):CI K g f1 O1 Hd p fa' H' ys res s'.fs:=by
 have J:Car K (FF g fa O1 p) fa H (FF g fa' O1 p) fa' H':=zZ (Gn c.fd) (fun x e o u=>c.fd.no_frz e) a;refine#[c.st.trans #[fun b Y=>.inl Y,a.fe,fun b u e _ n=>a.same b u e n,a.mon],a.same p _ c.ls c.nofa,Reps.go J _ _ c.rs,I.fd.car (K:=K) #[fun b xs n q=>#[q,fun z=>n (U b z)],fun _ _ q=>q,fun _ _ q=>q,fun _ q=>q] fun _ _=>rfl,fun z=>?_];rcases a.fe with y | ⟨_,y⟩
 .rw[y] at z;exact c.nf z
 .have:=c.ls;rw[y p z] at this;cases this
def CI.app (c:CI K g f1 O1 Hd p fa H ys res fs) {v:V}(hF:∀b,FF g fa O1 p b->N b) (r:Rep K N fa H d v):CI K g f1 O1 Hd p fa (k9 H p (.lst (ys++[v]))) (ys++[v]) (res++[d]) fs:=by
 have U:Car K (FF g fa O1 p) fa H (FF g fa O1 p) fa (k9 H p (.lst (ys++[v]))):=by
  refine#[fun b xs n q=>#[by rw[t7 (fun z=>n (.inr z))];exact q,n],fun b xs q=>?_,fun b xs q=>?_,fun _ q=>q]
  .rcases q with (q | ⟨o,q⟩) | q
   .exact .inl (.inl (by rw[t7 (fun z=>by rw[z,c.ls] at q;cases q)];exact q))
   .exact .inl (.inr #[o,by rw[t7 (fun z=>by rw[z,c.ls] at q;cases q)];exact q])
   .exact .inr q
  .have Y:∀o u,H b=some (.frz o u)->k9 H p (.lst (ys++[v])) b=some (.frz o u):=fun o u q=>by rw[t7 (fun z=>by rw[z,c.ls] at q;cases q)];exact q
   cases xs with
   |inl xs=>exact q.imp (fun ⟨o,q⟩=>#[o,Y _ _ q]) id
   |inr p=>exact Y _ _ q
 have Z:Car K N fa H (FF g fa O1 p) fa H:=#[fun b xs n q=>#[q,fun z=>n (hF b z)],fun _ _ q=>q,fun _ _ q=>q,fun _ q=>q]
 refine#[c.st.trans #[fun b J=>.inl J,.inl rfl,fun b u e n _=>by rw[t7 (fun z=>n (by simp[z]))];exact e,fun b z=>?_],C0,?_,c.fd.car U fun a e=>t7 fun z=>c.nofa (z▸e),c.nf]
 .by_cases J:b=p
  .subst J;rw[C0] at z;cases z
  .rw[t7 J] at z;exact z
 .exact Reps.append (Reps.go U _ _ c.rs) (Reps.one (Rep.go U _ _ (Rep.go Z _ _ r)))
end
section
variable {g:Gh}{pos:Pos}
def dj (X:Cx) (g:Gh) (ifs:List Expr) (f:DT):Prop:=dZ X ifs (liftT X.K g f)
def F6:DT:=fun s=>some (true,s)
def dN:dj X g [] F6:=fun pins s σ H Q I ⟨fa,O,s0,d,s',G,e,k⟩=>Hs pins s σ H Q I (by cases e;exact k H fa O StE.refl G)
def IW {c:Expr}{f:DT}(h:TO X g c f):dj X g [c] f:=HI h.pe
theorem uj {O:vL_}(h:SlR K N fa H sl σ O):∀idx:List Nat,SlR K N fa H (Q8 idx sl) (idx.map fun i=>(σ[i]?).join) []
 |[]=>by simp[Q8,SlR]
 |i::r=>by
  have J:=uj h r;have U:∀e:sl[i]? = none\/(∃z,sl[i]? = some z/\∀d,z ≠ .v d),eF sl i = .no:=fun e=>by
   unfold eF;rcases e with e | ⟨z,e,n⟩
   .rw[e]
   .rw[e];cases z with
    |v d=>exact absurd rfl (n d)
    |no=>rfl
    |own ds=>rfl
  show SlR K N fa H (eF sl i::Q8 r sl) ((σ[i]?).join::r.map fun i=>(σ[i]?).join) [];cases e:sl[i]? with
  |none=>
   rw[U (.inl e)];simp only[SlR];exact#[_,_,rfl,J]
  |some z=>
   cases z with
   |no=>
    rw[U (.inr #[_,e,fun d z=>by cases z])];simp only[SlR];exact#[_,_,rfl,J]
   |own ds=>
    rw[U (.inr #[_,e,fun d z=>by cases z])];simp only[SlR];exact#[_,_,rfl,J]
   |v d=>
    obtain⟨u,Y,q⟩:=SlR.val h e;have Z:eF sl i = .v d:=by unfold eF;rw[e]
    rw[Z];simp only[SlR];exact#[u,_,by rw[Y];rfl,q,J]
def Lc (mk:List Sl->D->Option (List Sl)) (fi:DA) (fc:DT) (fe:DE):DA:=fun s=>(fi s).bind fun x=>if x.1.length<=sizeLine then (E8 (mk x.2.sl) fc fe x.1 x.2.fs).map fun y=>(y.1,{ x.2 with fs:=y.2 }) else none
def ua {n:Nat}{G:TG}(hG:∀(N:vB_) (fa:vA_) (sl:List Sl) (d:D) (sl0:List Sl) (x:V) (σ:L2.St) (H:Hp) (Q:L2.St->Hp->Prop),mk sl d=some sl0->Rep X.K N fa H d x->SlR X.K N fa H (Q8 idx sl) (idx.map fun i=>(σ[i]?).join) [] ->
  (∀σ':L2.St,(σ'.length=(K2 n idx σ).length/\∀(j:Nat) (v:V),(K2 n idx σ)[j]? = some (some v)->σ'[j]? = some (some v))->SlR X.K N fa H sl0 σ' []->Q σ' H)->G x (K2 n idx σ) H Q):∀σ H Q,liftF X.K g (Lc mk fi fc fe) σ H Q->eA n idx (liftI X.K g fi) G (fun σ H Q=>∃g',liftT X.K g' fc σ H Q) (fun σ H Q=>∃g',liftE X.K g' fe σ H Q) σ H Q:=by
 intro σ H Q ⟨fa,O,s,res,s',I,e,kk⟩;refine A1 e fun ds s1 h1 h2=>?_
 by_cases hz:ds.length<=sizeLine
 .simp only[iO hz] at h2;refine mapP h2 fun out fsf h3 h4=>?_
  simp only[Ms] at h4;obtain⟨e1,e2⟩:=h4;subst e1;subst e2;refine#[fa,O,s,ds,s1,I,h1,hz,fun J H1 f1 O1 a1 U J1 p hp=>?_];have Z:∀{fa':vA_}{H':Hp},Stp f1 [p] (k9 H1 p (.lst [])) fa' [p] H'->StE f1 O1 H1 fa' O1 H':=fun {fa' H'} a=>by
   refine#[fun _ h=>h,?_,fun b u e n=>?_,fun b z=>(F4 (fa:=f1) (O:=O1) hp).mon b (a.mon b z)]
   .rcases a.fe with e | ⟨e,h⟩
    .exact .inl e
    .exact .inr #[e,fun x z=>(F4 (fa:=f1) (O:=O1) hp).mon x (h x z)]
   .have nb:b≠p:=O0 e hp;exact a.same b u (by rw[t7 nb];exact e) (by simp[nb]) n
  have carP:∀{fa':vA_}{H':Hp},Stp f1 [p] (k9 H1 p (.lst [])) fa' [p] H'->Car X.K (NN g.F f1 O1) f1 H1 (FF g fa' O1 p) fa' H':=fun {fa' H'} a=>by
   have c:=U.car (Z a).stp;refine#[fun b xs n q=>?_,c.tp,c.fz,c.fe];obtain⟨q',n'⟩:=c.ls b xs n q;refine#[q',?_];rintro(z | z)
   .exact n' z
   .subst z;rw[hp] at q;cases q
  refine#[fun i m H'=>m=ds.length - i/\i<=ds.length/\∃fa' ys Y rest fs',CI X.K g f1 O1 (k9 H1 p (.lst [])) p fa' H' ys Y fs'/\E8 (mk s1.sl) fc fe (ds.drop i) fs'=some (rest,fsf)/\Y++rest=out/\ys.length<=i,?_,?_]
  .refine#[ds.length,by simp,MY _,f1,[],[],out,s1.fs,#[Stp.refl,C0,Reps.nil,?_,fun z=>U.fd.tracked z hp],by simpa using h3,rfl,tx _];exact U.fd.car (iT U hp) (U.fd.same_new hp)
  .rintro i m H' ⟨rfl,hil,fa',ys,Y,rest,fs',c,hd,ho,hy⟩;have Hcar:=carP c.st;obtain⟨jgo,jstop⟩:=J1 _ _ _ Hcar (fun b u e n=>(Z c.st).same b u e n) i;by_cases hlt:i<ds.length
   .have hdi:ds[i]? = some ds[i]:=ME hlt;obtain⟨go,yl⟩:=jgo _ hdi;refine .inr #[go,fun x H'' hx=>?_];obtain⟨e1,rx⟩:=yl x H'' hx;subst e1;rw[su hdi,E8] at hd;refine Y6 hd fun sl0 hm hd=>?_
    refine A1 hd fun b sb h5 h6=>?_
    have hNN:∀b,NN (FF g fa' O1 p) fa' [] b->FF g fa' O1 p b:=fun b z=>by
     rcases z with z | z | z
     .exact z
     .cases z
     .exact .inl (.inr (.inr z))
    have cN:Car X.K (FF g fa' O1 p) fa' H'' (NN (FF g fa' O1 p) fa' []) fa' H'':=#[fun b xs n q=>#[q,fun z=>n (hNN b z)],fun _ _ q=>q,fun _ _ q=>q,fun _ q=>q]
    have dX:∀b,FF g fa' O1 p b->H'' b≠none:=fun b z=>by
     rcases z with (z | z | z) | z
     .exact fun w=>U.trF z ((Z c.st).mon b w)
     .obtain⟨xs,e⟩:=U.owned z;exact fun w=>by have:=(Z c.st).mon b w;rw[e] at this;cases this
     .exact c.fd.tracked z
     .rw[z,c.ls];simp
    refine hG (NN (FF g fa' O1 p) fa' []) fa' s1.sl ds[i] sl0 x σ H'' _ hm (Rep.go cN _ _ rx) (SlR.go cN (fun a xs ha=>by cases ha) (uj (SlR.go Hcar (fun a xs ha e=>(Z c.st).same a _ e fun z=>U.nf a z ha) U.sl) idx)) fun σ1 hσ hsl=>#[hσ,?_]
    have G0:GI X.K #[FF g fa' O1 p,H'',fa',fun _=>E0] σ1 H'' fa' [] #[sl0,fs']:=#[Qg,hsl,fun b hb=>(by cases hb),Stp.refl,dX,fun a ha=>.inl (.inr (.inr ha)),c.fd.car cN fun _ _=>rfl,fun _ _ z=>(by cases z)]
    refine#[#[FF g fa' O1 p,H'',fa',fun _=>E0],fa',[],_,b,sb,G0,h5,fun H3 f3 O3 a3 I3=>?_];have eO:O3=[]:=RF.mpr fun z hz=>by have:=a3.sub z hz;cases this
    subst eO;have hF3:∀b,FF g f3 O1 p b->NN (FF g fa' O1 p) f3 [] b:=fun b z=>by
     rcases z with (z | z | z) | z
     .exact .inl (.inl (.inl z))
     .exact .inl (.inl (.inr (.inl z)))
     .exact .inr (.inr z)
     .exact .inl (.inr z)
    have c3:=c.step a3 hF3 I3;cases b with
    |false=>
     rw[iR Mk] at h6;refine qj ?_;exact#[ds.length - (i+1),by omega,rfl,hlt,f3,ys,Y,rest,sb.fs,c3,h6,ho,Nat.le_succ_of_le hy]
    |true=>
     rw[iO rfl] at h6;refine xI ?_;refine A1 h6 fun dd sd h7 h8=>?_
     refine mapP h8 fun rest2 fs2 h9 h10=>?_
     simp only[Ms] at h10;refine#[#[FF g fa' O1 p,H'',fa',fun _=>E0],f3,[],sb,dd,sd,I3,h7,fun v H4 f4 O4 a4 I4 r4=>?_];have eO:O4=[]:=RF.mpr fun z hz=>by have:=a4.sub z hz;cases this
     subst eO;have hF4:∀b,FF g f4 O1 p b->NN (FF g fa' O1 p) f4 [] b:=fun b z=>by
      rcases z with (z | z | z) | z
      .exact .inl (.inl (.inl z))
      .exact .inl (.inl (.inr (.inl z)))
      .exact .inr (.inr z)
      .exact .inl (.inr z)
     have c4:=c3.step a4 hF4 I4;refine#[ys,c4.ls,by omega,ds.length - (i+1),by omega,rfl,hlt,f4,ys++[v],Y++[dd],rest2,sd.fs,c4.app hF4 r4,by rw[h9,h10.2],?_,by simp;omega];rw[<-ho,<-h10.1];simp
   .refine .inl #[jstop (Qc hlt),?_];rw[RE (Qc hlt),E8] at hd;simp only[MP,Ms] at hd;obtain⟨hd1,hd2⟩:=hd;subst hd1;subst hd2;rw[MQ] at ho;subst ho;have aE:=Z c.st;have car1:=U.car aE.stp;have sameO:∀a xs,a∈O1->H1 a=some (.lst xs)->H' a=some (.lst xs):=fun a xs ha e=>aE.same a _ e fun z=>U.nf a z ha
    refine kk p ys H' fa' O1 (a1.trans aE) #[#[U.nd,SlR.go car1 sameO U.sl,U.fr,U.st.trans #[fun b hb=>(by cases hb),aE.fe,fun b u e _ n=>aE.same b u e n,aE.mon],U.tr,U.ff,?_,U.nf_step aE.fe],c.ls,SlR.go Hcar sameO U.sl,c.fd,c.rs,c.nf] (a1.mon p hp);exact c.fd.car (K:=X.K) #[fun b xs n q=>#[q,fun z=>n (.inl z)],fun _ _ q=>q,fun _ _ q=>q,fun _ q=>q] fun _ _=>rfl
 .simp only[iR hz] at h2;cases h2
def tq (k:CompOk X scope cl N' 1 idx):∀σ H Q,liftF X.K g (K9 idx fi fc fe) σ H Q->eA 1 idx (liftI X.K g fi) (Z5 0) (fun σ H Q=>∃g',liftT X.K g' fc σ H Q) (fun σ H Q=>∃g',liftE X.K g' fe σ H Q) σ H Q:=
 ua (mk:=fun sl d=>some (.v d::Q8 idx sl)) fun N fa sl d sl0 x σ H Q hm U hc Y=>by
  cases hm;refine Y _ #[by simp,fun j v J=>?_] ?_
  .cases j with
   |zero=>simp[K2] at J
   |succ j=>rw[OE (by simp)];exact J
  .have Z:(K2 1 idx σ).set 0 (some x)=some x::idx.map fun i=>(σ[i]?).join:=by simp[K2]
   rw[Z];simp only[SlR];exact#[x,_,rfl,U,hc]
def gS (Y:X.calm=true) (k:CompOk X scope cl N' 1 idx) (hi:IO X g tg iter fi) (U:∀C s0 H0 ex,PG (B6 X N' scope cl C s0 H0 ex) tg (Z5 0))
  (Z:∀C s0 H0 ex g',dj (B6 X N' scope cl C s0 H0 ex) g' ifs fc) (J:∀C s0 H0 ex g',EO (B6 X N' scope cl C s0 H0 ex) g' elt fe) (hs:∀x,foldedSetIterable iter X.env x=pure x:=by intro _;rfl) :
  FO X g (.ListComp elt [#[tg,iter,ifs,0]] scope pos) (K9 idx fi fc fe):=by
 exact FO.w (Bq (tc:=fun σ H Q=>∃g',liftT X.K g' fc σ H Q) (te:=fun σ H Q=>∃g',liftE X.K g' fe σ H Q) Y k hi.pe U (fun C s0 H0 ex pins s σ H Q I ⟨g',h⟩=>Z C s0 H0 ex g' pins s σ H Q I h) (fun C s0 H0 ex pins s σ H Q I ⟨g',h⟩=>(J C s0 H0 ex g').pe pins s σ H Q I h) hs) (tq k)
end
end DL
variable {d y:DL.D}{p':DL.D->DL.D->Option DL.D}{ds:DL.vD_}{fs':DL.vO_}{sl:List DL.Sl}{mk:List DL.Sl->DL.D->Option (List DL.Sl)}{s1 s2:DL.DS}{fe:DL.DE}{fc:DL.DT}{f fi:DL.DA}{mo mt:DL.c8}
namespace HT2
open PySem PyProof.Rows
def cat_tup0 {w:World}{t b:Addr}{ws:vV_}(ht:IsTup s.heap t ([]:vV_).toArray) (hb:IsTup s.heap b ws.toArray)
  (h:Q (.ref b) s):wpAny (model prog w) A (binaryOp .Add (.ref t) (.ref b)) Q E s:=by
 obtain⟨⟨cls,dd,data,sl⟩,ho,hc,n,hd⟩:=id ht;obtain⟨⟨cls2,dd2,Z,sl2⟩,Y,J,n2,U⟩:=id hb;simp only at hc hd J U;subst hc hd J U;exact concat_meets #[_,ho,rfl] #[_,Y,rfl] QM seq_tuple_add QN QO (QP _ _)
  (tuple_addW0 t b _ ws.toArray n n2 dd dd2 sl sl2 (by simp)) #[ho,Y,h]
end HT2
namespace DL
open PySem PySem.Spec L2
def A8 (i:Int):Bool:=decide (i.natAbs.log2<1000000)
def rE {i:Int}(h:A8 i=true):Builtin.Int.intBits i<=2 ^ 20:=by
 have h1:i.natAbs.log2<1000000:=Nv h;unfold Builtin.Int.intBits;split
 .exact MY _
 .have e:(2:Nat) ^ 20=1048576:=by decide
  rw[e];omega
def P9 (j:Int):Bool:=decide (j≠0)&&decide (j.natAbs.log2<9000)
def op_mulB:OpR X (binaryOp .Mult) (rI (fun i j=>A8 i=true/\A8 j=true) fun i j=>.int (i*j)):=kB fun _ _ _ _ _ _ _ J q=>PyProof.Rows.mul_int q (IntMulOk.of_bits (rE J.1) (rE J.2))
def Df:OpR X (binaryOp .FloorDiv) (rI (fun _ j=>P9 j=true) fun i j=>.int (i.fdiv j)):=kB fun i j _ _ _ _ _ U q=>by
 have J:P9 j=true:=U;unfold P9 at J;rw[MF] at J;exact PyProof.Rows.floordiv_int (Nv J.1) q (.inl (PyProof.noPylong_of_log2 (Nv J.2)))
def uq (K:vF_):R2:=fun x y H Q=>∃a b ys,x = .ref a/\y = .ref b/\SqT K H a []/\SqT K H b ys/\Q (.ref b) H
def op_catT0:OpR X (binaryOp .Add) (uq X.K):=by
 intro pins s σ H x y v u Q I Y ry h;obtain⟨a,b,ys,rfl,rfl,Z,hb,q⟩:=h;cases Y;cases ry;obtain⟨its,r1,ht,_⟩:=I.tuple Z;obtain⟨U,r2,J,_⟩:=I.tuple hb;cases r1;exact HT2.cat_tup0 ht J #[.ref b,H,I,rfl,q]
def qX (K:vF_):R2:=fun x y H Q=>(V5 (fun i j=>.int (i+j)) x y H Q\/(∃i j,x = .str i/\y = .str j/\i.length+j.length<=sizeLine/\Q (.str (i++j)) H))\/((uq K x y H Q\/vd K x y H Q)\/mM x y H Q)
def CL:OpR X (binaryOp .Add) (qX X.K):=(op_add.or CY).or ((op_catT0.or Co).or jO)
def qu:R2:=fun x y H Q=>rI (fun i j=>A8 i=true/\A8 j=true) (fun i j=>.int (i*j)) x y H Q\/pZ x y H Q
def CC:OpR X (binaryOp .Mult) qu:=op_mulB.or qz
def j5:D->D->Option D
 |.int i,.int j=>some (.int (i+j))
 |.str x,.str y=>if x.length+y.length<=sizeLine then some (.str (x++y)) else none
 |.tup xs,.tup ys=>if xs.length+ys.length<=sizeLine then some (.tup (xs++ys)) else none
 |.lst xs,.lst ys=>if xs.length+ys.length<=sizeLine then some (.lst (xs++ys)) else none
 |_,_=>none
def o9:D->D->Option D
 |.int i,.int j=>some (.int (i - j))
 |_,_=>none
def o7:D->D->Option D
 |.int i,.int j=>if A8 i&&A8 j then some (.int (i*j)) else none
 |.lst xs,.int k=>if -(2 ^ 63)<=k/\k<2 ^ 63/\xs.length*k.toNat<=sizeLine then some (.lst (List.replicate k.toNat xs).flatten) else none
 |_,_=>none
def N7:D->D->Option D
 |.int i,.int j=>if P9 j then some (.int (i.fdiv j)) else none
 |_,_=>none
def C9:D->D->Option D
 |.int i,.int j=>if j≠0 then some (.int (i.fmod j)) else none
 |_,_=>none
def cU:D->D->Option D
 |.int i,.int j=>if 0<=j/\j<=1000000/\i.natAbs<2 ^ 64 then some (.int (i ^ j.toNat)) else none
 |_,_=>none
def o8:D->Option D
 |.int i=>some (.int (-i))
 |_=>none
def n8 (p:Int->Int->Bool):D->D->Option D
 |.int i,.int j=>some (.bl (p i j))
 |_,_=>none
def vU:D->D->Option D
 |.non,.non=>some (.bl true)
 |.feed,.non=>none
 |.scr _,.non=>none
 |.fn _,.non=>none
 |.exc _ _,.non=>none
 |_,.non=>some (.bl false)
 |_,_=>none
def nv:D->D->Option D
 |.non,.non=>some (.bl false)
 |.feed,.non=>none
 |.scr _,.non=>none
 |.fn _,.non=>none
 |.exc _ _,.non=>none
 |_,.non=>some (.bl true)
 |_,_=>none
def wd (r:Reps K N fa H ds xs):xs=[]↔ds=[]:=by
 have:=r.length;cases xs <;> cases ds <;> simp_all
theorem Reps.flat (r:Reps K N fa H ds xs):∀k:Nat,Reps K N fa H (List.replicate k ds).flatten (List.replicate k xs).flatten
 |0=>by simp[Reps]
 |k+1=>by
  simp only[Oo,Pg];exact Reps.append r (Reps.flat r k)
def Jo:J5 K (qX K) j5:=by
 intro g σ H fa O s x y d1 d2 d Q I r1 Z e k;cases d1 with
 |int i=>
  cases d2 with
  |int j=>
   cases e;simp only[RepB,Rep] at r1 Z;exact .inl (.inl #[i,j,r1,Z,k _ H StE.refl I (by simp only[Rep])])
  |_=>cases e
 |str a=>
  cases d2 with
  |str b=>
   have e:(if a.length+b.length<=sizeLine then some (D.str (a++b)) else none)=some d:=e;by_cases h:a.length+b.length<=sizeLine
   .rw[iO h] at e;cases e;simp only[RepB,Rep] at r1 Z;refine .inl (.inr #[a,b,r1.1,Z.1,h,k _ H StE.refl I ?_]);simp only[Rep];exact#[trivial,by rw[strLen_append];exact h]
   .rw[iR h] at e;cases e
  |_=>cases e
 |tup Y=>
  cases d2 with
  |tup bs=>
   have e:(if Y.length+bs.length<=sizeLine then some (D.tup (Y++bs)) else none)=some d:=e;by_cases h:Y.length+bs.length<=sizeLine
   .rw[iO h] at e;cases e;simp only[RepB,Rep] at r1 Z;obtain⟨a,xs,rfl,qa,J⟩:=r1;obtain⟨b,ys,rfl,qb,U⟩:=Z;by_cases hx:xs=[]
    .have ha:=(wd J).mp hx;subst hx;subst ha;refine .inr (.inl (.inl #[a,b,ys,rfl,rfl,qa,qb,k _ H StE.refl I ?_]));simp only[Rep,Nk];exact#[b,ys,rfl,qb,U]
    .refine .inr (.inl (.inr #[a,b,xs,ys,rfl,rfl,qa,qb,hx,by rw[J.length,U.length];exact h,fun hy=>?_,fun hy p hp=>?_]))
     .have hb:=(wd U).mp hy;subst hy;subst hb;refine k _ H StE.refl I ?_;simp only[Rep,MQ];exact#[a,xs,rfl,qa,J]
     .have a2:StE fa O H fa O (k9 H p (.tup (xs++ys))):=F4 hp;refine k _ _ a2 (I.new hp) ?_;simp only[Rep];exact#[p,_,rfl,SqT.of C0,Reps.stp I a2.stp (Reps.append J U)]
   .rw[iR h] at e;cases e
  |_=>cases e
 |lst Y=>
  cases d2 with
  |lst bs=>
   have e:(if Y.length+bs.length<=sizeLine then some (D.lst (Y++bs)) else none)=some d:=e;by_cases h:Y.length+bs.length<=sizeLine
   .rw[iO h] at e;cases e;obtain⟨a,xs,rfl,_,qa,J⟩:=r1;obtain⟨b,ys,rfl,_,qb,U⟩:=Z;refine .inr (.inr #[a,b,xs,ys,rfl,rfl,qa,qb,by rw[J.length,U.length];exact h,fun p hp=>?_]);have a2:StE fa O H fa O (k9 H p (.lst (xs++ys))):=F4 hp;have L:=aS I hp (Reps.append J U);refine k _ _ a2 L.gi ?_;simp only[Rep];exact#[p,_,rfl,kb I a2 L.gi hp L.nf,C0,Reps.stp I a2.stp (Reps.append J U)]
   .rw[iR h] at e;cases e
  |_=>cases e
 |_=>cases e
def W9:D->D->Option (List D)
 |.lst xs,.lst ys=>if xs.length+ys.length<=sizeLine then some (xs++ys) else none
 |_,_=>none
def sZ:mI K mM W9:=by
 intro g σ H fa O s x y d1 d2 ds Q I r1 r2 e k;cases d1 with
 |lst Z=>
  cases d2 with
  |lst bs=>
   simp only[W9] at e;by_cases h:Z.length+bs.length<=sizeLine
   .rw[iO h] at e;cases e;obtain⟨a,xs,rfl,_,qa,U⟩:=r1;obtain⟨b,ys,rfl,_,qb,Y⟩:=r2;refine#[a,b,xs,ys,rfl,rfl,qa,qb,by rw[U.length,Y.length];exact h,fun p J=>?_];exact k p _ _ (F4 J) (aS I J (Reps.append U Y)) J
   .rw[iR h] at e;cases e
  |_=>cases e
 |_=>cases e
def nS {C:Int->Int->Prop}{f:Int->Int->D}{p:D->D->Option D}(Z:∀d1 d2 d,p d1 d2=some d->∃i j,d1 = .int i/\d2 = .int j/\C i j/\d=f i j) (Y:∀N fa H i j,Rep K N fa H (f i j) (f' i j)):J5 K (rI C f') p:=by
 intro g σ H fa O s x y d1 d2 d Q I U J e k;obtain⟨i,j,rfl,rfl,c,rfl⟩:=Z d1 d2 d e;simp only[RepB,Rep] at U J;exact#[i,j,U,J,c,k _ H StE.refl I (Y _ _ _ _ _)]
def qh {f:Int->Int->D}{p:D->D->Option D}(Z:∀d1 d2 d,p d1 d2=some d->∃i j,d1 = .int i/\d2 = .int j/\d=f i j) (Y:∀N fa H i j,Rep K N fa H (f i j) (f' i j)):J5 K (V5 f') p:=by
 intro g σ H fa O s x y d1 d2 d Q I U J e k;obtain⟨i,j,rfl,rfl,rfl⟩:=Z d1 d2 d e;simp only[RepB,Rep] at U J;exact#[i,j,U,J,k _ H StE.refl I (Y _ _ _ _ _)]
def oQ (F:Int->Int->Option D):D->D->Option D
 |.int i,.int j=>F i j
 |_,_=>none
def yR {F:Int->Int->Option D}(e:oQ F d1 d2=some d):∃i j,d1 = .int i/\d2 = .int j/\F i j=some d:=by
 cases d1 with
 |int i=>
  cases d2 with
  |int j=>exact#[i,j,rfl,rfl,e]
  |_=>cases e
 |_=>cases e
def mF {C:Int->Int->Prop}[∀i j,Decidable (C i j)] {f:Int->Int->D}(e:oQ (fun i j=>if C i j then some (f i j) else none) d1 d2=some d):∃i j,d1 = .int i/\d2 = .int j/\C i j/\d=f i j:=by
 obtain⟨i,j,h1,h2,h3⟩:=yR e;by_cases h:C i j
 .have h3:(if C i j then some (f i j) else none)=some d:=h3;rw[iO h] at h3;exact#[i,j,h1,h2,h,(MB h3).symm]
 .have h3:(if C i j then some (f i j) else none)=some d:=h3;rw[iR h] at h3;cases h3
def tP {f:Int->Int->D}(e:oQ (fun i j=>some (f i j)) d1 d2=some d):∃i j,d1 = .int i/\d2 = .int j/\d=f i j:=by
 obtain⟨i,j,h1,h2,h3⟩:=yR e;exact#[i,j,h1,h2,(MB h3).symm]
def Hu:J5 K (V5 fun i j=>.int (i - j)) o9:=qh (f:=fun i j=>.int (i - j)) (fun J U d e=>tP (f:=fun i j=>.int (i - j)) e) fun _ _ _ _ _=>by simp only[Rep]
def oM (p:Int->Int->Bool):J5 K (V5 fun i j=>.bl (p i j)) (n8 p):=qh (f:=fun i j=>.bl (p i j)) (fun J U d e=>tP (f:=fun i j=>.bl (p i j)) e) fun _ _ _ _ _=>by simp only[Rep]
def Dp:J5 K qu o7:=by
 intro g σ H fa O s x y d1 d2 d Q I Y J e k;cases d1 with
 |int i=>
  cases d2 with
  |int j=>
   have e:(if A8 i&&A8 j then some (D.int (i*j)) else none)=some d:=e;by_cases h:(A8 i&&A8 j)=true
   .rw[iO h] at e;cases e;rw[MF] at h;simp only[RepB,Rep] at Y J;exact .inl #[i,j,Y,J,h,k _ H StE.refl I (by simp only[Rep])]
   .rw[iR h] at e;cases e
  |_=>cases e
 |lst as=>
  cases d2 with
  |int j=>
   simp only[o7] at e;by_cases h:-(2 ^ 63)<=j/\j<2 ^ 63/\as.length*j.toNat<=sizeLine
   .rw[iO h] at e;cases e;obtain⟨a,xs,rfl,_,qa,U⟩:=Y;simp only[RepB,Rep] at J;subst J;refine .inr #[a,j,xs,rfl,rfl,qa,h.1,h.2.1,by rw[U.length];exact h.2.2,fun p hp=>?_];have Z:StE fa O H fa O (k9 H p (.lst (List.replicate j.toNat xs).flatten)):=F4 hp;have L:=aS I hp (U.flat j.toNat);refine k _ _ Z L.gi ?_;simp only[Rep];exact#[p,_,rfl,kb I Z L.gi hp L.nf,C0,Reps.stp I Z.stp (U.flat j.toNat)]
   .rw[iR h] at e;cases e
  |_=>cases e
 |_=>cases e
def Ad:J5 K (rI (fun _ j=>P9 j=true) fun i j=>.int (i.fdiv j)) N7:=nS (f:=fun i j=>.int (i.fdiv j)) (fun J U d e=>mF (C:=fun _ j=>P9 j=true) (f:=fun i j=>.int (i.fdiv j)) e) fun _ _ _ _ _=>by simp only[Rep]
def Aj:J5 K (rI (fun _ j=>j≠0) fun i j=>.int (i.fmod j)) C9:=nS (f:=fun i j=>.int (i.fmod j)) (fun J U d e=>mF (C:=fun _ j=>j≠0) (f:=fun i j=>.int (i.fmod j)) e) fun _ _ _ _ _=>by simp only[Rep]
def zC:J5 K (rI tD fun i j=>.int (i ^ j.toNat)) cU:=nS (f:=fun i j=>.int (i ^ j.toNat)) (fun J U d e=>mF (C:=fun i j=>0<=j/\j<=1000000/\i.natAbs<2 ^ 64) (f:=fun i j=>.int (i ^ j.toNat)) e) fun _ _ _ _ _=>by simp only[Rep]
def Kr:zr K (rU fun i=>.int (-i)) o8:=by
 intro g σ H fa O s x U d Q I J e k;cases U with
 |int i=>cases e;simp only[RepB,Rep] at J;exact#[i,J,k _ H StE.refl I (by simp only[Rep])]
 |_=>cases e
def og:D->Bool
 |.non=>true
 |_=>false
def wC {x:V}(r:RepB K N fa H d x):decide (x = .non)=og d:=by
 cases d with
 |non=>simp only[RepB,Rep] at r;subst r;rfl
 |bl b=>simp only[RepB,Rep] at r;subst r;rfl
 |int i=>simp only[RepB,Rep] at r;subst r;rfl
 |str x=>simp only[RepB,Rep] at r;obtain⟨r,_⟩:=r;subst r;rfl
 |tup ds=>simp only[RepB,Rep] at r;obtain⟨a,xs,rfl,_⟩:=r;rfl
 |lst ds=>obtain⟨a,xs,rfl,_⟩:=r;rfl
 |feed=>simp only[RepB,Rep] at r;obtain⟨a,_,rfl⟩:=r;rfl
 |scr J=>simp only[RepB,Rep] at r;obtain⟨_,a,rfl,_⟩:=r;rfl
 |fn x=>simp only[RepB,Rep] at r;obtain⟨a,rfl,_⟩:=r;rfl
 |exc c ds=>simp only[RepB,Rep] at r;obtain⟨a,C,xs,rfl,_⟩:=r;rfl
def Iz:J5 K (fun x y H Q=>y = .non/\Q (.bl (decide (x = .non))) H) vU:=by
 intro g σ H fa O s x y U Y d Q I Z J e k;have h2:Y = .non:=by cases U <;> cases Y <;> first | rfl | cases e
 subst h2;simp only[RepB,Rep] at J;refine#[J,k _ H StE.refl I ?_];rw[wC Z];cases U <;> first | (cases e;simp[Rep,og];done) | cases e
def Iw:J5 K (fun x y H Q=>y = .non/\Q (.bl (!decide (x = .non))) H) nv:=by
 intro g σ H fa O s x y U Y d Q I Z J e k;have h2:Y = .non:=by cases U <;> cases Y <;> first | rfl | cases e
 subst h2;simp only[RepB,Rep] at J;refine#[J,k _ H StE.refl I ?_];rw[wC Z];cases U <;> first | (cases e;simp[Rep,og];done) | cases e
section
variable {σ:L2.St}
mutual
theorem eM (I:Inv X pins σ H s):∀(d:D) (v:V) (u:Value),W7 X.K N fa H d v->RelV v u->d.plain=true->∃as,Reads s.heap u d.py as
 |.non,v,u,r,ru,_=>by
  simp only[W7,Rep] at r;subst r;cases ru;simp only[D.py];exact#[[],.none]
 |.bl b,v,u,r,ru,_=>by
  simp only[W7,Rep] at r;subst r;cases ru;simp only[D.py];exact#[[],.bool b]
 |.int i,v,u,r,ru,_=>by
  simp only[W7,Rep] at r;subst r;obtain⟨t,rfl⟩:=ru;simp only[D.py];exact#[[],.int i t]
 |.str x,v,u,r,ru,_=>by
  simp only[W7,Rep] at r;obtain⟨r,_⟩:=r;subst r;obtain⟨t,rfl⟩:=ru;simp only[D.py];exact#[[],.str x t]
 |.tup ds,v,u,r,ru,hp=>by
  simp only[W7,Rep] at r;obtain⟨a,xs,rfl,q,w⟩:=r;cases ru;obtain⟨its,J,⟨o,h1,h2,n,h3⟩,_⟩:=I.tuple q;obtain⟨as,U⟩:=jU I ds xs its w J (by simpa only[D.plain] using hp);simp only[D.py];exact#[as,.tuple h1 h2 h3 (by simpa using U)]
 |.lst ds,v,u,r,ru,hp=>by
  obtain⟨a,xs,rfl,q,w⟩:=r;cases ru;obtain⟨its,J,⟨o,n,h1,h2,h3,Y⟩,_⟩:=I.list (SqL.of q);obtain⟨as,U⟩:=jU I ds xs its w J (by simpa only[D.plain] using hp);simp only[D.py];exact#[_,.list h1 h2 Y (by simpa using U)]
 |.feed,v,u,r,ru,hp=>by simp only[D.plain] at hp;cases hp
 |.scr _,v,u,r,ru,hp=>by simp only[D.plain] at hp;cases hp
 |.fn _,v,u,r,ru,hp=>by simp only[D.plain] at hp;cases hp
 |.exc _ _,v,u,r,ru,hp=>by simp only[D.plain] at hp;cases hp
theorem jU (I:Inv X pins σ H s):∀(ds:vD_) (xs:List V) (us:vV_),Reps X.K N fa H ds xs->Vals xs us->D.plains ds=true->∃as,ReadsAll s.heap us (D.pys ds) as
 |[],xs,us,r,ru,_=>by
  simp only[Reps] at r;subst r;cases ru;simp only[D.pys];exact#[[],.nil]
 |d::ds,xs,us,r,ru,hp=>by
  simp only[Reps] at r;obtain⟨x,ys,rfl,J,Y⟩:=r;cases ru with
  |cons q U=>
   simp only[D.plains,MF] at hp;obtain⟨as,h1⟩:=eM I d x _ J.o q hp.1;obtain⟨bs,h2⟩:=jU I ds ys _ Y U hp.2;simp only[D.pys];exact#[_,.cons h1 h2]
end
end
def C5 (d:D):Bool:=d.plain&&SeqAt.shaped d.py
def J6 (J U:D):Option D:=match J,U with
 |.str x,.str y=>some (.bl (decide (x=y)))
 |J,U=>if C5 J&&C5 U then some (.bl (PyData.eqv J.py U.py)) else none
def A2 (J U:D):Option D:=match J,U with
 |.str x,.str y=>some (.bl (!decide (x=y)))
 |J,U=>if C5 J&&C5 U then some (.bl (!PyData.eqv J.py U.py)) else none
def du (K:vF_) (f:Bool->Bool):R2:=fun x y H Q=>∃N fa d1 d2,RepB K N fa H d1 x/\RepB K N fa H d2 y/\C5 d1=true/\C5 d2=true/\Q (.bl (f (PyData.eqv d1.py d2.py))) H
def Fg (hu:X.A.units+64<cLine):OpR X (compareOp .Eq) (du X.K id):=by
 intro pins s σ H x y v u Q I Y ry h;obtain⟨N,fa,d1,d2,r1,Z,J,U,q⟩:=h;unfold C5 at J U;rw[MF] at J U;obtain⟨as,h1⟩:=eM I d1 x v r1.o Y J.1;obtain⟨bs,h2⟩:=eM I d2 y u Z.o ry U.1;exact RG h1 h2 J.2 U.2 hu #[.bl _,H,I,rfl,q]
def HZ (hu:X.A.units+64<cLine):OpR X (compareOp .NotEq) (du X.K not):=by
 intro pins s σ H x y v u Q I Y ry h;obtain⟨N,fa,d1,d2,r1,Z,J,U,q⟩:=h;unfold C5 at J U;rw[MF] at J U;obtain⟨as,h1⟩:=eM I d1 x v r1.o Y J.1;obtain⟨bs,h2⟩:=eM I d2 y u Z.o ry U.1;exact PyProof.Rows.ne_dataH h1 h2 J.2 U.2 hu #[.bl _,H,I,rfl,q]
def Dr (J:X.A.units+64<cLine):OpR X (compareOp .Eq) (fun x y H Q=>nj x y H Q\/du X.K id x y H Q):=op_eq.or (Fg J)
def vX (J:X.A.units+64<cLine):OpR X (compareOp .NotEq) (fun x y H Q=>md x y H Q\/du X.K not x y H Q):=op_ne.or (HZ J)
def FE {J U:D}(h:J6 J U=some d):(∃x y,J = .str x/\U = .str y/\d = .bl (decide (x=y)))\/(C5 J=true/\C5 U=true/\d = .bl (PyData.eqv J.py U.py)):=by
 unfold J6 at h;split at h
 .cases h;exact .inl #[_,_,rfl,rfl,rfl]
 .split at h
  .rename_i q;rw[MF] at q;cases h;exact .inr #[q.1,q.2,rfl]
  .cases h
def Fd {J U:D}(h:A2 J U=some d):(∃x y,J = .str x/\U = .str y/\d = .bl (!decide (x=y)))\/(C5 J=true/\C5 U=true/\d = .bl (!PyData.eqv J.py U.py)):=by
 unfold A2 at h;split at h
 .cases h;exact .inl #[_,_,rfl,rfl,rfl]
 .split at h
  .rename_i q;rw[MF] at q;cases h;exact .inr #[q.1,q.2,rfl]
  .cases h
def pO (x y:Str):decide (V.str x=V.str y)=decide (x=y):=by
 by_cases h:x=y
 .subst h;simp
 .rw[MK h,MK fun z=>h (V.str.inj z)]
def LF:J5 K (fun x y H Q=>nj x y H Q\/du K id x y H Q) J6:=by
 intro g σ H fa O s x y Y Z d Q I U J e k;rcases FE e with ⟨a,b,rfl,rfl,rfl⟩ | ⟨h1,h2,rfl⟩
 .simp only[RepB,Rep] at U J;obtain⟨rfl,_⟩:=U;obtain⟨rfl,_⟩:=J;exact .inl #[rfl,k _ H StE.refl I (by simp only[Rep,pO])]
 .exact .inr #[_,_,Y,Z,U,J,h1,h2,k _ H StE.refl I (by simp only[Rep,id])]
def qk:J5 K (fun x y H Q=>md x y H Q\/du K not x y H Q) A2:=by
 intro g σ H fa O s x y Y Z d Q I U J e k;rcases Fd e with ⟨a,b,rfl,rfl,rfl⟩ | ⟨h1,h2,rfl⟩
 .simp only[RepB,Rep] at U J;obtain⟨rfl,_⟩:=U;obtain⟨rfl,_⟩:=J;exact .inl #[rfl,k _ H StE.refl I (by simp only[Rep,pO])]
 .exact .inr #[_,_,Y,Z,U,J,h1,h2,k _ H StE.refl I (by simp only[Rep])]
def d9:D->D->Option D
 |.tup ds,.int i=>C1 ds i
 |.lst ds,.int i=>C1 ds i
 |_,_=>none
abbrev Sj(i:Int):DE:=dC (.int i)
abbrev Sk(i:Nat)(j:Int):DE:=a9 d9 (dL i) (Sj j)
def yO {i:Int}(r:Reps K N fa H ds xs) (h:C1 ds i=some d):∃v,C1 xs i=some v/\Rep K N fa H d v:=by
 unfold C1 at h ⊢;rw[r.length];cases e:U0 ds.length i with
 |none=>rw[e] at h;cases h
 |some j=>
  rw[e] at h;simp only[Mh] at h ⊢;exact Reps.get r h
def KU:J5 K (fun x y H Q=>mj K x y H Q\/ny K x y H Q) d9:=by
 intro g σ H fa O s x y d1 d2 d Q I U J e k;cases d1 with
 |tup ds=>
  cases d2 with
  |int i=>
   simp only[RepB,Rep] at U J;obtain⟨a,xs,rfl,q,w⟩:=U;obtain⟨v,Y,Z⟩:=yO w (show C1 ds i=some d from e);exact .inr #[a,xs,i,v,rfl,J,q,Y,k v H StE.refl I Z]
  |_=>cases e
 |lst ds=>
  cases d2 with
  |int i=>
   obtain⟨a,xs,rfl,_,q,w⟩:=U;simp only[RepB,Rep] at J;obtain⟨v,Y,Z⟩:=yO w (show C1 ds i=some d from e);exact .inl #[a,xs,i,v,rfl,J,SqL.of q,Y,k v H StE.refl I Z]
  |_=>cases e
 |_=>cases e
def LU:IxR X (fun x y H Q=>mj X.K x y H Q\/ny X.K x y H Q):=ix_list.or Cp
def j6 (p:List D->Option D) (f:DA):DE:=fun s=>(f s).bind fun x=>(p x.1).map fun d=>(d,x.2)
def S0 (p:List D->Option (List D)) (f:DA):DA:=fun s=>(f s).bind fun x=>(p x.1).map fun d=>(d,x.2)
section
variable {g:Gh}{p pos:Pos}{t:DA}{id T:String}{pr:List D->Option D}{pf:List D->Option (List D)}
def tE (hr:Z8 X.K r pr) (σ:L2.St) (H:Hp) (Q:VK) (h:liftE X.K g (j6 pr t) σ H Q):gb r (liftBA X.K g t) σ H Q:=by
 obtain⟨f0,O,s,d,s',I,e,k⟩:=h;refine A1 e fun ds s1 h1 h=>?_
 refine S5 h fun Z h3 h=>?_
 simp only[Ms] at h;obtain⟨e1,e2⟩:=h;subst e1;subst e2;exact#[f0,O,s,ds,s1,I,h1,fun vs H1 f1 O1 a1 I1 r1=>hr g σ H1 f1 O1 s1 vs ds Z Q I1 r1 h3 fun z Y a3 J U=>k z Y f1 O1 (a1.trans a3) J U]
def sS (hr:iI X.K r pf) (σ:L2.St) (H:Hp) (Q:VK) (h:liftF X.K g (S0 pf t) σ H Q):gb r (liftBA X.K g t) σ H Q:=by
 obtain⟨f0,O,s,d,s',I,e,k⟩:=h;refine A1 e fun ds s1 h1 h=>?_
 refine S5 h fun Y h3 h=>?_
 simp only[Ms] at h;obtain⟨e1,Z⟩:=h;subst e1;subst Z;exact#[f0,O,s,ds,s1,I,h1,fun vs H1 f1 O1 J I1 r1=>hr g σ H1 f1 O1 s1 vs ds Y Q I1 r1 h3 fun q ys U a3 L e3=>k q ys U f1 O1 (J.trans a3) L (J.mon _ e3)]
def rY (hc:CallR X (.builtin id) r) (hr:Z8 X.K r pr) (hg:Gl X x) (hm:X.mg x=none) (Y:bootBuiltins x=some (.builtin id)) (Z:BAO X g (e::es) t) (hn:x ≠ "__name__" := by decide) (J:(x == ("__debug__" : Str))=false:=by decide)
  (he:starEach (e::es) X.env=(false,eval e X.env)::starEach es X.env:=by rfl) (U:(backTo pos (starEach es X.env)).any (·.1)=false:=by rfl):EO X g (.Call (.Name x p) (e::es) [] pos) (j6 pr t):=
 EO.w (wF hc hg hm Y Z.pe hn J he U) (tE hr)
def pG (hc:CallR X (.type T) r) (hr:Z8 X.K r pr) (hg:Gl X x) (hm:X.mg x=none) (Y:bootBuiltins x=some (.type T)) (Z:BAO X g (e::es) t) (hn:x ≠ "__name__" := by decide) (J:(x == ("__debug__" : Str))=false:=by decide)
  (he:starEach (e::es) X.env=(false,eval e X.env)::starEach es X.env:=by rfl) (U:(backTo pos (starEach es X.env)).any (·.1)=false:=by rfl):EO X g (.Call (.Name x p) (e::es) [] pos) (j6 pr t):=
 EO.w (iZ hc hg hm Y Z.pe hn J he U) (tE hr)
def mY (hc:CallR X (.type T) r) (hr:iI X.K r pf) (hg:Gl X x) (hm:X.mg x=none) (Y:bootBuiltins x=some (.type T)) (Z:BAO X g (e::es) t) (hn:x ≠ "__name__" := by decide) (J:(x == ("__debug__" : Str))=false:=by decide)
  (he:starEach (e::es) X.env=(false,eval e X.env)::starEach es X.env:=by rfl) (U:(backTo pos (starEach es X.env)).any (·.1)=false:=by rfl):FO X g (.Call (.Name x p) (e::es) [] pos) (S0 pf t):=
 FO.w (iZ hc hg hm Y Z.pe hn J he U) (sS hr)
end
def uZ (r:aJ K N fa H [d] xs):∃x,xs=[x]/\RepB K N fa H d x:=by
 obtain⟨x,ys,rfl,U,J⟩:=r;simp only[aJ] at J;subst J;exact#[x,rfl,U]
def one {α:Type}(p:D->Option α):List D->Option α
 |[d]=>p d
 |_=>none
def vb {α:Type}{p:D->Option α}{a:α}(h:one p ds=some a):∃d,ds=[d]/\p d=some a:=by
 cases ds with
 |nil=>cases h
 |cons d r=>
  cases r with
  |nil=>exact#[d,rfl,h]
  |cons _ _=>cases h
def j9:D->Option D
 |.tup ds=>some (.int (ds.length:Nat))
 |.lst ds=>some (.int (ds.length:Nat))
 |.str x=>some (.int (x.length:Nat))
 |_=>none
def Y5:D->Option D
 |.int i=>some (.int (if i<0 then -i else i))
 |_=>none
def eJ:D->Option D
 |.int i=>if i.natAbs.log2<1920/\(toString i:Str).length<=sizeLine then some (.str (toString i)) else none
 |_=>none
def U3:D->Option D
 |.tup ds=>some (.tup ds)
 |.lst ds=>some (.tup ds)
 |_=>none
def dk:D->Option (List D)
 |.tup ds=>some ds
 |.lst ds=>some ds
 |_=>none
def bU:List D->Option Bool
 |[]=>some true
 |.bl b::r=>(bU r).map fun c=>b&&c
 |_::_=>none
def fW:D->Option D
 |.lst ds=>(bU ds).map .bl
 |_=>none
def LK:CallR X (.builtin "len") (fun xs H Q=>(∃p ys,xs=[.ref p]/\(SqL X.K H p ys\/SqT X.K H p ys)/\Q (.int ys.length) H)\/(∃z,xs=[.str z]/\z.length<=sizeLine/\Q (.int z.length) H)):=call_len_seq.or HQ
def gy {p:D->Option D}(h:∀(g:Gh) (σ:L2.St) (H:Hp) (fa:vA_) (O:vL_) (s:DS) (x:V) (d1 d:D) (Q:VK),GI K g σ H fa O s->RepB K (NN g.F fa O) fa H d1 x->p d1=some d ->
  (∀v H',StE fa O H fa O H'->GI K g σ H' fa O s->Rep K (NN g.F fa O) fa H' d v->Q v H')->r [x] H Q):Z8 K r (one p):=by
 intro g σ H fa O s xs ds d Q I Y e k;obtain⟨d1,rfl,U⟩:=vb e;obtain⟨x,rfl,J⟩:=uZ Y;exact h g σ H fa O s x d1 d Q I J U k
def HB:Z8 K (fun xs H Q=>(∃p ys,xs=[.ref p]/\(SqL K H p ys\/SqT K H p ys)/\Q (.int ys.length) H)\/(∃z,xs=[.str z]/\z.length<=sizeLine/\Q (.int z.length) H)) (one j9):=gy fun g σ H fa O s x J d Q I r e k=>by
 cases J with
 |tup es=>
  cases e;simp only[RepB,Rep] at r;obtain⟨a,ys,rfl,q,w⟩:=r;exact .inl #[a,ys,rfl,.inr q,k _ H StE.refl I (by rw[w.length];simp only[Rep])]
 |lst es=>
  cases e;obtain⟨a,ys,rfl,_,q,w⟩:=r;exact .inl #[a,ys,rfl,.inl (SqL.of q),k _ H StE.refl I (by rw[w.length];simp only[Rep])]
 |str z=>
  cases e;simp only[RepB,Rep] at r;obtain⟨rfl,l⟩:=r;exact .inr #[z,rfl,l,k _ H StE.refl I (by simp only[Rep])]
 |_=>cases e
def Gr:Z8 K (fun xs H Q=>∃i,xs=[.int i]/\Q (.int (if i<0 then -i else i)) H) (one Y5):=gy fun g σ H fa O s x J d Q I r e k=>by
 cases J with
 |int i=>
  cases e;simp only[RepB,Rep] at r;subst r;exact#[i,rfl,k _ H StE.refl I (by simp only[Rep])]
 |_=>cases e
def KR:Z8 K (fun xs H Q=>∃i,xs=[.int i]/\i.natAbs.log2<1920/\Q (.str (toString i)) H) (one eJ):=gy fun g σ H fa O s x J d Q I r e k=>by
 cases J with
 |int i=>
  simp only[eJ] at e;split at e
  .rename_i h;cases e;simp only[RepB,Rep] at r;subst r;exact#[i,rfl,h.1,k _ H StE.refl I (by simp only[Rep];exact#[trivial,h.2])]
  .cases e
 |_=>cases e
def xE:Z8 K (fun xs H Q=>∃p ys,xs=[.ref p]/\((SqL K H p ys/\∀l,H l=none->Q (.ref l) (k9 H l (.tup ys)))\/(SqT K H p ys/\Q (.ref p) H))) (one U3):=gy fun g σ H fa O s x Y d Q I r e k=>by
 cases Y with
 |tup es=>
  cases e;simp only[RepB,Rep] at r;obtain⟨a,ys,rfl,q,w⟩:=r;exact#[a,ys,rfl,.inr #[q,k _ H StE.refl I (by simp only[Rep];exact#[a,ys,rfl,q,w])]]
 |lst es=>
  cases e;obtain⟨a,ys,rfl,_,q,w⟩:=r;refine#[a,ys,rfl,.inl #[SqL.of q,fun p U=>?_]];have J:StE fa O H fa O (k9 H p (.tup ys)):=F4 U;refine k _ _ J (I.new U) ?_;simp only[Rep];exact#[p,ys,rfl,SqT.of C0,Reps.stp I J.stp w]
 |_=>cases e
def lW:iI K (fun xs H Q=>∃p ys,xs=[.ref p]/\(SqL K H p ys\/SqT K H p ys)/\∀l,H l=none->Q (.ref l) (k9 H l (.lst ys))) (one dk):=by
 intro g σ H fa O s xs ds es Q I rs e k;obtain⟨Z,rfl,Y⟩:=vb e;obtain⟨x,rfl,r⟩:=uZ rs;cases Z with
 |tup U=>
  cases Y;simp only[RepB,Rep] at r;obtain⟨a,ys,rfl,q,w⟩:=r;exact#[a,ys,rfl,.inr q,fun p J=>k p ys _ (F4 J) (aS I J w) J]
 |lst U=>
  cases Y;obtain⟨a,ys,rfl,_,q,w⟩:=r;exact#[a,ys,rfl,.inl (SqL.of q),fun p J=>k p ys _ (F4 J) (aS I J w) J]
 |_=>cases Y
def uJ (K:vF_):List V->Hp->VK->Prop:=fun xs H Q=>∃(a:Addr) (bs:List Bool),xs=[.ref a]/\SqL K H a (bs.map V.bl)/\Q (.bl (bs.all fun b=>b)) H
theorem xU:∀{bs:List Bool}{us:vV_},Vals (bs.map V.bl) us->us=bs.map Value.bool
 |[],_,.nil=>rfl
 |b::r,_,.cons q t=>by
  cases (show _=Value.bool b from q);rw[xU t];rfl
def xG (hc:X.calm=true):CallR X (.builtin "all") (uJ X.K):=by
 intro pins s σ H xs us Q I r h;obtain⟨a,bs,rfl,hq,q⟩:=h;obtain⟨u,rfl,ru⟩:=ar r;cases ru;obtain⟨its,rv,p,_⟩:=I.list hq;have Z:=xU rv;subst Z;refine call_all_walk (QU p.isList ?_);have Y:s.heap.IsList a (bs.map Value.bool).toArray:=p.isList;have ha:a<s.heap.objs.size:=by obtain⟨o,e,_⟩:=Y;exact xu e
 refine#[s.heap.objs.size,_,_,_,_,_,fun i=>(bs[i]?).getD true,rfl,Walks.list (A:=X.A.in1) (I.ok.hd hc) s.heap.objs.size a (MJ ha) (bs.map Value.bool).toArray,#[#[_,MN _ rfl,rfl,rfl],?_],?_,fun h' tk hk=>?_]
 .obtain⟨o,e,c⟩:=Y;exact#[o,Mg _ e,c]
 .intro i v s' Q' E' hv hQ;have J:(bs.map Value.bool)[i]? = some v:=by simpa using hv
  rw[Nq] at J;cases e:bs[i]? with
  |none=>rw[e] at J;cases J
  |some b=>
   rw[e] at J;cases J;have U:Q' b s':=by simpa [e] using hQ
   exact Oh U
 .have e1:((List.range (bs.map Value.bool).toArray.size).all fun i=>(bs[i]?).getD true)=bs.all fun b=>b:=by
   rw[Mv,Mj,Oj,Nb,Nb];constructor
   .intro h b hb;obtain⟨i,hi,e⟩:=List.mem_iff_getElem.mp hb;have:=h i (Oe.mpr hi);rw[ME hi,e] at this;exact this
   .intro h i hi;rw[Oe] at hi;rw[ME hi];exact h _ (NZ hi)
  rw[e1];refine#[.bl _,H,I.kept fun b o e=>hk b o ?_ (Mg _ e),rfl,q];simp only[Mq];exact MJ (xu e)
theorem yW:∀{ds:vD_}{c:Bool},bU ds=some c->∃bs:List Bool,ds=bs.map D.bl/\c=bs.all fun b=>b
 |[],c,h=>by cases h;exact#[[],rfl,rfl]
 |.bl b::r,c,h=>by
  simp only[bU] at h;refine S5 h fun Y h1 h2=>?_
  obtain⟨bs,U,J⟩:=yW h1;exact#[b::bs,by rw[U];rfl,by rw[<-h2,J];rfl]
 |.non::r,c,h=>by cases h
 |.int _::r,c,h=>by cases h
 |.str _::r,c,h=>by cases h
 |.tup _::r,c,h=>by cases h
 |.lst _::r,c,h=>by cases h
 |.feed::r,c,h=>by cases h
 |.scr _::r,c,h=>by cases h
 |.fn _::r,c,h=>by cases h
 |.exc _ _::r,c,h=>by cases h
theorem vf :∀{bs:List Bool}{xs:List V},Reps K N fa H (bs.map D.bl) xs->xs=bs.map V.bl
 |[],xs,h=>by simpa only[NX,Reps] using h
 |b::r,xs,h=>by
  simp only[Mo,Reps,Rep] at h;obtain⟨x,ys,rfl,rfl,h⟩:=h;rw[vf h];rfl
def rK:Z8 K (uJ K) (one fW):=gy fun g σ H fa O s x J d Q I r e k=>by
 cases J with
 |lst es=>
  refine S5 (show (bU es).map D.bl=some d from e) fun c h1 h2=>?_
  subst h2;obtain⟨bs,rfl,rfl⟩:=yW h1;obtain⟨a,ys,rfl,_,q,w⟩:=r;have:=vf w;subst this;exact#[a,bs,rfl,SqL.of q,k _ H StE.refl I (by simp only[Rep])]
 |_=>cases e
end DL
namespace DL
open PySem PySem.Spec L2
def FS.get (key:Str) (f:FS):Option D:=
 if f.kind=0 then if key = "cells" then some (.lst (f.cells.map .int)) else if key = "at" then some (.int f.pos) else if key = "left" then some (.int f.left) else if key = "turn" then some (.int f.turn) else none else none
def FS.put (key:Str) (n:Int) (f:FS):Option FS:=
 if f.kind=0 then if key = "at" then some { f with pos:=n } else if key = "left" then some { f with left:=n } else if key = "turn" then some { f with turn:=n } else none else none
def Me (i:Nat) (key:Str):DE:=fun s=>match s.sl[i]? with
 |some (.v .feed)=>s.fs.bind fun f=>(f.get key).map fun d=>(d,s)
 |_=>none
def Md (i:Nat) (key:Str) (fe:DE):DM:=fun s=>(fe s).bind fun x=>match x.2.sl[i]?,x.1 with
 |some (.v .feed),.int n=>x.2.fs.bind fun f=>(f.put key n).map fun f'=>(.next,{ x.2 with fs:=some f' })
 |_,_=>none
section
variable {g:Gh}{key:Str}{pos:Pos}
def Cs (xs:List V) (h:xs.length<=63):U5 xs none (some 63)=xs:=by
 unfold U5;have U:HT.sIx xs.length 0 none=0:=rfl;have J:HT.sIx xs.length xs.length (some 63)=xs.length:=by
  have:=HT.sIx_nat xs.length xs.length 63;rw[show ((63:Nat):Int)=63 from rfl] at this;rw[this];omega
 rw[U,J,Qh,Pl,List.take_length]
end
def FS.tget (n:Int) (f:FS):Option D:=
 if f.kind=0 then none else if n=0 then some (.lst (f.cells.map .int)) else if n=1 then some (.int f.pos) else if n=2 then some (.int f.left) else if n=3/\f.kind≠1 then some (.int f.turn) else none
def FS.tput (n v:Int) (f:FS):Option FS:=
 if f.kind=0 then none else if n=1 then some { f with pos:=v } else if n=2 then some { f with left:=v } else if n=3/\f.kind≠1 then some { f with turn:=v } else none
def E5 (i:Nat) (n:Int):DE:=fun s=>match s.sl[i]? with
 |some (.v .feed)=>s.fs.bind fun f=>(f.tget n).map fun d=>(d,s)
 |_=>none
def T4 (i:Nat) (n:Int) (fe:DE):DM:=fun s=>(fe s).bind fun x=>match x.2.sl[i]?,x.1 with
 |some (.v .feed),.int v=>x.2.fs.bind fun f=>(f.tput n v).map fun f'=>(.next,{ x.2 with fs:=some f' })
 |_,_=>none
def FS.tget_val {n:Int}{f:FS}(h:f.tget n=some d) (c:Addr):∃v,C1 (M9 c f) n=some v/\((v = .ref c/\d = .lst (f.cells.map .int))\/∃i,v = .int i/\d = .int i)/\f.kind≠0:=by
 unfold FS.tget at h;split at h
 .cases h
 rename_i hk;unfold M9;split at h
 .rename_i e;subst e;cases h;refine#[.ref c,?_,.inl #[rfl,rfl],hk];split <;> rfl
 split at h
 .rename_i e;subst e;cases h;refine#[.int f.pos,?_,.inr #[_,rfl,rfl],hk];split <;> rfl
 split at h
 .rename_i e;subst e;cases h;refine#[.int f.left,?_,.inr #[_,rfl,rfl],hk];split <;> rfl
 split at h
 .rename_i e;obtain⟨e,J⟩:=e;subst e;cases h;refine#[.int f.turn,?_,.inr #[_,rfl,rfl],hk];rw[iR J];rfl
 .cases h
def FS.tput_val {n v:Int}{f f':FS}(h:f.tput n v=some f') (c:Addr):∃j,U0 (M9 c f).length n=some j/\(M9 c f).set j (.int v)=M9 c f'/\f'.cells=f.cells/\f.kind≠0/\f'.kind≠0:=by
 unfold FS.tput at h;split at h
 .cases h
 rename_i hk;split at h
 .rename_i e;subst e;cases h;refine#[1,?_,?_,rfl,hk,hk]
  .unfold M9;split <;> rfl
  .by_cases z:f.kind=1
   .simp[M9,z]
   .simp[M9,z]
 split at h
 .rename_i e;subst e;cases h;refine#[2,?_,?_,rfl,hk,hk]
  .unfold M9;split <;> rfl
  .by_cases z:f.kind=1
   .simp[M9,z]
   .simp[M9,z]
 split at h
 .rename_i e;obtain⟨e,J⟩:=e;subst e;cases h;refine#[3,?_,?_,rfl,hk,hk]
  .unfold M9;rw[iR J];rfl
  .simp[M9,J]
 .cases h
section
variable {g:Gh}{n:Int}{pos:Pos}
def CS (hv:PE X (.Name x p1) (au i)):EO X g (.Subscript (.Name x p1) (.Constant (.int n) j p2) pos) (E5 i n):=
 EO.w (sL ix_list hv bj (fun _ _=>rfl)) fun σ H Q Z=>by
  refine Z.elim fun fa O s d s' I e k=>?_
  unfold E5 at e;cases q:s.sl[i]? with
  |none=>rw[q] at e;cases e
  |some z=>
   rw[q] at e;cases z with
   |no=>cases e
   |own _=>cases e
   |v dz=>
    cases dz with
    |feed=>
     refine Y6 e fun f h1 h2=>?_
     refine S5 h2 fun d' h3 h4=>?_
     cases h4;obtain⟨u,e1,r⟩:=SlR.val I.sl q;simp only[Rep] at r;obtain⟨a,Y,rfl⟩:=r;have fd:=I.fd;rw[h1,Y] at fd;obtain⟨_,c,U,nc,lc⟩:=fd;obtain⟨v,J,hd,hk⟩:=FS.tget_val h3 c;rw[iX hk] at U;refine#[_,e1,a,_,n,v,rfl,rfl,SqL.of U,J,k v H fa O StE.refl I ?_];rcases hd with ⟨rfl,rfl⟩ | ⟨n,rfl,rfl⟩
     .simp only[Rep];exact#[c,_,rfl,by rw[Y];exact nc,lc,Reps.ints]
     .simp only[Rep]
    |_=>cases e
def LQ {e:Expr}{fe:DE}(hv:PE X (.Name x p1) (au i)) (he:EO X g e fe) (hs:swapsWithSole [.Subscript (.Name x p1) (.Constant (.int n) j p2) pos'] e pos.line X.env=pure false:=by rfl) (hw:swappedStores [.Subscript (.Name x p1) (.Constant (.int n) j p2) pos'] e X.env=pure none:=by rfl) :
  SO X g (.Assign [.Subscript (.Name x p1) (.Constant (.int n) j p2) pos'] e pos) (T4 i n fe):=
 SO.w (pN he.pe (Ll hv bj Bl) hs hw) fun E σ H hQ=>by
  refine hQ.elim fun fa O s fl s' I q k=>?_
  refine A1 q fun d s1 h1 h2=>?_
  simp only[] at h2;cases q1:s1.sl[i]? with
  |none=>rw[q1] at h2;cases h2
  |some z=>
   rw[q1] at h2;cases z with
   |no=>cases h2
   |own _=>cases h2
   |v dz=>
    cases dz with
    |feed=>
     cases d with
     |int w=>
      simp only[] at h2;refine Y6 h2 fun f h3 h4=>?_
      refine S5 h4 fun f' h5 h6=>?_
      cases h6;refine#[fa,O,s,.int w,s1,I,h1,fun v H1 f1 O1 a1 J r=>?_];simp only[Rep] at r;subst r;obtain⟨u,e1,ru⟩:=SlR.val J.sl q1;simp only[Rep] at ru;obtain⟨a,ha,rfl⟩:=ru;have fd:=J.fd;rw[h3,ha] at fd;obtain⟨Z,c,hc,nc,lc⟩:=fd;obtain⟨m,hix,hput,U,hk,hk'⟩:=FS.tput_val h5 c;rw[iX hk] at hc;refine#[_,e1,a,_,n,m,rfl,rfl,hc,hix,?_];rw[hput];have a2:StE f1 O1 H1 f1 O1 (k9 H1 a (.lst (M9 c f'))):=#[fun _ h=>h,.inl rfl,fun b w e nb=>by rw[t7 (fun z=>nb (by rw[z];exact ha))];exact e,fun b z=>by
       by_cases Y:b=a
       .subst Y;rw[C0] at z;cases z
       .rw[t7 Y] at z;exact z]
      have cr:=J.car a2.stp;refine k σ _ f1 O1 (a1.stp.trans a2.stp) #[J.nd,SlR.go cr (fun b xs Y e=>a2.same b _ e fun z=>J.nf b z Y) J.sl,J.fr,?_,J.tr,J.ff,?_,J.nf]
      .refine#[fun b Y=>(by cases Y),J.st.fe,fun b w e _ nb=>?_,fun b z=>J.st.mon b (a2.mon b z)];refine a2.same b w (J.st.same b w e (by simp) nb) fun z=>?_
       rcases J.st.fe with y | ⟨y,y2⟩
       .rw[y] at z;exact nb z
       .rw[y2 b z] at e;cases e
      .rw[ha];refine#[by rw[U];exact Z,c,by rw[iX hk',C0],nc,?_];rw[t7 (fun z=>nc (.inr (.inr (by rw[z])))),U];exact lc
     |_=>cases h2
    |_=>cases h2
end
structure Cal (P:Program) (w:World) (K:vF_) (mg:vG_) (base:Heap) (k:Nat) (x:Str) (ps:List Str) (m:c8):Prop where
 ex:∃(f:Addr) (fd:FuncData),gh P w K mg base k f fd ps m/\mg x=some (.ref f)/\PySem.W.keepIn K (.ref f)=true/\Binds K fd ps []
structure Blt (mg:vG_):Prop where
 len:mg "len" = none
 range:mg "range" = none
 abs:mg "abs" = none
 tuple:mg "tuple" = none
 list:mg "list" = none
 int:mg "int" = none
 bool:mg "bool" = none
 str:mg "str" = none
 repr:mg "repr" = none
 all:mg "all" = none
 isinstance:mg "isinstance" = none
 zip:mg "zip" = none
 enumerate:mg "enumerate" = none
 min:mg "min" = none
 max:mg "max" = none
 reversed:mg "reversed" = none
 any:mg "any" = none
 sum:mg "sum" = none
 sorted:mg "sorted" = none
section
variable {g:Gh}{ps:List Str}{m:c8}{p pos:Pos}{t:DA}
def Ak (C:Cal X.prog X.w X.K X.mg X.base k x ps m) (k':Nat) (hr:Room k' X.A) (hk:k<=k') (hg:Gl X x)
  (ha:AO X g (e::es) t) (hn:∀s ds s',t s=some (ds,s')->ds.length=ps.length) (J:(x == ("__debug__" : Str))=false:=by decide) (Z:starEach (e::es) X.env=(false,eval e X.env)::starEach es X.env:=by rfl) (Y:(backTo pos (starEach es X.env)).any (·.1)=false:=by rfl) :
  EO X g (.Call (.Name x p) (e::es) [] pos) (d7 m t):=by
 obtain⟨f,fd,F,hm,U,hb⟩:=C.ex;exact Gs F (hr.mono hk) hg hm U hb ha hn J Z Y
end
def Kj {w:World}{f:Addr}{N ps:List Str}{b:DM}(F:Fun K x x st f fd) (Y:mg x=some (.ref f)) (U:Binds K fd ps []) (S:FnScope N ps (B8 st))
  (J:∀(cdv:Value) (A:Around) (outer:List Env) (s:Shared) (H:Hp) (E:XK) (g:Gh),Room k (A.deeper (PyProof.Rows.envOfC x (B8 st) s.heap.objs.size f cdv))->SSO (P5 W3 P w K mg base N x (B8 st) f cdv A outer s H E).nox g (O6 st) b) :
  Cal P w K mg base (k+1) x ps (w8 N.length b):=#[f,fd,zj F S J,Y,F.kp,U]
def ib (J:Room k A):A.units+64<cLine:=by have:=J.un;omega
def KA:bootBuiltins ("len" : Str)=some (.builtin "len"):=by decide +kernel
def FV:bootBuiltins ("abs" : Str)=some (.builtin "abs"):=by decide +kernel
def xS:bootBuiltins ("all" : Str)=some (.builtin "all"):=by decide +kernel
def Ka:bootBuiltins ("isinstance" : Str)=some (.builtin "isinstance"):=by decide +kernel
def ah:bootBuiltins ("tuple" : Str)=some (.type "tuple"):=by decide +kernel
def gq:bootBuiltins ("list" : Str)=some (.type "list"):=by decide +kernel
def iH:bootBuiltins ("int" : Str)=some (.type "int"):=by decide +kernel
def lL:bootBuiltins ("bool" : Str)=some (.type "bool"):=by decide +kernel
def AY:bootBuiltins ("str" : Str)=some (.type "str"):=by decide +kernel
theorem iC {κ:Type}[BEq κ] [LawfulBEq κ] {β:Type}:∀{l:List (κ × β)}{x:κ}{v:β},l.lookup x=some v->(x,v)∈l
 |[],_,_,h=>by simp at h
 |(a,b)::r,x,v,h=>by
  rw[QV] at h;cases e:x == a with
  |true=>
   rw[e] at h;cases h;rw[eq_of_beq e];exact Mi ..
  |false=>
   rw[e] at h;exact Mf _ (iC h)
def hasAll (J:List (Str × NameKind)) (cl:List (Str × Addr)):Bool:=J.all fun p=>!(p.2 == .cell||p.2 == .free)||(cl.lookup p.1).isSome
def so {J:List (Str × NameKind)}(h:hasAll J cl=true):∀x,(J.lookup x=some .cell\/J.lookup x=some .free)->∃c,cl.lookup x=some c:=fun x Y=>by
 have key:∀U,J.lookup x=some U->(U == NameKind.cell||U == NameKind.free)=true->∃c,cl.lookup x=some c:=fun U e q=>by
  have m:=iC e;have z:=Nb.mp h _ m;simp only[q,Bool.not_true,Bool.false_or] at z;exact RB.mp z
 rcases Y with e | e
 .exact key _ e rfl
 .exact key _ e rfl
inductive CapL (X:Cx) (scope:Scope):List Nat->List Str->Prop where
 | nil:CapL X scope [] []
 | cons {i:Nat}{y:Str}{r:List Nat}{ys:List Str}(h1:X.N[i]? = some y) (h2:X.env.scope.names.lookup y=some .cell\/X.env.scope.names.lookup y=some .free)
   (h3:(relabel scope X.env).names.lookup y=some .cell\/(relabel scope X.env).names.lookup y=some .free) (t:CapL X scope r ys):CapL X scope (i::r) (y::ys)
def CapL.len :∀{idx:List Nat}{ys:List Str},CapL X scope idx ys->ys.length=idx.length
:= by
 intro idx ys h;induction h with
 |nil=>rfl
 |cons _ _ _ t ih=>rw[Mw,Mw,ih]
def CapL.at :∀{idx:List Nat}{ys:List Str},CapL X scope idx ys->∀(j i:Nat) (y:Str),idx[j]? = some i->ys[j]? = some y ->
  X.N[i]? = some y/\(X.env.scope.names.lookup y=some .cell\/X.env.scope.names.lookup y=some .free)/\((relabel scope X.env).names.lookup y=some .cell\/(relabel scope X.env).names.lookup y=some .free)
:= by
 intro idx ys h;induction h with
 |nil=>intro j i y h;cases h
 |cons h1 h2 h3 t ih=>
  intro j i y e1 e2;cases j with
  |zero=>
   cases e1;cases e2;exact#[h1,h2,h3]
  |succ j=>exact ih j i y e1 e2
inductive SubL (cells:List (Str × Addr)):List (Str × Addr)->Prop where
 | nil:SubL cells []
 | cons {x:Str}{c:Addr}{r:List (Str × Addr)}(h:cells.lookup x=some c) (t:SubL cells r):SubL cells ((x,c)::r)
def SubL.mem {J:List (Str × Addr)}:∀{cl:List (Str × Addr)},SubL J cl->∀x c,(x,c)∈cl->J.lookup x=some c
:= by
 intro cl h;induction h with
 |nil=>intro x c h;cases h
 |cons e t ih=>
  intro x c h;rcases xo.mp h with z | z
  .cases z;exact e
  .exact ih x c z
def ez (J:closureFor scope X.env=pure cl) (sub:SubL X.env.cells cl) (cell:∀y∈scope.names,y.2 ≠ .cell) (kind:scope.kind = .function)
  (names:∀y∈scope.names,y.2 = .local->scope.names.lookup y.1=some .local) (Y:hasAll (relabel scope X.env).names cl=true) (U:CapL X scope idx caps):CompOk X scope cl (x::caps) 1 idx:=
 #[J,fun y c e=>sub.mem y c (iC e),cell,kind,names,so Y,by rw[Mw,U.len,NO],fun j i y e1 Z=>U.at j i y e1 (by rw[NO] at Z;simpa using Z)]
def v3 (i j:Nat) (f:DA):DM:=fun s=>(f s).bind fun x=>match x.1 with
 |[a,b]=>some (.next,{ x.2 with sl:=(x.2.sl.set i (.v a)).set j (.v b) })
 |_=>none
section
variable {g:Gh}
def Fw {i j:Nat}{x y:Str}{a b:Expr}{f:DA}{px py pt pos:Pos}{kt k2 pt2} (hc:X.calm=true) (hN:X.N.Nodup) (hi:X.N[i]? = some x) (hj:X.N[j]? = some y) (U:i≠j)
  (hx:X.env.scope.names.lookup x=some .local) (hy:X.env.scope.names.lookup y=some .local) (ha:AO X g [a,b] f)
  (hw:swappedStores [.Tuple [.Name x px,.Name y py] kt pt] (.Tuple [a,b] k2 pt2) X.env=pure (some [x,y]))
  (hs:swapsWithSole [.Tuple [.Name x px,.Name y py] kt pt] (.Tuple [a,b] k2 pt2) pos.line X.env=pure false:=by rfl) :
  SO X g (.Assign [.Tuple [.Name x px,.Name y py] kt pt] (.Tuple [a,b] k2 pt2) pos) (v3 i j f):=SO.w (Lp hc hN hi hj U hx hy ha.pe hw hs) fun E σ H hQ=>by
 refine hQ.elim fun fa O s fl s' I q k=>?_
 refine A1 q fun ds s1 h1 h2=>?_
 refine#[fa,O,s,ds,s1,I,h1,fun vs H1 f1 O1 a1 Y r=>?_]
 match ds,h2,r with
 |[d1,d2],h2,r=>
  simp only[MP,Ms] at h2;obtain⟨e1,e2⟩:=h2;subst e1;subst e2;simp only[Reps] at r;obtain⟨v,ys,rfl,rv,u,zs,rfl,ru,rfl⟩:=r;refine#[v,u,rfl,?_];obtain⟨P,sub,I2⟩:=Y.put i rv;have Z:StE f1 O1 H1 f1 P H1:=gQ sub;obtain⟨P3,J,I3⟩:=I2.put j (Rep.stp Y Z.stp ru);exact k _ H1 f1 P3 (a1.stp.trans (Z.stp.trans (gQ J).stp)) I3
end
def walkD {l:PySem.W.OpenLaw}{d:DefRec}{K:Params->PySem.W.Frag}{m:c8}(hn:l.most=some 63) (U:d.params.defaults=[]) (hr:Room k callerA)
  (hY:∀(w:World) (h:Heap),YP w h->(K w.params).In h)
  (F:∀(w:World) (mg:vG_) (fa:Addr) (h:Heap),(K w.params).In h->h.Ns mainGlobals mg->mg d.name=some (.ref fa) ->
   ∃fd:FuncData,(∀(s:Shared) (u:Value),BindsTo s fd #[[u],[]] [("_law_script",u)])/\∀base:Heap,(K w.params).In base->base.Ns mainGlobals mg->FnOk l.prog w (K w.params) mg base W3 k fa fd ["_law_script"] (eB (K w.params) 1 m))
  (J:∀ns:List Int,ns.length<=63->∃fs',m [.scr ns] none=some (.bl true,fs')) :
  PySem.W.WalkO q loose XP YP l.row.toRowW d [] (fun f vs=>PySem.call f vs):=
 L2.walk_of (n:=63) (k:=k) (x := "_law_script") (CX:=fun _=>W3) (sp:=fun w=>eB (K w.params) 1 m) hn #[] U hr hY F (fun w H a ns Y hO Z=>by
  obtain⟨fs',e⟩:=J ns Y;refine#[fun _=>False,none,[.scr ns],none,.bl true,fs',fun b z=>z.elim,fun a z=>(by cases z),?_,trivial,e,rfl,fun v H' fa' _ _ r=>by simpa only[Rep] using r];simp only[Reps,Rep];refine#[_,_,rfl,#[Y,a,rfl,?_],rfl];rcases Z with (z | ⟨o,z⟩) | z
  .rcases hO a with y | ⟨o,xs,y⟩ <;> · rw[z] at y;cases y
  .exact .inl #[o,z]
  .exact .inr z) fun _ _ _ _ _ z=>z
def wB:D->Option String
 |.non=>some "NoneType"
 |.bl _=>some "bool"
 |.int _=>some "int"
 |.str _=>some "str"
 |.tup _=>some "tuple"
 |.lst _=>some "list"
 |_=>none
def F9 (T C:String):Bool:=T == C||(T == "bool" && C == "int")
def F7 (C:String) (d:D):Option D:=(wB d).map fun T=>.bl (F9 T C)
def gf (K:vF_) (C:String):Prop:=∀T,T = "NoneType" \/ T = "bool" \/ T = "int" \/ T = "str" \/ T = "tuple" \/ T = "list" -> PySem.W.kitOne K (.type T) (.type C)=some (F9 T C)
def yu :gf K "int" := by rintro T (rfl | rfl | rfl | rfl | rfl | rfl) <;> rfl
def sP :gf K "bool" := by rintro T (rfl | rfl | rfl | rfl | rfl | rfl) <;> rfl
def cL :gf K "tuple" := by rintro T (rfl | rfl | rfl | rfl | rfl | rfl) <;> rfl
def LA (K:vF_) (C:String):List V->Hp->VK->Prop:=fun xs H Q=>∃N fa d T x,xs=[x,.ty C]/\RepB K N fa H d x/\wB d=some T/\Q (.bl (F9 T C)) H
def Dv (hk:gf X.K C):CallR X (.builtin "isinstance") (LA X.K C):=by
 intro pins s σ H xs us Q I r h;obtain⟨N,fa,d,T,x,rfl,J,Y,q⟩:=h;obtain⟨u,c,rfl,Z,rc⟩:=CB r;cases (show c=Value.type C from rc);have U:∀tk,EP X pins σ Q (.bool (F9 T C)) { s with toks:=tk }:=fun tk=>#[.bl (F9 T C),H,I.tok tk,rfl,q]
 cases d with
 |non=>
  cases Y;simp only[RepB,Rep] at J;subst J;cases Z;exact OK PySem.W.kitx_none I.kIn True.intro (hk _ (by simp)) (fun z=>nomatch z) U
 |bl b=>
  cases Y;simp only[RepB,Rep] at J;subst J;cases Z;exact OK PySem.W.kitx_bool I.kIn True.intro (hk _ (by simp)) (fun z=>nomatch z) U
 |int i=>
  cases Y;simp only[RepB,Rep] at J;subst J;obtain⟨t,rfl⟩:=Z;exact OK PySem.W.kitx_int I.kIn True.intro (hk _ (by simp)) (fun z=>nomatch z) U
 |str i=>
  cases Y;simp only[RepB,Rep] at J;obtain⟨J,_⟩:=J;subst J;obtain⟨t,rfl⟩:=Z;exact OK PySem.W.kitx_str I.kIn True.intro (hk _ (by simp)) (fun z=>nomatch z) U
 |tup ds=>
  cases Y;simp only[RepB,Rep] at J;obtain⟨a,ys,rfl,sq,_⟩:=J;cases Z;obtain⟨its,_,⟨o,h1,h2,_⟩,_⟩:=I.tuple sq;exact OK PySem.W.kitx_tuple I.kIn #[o,h1,h2] (hk _ (by simp)) (fun z=>nomatch z) U
 |lst ds=>
  cases Y;obtain⟨a,ys,rfl,_,sq,_⟩:=J;cases Z;obtain⟨its,_,⟨o,n,h1,h2,_⟩,_⟩:=I.list (SqL.of sq);exact OK PySem.W.kitx_list I.kIn #[o,h1,h2] (hk _ (by simp)) (fun z=>nomatch z) U
 |feed=>cases Y
 |scr _=>cases Y
 |fn _=>cases Y
 |exc _ _=>cases Y
section
variable {g:Gh}{a b c:Expr}{fa fb fc:DE}{pos:Pos}
def W2 {p p2:Pos}(hk:gf X.K C) (hg:Gl X "isinstance") (hm:X.mg "isinstance" = none) (Y:Gl X cn) (U:X.mg cn=none) (J:bootBuiltins cn=some (.type C)) (ha:BO X g a fa)
  (hn:cn ≠ "__name__" := by decide) (hd:(cn == ("__debug__" : Str))=false:=by decide) (hs1:starEach [.Name cn p2] X.env=(false,eval (.Name cn p2) X.env)::starEach [] X.env:=by rfl)
  (he:starEach [a,.Name cn p2] X.env=(false,eval a X.env)::starEach [.Name cn p2] X.env:=by rfl) (Z:(backTo pos (starEach [.Name cn p2] X.env)).any (·.1)=false:=by rfl) :
  EO X g (.Call (.Name "isinstance" p) [a,.Name cn p2] [] pos) (k6 (F7 C) fa):=
 EO.w (wF (Dv hk) hg hm Ka (V3 ha.pe (V3 (Lr (v:=.ty C) Y U J rfl hn hd) aI hs1) he) #[] #[] he Z) fun σ H Q hQ=>by
  refine hQ.elim fun f0 O s d s' I e k=>?_
  refine A1 e fun x s1 h1 h=>?_
  refine S5 h fun d' h3 h=>?_
  simp only[Ms] at h;obtain⟨e1,e2⟩:=h;subst e1;subst e2;refine S5 h3 fun T h4 h5=>?_
  subst h5;exact#[f0,O,s,x,s1,I,h1,fun v H1 f1 O1 a1 I1 r1=>#[_,_,x,T,v,rfl,r1,h4,k _ H1 f1 O1 a1 I1 (by simp only[Rep])]]
def bR (p p':D->D->Option D) (fa fb fc:DE):DE:=fun s=>(fa s).bind fun x=>(fb x.2).bind fun y=>(p x.1 y.1).bind fun z=>match z with
 |.bl true=>(fc y.2).bind fun w=>(p' y.1 w.1).map fun d=>(d,w.2)
 |.bl false=>some (.bl false,y.2)
 |_=>none
def Li {r r':R2}(hr:J5 X.K r p) (hr':J5 X.K r' p') (σ:L2.St) (H:Hp) (Q:VK) (h:liftE X.K g (bR p p' fa fb fc) σ H Q):se r r' (liftB X.K g fa) (liftB X.K g fb) (liftB X.K g fc) σ H Q:=by
 obtain⟨f0,O,s,d,s',I,e,k⟩:=h;refine A1 e fun x s1 h1 e=>?_
 refine A1 e fun y s2 h2 e=>?_
 refine Y6 e fun z h3 e=>?_
 refine#[f0,O,s,x,s1,I,h1,fun v H1 f1 O1 a1 I1 r1=>#[f1,O1,s1,y,s2,I1,h2,fun u H2 Y O2 a2 I2 r2=>?_]];refine hr g σ H2 Y O2 s2 v u x y z _ I2 (RepB.stp I1 a2 r1) r2 h3 fun zz H3 a3 U r3=>?_
 cases z with
 |bl b=>
  simp only[Rep] at r3;subst r3;refine#[b,rfl,?_];cases b with
  |false=>
   simp only[MP,Ms] at e;obtain⟨J,Z⟩:=e;subst J;subst Z;exact qj (k _ H3 Y O2 (a1.trans (a2.trans a3)) U (by simp only[Rep]))
  |true=>
   refine A1 e fun w s3 h4 e=>?_
   refine S5 e fun d' h5 e=>?_
   simp only[Ms] at e;obtain⟨J,Z⟩:=e;subst J;subst Z;refine xI #[Y,O2,s2,w,s3,U,h4,fun w' H4 f4 O4 a4 I4 r4=>?_];exact hr' g σ H4 f4 O4 s3 u w' y w d' Q I4 (RepB.stp U a4 (RepB.stp I2 a3 r2)) r4 h5 fun q H5 a5 I5 r5=>k q H5 f4 O4 (a1.trans (a2.trans (a3.trans (a4.trans a5)))) I5 r5
 |_=>cases e
def Ja {Z J:CmpOp}{r r':R2}{p p':D->D->Option D}(ho:OpR X (compareOp Z) r) (hr:J5 X.K r p) (Y:OpR X (compareOp J) r') (U:J5 X.K r' p') (ha:BO X g a fa) (hb:BO X g b fb) (hc:BO X g c fc)
  (hm:lastMarks [Z,J] [b,c]=false:=by with_unfolding_all rfl):EO X g (.Compare a [Z,J] [b,c] pos) (bR p p' fa fb fc):=EO.w (Gw ho Y ha.pe hb.pe hc.pe hm) (Li hr U)
abbrev DO:=DS->Option (Option Int × DS)
def liftO (K:vF_) (g:Gh) (f:DO):L2.TO:=fun σ H Q=>∃fa O s d s',GI K g σ H fa O s/\f s=some (d,s')/\∀H' fa' O',StE fa O H fa' O' H'->GI K g σ H' fa' O' s'->Q d H'
def liftO.elim {g:Gh}{σ:L2.St}{f:DO}{Q:Option Int->Hp->Prop}(h:liftO K g f σ H Q) (k:∀fa O s d s',GI K g σ H fa O s->f s=some (d,s')->(∀H' fa' O',StE fa O H fa' O' H'->GI K g σ H' fa' O' s'->Q d H')->G):G:=by
 obtain⟨fa,O,s,d,s',a,b,c⟩:=h;exact k fa O s d s' a b c
structure OO (X:Cx) (g:Gh) (e:Option Expr) (f:DO):Prop where
 pe:PO X e (liftO X.K g f)
def E6:DO:=fun s=>some (none,s)
def E7 (f:DE):DO:=fun s=>(f s).bind fun x=>match x.1 with | .int i=>some (some i,x.2) | _=>none
def Gf {e:Option Expr}{t t':L2.TO}(h:PO X e t) (w:∀σ H Q,t' σ H Q->t σ H Q):PO X e t':=fun pins s σ H Q I q=>h pins s σ H Q I (w σ H Q q)
theorem OO.w {e:Option Expr}{f:DO}{t:L2.TO}(h:PO X e t) (w:∀σ H Q,liftO X.K g f σ H Q->t σ H Q):OO X g e f:=#[Gf h w]
def IE:OO X g none E6:=OO.w uv fun σ H Q J=>by
 refine J.elim fun U O s d s' I e k=>?_
 cases e;exact k H U O StE.refl I
def BV (h:BO X g a fa):OO X g (some a) (E7 fa):=OO.w (xK h.pe) fun σ H Q J=>by
 refine J.elim fun f0 O s d s' I e k=>?_
 refine A1 e fun x s1 h1 e=>?_
 cases x with
 |int i=>
  simp only[MP,Ms] at e;obtain⟨Z,U⟩:=e;subst Z;subst U;exact#[f0,O,s,.int i,s1,I,h1,fun v H1 f1 O1 a1 I1 Y=>#[i,by simpa only[RepB,Rep] using Y,k H1 f1 O1 a1 I1]]
 |_=>cases e
def A0 (xs:vD_) (lo hi:Option Int):List D:=(xs.drop (HT.sIx xs.length 0 lo)).take (HT.sIx xs.length xs.length hi - HT.sIx xs.length 0 lo)
def oO {fa:vA_}(r:Reps K N fa H ds xs) (lo hi:Option Int):Reps K N fa H (A0 ds lo hi) (U5 xs lo hi):=by
 unfold A0 U5;rw[r.length];exact(r.drop _).take _
end
end DL
namespace HT2
open PySem PyProof.Rows HT
section
variable {w:World}
def getItem_tuple_whole {t sl:Addr}{lo hi:Option Int}(J:IsTup s.heap t items) (hs:s.heap.IsSliceOf sl vl vu .none) (pl:IsPart vl lo) (pu:IsPart vu hi)
  (hw:sIx items.size 0 lo=0/\sIx items.size items.size hi=items.size) (h:Q (.ref t) s):wpAny (model prog w) A (getItem (.ref t) (.ref sl)) Q E s:=by
 obtain⟨os,Y,hcs,hds⟩:=id hs;have Z:s.TypeIs (.ref sl) "slice" := #[os,Y,hcs]
 unfold getItem
 try with_reducible refine Nm ?_
 first | refine gV (iU ?_) | skip
 refine gV (PY J.typeIs #[] ?_);refine gV (Nu (name:=Str.ofString "__getitem__") J.typeIs NA
  (Na NA J.typeIs PZ ?_ (Qa _ _)))
 show wpAny _ _ (Builtin.Tuple.tupleItemsOf (.ref t) >>= _) _ _ s;refine gV (tupleItemsOf_ J ?_);refine gV (NV Z ?_);rw[iO #[]];refine gV (qE hs pl pu ?_);have U:(((sIx items.size 0 lo:Nat):Int) == 0&&(1:Int) == 1&&(sIx items.size items.size hi - sIx items.size 0 lo) == items.size)=true:=by
  rw[hw.1,hw.2];simp
 show wpAny _ _ (if (((sIx items.size 0 lo:Nat):Int) == 0&&(1:Int) == 1&&(sIx items.size items.size hi - sIx items.size 0 lo) == items.size)=true then _ else _) _ _ s;rw[iO U];refine gV (m:=Builtin.Tuple.tupleIsExact _) (gV (NV J.typeIs (iU ?_)));rw[iO #[]]
 first
  | exact gV (Ny (gV (iU (iU #[_,rfl,iU h]))))
  | exact gV (Ny (iU #[_,rfl,iU h]))
  | exact gV (Ny (gV (iU #[_,rfl,iU h])))
end
end HT2
namespace DL
open PySem PySem.Spec L2
section
variable {g:Gh}{a:Expr}{fa:DE}{pos:Pos}
def Hi (K:vF_):V->Option Int->Option Int->Hp->VK->Prop:=fun x lo hi H Q=>∃a xs,x = .ref a/\SqT K H a xs/\(HT.sIx xs.length 0 lo=0/\HT.sIx xs.length xs.length hi=xs.length)/\Q (.ref a) H
def Hh:L2.SlR X (Hi X.K):=by
 intro pins s σ H x v vl vu lo hi sl Q I Y hs pl pu h;obtain⟨a,xs,rfl,Z,hw,q⟩:=h;cases Y;obtain⟨its,r,U,hz⟩:=I.tuple Z;have J:its.toArray.size=xs.length:=by rw[Mv];exact r.length.symm
 refine#["tuple",_,NA.lookup,U.typeIs,?_];exact HT2.getItem_tuple_whole U hs pl pu (by rw[J];exact hw) #[.ref a,H,I,rfl,q]
def Jw {xs:vD_}{lo hi:Option Int}(h:HT.sIx xs.length 0 lo=0/\HT.sIx xs.length xs.length hi=xs.length):A0 xs lo hi=xs:=by
 unfold A0;rw[h.1,h.2,Qh,Pl,List.take_length]
def D2 (f:DE) (lo hi:DO):DE:=fun s=>(f s).bind fun x=>(lo x.2).bind fun l=>(hi l.2).bind fun h=>match x.1 with
 |.tup ds=>some (.tup (A0 ds l.1 h.1),h.2)
 |.lst ds=>some (.lst (A0 ds l.1 h.1),h.2)
 |_=>none
def KG {x r:D}{F:List D->List D}{t z:DS}(e:(match x with
 |.tup ds=>some (D.tup (F ds),t)
 |.lst ds=>some (D.lst (F ds),t)
 |_=>none)=some (r,z)):t=z/\((∃ds,x = .lst ds/\r = .lst (F ds))\/∃ds,x = .tup ds/\r = .tup (F ds)):=by
 cases x with
 |tup ds=>cases e;exact#[rfl,.inr #[ds,rfl,rfl]]
 |lst ds=>cases e;exact#[rfl,.inl #[ds,rfl,rfl]]
 |_=>cases e
def FD {lo hi:Option Expr}{fl fh:DO}(ha:BO X g a fa) (hl:OO X g lo fl) (hh:OO X g hi fh):EO X g (.Subscript a (.Slice lo hi none p2) pos) (D2 fa fl fh):=
 EO.w (xb (L2.SlR.or (L2.SlR.or Jg Hh) pS) ha.pe hl.pe hh.pe) fun σ H Q hQ=>by
  refine hQ.elim fun f0 O s d s' I e k=>?_
  refine A1 e fun x s1 h1 e=>?_
  refine A1 e fun l s2 h2 e=>?_
  refine A1 e fun h s3 h3 e=>?_
  obtain⟨rfl,c⟩:=KG (F:=fun ds=>A0 ds l h) e;refine#[f0,O,s,x,s1,I,h1,fun v H1 f1 O1 a1 I1 r1=>#[f1,O1,s1,l,s2,I1,h2,fun H2 f2 O2 a2 I2=>#[f2,O2,s2,h,s3,I2,h3,fun H3 J U a3 Y=>?_]]];have r3:=RepB.stp I2 a3 (RepB.stp I1 a2 r1);rcases c with ⟨ds,rfl,rfl⟩ | ⟨ds,rfl,rfl⟩
  .obtain⟨c,xs,rfl,_,q,w⟩:=r3;refine .inr #[c,xs,rfl,SqL.of q,fun p Z=>?_];have a4:StE J U H3 J U (k9 H3 p (.lst (U5 xs l h))):=F4 Z;have L:=aS Y Z (oO w l h);refine k _ _ J U (a1.trans (a2.trans (a3.trans a4))) L.gi ?_;simp only[Rep];exact#[p,_,rfl,kb Y a4 L.gi Z L.nf,C0,Reps.stp Y a4.stp (oO w l h)]
  .simp only[RepB,Rep] at r3;obtain⟨c,xs,rfl,q,w⟩:=r3;by_cases hw:HT.sIx xs.length 0 l=0/\HT.sIx xs.length xs.length h=xs.length
   .refine .inl (.inr #[c,xs,rfl,q,hw,k _ H3 J U (a1.trans (a2.trans a3)) Y ?_]);rw[w.length] at hw;rw[Jw hw];simp only[Rep];exact#[c,xs,rfl,q,w]
   .refine .inl (.inl #[c,xs,rfl,q,hw,fun p Z=>?_]);have a4:StE J U H3 J U (k9 H3 p (.tup (U5 xs l h))):=F4 Z;refine k _ _ J U (a1.trans (a2.trans (a3.trans a4))) (Y.new Z) ?_;simp only[Rep];exact#[p,_,rfl,SqT.of C0,Reps.stp Y a4.stp (oO w l h)]
end
end DL
namespace HT3
open PySem PyProof.Rows HT
section
variable {w:World}
def BF (n:Nat):Builtin.Slice.sliceAdjust none none (-1) (n:Int)=((n:Int) - 1,-1):=by
 have h1:((-1:Int)<0):=by omega
 unfold Builtin.Slice.sliceAdjust;simp only[h1,MV]
def EZ (n:Nat):Builtin.Slice.slicePlaces ((n:Int) - 1) (-1) (-1)=n:=by
 unfold Builtin.Slice.slicePlaces;have h1:¬ ((-1:Int)>0):=by omega
 simp only[h1,Nr];have e:-(-1:Int)=1:=rfl;rw[e,Int.ediv_one];split <;> omega
def Ds {sl:Addr}{t:Tok}{n:Nat}{Q:Int × Int × Nat->Shared->Prop}(Y:s.heap.IsSliceOf sl .none .none (.int (-1) t))
  (h:Q ((n:Int) - 1,-1,n) s):wpAny (model prog w) A (Builtin.Slice.sliceApplied (.ref sl) (pure (n:Int))) Q E s:=by
 obtain⟨os,U,Z,J⟩:=id Y;unfold Builtin.Slice.sliceApplied Builtin.Slice.sliceFields;refine gV (gV (Mr U J (x:=.none) rfl (gV (Mr U J (x:=.none) rfl (gV (Mr U J (x:=.int (-1) t) rfl (iU ?_)))))));refine gV (slicePart_int ?_);show wpAny _ _ (if ((-1:Int) == 0)=true then _ else _) _ _ s;rw[iR #[]];refine gV (OJ (gV (OJ (gV (iU ?_)))));show wpAny _ _ (match Builtin.Slice.sliceAdjust none none (-1) (n:Int) with | (lo,hi)=>pure (lo,(-1:Int),Builtin.Slice.slicePlaces lo hi (-1))) _ _ s;rw[BF n];show wpAny _ _ (pure ((n:Int) - 1,(-1:Int),Builtin.Slice.slicePlaces ((n:Int) - 1) (-1) (-1))) _ _ s;rw[EZ];exact iU h
def BZ (xs:vR_):((List.range xs.size).filterMap fun (m:Nat)=>xs[(((xs.size:Int) - 1)+(m:Int)*(-1)).toNat]?).toArray=xs.toList.reverse.toArray:=by
 congr 1;have e:((List.range xs.size).filterMap fun (m:Nat)=>xs[(((xs.size:Int) - 1)+(m:Int)*(-1)).toNat]?)=((List.range xs.size).filterMap fun (m:Nat)=>xs.toList.reverse[m]?):=by
  have cg:∀(l:List Nat) (f g:Nat->Option Value),(∀m∈l,f m=g m)->l.filterMap f=l.filterMap g:=by
   intro l f g;induction l with
   |nil=>intro _;rfl
   |cons a r Z=>intro h;rw[Of,Of,h a (Mi ..),Z fun m U=>h m (Mf _ U)]
  refine cg _ _ _ fun m U=>?_
  have J:m<xs.size:=Oe.mp U;have:(((xs.size:Int) - 1)+(m:Int)*(-1)).toNat=xs.size - 1 - m:=by omega
  rw[this,List.getElem?_reverse (by simpa using J)];simp
 rw[e];have Y:xs.size=xs.toList.reverse.length:=by simp
 rw[Y];generalize xs.toList.reverse=l;clear e Y;induction l with
 |nil=>rfl
 |cons a r Z=>
  rw[Mw,RH,Of];simp only[List.getElem?_cons_zero,List.filterMap_map];congr 1
def getItem_tuple_rev {t sl:Addr}{items:vR_}{tk:Tok}{Q:vQ_}(U:IsTup s.heap t items) (hs:s.heap.IsSliceOf sl .none .none (.int (-1) tk))
  (h:Q (.ref s.heap.objs.size) { s with heap:=s.heap.push { cls:=.type "tuple",data:=.seq items.toList.reverse.toArray } })
  (hsz:items.size<=sizeLine):wpAny (model prog w) A (getItem (.ref t) (.ref sl)) Q E s:=by
 have J:sizeOk (.seq items.toList.reverse.toArray):=by
  show items.toList.reverse.toArray.size<=sizeLine;rw[Mv,List.length_reverse,PU];exact hsz
 obtain⟨os,hos,Z,hds⟩:=id hs;have Y:s.TypeIs (.ref sl) "slice" := #[os,hos,Z]
 unfold getItem
 try with_reducible refine Nm ?_
 first | refine gV (iU ?_) | skip
 refine gV (PY U.typeIs #[] ?_);refine gV (Nu (name:=Str.ofString "__getitem__") U.typeIs NA
  (Na NA U.typeIs PZ ?_ (Qa _ _)))
 show wpAny _ _ (Builtin.Tuple.tupleItemsOf (.ref t) >>= _) _ _ s;refine gV (tupleItemsOf_ U ?_);refine gV (NV Y ?_);rw[iO #[]];refine gV (Ds hs ?_);have hno:¬ ((((items.size:Int) - 1) == 0&&(-1:Int) == 1&&items.size == items.size)=true):=by
  intro q;rw[MF,MF] at q;exact absurd q.1.2 #[]
 show wpAny _ _ (if (((items.size:Int) - 1) == 0&&(-1:Int) == 1&&items.size == items.size)=true then _ else _) _ _ s;rw[iR hno,BZ]
 first
  | exact gV (m:=Builtin.Tuple.tupleExact _) (Nn (iU #[_,rfl,iU h]) J)
  | exact gV (m:=Builtin.Tuple.tupleExact _) (Nn (gV (iU (iU #[_,rfl,iU h]))) J)
  | exact gV (gV (m:=Builtin.Tuple.tupleExact _) (Nn (iU (iU #[_,rfl,iU h])) J))
  | exact gV (gV (m:=Builtin.Tuple.tupleExact _) (Nn (iU #[_,rfl,iU h]) J))
def LI {sl:Addr}{t:Tok}{n:Nat}{Q:Int × Int × Nat->Shared->Prop}(Y:s.heap.IsSliceOf sl .none .none (.int 1 t))
  (h:Q (0,1,n) s):wpAny (model prog w) A (Builtin.Slice.sliceApplied (.ref sl) (pure (n:Int))) Q E s:=by
 obtain⟨os,U,Z,J⟩:=id Y;unfold Builtin.Slice.sliceApplied Builtin.Slice.sliceFields;refine gV (gV (Mr U J (x:=.none) rfl (gV (Mr U J (x:=.none) rfl (gV (Mr U J (x:=.int 1 t) rfl (iU ?_)))))));refine gV (slicePart_int ?_);show wpAny _ _ (if ((1:Int) == 0)=true then _ else _) _ _ s;rw[iR #[]];refine gV (OJ (gV (OJ (gV (iU ?_)))));show wpAny _ _ (match Builtin.Slice.sliceAdjust none none 1 (n:Int) with | (lo,hi)=>pure (lo,(1:Int),Builtin.Slice.slicePlaces lo hi 1)) _ _ s;rw[qd none none n];show wpAny _ _ (pure (((sIx n 0 none:Nat):Int),(1:Int),Builtin.Slice.slicePlaces ((sIx n 0 none:Nat):Int) ((sIx n n none:Nat):Int) 1)) _ _ s;rw[ui];exact iU h
def getItem_tuple_one {t sl:Addr}{tk:Tok}(J:IsTup s.heap t items) (hs:s.heap.IsSliceOf sl .none .none (.int 1 tk)) (h:Q (.ref t) s):wpAny (model prog w) A (getItem (.ref t) (.ref sl)) Q E s:=by
 obtain⟨os,Y,hcs,hds⟩:=id hs;have Z:s.TypeIs (.ref sl) "slice" := #[os,Y,hcs]
 unfold getItem
 try with_reducible refine Nm ?_
 first | refine gV (iU ?_) | skip
 refine gV (PY J.typeIs #[] ?_);refine gV (Nu (name:=Str.ofString "__getitem__") J.typeIs NA
  (Na NA J.typeIs PZ ?_ (Qa _ _)))
 show wpAny _ _ (Builtin.Tuple.tupleItemsOf (.ref t) >>= _) _ _ s;refine gV (tupleItemsOf_ J ?_);refine gV (NV Z ?_);rw[iO #[]];refine gV (LI hs ?_);have U:((0:Int) == 0&&(1:Int) == 1&&items.size == items.size)=true:=by simp
 show wpAny _ _ (if ((0:Int) == 0&&(1:Int) == 1&&items.size == items.size)=true then _ else _) _ _ s;rw[iO U];refine gV (m:=Builtin.Tuple.tupleIsExact _) (gV (NV J.typeIs (iU ?_)));rw[iO #[]]
 first
  | exact gV (Ny (gV (iU (iU #[_,rfl,iU h]))))
  | exact gV (Ny (iU #[_,rfl,iU h]))
  | exact gV (Ny (gV (iU #[_,rfl,iU h])))
end
end HT3
namespace DL
open PySem PySem.Spec L2 PyProof.Rows
section
variable {g:Gh}{a st:Expr}{fa fs:DE}{pos:Pos}
def DK (K:vF_) (te J:TE):TE:=fun σ H Q=>te σ H fun x H1=>J σ H1 fun y H2=>(y = .int (-1)/\∃p xs,x = .ref p/\SqT K H2 p xs/\∀l,H2 l=none->Q (.ref l) (k9 H2 l (.tup xs.reverse)))\/(y = .int 1/\∃p xs,x = .ref p/\SqT K H2 p xs/\Q (.ref p) H2)
def Eh (he:PE X a te) (hs:PE X st ts):PE X (.Subscript a (.Slice none none (some st) p2) pos) (DK X.K te ts):=by
 intro pins s σ H Q I h;refine Subscript_ (u6 (he pins s σ H _ I h) fun v s1 ⟨x,H1,I1,r1,q1⟩=>?_);refine wpAny_Slice ?_;rw[evalPart_none];refine iU (iU ?_);rw[evalPart_some];refine u6 (hs pins s1 σ H1 _ I1 q1) fun u s3 ⟨y,H3,I3,r3,q3⟩=>?_
 rcases q3 with ⟨rfl,p,xs,rfl,hx,q⟩ | ⟨rfl,p,xs,rfl,hx,q⟩
 case inr=>
  obtain⟨U,rfl⟩:=r3;cases r1;have J:Inv X pins σ H3 { s3 with heap:=s3.heap.push { cls:=.type "slice",data:=.fields #v[.none,.none,.int 1 U] } }:=I3.kept (t':=s3.toks) fun b ob q=>Mg _ q
  obtain⟨its,r,Z,hz⟩:=J.tuple hx;show wpAny (model X.prog X.w) X.A (subscriptTail a (.Slice none none (some st) p2) (.ref p) (.ref s3.heap.objs.size)) (EP X pins σ Q) X.xe { s3 with heap:=s3.heap.push { cls:=.type "slice",data:=.fields #v[.none,.none,.int 1 U] } };refine tail_any (ops:=[.ref p,.ref s3.heap.objs.size]) Z.typeIs NA.lookup ?_ (by with_unfolding_all rfl);exact HT3.getItem_tuple_one Z (QQ ..) #[.ref p,H3,J,rfl,q]
 obtain⟨U,rfl⟩:=r3;cases r1;have J:Inv X pins σ H3 { s3 with heap:=s3.heap.push { cls:=.type "slice",data:=.fields #v[.none,.none,.int (-1) U] } }:=I3.kept (t':=s3.toks) fun b ob q=>Mg _ q
 obtain⟨its,r,Z,hz⟩:=J.tuple hx;have Y:its.toArray.size=xs.length:=by rw[Mv];exact r.length.symm
 show wpAny (model X.prog X.w) X.A (subscriptTail a (.Slice none none (some st) p2) (.ref p) (.ref s3.heap.objs.size)) (EP X pins σ Q) X.xe { s3 with heap:=s3.heap.push { cls:=.type "slice",data:=.fields #v[.none,.none,.int (-1) U] } };refine tail_any (ops:=[.ref p,.ref s3.heap.objs.size]) Z.typeIs NA.lookup ?_ (by with_unfolding_all rfl);refine HT3.getItem_tuple_rev Z (QQ ..) ?_ (by rw[Y];exact hz);refine#[.ref (s3.heap.push { cls:=.type "slice",data:=.fields #v[.none,.none,.int (-1) U] }).objs.size,_,J.laid (t':=s3.toks) (o:=.tup xs.reverse) (fun b ob q=>Mg _ q) (tx _) ?_,rfl,q _ (J.hok.fresh (tx _))];exact#[by rw[List.length_reverse];exact hz,_,r.reverse,IsTup.new _ _]
def jC (f h:DE):DE:=fun s=>(f s).bind fun x=>(h x.2).bind fun y=>match x.1,y.1 with
 |.tup ds,.int i=>if i = -1 then some (.tup ds.reverse,y.2) else if i=1 then some (.tup ds,y.2) else none
 |_,_=>none
def Ky {x y r:D}{t:DS}{z:DS}(e:(match x,y with
 |.tup ds,.int i=>if i = -1 then some (D.tup ds.reverse,t) else if i=1 then some (.tup ds,t) else none
 |_,_=>none)=some (r,z)):∃ds i,x = .tup ds/\y = .int i/\t=z/\((i = -1/\r = .tup ds.reverse)\/(i=1/\r = .tup ds)):=by
 cases x with
 |tup ds=>
  cases y with
  |int i=>
   have e:(if i = -1 then some (D.tup ds.reverse,t) else if i=1 then some (.tup ds,t) else none)=some (r,z):=e;by_cases hi:i = -1
   .rw[iO hi] at e;cases e;exact#[ds,i,rfl,rfl,rfl,.inl #[hi,rfl]]
   .rw[iR hi] at e;by_cases h1:i=1
    .rw[iO h1] at e;cases e;exact#[ds,i,rfl,rfl,rfl,.inr #[h1,rfl]]
    .rw[iR h1] at e;cases e
  |_=>cases e
 |_=>cases e
def AV (ha:BO X g a fa) (hs:BO X g st fs):EO X g (.Subscript a (.Slice none none (some st) p2) pos) (jC fa fs):=EO.w (Eh ha.pe hs.pe) fun σ H Q hQ=>by
 refine hQ.elim fun f0 O s d s' I e k=>?_
 refine A1 e fun x s1 h1 e=>?_
 refine A1 e fun y s2 h2 e=>?_
 obtain⟨ds,i,rfl,rfl,rfl,c⟩:=Ky e;refine#[f0,O,s,_,s1,I,h1,fun v H1 f1 O1 a1 I1 r1=>#[f1,O1,s1,_,s2,I1,h2,fun u H2 J U Z Y r2=>?_]];have r3:=RepB.stp I1 Z r1;simp only[RepB,Rep] at r2 r3;subst r2;obtain⟨c',xs,rfl,q,w⟩:=r3;rcases c with ⟨rfl,rfl⟩ | ⟨rfl,rfl⟩
 .refine .inl #[rfl,c',xs,rfl,q,fun l hl=>?_];have a4:StE J U H2 J U (k9 H2 l (.tup xs.reverse)):=F4 hl;refine k _ _ J U (a1.trans (Z.trans a4)) (Y.new hl) ?_;simp only[Rep];exact#[l,_,rfl,SqT.of C0,Reps.stp Y a4.stp (Reps.reverse w)]
 .refine .inr #[rfl,c',xs,rfl,q,k _ _ J U (a1.trans Z) Y ?_];simp only[Rep];exact#[c',xs,rfl,q,w]
end
def Fx {w:World}{f:Addr}{ps:List Str}:gh P w K mg base k f fd ps (fun _ _=>none):=by
 refine#[fun vs H Q E h=>?_,fun A outer s H J us vs Q E _ _ _ _ h=>?_] <;> (obtain⟨F,fa,ds,fs,d,fs',_,_,_,_,e,_⟩:=h;cases e)
end DL
namespace DL
open PySem PySem.Spec L2
def noStar:Expr->Bool
 |.Starred _ _=>false
 |_=>true
def xt (h:noStar a=true):starEach (a::es) env=(false,eval a env)::starEach es env:=by
 cases a <;> first | rfl | (cases h)
section
variable {g:Gh}{a:Expr}{fa:DE}{fr:DA}
def ac (J:EO X g a fa) (U:AO X g es fr) (Y:noStar a=true:=by rfl):AO X g (a::es) (a7 fa fr):=mU J U (xt Y)
def bc (J:BO X g a fa) (U:BAO X g es fr) (Y:noStar a=true:=by rfl):BAO X g (a::es) (a7 fa fr):=Fv J U (xt Y)
end
def Jm :OpR X (compareOp .Is) (fun x y H Q=>∃a b,x = .bl a/\y = .bl b/\Q (.bl (a == b)) H):=by
 intro pins s σ H x y v u Q I J U h;obtain⟨a,b,rfl,rfl,q⟩:=h;cases J;cases U;exact PyProof.Rows.is_bool #[.bl _,H,I,rfl,q]
def mk2 (idx:List Nat) (sl:List Sl):D->Option (List Sl)
 |.tup [a,b]=>some (.v a :: .v b::Q8 idx sl)
 |_=>none
def FR {r:List Sl}(h:mk2 idx sl d=some r):∃a b,d = .tup [a,b]/\r = .v a :: .v b::Q8 idx sl:=by
 cases d with
 |tup ds=>
  match ds,h with
  |[a,b],h=>cases h;exact#[a,b,rfl,rfl]
 |_=>cases h
def bV (idx:List Nat) (fi:DA) (fc:DT) (fe:DE):DA:=fun s=>(fi s).bind fun x=>if x.1.length<=sizeLine then (E8 (mk2 idx x.2.sl) fc fe x.1 x.2.fs).map fun y=>(y.1,{ x.2 with fs:=y.2 }) else none
section
variable {g:Gh}{pos:Pos}
def Cq {G:TG}(k:CompOk X scope cl N' 2 idx)
  (hG:∀(a:Addr) (x y:V) (σ:L2.St) (H:Hp) (Q:L2.St->Hp->Prop),SqT X.K H a [x,y]->Q ((σ.set 0 (some x)).set 1 (some y)) H->G (.ref a) σ H Q):∀σ H Q,liftF X.K g (bV idx fi fc fe) σ H Q->eA 2 idx (liftI X.K g fi) G (fun σ H Q=>∃g',liftT X.K g' fc σ H Q) (fun σ H Q=>∃g',liftE X.K g' fe σ H Q) σ H Q:=
 ua (mk:=mk2 idx) fun N fa sl d sl0 x σ H Q hm Z hc kk=>by
  obtain⟨da,db,rfl,rfl⟩:=FR hm;simp only[Rep,Reps] at Z;obtain⟨ad,xs0,rfl,U,u,ys0,rfl,ru,w,ys1,rfl,J,rfl⟩:=Z;refine hG ad u w _ _ _ U (kk _ #[by simp,fun j v Y=>?_] ?_)
  .cases j with
   |zero=>simp[K2] at Y
   |succ j=>
    cases j with
    |zero=>simp[K2] at Y
    |succ j=>rw[OE (by simp),OE (by simp)];exact Y
  .have eb:((K2 2 idx σ).set 0 (some u)).set 1 (some w)=some u::some w::idx.map fun i=>(σ[i]?).join:=by simp[K2]
   rw[eb];simp only[SlR];exact#[u,_,rfl,ru,w,_,rfl,J,hc]
def BD {y:Str}(J:closureFor scope X.env=pure cl) (sub:SubL X.env.cells cl) (cell:∀y∈scope.names,y.2 ≠ .cell) (kind:scope.kind = .function)
  (names:∀y∈scope.names,y.2 = .local->scope.names.lookup y.1=some .local) (Y:hasAll (relabel scope X.env).names cl=true) (U:CapL X scope idx caps):CompOk X scope cl (x::y::caps) 2 idx:=
 #[J,fun y c e=>sub.mem y c (iC e),cell,kind,names,so Y,by rw[Mw,Mw,U.len];omega,fun j i y e1 Z=>U.at j i y e1 (by
  rw[show 2+j=j+1+1 by omega] at Z;simpa using Z)]
end
def RwIt (h:Heap) (i l:Addr) (xs:vR_) (k:Nat):Prop:=(h.IsListIter i l k/\h.IsList l xs)\/(h.IsTupleIter i l k/\h.IsTuple l xs)
section
variable {i l:Addr}{xs:vR_}
def RwIt.at (x:RwIt h i l xs k) (U:∀o,h.get? i=some o->h'.get? i=some o) (J:∀o,h.get? l=some o->h'.get? l=some o):RwIt h' i l xs k:=by
 rcases x with ⟨⟨o,q,r⟩,⟨p,u,v⟩⟩ | ⟨⟨o,q,r⟩,⟨p,u,v⟩⟩
 .exact .inl #[#[o,U o q,r],#[p,J p u,v]]
 .exact .inr #[#[o,U o q,r],#[p,J p u,v]]
def RwIt.lt (x:RwIt h i l xs k):i<h.objs.size:=by
 rcases x with ⟨⟨o,q,r⟩,_⟩ | ⟨⟨o,q,r⟩,_⟩ <;> exact xu q
end
section
variable {w:World}
def nextOf_tup_item {it t:Addr}{i:Nat}{items:vR_}{x:Value}{Q:vQ_}(J:s.heap.IsTupleIter it t i) (ht:s.heap.IsTuple t items) (hx:items[i]? = some x)
  (hQ:∀h',h'.IsTupleIter it t (i+1)->Heap.SameBut it s.heap h'->Q x { s with heap:=h' }):wpAny (model prog w) A (Builtin.SmallTypes.nextOf (.ref it)) Q E s:=by
 obtain⟨o,Y,hc,U⟩:=id J;obtain⟨ol,Z,_,nl,hdl⟩:=ht;unfold Builtin.SmallTypes.nextOf;refine gV (Nu (name:=Str.ofString "__next__") J.typeIs Qi (Na Qi J.typeIs RI ?_ (RJ _)));show wpAny _ _ (field (.ref it) 0 >>= _) _ _ s;refine gV (Mr Y U (x:=.ref t) rfl ?_);show wpAny _ _ (if (Value.ref t == Value.none)=true then _ else _) _ _ s;rw[iR (show ¬ ((Value.ref t == Value.none)=true) from Mk)];show wpAny _ _ (field (.ref it) 1 >>= _) _ _ s;refine gV (Mr Y U (x:=.int i 0) rfl ?_);show wpAny _ _ (seqItems? (.ref t) >>= _) _ _ s;refine gV (NC Z hdl ?_);simp only[Nz,hx];refine gV (OL Y U (by simp) (iU #[x,rfl,iU (hQ _ ?_ (Heap.SameBut.update ..))]));exact#[_,NF _ Y (Qj (Pm U _)),(Obj.cls_mapFields ..).trans hc,by rw[Pm U];simp[rawInt]]
def nextOf_tup_end {it t:Addr}{i:Nat}{items:vR_}{Q:vQ_}(hh:A.handled=none) (J:s.heap.IsTupleIter it t i) (ht:s.heap.IsTuple t items) (hx:items[i]? = none)
  (hE:∀h' e,Heap.ExtBut it s.heap h'->(∃o,h'.get? e=some o/\o.cls = .type "StopIteration")->E (.ref e) { s with heap:=h' }):wpAny (model prog w) A (Builtin.SmallTypes.nextOf (.ref it)) Q E s:=by
 obtain⟨o,Z,hc,hd⟩:=id J;obtain⟨ol,U,_,nl,Y⟩:=ht;unfold Builtin.SmallTypes.nextOf;refine gV (Nu (name:=Str.ofString "__next__") J.typeIs Qi (Na Qi J.typeIs RI ?_ (RJ _)));show wpAny _ _ (field (.ref it) 0 >>= _) _ _ s;refine gV (Mr Z hd (x:=.ref t) rfl ?_);show wpAny _ _ (if (Value.ref t == Value.none)=true then _ else _) _ _ s;rw[iR (show ¬ ((Value.ref t == Value.none)=true) from Mk)];show wpAny _ _ (field (.ref it) 1 >>= _) _ _ s;refine gV (Mr Z hd (x:=.int i 0) rfl ?_);show wpAny _ _ (seqItems? (.ref t) >>= _) _ _ s;refine gV (NC U Y ?_);simp only[Nz,hx];refine gV (Ny (gV (OL Z hd (by simp) ?_)));show wpAny _ _ (newExc (.type "StopIteration") [] >>= _) _ _ _;refine gV ?_;simp only[newExc,newTuple];refine gV (Nn ?_ (by size_fits));refine gV (m:=firstArgMember _ _) (wpAny_of_eq (a:=Value.none) (by first | rfl | (simp only[firstArgMember];rfl)) ?_);refine Nn ?_ (by size_fits);simp only[raiseNew];refine gV (wpAny_handled ?_)
 first | rw[show A.in1.handled=none from hh] | rw[hh]
 refine gV (iU (wpAny_throw ?_));exact hE _ _ (((Heap.SameBut.update ..).extBut.push _).push _) #[_,MN _ rfl,rfl]
def dA {it l:Addr}{i:Nat}{xs:vR_}{x:Value}{Q:vQ_}(r:RwIt s.heap it l xs i) (Y:l≠it) (hx:xs[i]? = some x)
  (Z:∀h',RwIt h' it l xs (i+1)->Heap.SameBut it s.heap h'->Q x { s with heap:=h' }):wpAny (model prog w) A (Builtin.SmallTypes.nextOf (.ref it)) Q E s:=by
 rcases r with ⟨a,b⟩ | ⟨a,b⟩
 .exact wpAny_nextOf_list_item a b hx fun h' U J=>Z h' (.inl #[U,b.extBut J.extBut Y]) J
 .exact nextOf_tup_item a b hx fun h' U J=>Z h' (.inr #[U,b.extBut J.extBut Y]) J
def iw {it l:Addr}{i:Nat}{xs:vR_}{Q:vQ_}(J:A.handled=none) (r:RwIt s.heap it l xs i) (Y:xs[i]? = none)
  (U:∀h' e,Heap.ExtBut it s.heap h'->(∃o,h'.get? e=some o/\o.cls = .type "StopIteration")->E (.ref e) { s with heap:=h' }):wpAny (model prog w) A (Builtin.SmallTypes.nextOf (.ref it)) Q E s:=by
 rcases r with ⟨a,b⟩ | ⟨a,b⟩
 .exact wpAny_nextOf_list_end J a b Y U
 .exact nextOf_tup_end J a b Y U
abbrev G7 (h:Heap) (z TI TO:Addr) (f0 f1:Value):Prop:=h.get? z=some { cls:=.type "zip",dict:=none,data:=.fields #v[f0,f1,.bool false,.ref TI,.ref TO],slots:=#v[] }
variable {z TI TO i1 i2 l1 l2:Addr}{xs ys:vR_}
def qN {x y a b:Value}{Q:vQ_}(D:ZipApart z TI TO i1 i2 l1 l2)
  (hz:G7 s.heap z TI TO .none (.bool false)) (hTI:IsPair s.heap TI (.ref i1) (.ref i2)) (hTO:IsPair s.heap TO a b) (h1:RwIt s.heap i1 l1 xs k) (h2:RwIt s.heap i2 l2 ys k) (hx:xs[k]? = some x) (hy:ys[k]? = some y)
  (hQ:∀h',G7 h' z TI TO (rawInt s.heap.objs.size) (.bool false)->RwIt h' i1 l1 xs (k+1)->RwIt h' i2 l2 ys (k+1)->IsPair h' s.heap.objs.size x y ->
   (∀c o,c≠z->c≠TO->c≠i1->c≠i2->s.heap.get? c=some o->h'.get? c=some o)->IsPair h' TO x y->Q (.ref s.heap.objs.size) { s with heap:=h' }) :
  wpAny (model prog w) A (Builtin.«zip.__next__» #[[.ref z],[]]) (fun fin s'=>∃v,fin = .done (.ret v)/\Q v s') E s:=by
 show wpAny _ _ (field (.ref z) 2 >>= _) _ _ _;refine gV (Mr hz rfl (x:=.bool false) rfl ?_);show wpAny _ _ (field (.ref z) 3 >>= _) _ _ _;refine gV (Mr hz rfl (x:=.ref TI) rfl ?_);refine gV (NC hTI rfl ?_);show wpAny _ _ (Builtin.SmallTypes.ownedTupleIsFree (.ref z) >>= _) _ _ _;refine gV ?_;unfold Builtin.SmallTypes.ownedTupleIsFree;refine gV (Mr hz rfl (x:=.none) rfl (iU ?_));simp only[MV];refine gV (Ny ?_);refine gV (Mr hz rfl (x:=.ref TO) rfl ?_);refine gV (Oa hz (by simp) fun g1 z1 k1=>?_)
 replace z1:G7 g1 z TI TO .ellipsis (.bool false):=z1
 refine gV ?_;simp only[QW,List.zipIdx_nil,Qk,Ql];refine gV (gV (Qm ?_));show wpAny _ _ (Builtin.SmallTypes.nextOf (.ref i1) >>= _) _ _ _;refine gV (dA (h1.at (fun o e=>k1.extBut _ o D.i1z e) fun o e=>k1.extBut _ o D.l1z e) D.l1i1 hx fun g2 r2 k2=>iU ?_);have o2:IsPair g2 TO a b:=k2.extBut _ _ D.TOi1 (k1.extBut _ _ D.TOz hTO);refine gV (NC o2 rfl ?_);refine gV (QX o2 fun g3 o3 k3=>?_)
 replace o3:IsPair g3 TO x b:=o3
 refine gV (Qn (iU ?_));refine gV (gV (Qm ?_));show wpAny _ _ (Builtin.SmallTypes.nextOf (.ref i2) >>= _) _ _ _;refine gV (dA (h2.at (fun o e=>k3.extBut _ o D.TOi2.symm (k2.extBut _ o D.i12.symm (k1.extBut _ o D.i2z e))) fun o e=>k3.extBut _ o D.l2TO (k2.extBut _ o D.l2i1 (k1.extBut _ o D.l2z e))) D.l2i2 hy fun g4 r4 Y=>iU ?_);have o4:IsPair g4 TO x b:=Y.extBut _ _ D.TOi2 o3;refine gV (NC o4 rfl ?_);refine gV (QX o4 fun J o5 k5=>?_)
 replace o5:IsPair J TO x y:=o5
 refine gV (Qn (iU (iU ?_)));refine gV (NC o5 rfl ?_);refine gV (wpAny_newTuple ?_);have sz:J.objs.size=s.heap.objs.size:=by rw[k5.1,Y.1,k3.1,k2.1,k1.1]
 have z5:G7 J z TI TO .ellipsis (.bool false):=k5.extBut _ _ D.TOz.symm (Y.extBut _ _ D.i2z.symm (k3.extBut _ _ D.TOz.symm (k2.extBut _ _ D.i1z.symm z1)));have q5:∀c o,c≠z->c≠TO->c≠i1->c≠i2->s.heap.get? c=some o->J.get? c=some o:=fun c o U c2 c3 c4 e=>
  k5.extBut _ _ c2 (Y.extBut _ _ c4 (k3.extBut _ _ c2 (k2.extBut _ _ c3 (k1.extBut _ _ U e))))
 have p1:RwIt J i1 l1 xs (k+1):=r2.at (fun o e=>k5.extBut _ o D.TOi1.symm (Y.extBut _ o D.i12 (k3.extBut _ o D.TOi1.symm e))) fun o e=>k5.extBut _ o D.l1TO (Y.extBut _ o D.l1i2 (k3.extBut _ o D.l1TO e))
 have p2:RwIt J i2 l2 ys (k+1):=r4.at (fun o e=>k5.extBut _ o D.TOi2.symm e) fun o e=>k5.extBut _ o D.l2TO e
 have zl:z<J.objs.size:=xu z5;show wpAny _ _ (Builtin.SmallTypes.ownedTupleHandOut (.ref z) (.ref J.objs.size) >>= _) _ _ _;refine gV ?_;unfold Builtin.SmallTypes.ownedTupleHandOut;have z6:G7 (J.push { cls:=.type "tuple",data:=.seq #v[x,y] }) z TI TO .ellipsis (.bool false):=Mg _ z5;refine gV (Oa z6 (by simp) fun g7 z7 k7=>?_)
 replace z7:G7 g7 z TI TO (rawInt J.objs.size) (.bool false):=z7
 refine Oa z7 (by simp) fun g8 z8 k8=>?_
 replace z8:G7 g8 z TI TO (rawInt J.objs.size) (.bool false):=z8
 have Z:∀c o,c≠z->J.get? c=some o->g8.get? c=some o:=fun c o U e=>k8.extBut _ _ U (k7.extBut _ _ U (Mg _ e))
 have t8:IsPair g8 J.objs.size x y:=k8.extBut _ _ (Nd zl) (k7.extBut _ _ (Nd zl) (MN _ rfl));rw[sz] at z8 t8;refine iU #[_,rfl,?_];show Q (.ref J.objs.size) _;rw[sz];exact hQ g8 z8 (p1.at (fun o e=>Z _ o D.i1z e) fun o e=>Z _ o D.l1z e) (p2.at (fun o e=>Z _ o D.i2z e) fun o e=>Z _ o D.l2z e) t8 (fun c o U c2 c3 c4 e=>Z c o U (q5 c o U c2 c3 c4 e)) (Z _ _ D.TOz o5)
def tI {a b:Value}{Q:Fin->Shared->Prop}(hh:A.handled=none) (D:ZipApart z TI TO i1 i2 l1 l2)
  (hz:G7 s.heap z TI TO .none (.bool false)) (hTI:IsPair s.heap TI (.ref i1) (.ref i2)) (hTO:IsPair s.heap TO a b) (h1:RwIt s.heap i1 l1 xs k) (h2:RwIt s.heap i2 l2 ys k) (Z:xs[k]? = none\/ys[k]? = none)
  (hE:∀h' e,(∀c o,c≠z->c≠TO->c≠i1->c≠i2->s.heap.get? c=some o->h'.get? c=some o)->(∃o,h'.get? e=some o/\o.cls = .type "StopIteration")->E (.ref e) { s with heap:=h' }) :
  wpAny (model prog w) A (Builtin.«zip.__next__» #[[.ref z],[]]) Q E s:=by
 show wpAny _ _ (field (.ref z) 2 >>= _) _ _ _;refine gV (Mr hz rfl (x:=.bool false) rfl ?_);show wpAny _ _ (field (.ref z) 3 >>= _) _ _ _;refine gV (Mr hz rfl (x:=.ref TI) rfl ?_);refine gV (NC hTI rfl ?_);show wpAny _ _ (Builtin.SmallTypes.ownedTupleIsFree (.ref z) >>= _) _ _ _;refine gV ?_;unfold Builtin.SmallTypes.ownedTupleIsFree;refine gV (Mr hz rfl (x:=.none) rfl (iU ?_));simp only[MV];refine gV (Ny ?_);refine gV (Mr hz rfl (x:=.ref TO) rfl ?_);refine gV (Oa hz (by simp) fun g1 z1 k1=>?_)
 replace z1:G7 g1 z TI TO .ellipsis (.bool false):=z1
 refine gV ?_;simp only[QW,List.zipIdx_nil,Qk,Ql];refine gV (gV (Qm ?_));show wpAny _ _ (Builtin.SmallTypes.nextOf (.ref i1) >>= _) _ _ _;cases hx:xs[k]? with
 |none=>
  refine gV (iw hh (h1.at (fun o e=>k1.extBut _ o D.i1z e) fun o e=>k1.extBut _ o D.l1z e) hx fun g2 e k2 he=>?_);obtain⟨oe,J,U⟩:=he;have z2:G7 g2 z TI TO .ellipsis (.bool false):=k2 _ _ D.i1z.symm z1;have Y:e≠z:=fun x=>by subst x;rw[z2] at J;cases J;simp at U
  exact Oa z2 (by simp) fun g3 _ k3=>hE g3 e (fun c o c1 _ c3 _ x=>k3.extBut _ _ c1 (k2 _ _ c3 (k1.extBut _ _ c1 x))) #[oe,k3.extBut _ _ Y J,U]
 |some x=>
  have hy:ys[k]? = none:=by
   rcases Z with h | h
   .rw[hx] at h;cases h
   .exact h
  refine gV (dA (h1.at (fun o e=>k1.extBut _ o D.i1z e) fun o e=>k1.extBut _ o D.l1z e) D.l1i1 hx fun g2 r2 k2=>iU ?_);have o2:IsPair g2 TO a b:=k2.extBut _ _ D.TOi1 (k1.extBut _ _ D.TOz hTO);refine gV (NC o2 rfl ?_);refine gV (QX o2 fun g3 o3 k3=>?_);refine gV (Qn (iU ?_));refine gV (gV (Qm ?_));show wpAny _ _ (Builtin.SmallTypes.nextOf (.ref i2) >>= _) _ _ _;refine gV (iw hh (h2.at (fun o e=>k3.extBut _ o D.TOi2.symm (k2.extBut _ o D.i12.symm (k1.extBut _ o D.i2z e))) fun o e=>k3.extBut _ o D.l2TO (k2.extBut _ o D.l2i1 (k1.extBut _ o D.l2z e))) hy fun g4 e k4 he=>?_);obtain⟨oe,J,U⟩:=he;have z4:G7 g4 z TI TO .ellipsis (.bool false):=k4 _ _ D.i2z.symm (k3.extBut _ _ D.TOz.symm (k2.extBut _ _ D.i1z.symm z1));have Y:e≠z:=fun x=>by subst x;rw[z4] at J;cases J;simp at U
  exact Oa z4 (by simp) fun g5 _ k5=>hE g5 e (fun c o c1 c2 c3 c4 x=>k5.extBut _ _ c1 (k4 _ _ c4 (k3.extBut _ _ c2 (k2.extBut _ _ c3 (k1.extBut _ _ c1 x))))) #[oe,k5.extBut _ _ Y J,U]
end
section
variable {w:World}
variable {z TI TO i1 i2 l1 l2:Addr}{xs ys:vR_}
def FI {o:Obj}{Q:Option Obj->Shared->Prop}(J:s.heap.get? a=some o) (h:Q (some o) s):wpAny (model prog w) A (loadIfAlive a) Q E s:=by
 have h':Q (s.heap.get? a) s:=by rw[J];exact h
 exact fun _ _ _=>h'
def zf {T:Addr}{f:Bool}{Y:Obj}{Q:Bool->Shared->Prop}(hz:G7 s.heap z TI TO (rawInt T) (.bool f)) (hT:s.heap.get? T=some Y)
  (J:∀h',G7 h' z TI TO (rawInt T) (.bool true)->Heap.SameBut z s.heap h'->Q false { s with heap:=h' }):wpAny (model prog w) A (Builtin.SmallTypes.ownedTupleIsFree (.ref z)) Q E s:=by
 unfold Builtin.SmallTypes.ownedTupleIsFree;refine gV (Mr hz rfl (x:=rawInt T) rfl ?_);show wpAny _ _ (loadIfAlive ((T:Int).toNat) >>= _) _ _ _;rw[Nz];refine gV (FI hT ?_);simp only[Option.isNone_some,Ob,Nr];refine gV (Mr hz rfl (x:=.bool f) rfl ?_);cases f with
 |true=>
  rw[iR (show ¬ ((Value.bool true != Value.bool true)=true) from Mk)];exact iU (J s.heap hz (Heap.SameBut.refl _ _))
 |false=>
  rw[iO (show (Value.bool false != Value.bool true)=true from rfl)];exact gV (Oa hz (by simp) fun g Z U=>iU (J g Z U))
def Kb {x y:Value}{T:Addr}{f:Bool}{oT:Obj}{Q:vQ_}(D:ZipApart z TI TO i1 i2 l1 l2)
  (hz:G7 s.heap z TI TO (rawInt T) (.bool f)) (hT:s.heap.get? T=some oT) (U:IsPair s.heap TI (.ref i1) (.ref i2)) (h1:RwIt s.heap i1 l1 xs k) (h2:RwIt s.heap i2 l2 ys k) (hx:xs[k]? = some x) (hy:ys[k]? = some y)
  (hQ:∀h',G7 h' z TI TO (rawInt T) (.bool true)->RwIt h' i1 l1 xs (k+1)->RwIt h' i2 l2 ys (k+1)->IsPair h' s.heap.objs.size x y ->
   (∀c o,c≠z->c≠TO->c≠i1->c≠i2->s.heap.get? c=some o->h'.get? c=some o)->Q (.ref s.heap.objs.size) { s with heap:=h' }) :
  wpAny (model prog w) A (Builtin.«zip.__next__» #[[.ref z],[]]) (fun fin s'=>∃v,fin = .done (.ret v)/\Q v s') E s:=by
 show wpAny _ _ (field (.ref z) 2 >>= _) _ _ _;refine gV (Mr hz rfl (x:=.bool false) rfl ?_);show wpAny _ _ (field (.ref z) 3 >>= _) _ _ _;refine gV (Mr hz rfl (x:=.ref TI) rfl ?_);refine gV (NC U rfl ?_);show wpAny _ _ (Builtin.SmallTypes.ownedTupleIsFree (.ref z) >>= _) _ _ _;refine gV (zf hz hT fun g1 z1 k1=>?_);simp only[Ob,Nr];simp only[List.forIn_toArray,Qk,Ql];refine gV (gV (gV (Nm ?_)));show wpAny _ _ (Builtin.SmallTypes.nextOf (.ref i1) >>= _) _ _ _;refine gV (dA (h1.at (fun o e=>k1.extBut _ o D.i1z e) fun o e=>k1.extBut _ o D.l1z e) D.l1i1 hx fun g2 r2 k2=>iU ?_);refine iU ?_;refine gV (gV (Nm ?_));show wpAny _ _ (Builtin.SmallTypes.nextOf (.ref i2) >>= _) _ _ _;refine gV (dA (h2.at (fun o e=>k2.extBut _ o D.i12.symm (k1.extBut _ o D.i2z e)) fun o e=>k2.extBut _ o D.l2i1 (k1.extBut _ o D.l2z e)) D.l2i2 hy fun g4 r4 J=>iU ?_);refine iU (iU ?_);show wpAny _ _ (newTuple [x,y] >>= _) _ _ _;refine gV (wpAny_newTuple (items:=[x,y]) ?_ (show 2<=sizeLine by decide));have sz:g4.objs.size=s.heap.objs.size:=by rw[J.1,k2.1,k1.1]
 have q4:∀c o,c≠z->c≠i1->c≠i2->s.heap.get? c=some o->g4.get? c=some o:=fun c o Y Z c4 e=>J.extBut _ _ c4 (k2.extBut _ _ Z (k1.extBut _ _ Y e))
 refine iU #[_,rfl,?_];show Q (.ref g4.objs.size) _;rw[sz];refine hQ _ (Mg _ (J.extBut _ _ D.i2z.symm (k2.extBut _ _ D.i1z.symm z1)))
  (r2.at (fun o e=>Mg _ (J.extBut _ o D.i12 e)) fun o e=>Mg _ (J.extBut _ o D.l1i2 e))
  (r4.at (fun o e=>Mg _ e) fun o e=>Mg _ e) ?_ fun c o Y c2 Z c4 e=>Mg _ (q4 c o Y Z c4 e)
 rw[<-sz];exact MN _ rfl
def Ac {T:Addr}{f:Bool}{oT:Obj}{Q:Fin->Shared->Prop}(hh:A.handled=none) (D:ZipApart z TI TO i1 i2 l1 l2)
  (hz:G7 s.heap z TI TO (rawInt T) (.bool f)) (hT:s.heap.get? T=some oT) (Y:IsPair s.heap TI (.ref i1) (.ref i2)) (h1:RwIt s.heap i1 l1 xs k) (h2:RwIt s.heap i2 l2 ys k) (J:xs[k]? = none\/ys[k]? = none)
  (hE:∀h' e,(∀c o,c≠z->c≠TO->c≠i1->c≠i2->s.heap.get? c=some o->h'.get? c=some o)->(∃o,h'.get? e=some o/\o.cls = .type "StopIteration")->E (.ref e) { s with heap:=h' }) :
  wpAny (model prog w) A (Builtin.«zip.__next__» #[[.ref z],[]]) Q E s:=by
 show wpAny _ _ (field (.ref z) 2 >>= _) _ _ _;refine gV (Mr hz rfl (x:=.bool false) rfl ?_);show wpAny _ _ (field (.ref z) 3 >>= _) _ _ _;refine gV (Mr hz rfl (x:=.ref TI) rfl ?_);refine gV (NC Y rfl ?_);show wpAny _ _ (Builtin.SmallTypes.ownedTupleIsFree (.ref z) >>= _) _ _ _;refine gV (zf hz hT fun g1 z1 k1=>?_);simp only[Ob,Nr];simp only[List.forIn_toArray,Qk,Ql];refine gV (gV (gV (Nm ?_)));show wpAny _ _ (Builtin.SmallTypes.nextOf (.ref i1) >>= _) _ _ _;cases hx:xs[k]? with
 |none=>
  refine gV (iw hh (h1.at (fun o e=>k1.extBut _ o D.i1z e) fun o e=>k1.extBut _ o D.l1z e) hx fun g2 e k2 U=>?_);exact hE g2 e (fun c o Z _ c3 _ x=>k2 _ _ c3 (k1.extBut _ _ Z x)) U
 |some x=>
  have hy:ys[k]? = none:=by
   rcases J with h | h
   .rw[hx] at h;cases h
   .exact h
  refine gV (dA (h1.at (fun o e=>k1.extBut _ o D.i1z e) fun o e=>k1.extBut _ o D.l1z e) D.l1i1 hx fun g2 r2 k2=>iU ?_);refine iU ?_;refine gV (gV (Nm ?_));show wpAny _ _ (Builtin.SmallTypes.nextOf (.ref i2) >>= _) _ _ _;refine gV (iw hh (h2.at (fun o e=>k2.extBut _ o D.i12.symm (k1.extBut _ o D.i2z e)) fun o e=>k2.extBut _ o D.l2i1 (k1.extBut _ o D.l2z e)) hy fun g4 e k4 U=>?_);exact hE g4 e (fun c o Z c2 c3 c4 x=>k4 _ _ c4 (k2.extBut _ _ c3 (k1.extBut _ _ Z x))) U
structure ZSt (h:Heap) (z TI TO i1 i2 l1 l2 S:Addr) (xs ys:vR_) (k:Nat):Prop where
 ti:IsPair h TI (.ref i1) (.ref i2)
 r1:RwIt h i1 l1 xs k
 r2:RwIt h i2 l2 ys k
 zz:(G7 h z TI TO .none (.bool false)/\∃a b,IsPair h TO a b)\/∃(T:Addr) (f:Bool) (oT:Obj),G7 h z TI TO (rawInt T) (.bool f)/\h.get? T=some oT/\T≠z/\T≠TO/\T≠i1/\T≠i2/\T≠S
def Kl {x y:Value}{Q:Option Value->Shared->Prop}(D:ZipApart z TI TO i1 i2 l1 l2) (st:ZSt s.heap z TI TO i1 i2 l1 l2 S xs ys k) (hS:S<s.heap.objs.size) (hTO:TO<s.heap.objs.size) (hx:xs[k]? = some x) (hy:ys[k]? = some y)
  (hQ:∀h',ZSt h' z TI TO i1 i2 l1 l2 S xs ys (k+1)->IsPair h' s.heap.objs.size x y->(∀c o,c ∉ [z,TO,i1,i2]->s.heap.get? c=some o->h'.get? c=some o)->Q (some (.ref s.heap.objs.size)) { s with heap:=h' }) :
  wpAny (model prog w) A (pyNext (.ref z)) Q E s:=by
 obtain⟨ti,r1,r2,zz⟩:=st;have K:∀{h':Heap},(∀c o,c≠z->c≠TO->c≠i1->c≠i2->s.heap.get? c=some o->h'.get? c=some o)->∀c o,c ∉ [z,TO,i1,i2]->s.heap.get? c=some o->h'.get? c=some o:=fun k c o Y e=>by
  simp only[xo,Mx,MI,not_or] at Y;exact k c o Y.1 Y.2.1 Y.2.2.1 Y.2.2.2 e
 unfold pyNext;rcases zz with ⟨U,a,b,ho⟩ | ⟨T,f,oT,U,hT,t1,t2,t3,t4,t5⟩
 .have Z:s.TypeIs (.ref z) "zip" := #[_,U,rfl]
  exact gV (Ou (Nu (name:=Str.ofString "__next__") Z Nf (Na Nf Z OM
   (qN D U ti ho r1 r2 hx hy fun h' a1 a2 a3 a4 J _=>iU (hQ h' #[J _ _ D.TIz D.TITO D.TIi1 D.TIi2 ti,a2,a3,.inr #[_,_,_,a1,a4,Nd (xu U),Nd hTO,Nd r1.lt,Nd r2.lt,Nd hS]] a4 (K J))) (OP _))))
 .have Z:s.TypeIs (.ref z) "zip" := #[_,U,rfl]
  exact gV (Ou (Nu (name:=Str.ofString "__next__") Z Nf (Na Nf Z OM
   (Kb D U hT ti r1 r2 hx hy fun h' a1 a2 a3 a4 J=>iU (hQ h' #[J _ _ D.TIz D.TITO D.TIi1 D.TIi2 ti,a2,a3,.inr #[T,true,oT,a1,J _ _ t1 t2 t3 t4 hT,t1,t2,t3,t4,t5]] a4 (K J))) (OP _))))
def Jd {Q:Option Value->Shared->Prop}(hh:A.handled=none) (D:ZipApart z TI TO i1 i2 l1 l2) (st:ZSt s.heap z TI TO i1 i2 l1 l2 S xs ys k) (U:xs[k]? = none\/ys[k]? = none)
  (hQ:∀h',(∀c o,c ∉ [z,TO,i1,i2]->s.heap.get? c=some o->h'.get? c=some o)->Q none { s with heap:=h' }):wpAny (model prog w) A (pyNext (.ref z)) Q E s:=by
 obtain⟨ti,r1,r2,zz⟩:=st;have K:∀{h':Heap},(∀c o,c≠z->c≠TO->c≠i1->c≠i2->s.heap.get? c=some o->h'.get? c=some o)->∀c o,c ∉ [z,TO,i1,i2]->s.heap.get? c=some o->h'.get? c=some o:=fun k c o J e=>by
  simp only[xo,Mx,MI,not_or] at J;exact k c o J.1 J.2.1 J.2.2.1 J.2.2.2 e
 unfold pyNext;rcases zz with ⟨hz,a,b,Z⟩ | ⟨T,f,oT,hz,hT,t1,t2,t3,t4,t5⟩
 .have Y:s.TypeIs (.ref z) "zip" := #[_,hz,rfl]
  refine gV (Ou (Nu (name:=Str.ofString "__next__") Y Nf (Na Nf Y OM (tI hh D hz ti Z r1 r2 U fun h' e hk he=>?_) (OP _))));obtain⟨o,Z,J⟩:=he;refine gV (Qo (T := "StopIteration") (b:=true) #[o,Z,J] Qp ?_);exact iU (hQ _ (K hk))
 .have Y:s.TypeIs (.ref z) "zip" := #[_,hz,rfl]
  refine gV (Ou (Nu (name:=Str.ofString "__next__") Y Nf (Na Nf Y OM (Ac hh D hz hT ti r1 r2 U fun h' e hk he=>?_) (OP _))));obtain⟨o,Z,J⟩:=he;refine gV (Qo (T := "StopIteration") (b:=true) #[o,Z,J] Qp ?_);exact iU (hQ _ (K hk))
end
structure LW (prog:Program) (w:World) (A:Around) (I S:Addr) (wr:vL_) (n:Nat) (P:Nat->Value->Heap->Prop) (St:Nat->Heap->Prop):Prop where
 item:∀(i:Nat) (s:Shared) (Q:Option Value->Shared->Prop) (E:vQ_),i<n->St i s.heap->S<s.heap.objs.size ->
  (∀v h',P i v h'->St (i+1) h'->(∀j u,P j u s.heap->u≠v)->(∀b o,b ∉ wr->s.heap.get? b=some o->h'.get? b=some o)->Q (some v) { s with heap:=h' })->wpAny (model prog w) A (pyNext (.ref I)) Q E s
 done:∀(s:Shared) (Q:Option Value->Shared->Prop) (E:vQ_),St n s.heap->(∀h',(∀b o,b ∉ wr->s.heap.get? b=some o->h'.get? b=some o)->Q none { s with heap:=h' })->wpAny (model prog w) A (pyNext (.ref I)) Q E s
 stay:∀i h h',St i h->(∀b o,b≠S->h.get? b=some o->h'.get? b=some o)->St i h'
 pay:∀i v h h',P i v h->(∀b o,b≠S->b ∉ wr->h.get? b=some o->h'.get? b=some o)->P i v h'
 self:∀(A:Around) (s:Shared) (Q:vQ_) (E:vQ_),St 0 s.heap->Q (.ref I) s->wpAny (model prog w) A (pyIter (.ref I)) Q E s
 out:S ∉ wr
section
variable {w:World}{I S:Addr}{wr:vL_}{n:Nat}{P:Nat->Value->Heap->Prop}{St:Nat->Heap->Prop}{R:Result->Shared->Prop}
def fE (P:Nat->Value->Heap->Prop) (h:Heap) (J:vR_) (i:Nat):Prop:=J.size=i/\(∀j v,J[j]? = some v->P j v h)/\J.toList.Nodup
abbrev bH (h:Heap) (S:Addr) (acc:vR_) (c:Nat):Prop:=h.get? S=some { cls:=.type "list",dict:=none,data:=.seq acc c,slots:=#v[] }
def JF (W:LW prog w A.in1 I S wr n P St) (hn:n<=sizeLine) (res:Value) {h₁:Heap}
  (hR:∀h' acc c,(∀b o,b≠S->b ∉ wr->h₁.get? b=some o->h'.get? b=some o)->bH h' S acc c->fE P h' acc n->R (.ok (.ret res)) { s with heap:=h' }) :
  ∀(k i:Nat) (h:Heap) (c:Nat) (acc:vR_),n - i=k->i<=n->St i h->(∀b o,b≠S->b ∉ wr->h₁.get? b=some o->h.get? b=some o)->bH h S acc c->fE P h acc i ->
   codeAny (model prog w) A (.builtin "list.extend.loop" #[[.ref S,.ref I,res],[]]) R { s with heap:=h }:=by
 intro k;induction k with
 |zero=>
  intro i h c acc hk hi Z kp hS Y;have e:i=n:=by omega
  subst e;refine codeAny_builtin RK ?_;rw[Around.under_plainId Qq _];show wpAny _ A.in1 (pyNext (.ref I) >>= _) _ _ _;refine gV (W.done { s with heap:=h } _ _ Z fun h' U=>?_);exact iU (hR h' acc c (fun b o h1 h2 e=>U b o h2 (kp b o h1 h2 e)) (U S _ W.out hS) #[Y.1,fun j v e=>W.pay j v h h' (Y.2.1 j v e) fun b o _ h2 e=>U b o h2 e,Y.2.2])
 |succ k ih=>
  intro i h c acc hk hi Z kp hS Y;have hlt:i<n:=by omega
  refine codeAny_builtin RK ?_;rw[Around.under_plainId Qq _];show wpAny _ A.in1 (pyNext (.ref I) >>= _) _ _ _;refine gV (W.item i { s with heap:=h } _ _ hlt Z (xu hS) fun v h' hP hst' hne U=>?_)
  dsimp only at U hne ⊢
  have hS':bH h' S acc c:=U S _ W.out hS;have up:∀b o,b≠S->h'.get? b=some o->(h'.update S (Obj.mapSeq (·.push v))).get? b=some o:=fun b o hb e=>(Nj _ _ (Mz hb)).trans e
  show wpAny _ A.in1 (updateSeq S (·.push v) >>= _) _ _ _;refine gV ?_;have J:=Y.1;refine Qr hS' rfl (iU #[plainId_quiet Qq _,ih (i+1) _ _ (acc.push v) ∅ hlt (W.stay _ h' _ hst' up)
   (fun b o h1 h2 e=>up b o h1 (U b o h2 (kp b o h1 h2 e))) (NF _ hS' rfl) #[by rw[Array.size_push,J],fun j x hj=>?_,?_]]) (by rw[J];omega) (by show (acc.push v).size<=sizeLine+1;rw[Array.size_push,J];omega)
  .rw[Array.getElem?_push] at hj;split at hj
   .rename_i e;cases hj;rw[e,J];exact W.pay i v h' _ hP fun b o h1 _ e=>up b o h1 e
   .exact W.pay j x h _ (Y.2.1 j x hj) fun b o h1 h2 e=>up b o h1 (U b o h2 e)
  .rw[Array.toList_push];refine QY.mpr #[Y.2.2,by simp,fun a ha b hb=>?_];have e:b=v:=by simpa using hb
   subst e;obtain⟨j,hj⟩:=Qs.mp ha;exact hne j a (Y.2.1 j a (by simpa using hj))
def CK (W:LW prog w A.in1 I S wr n P St) (hn:n<=sizeLine) (Y:s.TypeIs (.ref I) T) (hl:(Value.type T == Value.type "list")=false) (ht:(Value.type T == Value.type "tuple")=false)
  (nl:typeLookup (.type T) "__len__" = pure none) (nh:typeLookup (.type T) "__length_hint__" = pure none) (J:St 0 s.heap) (hSI:S≠I) (res:Value) (c₀:Nat) (hS:bH s.heap S #v[] c₀)
  (hR:∀h' acc c,(∀b o,b≠S->b ∉ wr->s.heap.get? b=some o->h'.get? b=some o)->bH h' S acc c->fE P h' acc n->R (.ok (.ret res)) { s with heap:=h' }) :
  wpAny (model prog w) A.in1 (Builtin.List.listExtendWith (.ref S) (.ref I) res)
   (fun fin s'=>match fin with | .done f=>R (.ok f) s' | .again c'=>c'.quiet=true/\codeAny (model prog w) A c' R s') (fun e s'=>R (.error e) s') s:=by
 have key:∀(h:Heap) (c₁:Nat),(∀b o,b≠S->s.heap.get? b=some o->h.get? b=some o)->bH h S #v[] c₁ ->
   codeAny (model prog w) A (.builtin "list.extend.loop" #[[.ref S,.ref I,res],[]]) R { s with heap:=h }:=fun h c₁ hk Z=>
  JF (h₁:=s.heap) W hn res hR n 0 h c₁ #v[] (Pl _) (MY _) (W.stay 0 _ h J hk) (fun b o h1 _ e=>hk b o h1 e) Z #[rfl,fun j v e=>by simp at e,by simp]
 unfold Builtin.List.listExtendWith;refine gV (NV Y ?_);have h1:Builtin.List.listSameRef (.ref S) (.ref I)=false:=by simp[Builtin.List.listSameRef,hSI]
 simp only[h1,hl,ht,Bool.or_false,Ob,Nr];refine gV (W.self _ _ _ _ J ?_);refine gV (Nm ?_);unfold Builtin.List.listLengthHint;refine gV (wpAny_specialOf Y nl ?_);show wpAny _ A.in1 (specialOf (Value.ref I) (Str.ofString "__length_hint__") >>= _) _ _ _;refine gV (wpAny_specialOf Y nh ?_);refine iU ?_;show wpAny _ A.in1 (rule "list.extend.makes-room" >>= fun _=>Builtin.List.listTouch (.ref S) >>= fun _=>
  again (.builtin "list.extend.loop" #[[.ref S,.ref I,res],[]])) _ _ _
 refine gV (Ny ?_);refine gV ?_;show wpAny _ A.in1 (updateSeq S (·.push .none) >>= fun _=>updateSeq S (·.pop)) _ _ _;refine gV (Qr hS rfl ?_);have U:=NF (Obj.mapSeq (·.push Value.none)) hS rfl;refine Qr (hz:=by seq_fits) U rfl ?_;have hS₃:=NF (Obj.mapSeq (·.pop)) U rfl;refine iU #[plainId_quiet Qq _,key _ _ (fun b o hb e=>?_) hS₃];exact(Nj _ _ (Mz hb)).trans ((Nj _ _ (Mz hb)).trans e)
def Ia {E:vQ_}{Q:vQ_}(W:LW prog w A.in1.in1 I s.heap.objs.size wr n P St) (hn:n<=sizeLine) (hT:s.TypeIs (.ref I) T) (hl:(Value.type T == Value.type "list")=false) (ht:(Value.type T == Value.type "tuple")=false)
  (nl:typeLookup (.type T) "__len__" = pure none) (nh:typeLookup (.type T) "__length_hint__" = pure none) (hst:St 0 s.heap)
  (hQ:∀h' acc c,(∀b o,b ∉ wr->s.heap.get? b=some o->h'.get? b=some o)->bH h' s.heap.objs.size acc c->fE P h' acc n->Q (.ref s.heap.objs.size) { s with heap:=h' }) :
  wpAny (model prog w) A (call (.type "list") [.ref I]) Q E s:=by
 refine callType_codes (Q₁:=fun Y s₁=>Y = .ref s.heap.objs.size/\s₁={ s with heap:=s.heap.push { cls:=.type "list",data:=.seq #v[] } }) PySem.F.called_list (PySem.F.typeCall_list_1 _) PySem.F.entry_list_init
  (code_list_new _ #[rfl,rfl]) fun Y s₁ h₁=>?_
 obtain⟨rfl,rfl⟩:=h₁;have Z:(s.heap.push { cls:=.type "list",data:=.seq #v[] }).get? s.heap.objs.size=some { cls:=.type "list",data:=.seq #v[] }:=MN _ rfl;obtain⟨oI,U,hcI⟩:=id hT;have hI:I<s.heap.objs.size:=xu U;refine#[#[_,Z,rfl],PySem.F.args_list_init_2 _ _,?_];show wpAny _ _ (do let old <-Builtin.List.listItems (.ref s.heap.objs.size);Builtin.List.listUpdate (.ref s.heap.objs.size) (fun _=>#v[]);letGo old.toList.reverse;Builtin.List.listExtendWith (.ref s.heap.objs.size) (.ref I) .none) _ _ _;refine gV ?_;unfold Builtin.List.listItems;refine gV (NC Z rfl (iU ?_));show wpAny _ _ (updateSeq s.heap.objs.size (fun _=>#v[]) >>= fun _=>letGo (#v[]:vR_).toList.reverse >>= fun _=>Builtin.List.listExtendWith (.ref s.heap.objs.size) (.ref I) .none) _ _ _;refine gV (Qr Z rfl ?_);have hS₂:=NF (Obj.mapSeq (fun _=>(#v[]:vR_))) Z rfl;have J:∀b o,b≠s.heap.objs.size->s.heap.get? b=some o->((s.heap.push { cls:=.type "list",data:=.seq #v[] }).update s.heap.objs.size (Obj.mapSeq (fun _=>(#v[]:vR_)))).get? b=some o:=
  fun b o hb e=>(Nj _ _ (Mz hb)).trans (Mg _ e)
 refine gV (Qn ?_);refine CK (A:=A.in1) W hn #[oI,J I _ (MJ hI) U,hcI] hl ht nl nh (W.stay 0 s.heap _ hst J) (Nd hI) .none _ hS₂ fun h' acc c hk hS' hG=>?_
 exact#[rfl,hQ h' acc c (fun b o h2 e=>hk b o (MJ (xu e)) h2 (J b o (MJ (xu e)) e)) hS' hG]
end
def Gp:typeLookup (.type "zip") "__len__" = pure none:=by rw[typeLookup_type,builtinLookup_eq_fast];kernel_rfl
def Gu:typeLookup (.type "zip") "__length_hint__" = pure none:=by rw[typeLookup_type,builtinLookup_eq_fast];kernel_rfl
def zI {w:World}{z TI TO i1 i2 l1 l2 S:Addr}{xs ys:vR_}(hh:A.handled=none) (D:ZipApart z TI TO i1 i2 l1 l2) (hTO:TO<S) (hS:S ∉ [z,TI,TO,i1,i2,l1,l2]) (top:∀b∈[z,TO,i1,i2],b<S) :
  LW prog w A z S [z,TO,i1,i2] (min xs.size ys.size) (fun j v h=>∃a x y,v = .ref a/\S<=a/\a≠S/\xs[j]? = some x/\ys[j]? = some y/\IsPair h a x y) (fun k h=>ZSt h z TI TO i1 i2 l1 l2 S xs ys k) where
 item:=fun i s Q E hi st hs U=>by
  have hix:i<xs.size:=Mu hi (Qt ..);have Y:i<ys.size:=Mu hi (Nat.min_le_right ..);exact Kl D st hs (Nat.lt_trans hTO hs) (OQ hix) (OQ Y) fun h' a1 a2 a3=>U _ h' #[_,_,_,rfl,NI hs,Nd hs,OQ hix,OQ Y,a2] a1 (fun j u ⟨a,x,y,e,_,_,_,_,q⟩ z=>by
   rw[e] at z;cases z;exact absurd (xu q) (Ni _)) a3
 done:=fun s Q E st U=>by
  have Z:xs[min xs.size ys.size]? = none\/ys[min xs.size ys.size]? = none:=by
   rcases Nat.le_total xs.size ys.size with h | h
   .exact .inl (by rw[Pn h];exact RL (tx _))
   .exact .inr (by rw[QZ h];exact RL (tx _))
  exact Jd hh D st Z U
 stay:=fun i h h' st k=>by
  simp only[xo,Mx,MI,not_or] at hS;obtain⟨n1,n2,n3,n4,n5,n6,n7⟩:=hS;obtain⟨ti,r1,r2,zz⟩:=st;refine#[k _ _ (Mz n2) ti,r1.at (fun o e=>k _ o (Mz n4) e) (fun o e=>k _ o (Mz n6) e),r2.at (fun o e=>k _ o (Mz n5) e) (fun o e=>k _ o (Mz n7) e),?_];rcases zz with ⟨J,a,b,ho⟩ | ⟨T,f,oT,J,hT,t1,t2,t3,t4,t5⟩
  .exact .inl #[k _ _ (Mz n1) J,a,b,k _ _ (Mz n3) ho]
  .exact .inr #[T,f,oT,k _ _ (Mz n1) J,k _ _ t5 hT,t1,t2,t3,t4,t5]
 pay:=fun i v h h' p k=>by
  obtain⟨a,x,y,e,ha,na,hx,hy,q⟩:=p;refine#[a,x,y,e,ha,na,hx,hy,k _ _ na (fun hb=>?_) q];exact absurd (Mu (top a hb) ha) (Ni _)
 self:=fun A s Q E st U=>by
  have tz:s.TypeIs (.ref z) "zip":= by
   rcases st.zz with ⟨J,_⟩ | ⟨T,f,oT,J,_⟩ <;> exact#[_,J,rfl]
  refine Ra tz OS (Na OS tz Rb ?_ (Rf _));show wpAny _ _ (ret (.ref z)) _ _ s;exact iU #[_,rfl, "zip",_,tz,Nf.lookup,U]
 out:=fun h=>hS (by
  simp only[xo,Mx,MI] at h ⊢;rcases h with h | h | h | h <;> simp[h])
def Y1 (t:Bool) (l:Addr):Obj:={ cls:=.type (if t then "tuple_iterator" else "list_iterator"),data:=.fields #v[.ref l,.int 0 0] }
def RwB (t:Bool) (h:Heap) (l:Addr) (xs:vR_):Prop:=if t then h.IsTuple l xs else h.IsList l xs
section
variable {w:World}
def xm {t:Bool}{xs:vR_}{Q:vQ_}(h:RwB t s.heap l xs) (J:Q (.ref s.heap.objs.size) { s with heap:=s.heap.push (Y1 t l) }):wpAny (model prog w) A (pyIter (.ref l)) Q E s:=by
 cases t with
 |true=>exact Pk h J
 |false=>exact QU h J
end
abbrev ia (h:Heap) (t1:Bool) (l1:Addr):Heap:=h.push (Y1 t1 l1)
abbrev jK (h:Heap) (t1 t2:Bool) (l1 l2:Addr):Heap:=(ia h t1 l1).push (Y1 t2 l2)
abbrev kI (h:Heap) (t1 t2:Bool) (l1 l2:Addr):Heap:=(jK h t1 t2 l1 l2).push { cls:=.type "tuple",data:=.seq #v[.ref h.objs.size,.ref (ia h t1 l1).objs.size] }
abbrev jj (h:Heap) (t1 t2:Bool) (l1 l2:Addr):Heap:=(kI h t1 t2 l1 l2).push { cls:=.type "tuple",data:=.seq #v[.none,.none] }
abbrev bB (h:Heap) (t1 t2:Bool) (l1 l2:Addr):Heap:=(jj h t1 t2 l1 l2).push { cls:=.type "zip",data:=.fields #v[.none,.bool false,.bool false,.ref (jK h t1 t2 l1 l2).objs.size,.ref (kI h t1 t2 l1 l2).objs.size] }
theorem RwB.push {t:Bool}{xs:vR_}(x:RwB t h l xs) (o:Obj):RwB t (h.push o) l xs:=by
 cases t with
 |true=>exact Heap.IsTuple.push x o
 |false=>exact Heap.IsList.push x o
def Bz (J U:Bool) (l1 l2:Addr) (xs ys:vR_) :
  Meets (Builtin.«zip.__new__» #[[.type "zip",.ref l1,.ref l2],[]]) (fun _ R s=>RwB J s.heap l1 xs/\RwB U s.heap l2 ys /\
   R (.ok (.ret (.ref (jj s.heap J U l1 l2).objs.size))) { s with heap:=bB s.heap J U l1 l2 }):=
 .of_wp fun prog w A R s h=>by
  obtain⟨hp,g,d,tk,os⟩:=s;obtain⟨hl1,hl2,h⟩:=h;have hsub:=sub_zip;have Y:RwB J (Shared.heap #[hp,g,d,tk,os]) l1 xs:=hl1;have Z:RwB U (Shared.heap #[hp.push (Y1 J l1),g,d,tk,os]) l2 ys:=RwB.push hl2 _
  wp_walk using xm Y,xm Z
  exact#[_,rfl,h]
section
variable {w:World}
def RwB.it {t:Bool}{i l:Addr}{xs:vR_}(x:RwB t h l xs) (e:h.get? i=some (Y1 t l)):RwIt h i l xs 0:=by
 cases t with
 |true=>exact .inr #[#[_,e,rfl,rfl],x]
 |false=>exact .inl #[#[_,e,rfl,rfl],x]
def RwB.at {t:Bool}{xs:vR_}(x:RwB t h l xs) (e:∀o,h.get? l=some o->h'.get? l=some o):RwB t h' l xs:=by
 cases t with
 |true=>obtain⟨o,q,r⟩:=x;exact#[o,e o q,r]
 |false=>obtain⟨o,q,r⟩:=x;exact#[o,e o q,r]
def RwB.lt {t:Bool}{xs:vR_}(x:RwB t h l xs):l<h.objs.size:=by
 cases t with
 |true=>obtain⟨o,q,r⟩:=x;exact xu q
 |false=>obtain⟨o,q,r⟩:=x;exact xu q
def pM (h:Heap) (m:Nat) (xs ys:vR_):Prop:=∃l1 l2,ZipApart (m+4) (m+2) (m+3) m (m+1) l1 l2/\l1<m/\l2<m/\h.objs.size=m+5/\∀S,m+5<=S->ZSt h (m+4) (m+2) (m+3) m (m+1) l1 l2 S xs ys 0
def Fn (h:Heap) (m:Nat) (J U:Bool) (l1 l2:Addr):Prop:=ZipApart (m+4) (m+2) (m+3) m (m+1) l1 l2/\h.get? m=some (Y1 J l1)/\h.get? (m+1)=some (Y1 U l2)/\IsPair h (m+2) (.ref m) (.ref (m+1))/\G7 h (m+4) (m+2) (m+3) .none (.bool false)/\∃a b,IsPair h (m+3) a b
def uh {J U:Bool}{xs ys:vR_}{Q:vQ_}(h1:RwB J s.heap l1 xs) (h2:RwB U s.heap l2 ys)
  (h:∀h',pM h' s.heap.objs.size xs ys->(∀c o,s.heap.get? c=some o->h'.get? c=some o)->Fn h' s.heap.objs.size J U l1 l2->Q (.ref (s.heap.objs.size+4)) { s with heap:=h' }) :
  wpAny (model prog w) A (call (.type "zip") [.ref l1,.ref l2]) Q E s:=by
 refine callType_new PySem.F.called_zip #[] (PySem.F.typeCall_zip_2 _ _) (PySem.F.newCall_zip_2 _ _) (fun obj=>PySem.F.args_object_init_3 obj _ _) PySem.F.entry_zip_new
  (Bz J U l1 l2 xs ys) #[h1,h2,?_]
 have z1:(ia s.heap J l1).objs.size=s.heap.objs.size+1:=NY ..;have z2:(jK s.heap J U l1 l2).objs.size=s.heap.objs.size+2:=by rw[NY,z1]
 have Z:(kI s.heap J U l1 l2).objs.size=s.heap.objs.size+3:=by rw[NY,z2]
 have z4:(jj s.heap J U l1 l2).objs.size=s.heap.objs.size+4:=by rw[NY,Z]
 have z5:(bB s.heap J U l1 l2).objs.size=s.heap.objs.size+5:=by rw[NY,z4]
 have fr:∀t l,(Y1 t l).isFreed=false:=fun t l=>rfl
 have Y:(bB s.heap J U l1 l2).get? (jj s.heap J U l1 l2).objs.size=some _:=MN _ rfl;have g4:(bB s.heap J U l1 l2).get? (kI s.heap J U l1 l2).objs.size=some _:=Mg _ (MN _ rfl);have g3:(bB s.heap J U l1 l2).get? (jK s.heap J U l1 l2).objs.size=some _:=Mg _ (Mg _ (MN _ rfl));have g2:(bB s.heap J U l1 l2).get? (ia s.heap J l1).objs.size=some (Y1 U l2):=Mg _ (Mg _ (Mg _ (MN _ (fr _ _))));have g1:(bB s.heap J U l1 l2).get? s.heap.objs.size=some (Y1 J l1):=Mg _ (Mg _ (Mg _ (Mg _ (MN _ (fr _ _)))));show _/\_;rw[z2,Z,z4] at Y;rw[z1,z2] at g3;rw[Z] at g4;rw[z1] at g2;rw[z4];have up:∀c o,s.heap.get? c=some o->(bB s.heap J U l1 l2).get? c=some o:=fun c o x=>
  Mg _ (Mg _ (Mg _ (Mg _ (Mg _ x))))
 refine#[#[_,Y,rfl],h _ #[l1,l2,RM h1.lt h2.lt,h1.lt,h2.lt,z5,fun S hS=>#[g3,(h1.at fun o e=>up _ o e).it g1,(h2.at fun o e=>up _ o e).it g2,.inl #[Y,_,_,g4]]] up #[RM h1.lt h2.lt,g1,g2,g3,Y,_,_,g4]]
structure LZ (h h':Heap) (S:Addr) (xs ys:vR_) (as:vL_) (c:Nat):Prop where
 keep:∀b o,h.get? b=some o->h'.get? b=some o
 low:h.objs.size<=S
 lst:bH h' S (as.map Value.ref).toArray c
 len:as.length=min xs.size ys.size
 new:∀a∈as,h.objs.size<=a/\a≠S
 nd:as.Nodup
 at':∀(j:Nat) a,as[j]? = some a->∃x y,xs[j]? = some x/\ys[j]? = some y/\IsPair h' a x y
def Cm {P:Nat->Value->Heap->Prop}{J:vR_}{n:Nat}(g:fE P h J n) (Z:∀j v,P j v h->∃a,v = .ref a):∃as:List Addr,J=(as.map Value.ref).toArray:=by
 have:∀l:List Value,(∀v∈l,∃a,v=Value.ref a)->∃as:List Addr,l=as.map Value.ref:=by
  intro l;induction l with
  |nil=>exact fun _=>#[[],rfl]
  |cons v r ih=>
   intro U;obtain⟨a,e⟩:=U v (.head _);obtain⟨as,Y⟩:=ih fun u hu=>U u (.tail _ hu)
   exact#[a::as,by rw[e,Y];rfl]
 obtain⟨as,e⟩:=this J.toList fun v U=>by
  obtain⟨j,hj⟩:=Qs.mp U;exact Z j v (g.2.1 j v (by simpa using hj))
 exact#[as,by rw[<-e,Array.toArray_toList]]
def Jp {m:Nat}{h₀:Heap}{xs ys:vR_}{Q:vQ_}(hh:A.handled=none) (Z:pM s.heap m xs ys) (k₀:∀c o,h₀.get? c=some o->s.heap.get? c=some o) (hm:h₀.objs.size=m) (hn:xs.size<=sizeLine)
  (hQ:∀S h' as c,LZ h₀ h' S xs ys as c->Q (.ref S) { s with heap:=h' }):wpAny (model prog w) A (call (.type "list") [.ref (m+4)]) Q E s:=by
 obtain⟨l1,l2,D,b1,b2,sz,st⟩:=Z;have J:=st s.heap.objs.size ∅;have tz:s.TypeIs (.ref (m+4)) "zip":= by
  rcases J.zz with ⟨hz,_⟩ | ⟨T,f,oT,hz,_⟩ <;> exact#[_,hz,rfl]
 refine Ia (T := "zip") (zI (A:=A.in1.in1) hh D (show (m+3:Nat)<s.heap.objs.size by omega) (by
  simp only[xo,Mx,MI,not_or];have ms:m<=s.heap.objs.size:=by omega
  exact#[show (s.heap.objs.size:Nat)≠m+4 by omega,show (s.heap.objs.size:Nat)≠m+2 by omega,show (s.heap.objs.size:Nat)≠m+3 by omega,show (s.heap.objs.size:Nat)≠m by omega,show (s.heap.objs.size:Nat)≠m+1 by omega,
   Nd (Mu b1 ms),Nd (Mu b2 ms)]) (by
  simp only[xo,Mx,MI];intro b hb;have ml:∀j,j<=4->m+j<s.heap.objs.size:=fun j _=>by omega
  rcases hb with e | e | e | e
  .rw[e];exact ml 4 ∅
  .rw[e];exact ml 3 ∅
  .rw[e];exact ml 0 ∅
  .rw[e];exact ml 1 ∅)) (Mm (Qt ..) hn) tz #[] #[] Gp Gu J fun h' acc c k l g=>?_
 obtain⟨as,ea⟩:=Cm g fun j v ⟨a,_,_,e,_⟩=>#[a,e]
 subst ea;refine hQ _ h' as c #[fun b o e=>k b o (fun hb=>?_) (k₀ b o e),by omega,l,by simpa using g.1,fun a ha=>?_,?_,fun j a e=>?_]
 .have U:b<m:=hm▸xu e;simp only[xo,Mx,MI] at hb;have Y:∀j:Nat,¬ (m+j<m):=fun j=>by omega
  rcases hb with e | e | e | e
  .exact Y 4 (e▸U)
  .exact Y 3 (e▸U)
  .exact Y 0 (e▸U)
  .exact Y 1 (e▸U)
 .obtain⟨j,hj⟩:=Qs.mp ha;obtain⟨a',x,y,e,q1,q2,_⟩:=g.2.1 j (.ref a) (by simp[hj]);cases e;exact#[Mm (show (h₀.objs.size:Nat)<=s.heap.objs.size by omega) q1,q2]
 .have nd:=g.2.2;simp only[List.toList_toArray] at nd;exact(Rg.mp nd).imp fun h e=>h (by rw[e])
 .obtain⟨a',x,y,e',q1,q2,q3,q4,q5⟩:=g.2.1 j (.ref a) (by simp[e]);cases e';exact#[x,y,q3,q4,q5]
end
def R8 (H:Hp):List (Addr × List V)->Hp
 |[]=>H
 |(a,p)::r=>k9 (R8 H r) a (.tup p)
theorem gJ:∀{ps:List (Addr × List V)}{b:Addr},(∀q∈ps,q.1≠b)->R8 H ps b=H b
 |[],b,h=>rfl
 |(a,p)::r,b,h=>by
  show k9 (R8 H r) a (.tup p) b=H b;rw[t7 (Mz (h _ (.head _)))];exact gJ fun q J=>h q (.tail _ J)
theorem rQ:∀{ps:List (Addr × List V)}{b:Addr}{u:HO},R8 H ps b=some u->(∃p,(b,p)∈ps/\u = .tup p)\/H b=some u
 |[],b,u,h=>.inr h
 |(a,p)::r,b,u,h=>by
  replace h:k9 (R8 H r) a (.tup p) b=some u:=h
  by_cases J:b=a
  .subst J;rw[C0] at h;cases h;exact .inl #[p,.head _,rfl]
  .rw[t7 J] at h;rcases rQ h with ⟨p',q,e⟩ | e
   .exact .inl #[p',.tail _ q,e]
   .exact .inr e
theorem uW:∀{ps:List (Addr × List V)}{b:Addr}{p:List V},(ps.map (·.1)).Nodup->(b,p)∈ps->R8 H ps b=some (.tup p)
 |(a,p')::r,b,p,nd,h=>by
  show k9 (R8 H r) a (.tup p') b=_;rcases xo.mp h with e | h
  .cases e;exact C0
  .have J:=MZ.mp nd;have U:b≠a:=fun e=>J.1 (e▸ML.mpr #[(b,p),h,rfl])
   rw[t7 U];exact uW J.2 h
def FJ {fs ex:vL_}(k:∀b u,h.get? b=some u->h'.get? b=some u) (U:∀b,b<h.objs.size->H' b=H b) (J:∀b u,H b=some u->H' b=some u):Un fs ex H H' h h' where
 keep:=fun b u q _ _ _=>k b u q
 slot:=fun b u q _ _ _=>#[u.slots,k b u q]
 free:=fun b u q n _=>by rw[U b (xu q)];exact n
 there:=fun b u q _=>#[u,k b u q]
 tups:=fun b xs q=>J b _ q
 frzs:=fun b u xs q=>J b _ q
 tbls:=fun b ps q=>#[#v[],by rw[J b _ q];simp]
def J3 (xs ys:List V):List (List V):=List.zipWith (fun x y=>[x,y]) xs ys
def Ag (e:(J3 xs ys)[j]? = some p):∃x y,xs[j]? = some x/\ys[j]? = some y/\p=[x,y]:=by
 unfold J3 at e;rw[RN] at e;cases J:xs[j]? with
 |none=>rw[J] at e;simp at e
 |some x=>
  cases U:ys[j]? with
  |none=>rw[J,U] at e;simp at e
  |some y=>rw[J,U] at e;simp at e;exact#[x,y,rfl,rfl,e.symm]
def Sq (K:vF_) (H:Hp) (a:Addr) (xs:List V):Prop:=SqL K H a xs\/SqT K H a xs
def ya (K:vF_):List V->Hp->VK->Prop:=fun vs H Q=>∃p q xs ys,vs=[.ref p,.ref q]/\Sq K H p xs/\Sq K H q ys /\
 ∀S as,(S::as).Nodup->(∀a∈S::as,H a=none)->as.length=(J3 xs ys).length->Q (.ref S) (k9 (R8 H (as.zip (J3 xs ys))) S (.lst (as.map V.ref)))
def yB (I:Inv X pins σ H s) (h:Sq X.K H p xs):∃(t:Bool) (its:vV_),Vals xs its/\RwB t s.heap p its.toArray/\xs.length<=sizeLine:=by
 rcases h with h | h
 .obtain⟨its,r,⟨o,n,e,c,_,d⟩,z⟩:=I.list h;exact#[false,its,r,#[o,e,c,n,d],z]
 .obtain⟨its,r,⟨o,e,c,n,d⟩,z⟩:=I.tuple h;exact#[true,its,r,#[o,e,c,n,d],z]
def tS {J:vL_}{ps:List (List V)}(h:J.length=ps.length):(J.zip ps).map (·.1)=J:=by
 rw[List.map_fst_zip ∅]
def Inv.lz {it jt:vV_}{J:vL_}{c:Nat}(I:Inv X pins σ H s) (rx:Vals xs it) (ry:Vals ys jt) (zx:xs.length<=sizeLine) (Z:LZ s.heap h' S it.toArray jt.toArray J c) :
  (S::J).Nodup/\(∀a∈S::J,H a=none)/\J.length=(J3 xs ys).length/\Inv X pins σ (k9 (R8 H (J.zip (J3 xs ys))) S (.lst (J.map V.ref))) { s with heap:=h' }:=by
 have hl:J.length=(J3 xs ys).length:=by
  have e:=Z.len;simp only[Mv] at e;rw[e,J3,Rh,rx.length,ry.length]
 have fr:∀a∈S::J,s.heap.objs.size<=a:=fun a U=>by
  rcases xo.mp U with e | e
  .rw[e];exact Z.low
  .exact(Z.new a e).1
 have nn:∀a∈S::J,H a=none:=fun a U=>I.hok.fresh (fr a U)
 have nd:(S::J).Nodup:=MZ.mpr #[fun h=>(Z.new S h).2 rfl,Z.nd];have ky:=tS hl;have ndz:((J.zip (J3 xs ys)).map (·.1)).Nodup:=by rw[ky];exact Z.nd
 have kin:∀q∈J.zip (J3 xs ys),q.1∈J:=fun q Y=>(Ol Y).1
 refine#[nd,nn,hl,?_];have hs:∀b u,H b=some u->k9 (R8 H (J.zip (J3 xs ys))) S (.lst (J.map V.ref)) b=some u:=fun b u e=>by
  have n:∀a∈S::J,a≠b:=fun a U z=>by rw[z] at U;rw[nn b U] at e;cases e
  rw[t7 (Mz (n S (.head _))),gJ fun q Y=>n _ (.tail _ (kin q Y))];exact e
 refine I.un (t':=s.toks) (FJ Z.keep (fun b hb=>?_) hs) fun b u e=>?_
 .have n:∀a∈S::J,a≠b:=fun a U z=>absurd (Mu hb (z▸fr a U)) (Ni _)
  rw[t7 (Mz (n S (.head _))),gJ fun q Y=>n _ (.tail _ (kin q Y))]
 .by_cases hb:b=S
  .subst hb;rw[C0] at e;cases e;refine#[?_,J.map Value.ref,c,?_,Z.lst]
   .rw[Mj,hl,J3,Rh];exact Mm (Qt ..) zx
   .have:∀l:List Addr,Vals (l.map V.ref) (l.map Value.ref):=fun l=>by
     induction l with
     |nil=>exact .nil
     |cons a r ih=>exact .cons rfl ih
    exact this J
  .rw[t7 hb] at e;rcases rQ e with ⟨p,hp,rfl⟩ | e0
   .obtain⟨j,hj⟩:=Qs.mp hp;obtain⟨U,hpj⟩:=OT.mp hj;obtain⟨x,y,ex,ey,rfl⟩:=Ag hpj;obtain⟨x',y',ex',ey',q⟩:=Z.at' j b U;obtain⟨u1,f1,g1⟩:=rx.get ex;obtain⟨u2,f2,g2⟩:=ry.get ey;have e1:u1=x':=by simpa [f1] using ex'
    have e2:u2=y':=by simpa [f2] using ey'
    subst e1;subst e2;exact#[show 2<=sizeLine by decide,[u1,u2],.cons g1 (.cons g2 .nil),#[_,q,rfl,_,rfl]]
   .exact(I.hok b u e0).stay (fun c v _ q=>Z.keep c v q) (fun c q=>hs c _ q) fun c xs q=>hs c _ q
section
variable {p p' pos:Pos}{t:TA}
def Ax (hc:X.calm=true) (hgl:Gl X "list") (hml:X.mg "list" = none) (hgz:Gl X "zip") (hmz:X.mg "zip" = none) (ha:PA X (e::es) t)
  (he:starEach (e::es) X.env=(false,eval e X.env)::starEach es X.env:=by rfl) (hpl:(backTo pos' (starEach es X.env)).any (·.1)=false:=by rfl)
  (J:starEach [.Call (.Name "zip" p') (e::es) [] pos'] X.env=[(false,eval (.Call (.Name "zip" p') (e::es) [] pos') X.env)]:=by rfl) :
  PE X (.Call (.Name "list" p) [.Call (.Name "zip" p') (e::es) [] pos'] [] pos) (gb (ya X.K) t):=by
 intro pins s σ H Q I h;refine NU (aV I hgl hml (show bootBuiltins ("list" : Str)=some (.type "list") by decide +kernel) ?_ #[] #[]);refine OI ?_ J rfl;rw[J];show wpAny _ _ (spliced [(false,eval (.Call (.Name "zip" p') (e::es) [] pos') X.env)]) _ _ s;refine Calls.spliced_cons ?_;refine NU (aV I hgz hmz (show bootBuiltins ("zip" : Str)=some (.type "zip") by decide +kernel) ?_ #[] #[]);refine OI (u6 (ha pos' pins s σ H _ I h) fun us s1 ⟨vs,H1,Y,U,q1⟩=>?_) he hpl;obtain⟨a,b,xs,ys,rfl,qa,qb,k⟩:=q1;obtain⟨u1,u2,rfl,e1,e2⟩:∃u1 u2,us=[u1,u2]/\u1=Value.ref a/\u2=Value.ref b:=by
  cases U with
  |cons h1 U=>
   cases U with
   |cons h2 U=>cases U;exact#[_,_,rfl,h1,h2]
 subst e1;subst e2;obtain⟨ta,it,rx,wa,za⟩:=yB Y qa;obtain⟨tb,jt,ry,wb,zb⟩:=yB Y qb;refine uh wa wb fun h1 Z1 k1 _=>?_
 refine Calls.spliced_nil ?_;refine Jp (h₀:=s1.heap) (I.ok.hd hc) Z1 k1 rfl (by simpa [<-rx.length] using za) fun S h2 as c Z=>?_
 obtain⟨nd,nn,hl,I2⟩:=Inv.lz Y rx ry za Z;exact#[.ref S,_,I2,rfl,k S as nd nn hl]
end
def S7:D->Option (List D)
 |.tup ds=>some ds
 |.lst ds=>some ds
 |_=>none
def S4 (x y:D):D:=.tup [x,y]
def bp:List D->Option (List D)
 |[a,b]=>(S7 a).bind fun xs=>(S7 b).map fun ys=>List.zipWith S4 xs ys
 |_=>none
theorem xM {g:Gh}{O:vL_}{s:DS}(I:GI K g σ H fa O s):∀(ps:List (Addr × List V)),(ps.map (·.1)).Nodup->(∀q∈ps,H q.1=none)->GI K g σ (R8 H ps) fa O s/\StE fa O H fa O (R8 H ps)
 |[],_,_=>#[I,StE.refl]
 |(a,p)::r,nd,h=>by
  have J:=MZ.mp nd;obtain⟨Z,s1⟩:=xM I r J.2 fun q U=>h q (.tail _ U)
  have Y:R8 H r a=none:=by
   rw[gJ fun q U z=>J.1 (ML.mpr #[q,U,z])];exact h _ (.head _)
  exact#[Z.new Y,s1.trans (F4 Y)]
theorem uQ :∀{ds es:vD_}{xs ys:List V}{as:vL_},Reps K N fa H ds xs->Reps K N fa H es ys->as.length=(J3 xs ys).length->(∀q∈as.zip (J3 xs ys),H q.1=some (.tup q.2)) ->
  Reps K N fa H (List.zipWith S4 ds es) (as.map V.ref)
 |[],es,xs,ys,as,h,q,l,k=>by
  simp only[Reps] at h;subst h;simp only[J3,RO,NQ] at l;rw[RP l];simp only[RO,NX,Reps]
 |d::r,[],xs,ys,as,h,q,l,k=>by
  simp only[Reps] at q;subst q;simp only[J3,RQ,NQ] at l;rw[RP l];simp only[RQ,NX,Reps]
 |d::r,e::f,xs,ys,as,h,q,l,k=>by
  simp only[Reps] at h q;obtain⟨x,J,rfl,h1,h2⟩:=h;obtain⟨y,U,rfl,Z,q2⟩:=q;cases as with
  |nil=>simp[J3] at l
  |cons a as=>
   have hz:(a::as).zip (J3 (x::J) (y::U))=(a,[x,y])::as.zip (J3 J U):=rfl;rw[hz] at k;simp only[OU,Mo,Reps];refine#[_,_,rfl,?_,uQ h2 q2 (by simpa [J3] using l) fun q Y=>k q (.tail _ Y)];simp only[S4,Rep,Reps];exact#[a,[x,y],rfl,SqT.of (k _ (.head _)),x,[y],rfl,h1,y,[],rfl,Z,rfl]
def tN {v:V}(r:RepB K N fa H d v) (e:S7 d=some ds):∃a xs,v = .ref a/\Sq K H a xs/\Reps K N fa H ds xs:=by
 cases d with
 |tup es=>
  cases e;simp only[RepB,Rep] at r;obtain⟨a,ys,rfl,q,w⟩:=r;exact#[a,ys,rfl,.inr q,w]
 |lst es=>
  cases e;obtain⟨a,ys,rfl,_,q,w⟩:=r;exact#[a,ys,rfl,.inl (SqL.of q),w]
 |_=>cases e
def Ap :iI K (ya K) bp:=by
 intro g σ H fa O s xs ds es Q I rs e k
 match ds,e with
 |[d1,d2],e=>
  refine Y6 (show (S7 d1).bind (fun xs=>(S7 d2).map fun ys=>List.zipWith S4 xs ys)=some es from e) fun xs1 e1 e=>?_
  refine S5 e fun ys1 e2 e=>?_
  subst e;simp only[aJ] at rs;obtain⟨x,zs,rfl,r1,y,zs',rfl,r2,rfl⟩:=rs;obtain⟨a,vs,rfl,q1,w1⟩:=tN r1 e1;obtain⟨b,us,rfl,q2,w2⟩:=tN r2 e2;refine#[a,b,vs,us,rfl,q1,q2,fun S U nd nn hl=>?_];have Y:=MZ.mp nd;have ky:=tS hl;have Z:∀q∈U.zip (J3 vs us),q.1∈U:=fun q J=>(Ol J).1
  have ndz:((U.zip (J3 vs us)).map (·.1)).Nodup:=by rw[ky];exact Y.2
  obtain⟨I1,s1⟩:=xM I (U.zip (J3 vs us)) ndz fun q J=>nn _ (.tail _ (Z q J))
  have hS:R8 H (U.zip (J3 vs us)) S=none:=by
   rw[gJ fun q J (z:q.1=S)=>Y.1 (by rw[<-z];exact Z q J)];exact nn S (.head _)
  have rp:=uQ (Reps.stp I s1.stp w1) (Reps.stp I s1.stp w2) hl fun q J=>uW (b:=q.1) (p:=q.2) ndz J
  exact k S (U.map V.ref) _ (s1.trans (F4 hS)) (aS I1 hS rp) (nn S (.head _))
section
variable {g:Gh}{p p' pos:Pos}{t:DA}
def rS (hc:X.calm=true) (hgl:Gl X "list") (Y:X.mg "list" = none) (U:Gl X "zip") (J:X.mg "zip" = none) (ha:BAO X g (e::es) t)
  (he:starEach (e::es) X.env=(false,eval e X.env)::starEach es X.env:=by rfl) (hpl:(backTo pos' (starEach es X.env)).any (·.1)=false:=by rfl)
  (Z:starEach [.Call (.Name "zip" p') (e::es) [] pos'] X.env=[(false,eval (.Call (.Name "zip" p') (e::es) [] pos') X.env)]:=by rfl) :
  FO X g (.Call (.Name "list" p) [.Call (.Name "zip" p') (e::es) [] pos'] [] pos) (S0 bp t):=
 FO.w (Ax hc hgl Y U J ha.pe he hpl Z) (sS Ap)
end
def PC (X:Cx) (e:Expr) (te:TE):Prop:=∀(i:Nat) (y:Str) (py spos:Pos),X.N.Nodup->X.N[i]? = some y->Z4 X.env.scope y->swapsWith e (some (.Name y py)) spos.line X.env=pure true->(X.fn y=true\/X.env.scope.names.lookup y=some .local)->PS X (.Assign [.Name y py] e spos) (gC te (Z5 i))
structure CO (X:Cx) (g:Gh) (e:Expr) (f:DA):Prop where
 pe:PC X e (liftF X.K g f)
theorem CO.w {g:Gh}{t:TE}(h:PC X e t) (w:∀σ H Q,liftF X.K g f σ H Q->t σ H Q):CO X g e f:=
 #[fun i y py J h1 h2 h3 U Y pins s σ H D I q=>h i y py J h1 h2 h3 U Y pins s σ H D I (w σ H _ q)]
section
variable {g:Gh}{pos:Pos}
def Ab (Z:X.calm=true) (k:CompOk X scope cl N' 1 idx) (hi:IO X g tg iter fi) (Y:∀C s0 H0 ex,PG (B6 X N' scope cl C s0 H0 ex) tg (Z5 0))
  (ht:∀C s0 H0 ex g',dj (B6 X N' scope cl C s0 H0 ex) g' ifs fc) (U:∀C s0 H0 ex g',EO (B6 X N' scope cl C s0 H0 ex) g' elt fe) (hs:∀x,foldedSetIterable iter X.env x=pure x:=by intro _;rfl) :
  CO X g (.ListComp elt [#[tg,iter,ifs,0]] scope pos) (K9 idx fi fc fe):=
 CO.w (fun i y py J h1 h2 h3 h4 h5=>qg (tc:=fun σ H Q=>∃g',liftT X.K g' fc σ H Q) (te:=fun σ H Q=>∃g',liftE X.K g' fe σ H Q) h1 h2 h3 Z k hi.pe Y (fun C s0 H0 ex pins s σ H Q I ⟨g',h⟩=>ht C s0 H0 ex g' pins s σ H Q I h) (fun C s0 H0 ex pins s σ H Q I ⟨g',h⟩=>(U C s0 H0 ex g').pe pins s σ H Q I h) hs h4 h5) (tq k)
def LH {G:TG}(Z:X.calm=true) (k:CompOk X scope cl N' 2 idx) (hi:IO X g tg iter fi) (Y:∀C s0 H0 ex,PG (B6 X N' scope cl C s0 H0 ex) tg G)
  (hG:∀(a:Addr) (x y:V) (σ:L2.St) (H:Hp) (Q:L2.St->Hp->Prop),SqT X.K H a [x,y]->Q ((σ.set 0 (some x)).set 1 (some y)) H->G (.ref a) σ H Q)
  (ht:∀C s0 H0 ex g',dj (B6 X N' scope cl C s0 H0 ex) g' ifs fc) (U:∀C s0 H0 ex g',EO (B6 X N' scope cl C s0 H0 ex) g' elt fe) (hs:∀x,foldedSetIterable iter X.env x=pure x:=by intro _;rfl) :
  CO X g (.ListComp elt [#[tg,iter,ifs,0]] scope pos) (bV idx fi fc fe):=
 CO.w (fun i y py J h1 h2 h3 h4 h5=>qg (tc:=fun σ H Q=>∃g',liftT X.K g' fc σ H Q) (te:=fun σ H Q=>∃g',liftE X.K g' fe σ H Q) h1 h2 h3 Z k hi.pe Y (fun C s0 H0 ex pins s σ H Q I ⟨g',h⟩=>ht C s0 H0 ex g' pins s σ H Q I h) (fun C s0 H0 ex pins s σ H Q I ⟨g',h⟩=>(U C s0 H0 ex g').pe pins s σ H Q I h) hs h4 h5) (Cq k hG)
def sQ {e:Expr}{i:Nat}{x:Str}{f:DA}{pos':Pos}(hN:X.N.Nodup) (hi:X.N[i]? = some x) (hx:Z4 X.env.scope x) (he:CO X g e f) (hs:swapsWith e (some (.Name x pos')) pos.line X.env=pure true:=by rfl) (hf:X.fn x=true\/X.env.scope.names.lookup x=some .local:=by first | exact .inl rfl | exact .inr rfl | assumption) :
  SO X g (.Assign [.Name x pos'] e pos) (E4 i f):=SO.w (he.pe i x pos' pos hN hi hx hs hf) fun E σ H Z=>by
 refine Z.elim fun fa O s fl s' I q k=>?_
 refine A1 q fun ds s1 h1 h2=>?_
 by_cases U:i<s1.sl.length
 .simp only[] at h2;rw[iO U] at h2;cases h2;refine#[fa,O,s,ds,s1,I,h1,fun p xs H1 f1 O1 J L Y=>?_];have np:p ∉ O1:=fun z=>by
   obtain⟨ys,e⟩:=I.owned (J.sub p z);rw[Y] at e;cases e
  obtain⟨P,sub,I'⟩:=L.put i U (I.st.mon p Y) np;refine k _ H1 f1 P #[fun b hb=>?_,J.fe,fun b u e _ n=>J.same b u e n,J.mon] I';rcases sub b hb with y | y
  .exact .inr (by rw[y];exact Y)
  .exact .inl (J.sub b y)
 .simp only[] at h2;rw[iR U] at h2;cases h2
end
section
variable {g:Gh}{pos:Pos}{y:Str}{px py pp:Pos}{kt:Nat}
def zJ (U:X.calm=true) (k:CompOk X scope cl (x::y::caps) 2 idx) (hi:IO X g (.Tuple [.Name x px,.Name y py] kt pp) iter fi) (Z:(x::y::caps).Nodup)
  (Y:∀C s0 H0 ex,(B6 X (x::y::caps) scope cl C s0 H0 ex).env.scope.names.lookup x=some .local) (J:∀C s0 H0 ex,(B6 X (x::y::caps) scope cl C s0 H0 ex).env.scope.names.lookup y=some .local)
  (ht:∀C s0 H0 ex g',dj (B6 X (x::y::caps) scope cl C s0 H0 ex) g' ifs fc) (he:∀C s0 H0 ex g',EO (B6 X (x::y::caps) scope cl C s0 H0 ex) g' elt fe) (hs:∀x,foldedSetIterable iter X.env x=pure x:=by intro _;rfl) :
  CO X g (.ListComp elt [#[.Tuple [.Name x px,.Name y py] kt pp,iter,ifs,0]] scope pos) (bV idx fi fc fe):=
 LH (G:=wO X.K 2 (oH (Z5 0) (oH (Z5 1) xv))) U k hi (fun C s0 H0 ex=>yF (X:=B6 X (x::y::caps) scope cl C s0 H0 ex) (n:=2) U (ni (X:=B6 X (x::y::caps) scope cl C s0 H0 ex) (Z2 (X:=B6 X (x::y::caps) scope cl C s0 H0 ex) (i:=0) Z rfl (Or.inl (Y C s0 H0 ex)) (Or.inr (Y C s0 H0 ex))) (ni (X:=B6 X (x::y::caps) scope cl C s0 H0 ex) (Z2 (X:=B6 X (x::y::caps) scope cl C s0 H0 ex) (i:=1) Z rfl (Or.inl (J C s0 H0 ex)) (Or.inr (J C s0 H0 ex))) sG)))
  (fun a x y σ H Q h q=>#[a,[x,y],rfl,h,rfl,x,[y],rfl,y,[],rfl,rfl,q]) ht he hs
end
theorem ow:∀ns:List Int,D.plains (ns.map .int)=true
 |[]=>rfl
 |n::r=>by simp only[Mo,D.plains,D.plain,ow r,NR]
theorem vA:∀ns:List Int,PyData.canLayAll0 (D.pys (ns.map .int))=true
 |[]=>rfl
 |n::r=>by simp only[Mo,D.pys,D.py,PyData.canLayAll0,PyData.canLay0,vA r,NR]
theorem qA:∀ns:List Int,PyData.depthAll (D.pys (ns.map .int))=0
 |[]=>rfl
 |n::r=>by simp only[Mo,D.pys,D.py,PyData.depthAll,PyData.depth,qA r,Nat.max_self]
def vo (J:List Int):C5 (.lst (J.map .int))=true:=by
 simp[C5,D.plain,ow,D.py,SeqAt.shaped,PyData.canLay0,vA,PyData.depth,qA]
def Be (J:List Int):PyData.eqv (D.py (.lst (J.map .int))) (D.py (.lst []))=decide (J=[]):=by
 cases J with
 |nil=>rfl
 |cons n r=>simp[D.py,D.pys,PyData.eqv,PyData.eqvAll]
section
variable {g:Gh}
def JH (hu:X.A.units+64<cLine):OpR X (compareOp .Eq) (fun x y H Q=>∃a ns b,x = .ref a/\y = .ref b/\SqL X.K H a ((ns:List Int).map V.int)/\H b=some (.lst [])/\Q (.bl (decide (ns=[]))) H):=by
 intro pins s σ H x y v u Q I rx ry h;obtain⟨a,ns,b,rfl,rfl,sq,hb,q⟩:=h;cases rx;have J:=vo ns;have Y:C5 (.lst [])=true:=vo [];unfold C5 at J Y;rw[MF] at J Y;obtain⟨its,rv,⟨o,n,h1,h2,h3,h4⟩,_⟩:=I.list sq;obtain⟨Z,ra⟩:=jU (N:=fun _=>False) (fa:=none) I (ns.map .int) (ns.map V.int) its Reps.ints rv (ow ns);have U:∃Z,Reads s.heap (.ref a) (D.py (.lst (ns.map .int))) Z:=by
  simp only[D.py];exact#[_,.list h1 h2 h4 (by simpa using ra)]
 obtain⟨as1,U⟩:=U;obtain⟨bs,r2⟩:=eM I (.lst []) (.ref b) u (show W7 X.K (fun _=>False) none H (.lst []) (.ref b) from #[b,[],rfl,hb,Reps.nil]) ry rfl;rw[<-Be] at q;exact RG U r2 J.2 Y.2 hu #[.bl _,H,I,rfl,q]
def SqF.new {o:HO}(h:SqF K H a xs) (J:H p=none):SqF K (k9 H p o) a xs:=by
 rcases h with ⟨o',h⟩ | h
 .exact .inl #[o',by rw[t7 (O0 h J)];exact h]
 .exact .inr h
def Kq {O:vL_}{s:DS}(I:GI K g σ H none O s) (hf:s.fs=none) (f:FS) (hk:f.kind≠0) (l63:f.cells.length<=63) {c p:Addr}(J:H c=none) (U:k9 H c (.lst (f.cells.map V.int)) p=none) :
  StE none O H (some p) O (k9 (k9 H c (.lst (f.cells.map V.int))) p (.lst (M9 c f)))/\GI K g σ (k9 (k9 H c (.lst (f.cells.map V.int))) p (.lst (M9 c f))) (some p) O { s with fs:=some f }:=by
 have npc:c≠p:=fun z=>by rw[<-z,C0] at U;cases U
 have hp:H p=none:=by rw[t7 (Mz npc)] at U;exact U
 have Y:∀b u,H b=some u->b≠p/\b≠c:=fun b u e=>#[O0 e hp,O0 e J]
 have Z:StE none O H (some p) O (k9 (k9 H c (.lst (f.cells.map V.int))) p (.lst (M9 c f))):=by
  refine#[fun _ h=>h,.inr #[rfl,fun b z=>by cases z;exact hp],fun b u e _=>?_,fun b z=>?_]
  .obtain⟨n1,n2⟩:=Y b u e;rw[t7 n1,t7 n2];exact e
  .by_cases h1:b=p
   .subst h1;exact hp
   .by_cases h2:b=c
    .subst h2;exact J
    .rw[t7 h1,t7 h2] at z;exact z
 have cr:=I.car Z.stp;refine#[Z,#[I.nd,SlR.go cr (fun b xs hb e=>Z.same b _ e (by simp)) I.sl,I.fr,I.st.trans #[fun b hb=>(by cases hb),Z.fe,fun b u e _ n=>Z.same b u e n,Z.mon],I.tr,I.ff,?_,I.nf_step Z.fe]];refine#[l63,c,by rw[iX hk,C0],?_,?_]
 .rintro(z | z | z)
  .exact I.trF z J
  .obtain⟨xs,e⟩:=I.owned z;rw[J] at e;cases e
  .exact npc (MB z).symm
 .rw[t7 npc,C0]
def P4 (J:List Int):List Int:=J++(List.replicate (if J=[] then 1 else 0) [0]).flatten
def jf (i:Nat):DE:=fun s=>match s.sl[i]?,s.fs with
 |some (.v (.scr J)),none=>if (P4 J).length<=63 then some (.feed,{ s with fs:=some #[P4 J,0,0,0,2] }) else none
 |_,_=>none
def BL {i:Nat}{x xl xi:Str}{p1 p1' pl pi pos q1 q2 q3 q4 q5 q6 q7 q8 q9 q10 q11 q12 q13 q14:Pos}{j63 j0 j1 j2 j3:Nat}(hu:X.A.units+64<cLine) (hv:PE X (.Name x p1) (au i)) (hv':PE X (.Name x p1') (au i))
  (hgl:Gl X xl) (hml:X.mg xl=none) (hbl:bootBuiltins xl=some (.type "list")) (hgi:Gl X xi) (hmi:X.mg xi=none) (hbi:bootBuiltins xi=some (.type "int"))
  (hnl:xl ≠ "__name__" := by decide) (hdl:(xl == ("__debug__" : Str))=false:=by decide) (hni:xi ≠ "__name__" := by decide) (hdi:(xi == ("__debug__" : Str))=false:=by decide) :
  EO X g (.List [.BinOp (.Call (.Name xl pl) [.Subscript (.Name x p1) (.Slice none (some (.Constant (.int 63) j63 q1)) none q2) q3] [] q4) .Add (.BinOp (.List [.Constant (.int 0) j0 q5] q6) .Mult (.Call (.Name xi pi) [.Compare (.Name x p1') [.Eq] [.List [] q7] q8] [] q9) q10) q11,.Constant (.int 0) j1 q12,.Constant (.int 0) j2 q13,.Constant (.int 0) j3 q14] pos) (jf i):=
 EO.w (iM (V3 (kJ jO (iZ kD hgl hml hbl (V3 (xb pS hv uv (xK bj)) aI) hnl hdl) (kJ qz (iM (V3 bj aI)) (iZ LS hgi hmi hbi (V3 (mJ (JH hu) hv' (iM aI) (fL _)) aI) hni hdi))) (V3 bj (V3 bj (V3 bj aI))))) fun σ H Q hQ=>by
  refine hQ.elim fun fa O s d s' I e k=>?_
  unfold jf at e;cases q:s.sl[i]? with
  |none=>rw[q] at e;cases e
  |some z=>
   rw[q] at e;cases z with
   |no=>cases e
   |own _=>cases e
   |v dz=>
    cases dz with
    |scr J=>
     cases hf:s.fs with
     |some f=>rw[hf] at e;cases e
     |none=>
      rw[hf] at e;simp only[] at e;split at e
      case isFalse=>cases e
      rename_i l4;cases e;obtain⟨u,e1,r⟩:=SlR.val I.sl q;simp only[Rep] at r;obtain⟨l63,a,rfl,sq⟩:=r;have fd:=I.fd;rw[hf] at fd;have fan:fa=none:=by cases fa with | none=>rfl | some _=>exact fd.elim
      subst fan;refine#[_,e1,63,rfl,a,_,rfl,sq.sq,fun c1 h1=>?_];rw[Cs _ (by rw[Mj];exact l63)];have I1:=I.new (o:=.lst (J.map V.int)) h1;have sq1:=sq.new (o:=.lst (J.map V.int)) h1;refine#[c1,_,rfl,.inl (SqL.of C0),fun c2 h2=>?_];have I2:=I1.new (o:=.lst (J.map V.int)) h2;have sq2:=sq1.new (o:=.lst (J.map V.int)) h2;refine#[by show 1<=sizeLine;decide,fun c3 h3=>?_];have I3:=I2.new (o:=.lst [V.int 0]) h3;have sq3:=sq2.new (o:=.lst [V.int 0]) h3;refine#[_,e1,by show 0<=sizeLine;decide,fun c4 Y=>?_];have I4:=I3.new (o:=.lst []) Y;have sq4:=sq3.new (o:=.lst []) Y;refine#[a,J,c4,rfl,rfl,sq4.sq,C0,.inr #[decide (J=[]),rfl,?_]];have n34:c3≠c4:=fun z=>by rw[<-z,C0] at Y;cases Y
      have Z:c2≠c3:=fun z=>by rw[<-z,C0] at h3;cases h3
      have n24:c2≠c4:=fun z=>by rw[<-z,t7 Z,C0] at Y;cases Y
      refine#[c3,if decide (J=[]) then 1 else 0,[V.int 0],rfl,rfl,by rw[t7 n34,C0],by split <;> decide,by split <;> decide,by split <;> decide,fun c5 h5=>?_];have I5:=I4.new (o:=.lst (List.replicate (if decide (J=[]) then (1:Int) else 0).toNat [V.int 0]).flatten) h5;have n25:c2≠c5:=fun z=>by rw[<-z,t7 n24,t7 Z,C0] at h5;cases h5
      have U:J.map V.int++(List.replicate (if decide (J=[]) then (1:Int) else 0).toNat [V.int 0]).flatten=(P4 J).map V.int:=by
       unfold P4;cases J with
       |nil=>rfl
       |cons n r=>simp
      have l4':((P4 J).map V.int).length<=sizeLine:=by rw[Mj];exact Mm l4 #[]
      refine#[c2,c5,_,_,rfl,rfl,by rw[t7 n25,t7 n24,t7 Z,C0],C0,by rw[<-MC,U];exact l4',fun c6 h6=>?_];rw[U];refine#[by show 4<=sizeLine;decide,fun p hp=>?_];obtain⟨a6,I6⟩:=Kq I5 hf #[P4 J,0,0,0,2] (show (2:Nat)≠0 by decide) l4 h6 hp;have aa:=(((((F4 (fa:=none) (O:=O) (o:=.lst (J.map V.int)) h1).trans (F4 h2)).trans (F4 h3)).trans (F4 Y)).trans (F4 h5)).trans a6;exact k _ _ (some p) O aa I6 (by simp only[Rep];exact#[p,rfl,rfl])
    |_=>cases e
end
end DL
namespace L2
open PySem PySem.Spec PyProof.Rows
section
variable {σ:List (Option V)}
def Inv.turned2 {t':Nat}{a b:Addr}(I:Inv X pins σ H s) (k:∀c o,c≠a->c≠b->s.heap.get? c=some o->h'.get? c=some o) (fa:Q4 X pins H a) (fb:Q4 X pins H b):Inv X pins σ H { s with heap:=h',toks:=t' }:=by
 have Y:∀c u,H c=some u->c≠a:=fun c u e z=>by rw[z,fa.1] at e;cases e
 have U:∀c u,H c=some u->c≠b:=fun c u e z=>by rw[z,fb.1] at e;cases e
 refine I.step (g':=s.gens) (d':=s.drawn) (ch:=[a,b]) (fun c J=>?_) (fun c o _ _ J e _=>k c o (fun z=>J (by simp[z])) (fun z=>J (by simp[z])) e) (fun c o _ _ J e _=>#[o.slots,k c o (fun z=>J (by simp[z])) (fun z=>J (by simp[z])) e]) (fun _ _ _ _ n=>n)
  (fun c o J e=>#[o,k c o (fun z=>J (by simp[z])) (fun z=>J (by simp[z])) e]) (fun _ _ e=>e) (fun _ _ _ e=>e) (fun c ps e=>#[#v[],by rw[e];simp]) (fun m hm=>?_) (fun c u e=>?_) I.bare
 .simp only[xo,Mx,MI] at J;rcases J with rfl | rfl
  .exact#[fa.2.2.2.1,fa.2.1,fa.2.2.2.2.1,fa.2.2.2.2.2]
  .exact#[fb.2.2.2.1,fb.2.1,fb.2.2.2.2.1,fb.2.2.2.2.2]
 .obtain⟨o,es,ep,ho,r⟩:=hm;exact#[o,es,ep,k _ o (Mz fa.2.1) (Mz fb.2.1) ho,r]
 .refine(I.hok c u e).stay (fun d v Z q=>k d v ?_ ?_ q) (fun _ q=>q) fun _ _ q=>q
  .rcases Z with z | z
   .rw[z];exact Y c u e
   .exact Y d _ z
  .rcases Z with z | z
   .rw[z];exact U c u e
   .exact U d _ z
end
def Kt:bootBuiltins ("enumerate" : Str)=some (.type "enumerate"):=by decide +kernel
end L2
namespace DL
open PySem PySem.Spec L2 PyProof.Rows
def bq (ds:vD_):List D:=ds.zipIdx.map fun p=>.tup [.int (p.2:Int),p.1]
def LJ (h:ds[i]? = some d):(bq ds)[i]? = some (.tup [.int (i:Int),d]):=by
 unfold bq;rw[Nq,List.getElem?_zipIdx,h];simp
end DL
namespace L2
open PySem PySem.Spec PyProof.Rows
section
variable {σ:List (Option V)}
def Inv.turnedL {t':Nat}(I:Inv X pins σ H s) (k:∀c o,c ∉ ch->s.heap.get? c=some o->h'.get? c=some o) (f:∀b∈ch,Q4 X pins H b):Inv X pins σ H { s with heap:=h',toks:=t' }:=by
 have U:∀c u,H c=some u->c ∉ ch:=fun c u e J=>by rw[(f c J).1] at e;cases e
 refine I.step (g':=s.gens) (d':=s.drawn) (ch:=ch) (fun c J=>#[(f c J).2.2.2.1,(f c J).2.1,(f c J).2.2.2.2.1,(f c J).2.2.2.2.2]) (fun c o _ _ J e _=>k c o J e) (fun c o _ _ J e _=>#[o.slots,k c o J e]) (fun _ _ _ _ n=>n)
  (fun c o J e=>#[o,k c o J e]) (fun _ _ e=>e) (fun _ _ _ e=>e) (fun c ps e=>#[#v[],by rw[e];simp]) (fun m hm=>?_) (fun c u e=>?_) I.bare
 .obtain⟨o,es,ep,Y,r⟩:=hm;exact#[o,es,ep,k _ o (fun z=>(f _ z).2.1 rfl) Y,r]
 .refine(I.hok c u e).stay (fun d v Z q=>k d v ?_ q) (fun _ q=>q) fun _ _ q=>q
  rcases Z with z | z
  .rw[z];exact U c u e
  .exact U d _ z
end
end L2
namespace DL
open PySem PySem.Spec L2 PyProof.Rows
def O7 (K:vF_) (t:Bool) (H:Hp) (a:Addr) (xs:List V):Prop:=if t then SqT K H a xs else SqL K H a xs
def RwI (t:Bool) (h:Heap) (i l:Addr) (k:Nat):Prop:=if t then h.IsTupleIter i l k else h.IsListIter i l k
def RwI.it {t:Bool}{i l:Addr}{xs:vR_}(x:RwI t h i l k) (y:RwB t h l xs):RwIt h i l xs k:=by
 cases t with
 |true=>exact .inr #[x,y]
 |false=>exact .inl #[x,y]
def RwI.at {t:Bool}{i l:Addr}(x:RwI t h i l k) (e:∀o,h.get? i=some o->h'.get? i=some o):RwI t h' i l k:=by
 cases t with
 |true=>obtain⟨o,q,r⟩:=x;exact#[o,e o q,r]
 |false=>obtain⟨o,q,r⟩:=x;exact#[o,e o q,r]
def RwI.ob {t:Bool}{i l:Addr}(x:RwI t h i l k):∃o,h.get? i=some o/\∀v,o.data ≠ .cell v:=by
 cases t with
 |true=>obtain⟨o,q,c,d⟩:=x;exact#[o,q,fun v z=>by rw[d] at z;cases z]
 |false=>obtain⟨o,q,c,d⟩:=x;exact#[o,q,fun v z=>by rw[d] at z;cases z]
def RwIt.kind {t:Bool}{i l:Addr}{xs ys:vR_}(x:RwIt h i l xs k) (y:RwB t h l ys):RwI t h i l k:=by
 cases t with
 |true=>
  rcases x with ⟨_,o,q,c,_⟩ | ⟨x,_⟩
  .obtain⟨o',U,J,_⟩:=y;rw[q] at U;cases U;rw[c] at J;exact absurd J #[]
  .exact x
 |false=>
  rcases x with ⟨x,_⟩ | ⟨_,o,q,c,_⟩
  .exact x
  .obtain⟨o',U,J,_⟩:=y;rw[q] at U;cases U;rw[c] at J;exact absurd J #[]
def dF {t:Bool}(I:Inv X pins σ H s) (h:O7 X.K t H p xs):∃its:List Value,Vals xs its/\RwB t s.heap p its.toArray/\xs.length<=sizeLine:=by
 cases t with
 |false=>
  obtain⟨its,r,⟨o,n,e,c,_,d⟩,z⟩:=I.list h;exact#[its,r,#[o,e,c,n,d],z]
 |true=>
  obtain⟨its,r,⟨o,e,c,n,d⟩,z⟩:=I.tuple h;exact#[its,r,#[o,e,c,n,d],z]
def sY {t:Bool}(I:Inv X pins σ H s) (h:O7 X.K t H p xs) (h':O7 X.K t H p ys):xs=ys:=by
 cases t with
 |false=>exact I.list_inj h h'
 |true=>exact I.tuple_inj h h'
section
variable {w:World}{z TI TO i1 i2 l1 l2:Addr}{xs ys:vR_}
def CD {x y a b:Value}{Q:Option Value->Shared->Prop}(D:ZipApart z TI TO i1 i2 l1 l2) (hz:G7 s.heap z TI TO .none (.bool false)) (J:IsPair s.heap TI (.ref i1) (.ref i2)) (U:IsPair s.heap TO a b) (h1:RwIt s.heap i1 l1 xs k) (h2:RwIt s.heap i2 l2 ys k) (hx:xs[k]? = some x) (hy:ys[k]? = some y)
  (hQ:∀h',G7 h' z TI TO (rawInt s.heap.objs.size) (.bool false)->RwIt h' i1 l1 xs (k+1)->RwIt h' i2 l2 ys (k+1)->IsPair h' s.heap.objs.size x y ->
   (∀c o,c≠z->c≠TO->c≠i1->c≠i2->s.heap.get? c=some o->h'.get? c=some o)->IsPair h' TO x y->Q (some (.ref s.heap.objs.size)) { s with heap:=h' }):wpAny (model prog w) A (pyNext (.ref z)) Q E s:=by
 unfold pyNext;have Y:s.TypeIs (.ref z) "zip" := #[_,hz,rfl]
 exact gV (Ou (Nu (name:=Str.ofString "__next__") Y Nf (Na Nf Y OM
  (qN D hz J U h1 h2 hx hy fun h' a1 a2 a3 a4 a5 Z=>iU (hQ h' a1 a2 a3 a4 a5 Z)) (OP _))))
def KY {a b:Value}{Q:Option Value->Shared->Prop}(hh:A.handled=none) (D:ZipApart z TI TO i1 i2 l1 l2) (hz:G7 s.heap z TI TO .none (.bool false)) (U:IsPair s.heap TI (.ref i1) (.ref i2)) (Y:IsPair s.heap TO a b) (h1:RwIt s.heap i1 l1 xs k) (h2:RwIt s.heap i2 l2 ys k) (J:xs[k]? = none\/ys[k]? = none)
  (hQ:∀h',(∀c o,c≠z->c≠TO->c≠i1->c≠i2->s.heap.get? c=some o->h'.get? c=some o)->Q none { s with heap:=h' }):wpAny (model prog w) A (pyNext (.ref z)) Q E s:=by
 unfold pyNext;have Z:s.TypeIs (.ref z) "zip" := #[_,hz,rfl]
 refine gV (Ou (Nu (name:=Str.ofString "__next__") Z Nf (Na Nf Z OM (tI hh D hz U Y h1 h2 J fun h' e hk he=>?_) (OP _))));obtain⟨o,ho,hc⟩:=he;refine gV (Qo (T := "StopIteration") (b:=true) #[o,ho,hc] Qp ?_);exact iU (hQ _ hk)
def AL {elts:List Expr}{x1} {pos:Pos}{a:Addr}{Q:Unit->Shared->Prop}(hz:G7 s.heap z TI TO (rawInt a) (.bool false))
  (Y:∀h',G7 h' z TI TO .none (.bool false)->Heap.SameBut z s.heap h'->Q () { s with heap:=h' }):wpAny (model prog w) A (letOwnedTupleGo (.Tuple elts x1 pos) (.ref z) (.ref a)) Q E s:=by
 unfold letOwnedTupleGo;refine gV (wpAny_load hz ?_);show wpAny _ A (if (["enumerate", "zip", "dict_itemiterator", "dict_reverseitemiterator", "odict_iterator", "itertools.zip_longest", "itertools.pairwise"].contains "zip" &&
   (#v[rawInt a,.bool false,.bool false,.ref TI,.ref TO]:vR_)[0]? == some (rawInt a))=true then _ else _) Q E s
 rw[iO (by simp)];refine gV (Ny ?_);show wpAny _ A (setField (.ref z) 0 .none) Q E s;exact Oa hz (by simp) fun h' U J=>Y h' U J
end
def fR (K:vF_) (t u:Bool) (a b:Addr):It:=
 #[fun i H=>∃xs ys x y,O7 K t H a xs/\O7 K u H b ys/\xs[i]? = some x/\ys[i]? = some y,fun i H v H'=>∃p x y,H p=none/\v = .ref p/\H'=k9 H p (.tup [x,y])/\(∀xs,O7 K t H a xs->xs[i]? = some x)/\∀ys,O7 K u H b ys->ys[i]? = some y,fun i H=>∃xs ys,O7 K t H a xs/\O7 K u H b ys/\(xs.length<=i\/ys.length<=i)]
def Dy (t u:Bool) (z TI TO i1 i2 a b:Addr) (i:Nat) (h:Heap):Prop:=G7 h z TI TO .none (.bool false)/\IsPair h TI (.ref i1) (.ref i2)/\(∃x y,IsPair h TO x y)/\RwI t h i1 a i/\RwI u h i2 b i
def As {w:World}{x1} {pos:Pos}{t u:Bool}{z TI TO i1 i2 a b:Addr}(D:ZipApart z TI TO i1 i2 a b):Turn P w K (.Tuple elts x1 pos) (fR K t u a b) [z,TI,TO,i1,i2] z (Dy t u z TI TO i1 i2 a b) where
 mem:=by simp
 obj:=fun i h st c J=>by
  obtain⟨hz,Y,⟨x,y,Z⟩,r1,r2⟩:=st;simp only[xo,Mx,MI] at J;rcases J with rfl | rfl | rfl | rfl | rfl
  .exact#[_,hz,fun v q=>by
    have q':Data.fields _=Data.cell v:=q;cases q']
  .exact#[_,Y,fun v q=>by
    have q':Data.seq _ _=Data.cell v:=q;cases q']
  .exact#[_,Z,fun v q=>by
    have q':Data.seq _ _=Data.cell v:=q;cases q']
  .exact r1.ob
  .exact r2.ob
 keep:=fun i h h' st k=>by
  obtain⟨hz,Y,⟨x,y,Z⟩,r1,r2⟩:=st;exact#[k z (by simp) _ hz,k TI (by simp) _ Y,#[x,y,k TO (by simp) _ Z],r1.at fun o q=>k i1 (by simp) o q,r2.at fun o q=>k i2 (by simp) o q]
 item:=by
  intro X hP hw hK J i pins s σ H E I hf st hg;subst hP hw hK;obtain⟨xs,ys,x,y,q1,q2,hx,hy⟩:=hg;obtain⟨hz,Y,⟨o1,o2,Z⟩,r1,r2⟩:=st;obtain⟨its,rv,w1,_⟩:=dF I q1;obtain⟨jts,rw_,w2,_⟩:=dF I q2;obtain⟨p,hp,rp⟩:=rv.get hx;obtain⟨q,hq,rq⟩:=rw_.get hy;have hx':its.toArray[i]? = some p:=by simpa using hp
  have hy':jts.toArray[i]? = some q:=by simpa using hq
  have lz:∀c∈[z,TI,TO,i1,i2],c<s.heap.objs.size:=fun c J=>by
   simp only[xo,Mx,MI] at J;rcases J with rfl | rfl | rfl | rfl | rfl
   .exact xu hz
   .exact xu Y
   .exact xu Z
   .obtain⟨o,e,_⟩:=r1.ob;exact xu e
   .obtain⟨o,e,_⟩:=r2.ob;exact xu e
  refine CD D hz Y Z (r1.it w1) (r2.it w2) hx' hy' fun h1 a1 a2 a3 a4 a5 a6=>?_
  refine#[_,rfl,AL a1 fun h2 hz2 U=>?_]
  replace U:Heap.SameBut z h1 h2:=U
  have hn:H s.heap.objs.size=none:=I.hok.fresh (tx _);have I1:Inv X pins σ (k9 H s.heap.objs.size (.tup [x,y])) { s with heap:=s.heap.push { cls:=.type "tuple",data:=.seq #v[p,q] },toks:=s.toks }:=
   I.laid (t':=s.toks) (fun b o q=>Mg _ q) (tx _) #[by show 2<=sizeLine;decide,[p,q],.cons rp (.cons rq .nil),#[_,MN _ rfl,rfl,_,rfl]]
  have up:∀c,c<s.heap.objs.size->Q4 X pins H c->Q4 X pins (k9 H s.heap.objs.size (.tup [x,y])) c:=fun c J f=>#[by rw[t7 (MJ J)];exact f.1,f.2]
  have k2:∀c o,c≠z->c≠TO->c≠i1->c≠i2->s.heap.get? c=some o->h2.get? c=some o:=fun c o c1 c2 c3 c4 e=>(U.2 _ c1).trans (a5 c o c1 c2 c3 c4 e)
  have I2:=I1.turnedL (h':=h2) (t':=s.toks) (ch:=[z,TO,i1,i2]) (fun c o J e=>by
   simp only[xo,Mx,MI,not_or] at J;rcases Heap.get?_push_cases e with ⟨rfl,rfl⟩ | e1
   .exact(U.2 _ J.1).trans a4
   .exact k2 c o J.1 J.2.1 J.2.2.1 J.2.2.2 e1) (fun c J=>by
   have hc':c∈[z,TI,TO,i1,i2]:=by
    simp only[xo,Mx,MI] at J ⊢;rcases J with h | h | h | h <;> simp[h]
   exact up c (lz c hc') (hf c hc'))
  have wa:RwB t h1 a its.toArray:=w1.at fun o e=>a5 a o D.l1z D.l1TO D.l1i1 D.l1i2 e
  have wb:RwB u h1 b jts.toArray:=w2.at fun o e=>a5 b o D.l2z D.l2TO D.l2i1 D.l2i2 e
  refine#[.ref s.heap.objs.size,_,I2,rfl,#[_,x,y,hn,rfl,rfl,fun xs' h=>by rw[sY I h q1];exact hx,fun ys' h=>by rw[sY I h q2];exact hy],#[hz2,k2 _ _ D.TIz D.TITO D.TIi1 D.TIi2 Y,#[p,q,(U.2 _ D.TOz).trans a6],(a2.kind wa).at fun o e=>(U.2 _ D.i1z).trans e,(a3.kind wb).at fun o e=>(U.2 _ D.i2z).trans e],fun c J=>(up c (lz c J) (hf c J)).1]
 done:=by
  intro X hP hw hK J i pins s σ H E I hf st hg;subst hP hw hK;obtain⟨xs,ys,q1,q2,hl⟩:=hg;obtain⟨hz,Y,⟨o1,o2,Z⟩,r1,r2⟩:=st;obtain⟨its,rv,w1,_⟩:=dF I q1;obtain⟨jts,rw_,w2,_⟩:=dF I q2;have e1:=rv.length;have e2:=rw_.length;refine KY (I.ok.hd J) D hz Y Z (r1.it w1) (r2.it w2) (by
   rcases hl with h | h
   .exact .inl (by simp;omega)
   .exact .inr (by simp;omega)) fun h' k=>#[rfl,I.turnedL (t':=s.toks) (ch:=[z,TO,i1,i2]) (fun c o J e=>by
    simp only[xo,Mx,MI,not_or] at J;exact k c o J.1 J.2.1 J.2.2.1 J.2.2.2 e) fun c J=>hf c (by
    simp only[xo,Mx,MI] at J ⊢;rcases J with h | h | h | h <;> simp[h])]
 self:=fun A i s Q E st hQ=>by
  have tz:s.TypeIs (.ref z) "zip" := #[_,st.1,rfl]
  refine Ra tz OS (Na OS tz Rb ?_ (Rf _));show wpAny _ _ (ret (.ref z)) _ _ s;exact iU #[_,rfl, "zip",_,tz,Nf.lookup,hQ]
def AW (K:vF_) (ta:TA):TI:=fun σ H R=>ta σ H fun vs H1=>∃a b t u,vs=[.ref a,.ref b]/\(∃xs,O7 K t H1 a xs)/\(∃ys,O7 K u H1 b ys)/\R (fR K t u a b) H1
def BA {e:Expr}{es:List Expr}{ta:TA}{p pos pt:Pos}{elts:List Expr}{x1} (hg:Gl X "zip") (hm:X.mg "zip" = none) (ha:PA X (e::es) ta) (he:starEach (e::es) X.env=(false,eval e X.env)::starEach es X.env:=by rfl) (hpl:(backTo pos (starEach es X.env)).any (·.1)=false:=by rfl) :
  PI X (.Tuple elts x1 pt) (.Call (.Name "zip" p) (e::es) [] pos) (AW X.K ta):=by
 intro pins s σ H R I h;refine NU (aV I hg hm (show bootBuiltins ("zip" : Str)=some (.type "zip") by decide +kernel) ?_ #[] #[]);refine OI (u6 (ha pos pins s σ H _ I h) fun us s1 ⟨vs,H1,U,Y,q1⟩=>?_) he hpl;obtain⟨a,b,t,u,rfl,⟨xs,qa⟩,⟨ys,qb⟩,k⟩:=q1;obtain⟨u1,u2,rfl,e1,e2⟩:∃u1 u2,us=[u1,u2]/\u1=Value.ref a/\u2=Value.ref b:=by
  cases Y with
  |cons h1 Y=>
   cases Y with
   |cons h2 Y=>cases Y;exact#[_,_,rfl,h1,h2]
 subst e1;subst e2;obtain⟨it,rx,wa,za⟩:=dF U qa;obtain⟨jt,ry,wb,zb⟩:=dF U qb;refine uh wa wb fun h1 _ k1 Z=>?_
 obtain⟨D,g1,g2,g3,g5,x1,x2,g4⟩:=Z;have tz:({ s1 with heap:=h1 }:Shared).TypeIs (.ref (s1.heap.objs.size+4)) "zip" := #[_,g5,rfl]
 refine Ra tz OS (Na OS tz Rb ?_ (Rf _));show wpAny _ _ (ret (.ref (s1.heap.objs.size+4))) _ _ _;refine iU #[_,rfl, "zip",_,tz,Nf.lookup,?_];refine#[s1.heap.objs.size+4,[s1.heap.objs.size+4,s1.heap.objs.size+2,s1.heap.objs.size+3,s1.heap.objs.size,s1.heap.objs.size+1],_,_,H1,rfl,U.kept (t':=s1.toks) k1,As (t:=t) (u:=u) D,#[g5,g3,#[x1,x2,g4],?_,?_],fun c J=>?_,k]
 .cases t with
  |true=>exact#[_,g1,rfl,rfl]
  |false=>exact#[_,g1,rfl,rfl]
 .cases u with
  |true=>exact#[_,g2,rfl,rfl]
  |false=>exact#[_,g2,rfl,rfl]
 .have J:s1.heap.objs.size<=c:=by
   simp only[xo,Mx,MI] at J;rcases J with h | h | h | h | h <;> rw[h] <;> omega
  exact U.fpOk J (U.hok.fresh J)
def AN {K:vF_}{t u:Bool}{a b:Addr}{xs ys:List V}{g:TG}{tb:TS}{D:Ends}{H:Hp}(J:Nat->L2.St->Hp->Prop) (h0:J 0 σ H) (hl:∀i σ H,J i σ H->O7 K t H a xs/\O7 K u H b ys)
  (hs:∀i x y p σ H,xs[i]? = some x->ys[i]? = some y->H p=none->J i σ H->g (.ref p) σ (k9 H p (.tup [x,y])) fun σ2 H2=>tb { D with nx:=J (i+1),ct:=J (i+1),bk:=D.nx } σ2 H2) (hd:∀σ H,J (min xs.length ys.length) σ H->D.nx σ H) :
  ∃W:Nat->Nat->L2.St->Hp->Prop,(∃m,W 0 m σ H)/\∀i m σ H,W i m σ H ->
   ((fR K t u a b).stop i H/\D.nx σ H)\/((fR K t u a b).go i H/\∃N:L2.St->Hp->Prop,(∀σ' H',N σ' H'->∃m',m'<m/\W (i+1) m' σ' H')/\∀x H',(fR K t u a b).yld i H x H'->g x σ H' fun σ2 H2=>tb { D with nx:=N,ct:=N,bk:=D.nx } σ2 H2):=by
 refine#[fun i m σ H=>m=min xs.length ys.length - i/\i<=min xs.length ys.length/\J i σ H,#[min xs.length ys.length,by simp,MY _,h0],?_];rintro i m σ H ⟨rfl,hi,p⟩;obtain⟨U,Y⟩:=hl i σ H p;by_cases Z:i<min xs.length ys.length
 .have l1:i<xs.length:=by omega
  have l2:i<ys.length:=by omega
  refine .inr #[#[xs,ys,xs[i],ys[i],U,Y,by simp[l1],by simp[l2]],J (i+1),fun σ' H' p'=>#[min xs.length ys.length - (i+1),by omega,rfl,Z,p'],fun v H' y=>?_];obtain⟨pp,x,y,hp,rfl,rfl,y1,y2⟩:=y;exact hs i x y pp σ _ (y1 xs U) (y2 ys Y) hp p
 .have e:i=min xs.length ys.length:=by omega
  refine .inl #[#[xs,ys,U,Y,by omega],hd σ H ?_];rw[<-e];exact p
def fg (f:DA) (t:D->DS->Option DS) (b:DM):DM:=fun s=>(f s).bind fun x=>match x.1 with
 |[d1,d2]=>(S7 d1).bind fun xs=>(S7 d2).bind fun ys=>A9 t b (List.zipWith S4 xs ys) x.2
 |_=>none
def yG {v:V}(r:Rep K N fa H d v) (e:S7 d=some ds):∃t a xs,v = .ref a/\O7 K t H a xs/\(t=false->¬ N a/\H a=some (.lst xs))/\Reps K N fa H ds xs:=by
 cases d with
 |tup es=>
  cases e;simp only[Rep] at r;obtain⟨a,ys,rfl,q,w⟩:=r;exact#[true,a,ys,rfl,q,fun z=>(by cases z),w]
 |lst es=>
  cases e;simp only[Rep] at r;obtain⟨a,ys,rfl,J,q,w⟩:=r;exact#[false,a,ys,rfl,SqL.of q,fun _=>#[J,q],w]
 |_=>cases e
def Hm {t:D->DS->Option DS}{b:DM}{s:DS}{r:Fl × DS}(q:fg f t b s=some r):∃d1 d2 xs ys s1,f s=some ([d1,d2],s1)/\S7 d1=some xs/\S7 d2=some ys/\A9 t b (List.zipWith S4 xs ys) s1=some r:=by
 refine A1 q fun J s1 h1 h2=>?_
 cases J with
 |nil=>cases h2
 |cons d1 J=>
  cases J with
  |nil=>cases h2
  |cons d2 J=>
   cases J with
   |cons _ _=>cases h2
   |nil=>
    refine Y6 h2 fun xs U h2=>?_
    refine Y6 h2 fun ys Y h2=>?_
    exact#[d1,d2,xs,ys,s1,h1,U,Y,h2]
section
variable {g:Gh}{t:D->DS->Option DS}{b:DM}{pos pt:Pos}{x1:Nat}
def Iq (hp:PassesOwn (model X.prog X.w) X.A X.env X.xe) (hc:X.calm=true) (hgl:Gl X "zip") (hm:X.mg "zip" = none) (he:AO X g (e::es) f) (hg:GO X g (.Tuple elts x1 pt) t) (hb:SSO X g body b)
  (hst:starEach (e::es) X.env=(false,eval e X.env)::starEach es X.env:=by rfl) (hpl:(backTo p2 (starEach es X.env)).any (·.1)=false:=by rfl) (hs:∀x,foldedSetIterable (.Call (.Name "zip" p1) (e::es) [] p2) X.env x=pure x:=by intro _;rfl) :
  SO X g (.For (.Tuple elts x1 pt) (.Call (.Name "zip" p1) (e::es) [] p2) body [] pos) (fg f t b):=SO.w (kM hp hc (BA hgl hm he.pe hst hpl) hg.pe hb.pe hs) fun E σ H hQ=>by
 refine hQ.elim fun fa O s fl sf I q k=>?_
 obtain⟨d1,d2,Y,U,s1,h1,e1,e2,h2⟩:=Hm q;refine#[fa,O,s,_,s1,I,h1,fun vs H1 f1 O1 a1 Z r=>?_];have k1:=k.shift a1.stp
 .simp only[Reps] at r;obtain⟨v1,zs,rfl,r1,v2,zs',rfl,r2,rfl⟩:=r;obtain⟨ta,a,vs,rfl,q1,c1,w1⟩:=yG r1 e1;obtain⟨tb,c,us,rfl,q2,c2,w2⟩:=yG r2 e2;have J:∀{t:Bool}{p:Addr}{xs:List V}{fa' O' H'},Stp f1 O1 H1 fa' O' H'->O7 X.K t H1 p xs->(t=false->¬ NN g.F f1 O1 p/\H1 p=some (.lst xs))->O7 X.K t H' p xs:=fun {t p xs fa' O' H'} st q z=>by
   cases t with
   |true=>exact(Z.car st).tp p xs q
   |false=>exact SqL.of ((Z.car st).ls p xs (z rfl).1 (z rfl).2).1
  refine#[a,c,ta,tb,rfl,#[vs,q1],#[us,q2],AN (xs:=vs) (ys:=us) (W4 X.K g f1 O1 H1 t b (List.zipWith S4 Y U) fl sf) #[f1,O1,s1,Stp.refl,Z,h2] ?_ ?_ ?_]
  .rintro i σ' H' ⟨fa',O',s',st,I',e⟩;exact#[J st q1 c1,J st q2 c2]
  .intro i x y p σ' H' hx hy hpn h;obtain⟨dx,hdx,rx⟩:=Reps.get' w1 hx;obtain⟨dy,hdy,ry⟩:=Reps.get' w2 hy;have h':W4 X.K g f1 O1 H1 t b (List.zipWith S4 Y U) fl sf i σ' (k9 H' p (.tup [x,y])):=by
    obtain⟨fa',O',s',st,I',e⟩:=h;exact#[fa',O',s',st.trans (F4 hpn).stp,I'.new hpn,e]
   have hd:(List.zipWith S4 Y U)[i]? = some (S4 dx dy):=by rw[RN,hdx,hdy]
   refine fv k1 hd (fun fa' O' st=>?_) h';simp only[S4,Rep,Reps];exact#[p,[x,y],rfl,SqT.of C0,_,_,rfl,Rep.stp Z st rx,_,_,rfl,Rep.stp Z st ry,rfl]
  .intro σ' H' h;refine fZ k1 ?_ h;rw[Rh,w1.length,w2.length];exact tx _
end
end DL
namespace DL
open PySem PySem.Spec L2
def Ih {α:Type _}{P:List α->Prop}(h:∀a1:α,P [a1]):∀us:List α,us.length=1->P us:=by
 intro us e
 match us,e with | [a1],_=>exact h a1
def on2 {α:Type _}{P:List α->Prop}(h:∀a1 a2:α,P [a1,a2]):∀us:List α,us.length=2->P us:=by
 intro us e
 match us,e with | [a1,a2],_=>exact h a1 a2
def on3 {α:Type _}{P:List α->Prop}(h:∀a1 a2 a3:α,P [a1,a2,a3]):∀us:List α,us.length=3->P us:=by
 intro us e
 match us,e with | [a1,a2,a3],_=>exact h a1 a2 a3
def EH {α:Type _}{P:List α->Prop}(h:∀a1 a2 a3 a4:α,P [a1,a2,a3,a4]):∀us:List α,us.length=4->P us:=by
 intro us e
 match us,e with | [a1,a2,a3,a4],_=>exact h a1 a2 a3 a4
structure GF (K:vF_) (mg:vG_) (n:Str) (st:Stmt) (f:Addr) (fd:FuncData):Prop where
 F:Fun K n n st f fd
 m:mg n=some (.ref f)
section
variable {n:Str}{f:Addr}
def gf_mk (X:K.In h) (G:h.Ns mainGlobals mg) {kV doc pm ct:Value}(a:PySem.W.nsIn K mainGlobals n=some (some (.ref f))) (l:K.lookup f=some #[oc,od,.func (PySem.W.fnOf n n (X8 st) (O6 st) (B8 st) .none kV doc pm an cdv ct),osl])
  (c:PySem.W.codeIn K cdv n=true) (k:PySem.W.keepIn K (.ref f)=true):GF K mg n st f (PySem.W.fnOf n n (X8 st) (O6 st) (B8 st) .none kV doc pm an cdv ct):=#[Hv l c k,Ri X G a]
def Ei (F:Fun K n n st f fd) (q:∀(kV doc pm:Value) (an:vA_) (cdv ct:Value) (s:Shared) (v:Value),BindsTo s (PySem.W.fnOf n n (X8 st) (O6 st) (B8 st) .none kV doc pm an cdv ct) #[[v],[]] [(x,v)]):∀(s:Shared) (v:Value),BindsTo s fd #[[v],[]] [(x,v)]:=by
 obtain⟨oc,od,kV,doc,pm,an,cdv,ct,osl,rfl,U,J⟩:=F.ex;exact fun s v=>q kV doc pm an cdv ct s v
def blt_mk (X:K.In h) (G:h.Ns mainGlobals mg) (z0:PySem.W.nsIn K mainGlobals "len" = some none) (z1:PySem.W.nsIn K mainGlobals "range" = some none) (z2:PySem.W.nsIn K mainGlobals "abs" = some none) (z3:PySem.W.nsIn K mainGlobals "tuple" = some none) (z4:PySem.W.nsIn K mainGlobals "list" = some none) (z5:PySem.W.nsIn K mainGlobals "int" = some none) (z6:PySem.W.nsIn K mainGlobals "bool" = some none) (z7:PySem.W.nsIn K mainGlobals "str" = some none) (z8:PySem.W.nsIn K mainGlobals "repr" = some none) (z9:PySem.W.nsIn K mainGlobals "all" = some none) (z10:PySem.W.nsIn K mainGlobals "isinstance" = some none) (z11:PySem.W.nsIn K mainGlobals "zip" = some none) (Z:PySem.W.nsIn K mainGlobals "enumerate" = some none) (U:PySem.W.nsIn K mainGlobals "min" = some none) (J:PySem.W.nsIn K mainGlobals "max" = some none) (z15:PySem.W.nsIn K mainGlobals "reversed" = some none) (z16:PySem.W.nsIn K mainGlobals "any" = some none) (z17:PySem.W.nsIn K mainGlobals "sum" = some none) (Y:PySem.W.nsIn K mainGlobals "sorted" = some none):Blt mg:=#[MR X G z0,MR X G z1,MR X G z2,MR X G z3,MR X G z4,MR X G z5,MR X G z6,MR X G z7,MR X G z8,MR X G z9,MR X G z10,MR X G z11,MR X G Z,MR X G U,MR X G J,MR X G z15,MR X G z16,MR X G z17,MR X G Y]
def wV {w:World}{N ps:List Str}{b:DM}(F:GF K mg n st f fd) (q:∀(kV doc pm:Value) (an:vA_) (cdv ct:Value) (us:vV_),us.length=ps.length->bindArgs (PySem.W.fnOf n n (X8 st) (O6 st) (B8 st) .none kV doc pm an cdv ct) #[us,[]]=pure (ps.zip us)) (S:FnScope N ps (B8 st))
  (J:∀(cdv:Value) (A:Around) (outer:List Env) (s:Shared) (H:Hp) (E:XK) (g:Gh),Room k (A.deeper (PyProof.Rows.envOfC n (B8 st) s.heap.objs.size f cdv))->SSO (P5 W3 P w K mg base N n (B8 st) f cdv A outer s H E).nox g (O6 st) b) :
  Cal P w K mg base (k+1) n ps (w8 N.length b):=Kj F.F F.m (F.F.binds q) S J
end
end DL
namespace L2
open PySem PySem.Spec PyProof.Rows
open AutoSeq1 (wpAny_loadPart')
abbrev ft (l:Addr):Obj:={ cls:=.type "tuple_iterator",data:=.fields #v[.ref l,.int 0 0] }
abbrev lT (a:Addr):Obj:={ cls:=.type "enumerate",data:=.fields #v[.none,.bool false,.ref a,rawInt 0,.none,.none] }
def LM (l:Addr) (its:vR_) (n:Nat) (dc:vA_) (sl:vS_) :
  Meets (Builtin.«enumerate.__new__» #[[.type "enumerate",.ref l],[]]) (fun _ R s=>s.heap.get? l=some { cls:=.type "tuple",dict:=dc,data:=.seq its n,slots:=sl } /\
   R (.ok (.ret (.ref (s.heap.push (ft l)).objs.size))) { s with heap:=(s.heap.push (ft l)).push (lT s.heap.objs.size) }):=
 .of_wp fun prog w A R s q=>by
  obtain⟨Y,g,d,tk,os⟩:=s;obtain⟨J,q⟩:=q;have hu:=sub_enumerate;have U:Heap.IsTuple (Shared.heap #[Y,g,d,tk,os]) l its:=#[_,J,rfl,n,rfl]
  wp_walk using wpAny_loadPart' J
  refine wpAny_stack_any fun Z=>iU ?_
  split
  .rename_i c _ _ _ _ _;cases (c == Value.type "enumerate")
   .wp_walk using wpAny_loadPart' J,Pk U
    exact#[_,rfl,q]
   .wp_walk using wpAny_loadPart' J,Pk U
    exact#[_,rfl,q]
  .wp_walk using wpAny_loadPart' J,Pk U
   exact#[_,rfl,q]
section
variable {w:World}
def Hl {its:vR_}{Q:vQ_}(hT:s.heap.IsTuple l its)
  (h:∀h',IsEnum h' (s.heap.objs.size+1) s.heap.objs.size 0 .none->h'.IsTupleIter s.heap.objs.size l 0 ->
   (∀b o,s.heap.get? b=some o->h'.get? b=some o)->Q (.ref (s.heap.objs.size+1)) { s with heap:=h' }):wpAny (model prog w) A (call (.type "enumerate") [.ref l]) Q E s:=by
 obtain⟨⟨c,dc,dt,sl⟩,hl,U,n,J⟩:=hT
 replace U:c = .type "tuple" := U
 replace J:dt = .seq its n:=J
 subst U J;refine callType_new F.called_enumerate #[] (F.typeCall_enumerate_1 _) (F.newCall_enumerate_1 _) (fun o=>F.args_object_init_2 o _) F.entry_enumerate_new (LM l its n dc sl) #[hl,?_];have Z:(s.heap.push (ft l)).objs.size=s.heap.objs.size+1:=NY ..;show _/\_;rw[Z];have Y:IsEnum ((s.heap.push (ft l)).push (lT s.heap.objs.size)) (s.heap.objs.size+1) s.heap.objs.size 0 .none:=by
  have z:=MN (s.heap.push (ft l)) (o:=lT s.heap.objs.size) rfl;rw[Z] at z;exact z
 exact#[#[_,Y,rfl],h _ Y #[_,Mg _ (MN _ rfl),rfl,rfl] fun b o x=>Mg _ (Mg _ x)]
def Ef {it l:Addr}{its:vR_}(hh:A.handled=none) (J:l≠it):Draws prog w A it [it,l] its.size (fun i x=>its[i]? = some x) (fun i h=>h.IsTupleIter it l i/\h.IsTuple l its) where
 live:=fun i h st=>by obtain⟨o,q,_⟩:=st.1;exact#[o,q]
 frame:=fun i h h' st k=>by
  obtain⟨⟨o,q,r⟩,⟨o',q',Y⟩⟩:=st;exact#[#[o,k it (by simp) o q,r],#[o',k l (by simp) o' q',Y]]
 item:=fun i s Q E hi st Z=>DL.nextOf_tup_item st.1 st.2 (OQ hi) fun h' a U=>Z _ h' s.toks (OQ hi) #[a,st.2.extBut U.extBut J] U
 done:=fun s Q E st hE=>DL.nextOf_tup_end hh st.1 st.2 (by simp) hE
end
def eU (K:vF_) (a:Addr):It:=
 #[fun i H=>∃xs x,SqT K H a xs/\xs[i]? = some x,fun i H v H'=>∃p x,H p=none/\v = .ref p/\H'=k9 H p (.tup [.int (i:Int),x])/\∀xs,SqT K H a xs->xs[i]? = some x,fun i H=>∃xs,SqT K H a xs/\xs.length<=i]
def HN {w:World}{x1} {pos:Pos}(a e it:Addr) (hne:e≠it):Turn P w K (.Tuple elts x1 pos) (eU K a) [e,it] e (fun i h=>(∃old,IsEnum h e it ((i:Nat):Int) old)/\h.IsTupleIter it a i) where
 mem:=by simp
 obj:=fun i h st b Z=>by
  obtain⟨⟨old,J⟩,hi⟩:=st;simp only[xo,Mx,MI] at Z;rcases Z with rfl | rfl
  .exact#[_,J,fun v z=>by
    have z':Data.fields _=Data.cell v:=z;cases z']
  .obtain⟨o,q,c,d⟩:=hi;exact#[o,q,fun v z=>by rw[d] at z;cases z]
 keep:=fun i h h' st k=>by
  obtain⟨⟨old,J⟩,o,q,r⟩:=st;exact#[#[old,k e (by simp) _ J],o,k it (by simp) o q,r]
 item:=by
  intro X hP hw hK hc i pins s σ H E I hf st hg;subst hP hw hK;obtain⟨xs,x,hq,hx⟩:=hg;obtain⟨⟨old,J⟩,U⟩:=st;obtain⟨its,rv,p,hz⟩:=I.tuple hq;obtain⟨u,hu,ru⟩:=rv.get hx;have fe:=hf e (by simp);have fi:=hf it (by simp);have hes:e<s.heap.objs.size:=xu J;have his:it<s.heap.objs.size:=by obtain⟨o,q,_⟩:=id U;exact xu q
  have hai:a≠it:=fun z=>by
   obtain⟨o,q,c,_⟩:=id U;obtain⟨o',q',c',_⟩:=id p;rw[z,q] at q';cases q';rw[c] at c';exact absurd c' #[]
  have hea:e≠a:=fun z=>by
   obtain⟨o',q',c',_⟩:=id p;rw[<-z] at q';have he':=J.symm.trans q';cases he';exact absurd (show Value.type "enumerate" = Value.type "tuple" from c') #[]
  have hil:i<its.toArray.size:=by
   rw[Mv];exact(MT.mp hu).1
  refine wpAny_pyNext_enum_itemD (Ef (l:=a) (its:=its.toArray) (I.ok.hd hc) hai) J #[U,p] hil hne (by simp[hne,hea]) fun v h₁ tk hv heo hit₁ ht₁ hz₁ hk₁=>?_
  have ev:v=u:=by
   have hv:its[i]? = some v:=by simpa using hv
   rw[hu] at hv;exact(MB hv).symm
  subst ev;refine#[_,rfl,wpAny_letOwnedTupleGo_enum heo fun h₂ he₂ Y=>?_]
  replace Y:Heap.SameBut e h₁ h₂:=Y
  have hn:H s.heap.objs.size=none:=I.hok.fresh (tx _);have I1:Inv X pins σ (k9 H s.heap.objs.size (.tup [.int (i:Int),x])) { s with heap:=s.heap.push { cls:=.type "tuple",data:=.seq #v[.int i tk,v] },toks:=tk }:=
   I.laid (t':=tk) (fun b o q=>Mg _ q) (tx _) #[by show 2<=sizeLine;decide,[.int i tk,v],.cons #[_,rfl] (.cons ru .nil),#[_,MN _ rfl,rfl,_,rfl]]
  have up:∀b,b<s.heap.objs.size->Q4 X pins H b->Q4 X pins (k9 H s.heap.objs.size (.tup [.int (i:Int),x])) b:=fun b Z f=>#[by rw[t7 (MJ Z)];exact f.1,f.2]
  have I2:=I1.turned2 (h':=h₂) (t':=tk+1) (a:=e) (b:=it) (fun c o ce ci q=>by
   rcases Heap.get?_push_cases q with ⟨rfl,rfl⟩ | q1
   .exact(Y.2 _ ce).trans ht₁
   .exact(Y.2 _ ce).trans (hk₁ c o ce ci q1)) (up e hes fe) (up it his fi)
  refine#[.ref s.heap.objs.size,_,I2,rfl,#[_,x,hn,rfl,rfl,fun ys hy=>by rw[I.tuple_inj hy hq];exact hx],#[#[v,?_],?_],fun b Z=>?_]
  .have:((i+1:Nat):Int)=(i:Int)+1:=by push_cast;rfl
   rw[this];exact he₂
  .obtain⟨o,q,r⟩:=hit₁.1;exact#[o,Y.extBut _ _ (Mz hne) q,r]
  .simp only[xo,Mx,MI] at Z;rcases Z with rfl | rfl
   .exact(up _ hes fe).1
   .exact(up _ his fi).1
 done:=by
  intro X hP hw hK hc i pins s σ H E I hf st hg;subst hP hw hK;obtain⟨xs,hq,hx⟩:=hg;obtain⟨⟨old,J⟩,U⟩:=st;obtain⟨its,rv,p,hz⟩:=I.tuple hq;obtain⟨f0,f1,f2,f3,f4,f5⟩:=hf it (by simp);have hl:=rv.length;unfold pyNext;refine gV (Ou (Nu (name:=Str.ofString "__next__") #[_,J,rfl] F.slot_enumerate_next (Na F.slot_enumerate_next #[_,J,rfl] F.entry_enumerate_next ?_ (F.args_enumerate_next_1 _))));show wpAny _ _ (field (.ref e) 2 >>= fun v=>_) _ _ _;refine gV (Mr J rfl (x:=.ref it) rfl ?_);refine gV (DL.nextOf_tup_end (I.ok.hd hc) U p (by simp;omega) fun h' y eb hy=>?_);obtain⟨o,ho,hcl⟩:=hy;refine gV (Qo (T := "StopIteration") (b:=true) #[o,ho,hcl] Qp ?_);exact iU #[rfl,I.turned (t':=s.toks) (fun b o Z q=>eb b o Z q) f0 f1 f3 f4 f5]
 self:=fun _ _ _ _ _ st h=>by obtain⟨⟨old,J⟩,_⟩:=st;exact wpAny_pyIter_enum J h
def Ft (K:vF_) (ta:TA):TI:=fun σ H R=>ta σ H fun vs H1=>∃a,vs=[.ref a]/\(∃xs,SqT K H1 a xs)/\R (eU K a) H1
def Dc {ta:TA}{p pos pt:Pos}{elts:List Expr}{x1} (hg:Gl X "enumerate") (hm:X.mg "enumerate" = none) (ha:PA X [a] ta) (hs:starEach [a] X.env=[(false,eval a X.env)]:=by rfl):PI X (.Tuple elts x1 pt) (.Call (.Name "enumerate" p) [a] [] pos) (Ft X.K ta):=by
 intro pins s σ H R I h;refine Call_ (aV I hg hm Kt (OI (u6 (ha pos pins s σ H _ I h) fun us s1 ⟨vs,H1,J,r1,q1⟩=>?_) hs rfl));obtain⟨l,e,⟨xs,hq⟩,q⟩:=q1;subst e;cases r1 with
 |cons r rr=>
  cases rr;cases r;obtain⟨its,rv,pp,hz⟩:=J.tuple hq;refine Hl pp fun h' Y U hk=>wpAny_pyIter_enum Y ?_
  refine#[s1.heap.objs.size+1,[s1.heap.objs.size+1,s1.heap.objs.size],_,_,H1,rfl,J.kept (t':=s1.toks) hk,HN l (s1.heap.objs.size+1) s1.heap.objs.size (Nat.succ_ne_self _),#[#[_,Y],U],fun b Z=>?_,q];simp only[xo,Mx,MI] at Z;rcases Z with rfl | rfl
  .exact J.fpOk (Pj _) (J.hok.fresh (Pj _))
  .exact J.fpOk (tx _) (J.hok.fresh (tx _))
def Ji {K:vF_}{xs:List V}{g:TG}{tb:TS}{D:Ends}{H:Hp}(J:Nat->St->Hp->Prop) (Z:J 0 σ H) (Y:∀i σ H,i<=xs.length->J i σ H->SqT K H a xs)
  (hs:∀i x p σ H,xs[i]? = some x->H p=none->J i σ H->g (.ref p) σ (k9 H p (.tup [.int (i:Int),x])) fun σ2 H2=>tb { D with nx:=J (i+1),ct:=J (i+1),bk:=D.nx } σ2 H2) (hd:∀σ H,J xs.length σ H->D.nx σ H) :
  ∃W:Nat->Nat->St->Hp->Prop,(∃m,W 0 m σ H)/\∀i m σ H,W i m σ H ->
   ((eU K a).stop i H/\D.nx σ H)\/((eU K a).go i H/\∃N:St->Hp->Prop,(∀σ' H',N σ' H'->∃m',m'<m/\W (i+1) m' σ' H')/\∀x H',(eU K a).yld i H x H'->g x σ H' fun σ2 H2=>tb { D with nx:=N,ct:=N,bk:=D.nx } σ2 H2):=by
 refine#[fun i m σ H=>m=xs.length - i/\i<=xs.length/\J i σ H,#[xs.length,by simp,MY _,Z],?_];rintro i m σ H ⟨rfl,hi,p⟩;have q:=Y i σ H hi p;by_cases U:i<xs.length
 .refine .inr #[#[xs,xs[i],q,by simp[U]],J (i+1),fun σ' H' p'=>#[xs.length - (i+1),by omega,rfl,U,p'],fun v H' y=>?_];obtain⟨pp,x,hp,rfl,rfl,y⟩:=y;exact hs i x pp σ _ (y xs q) hp p
 .have e:i=xs.length:=by omega
  subst e;exact .inl #[#[xs,q,tx _],hd σ H p]
end L2
namespace DL
open PySem PySem.Spec L2 PyProof.Rows
def dQ (f:DA) (t:D->DS->Option DS) (b:DM):DM:=fun s=>(f s).bind fun x=>match x.1 with
 |[.tup ds]=>A9 t b (bq ds) x.2
 |_=>none
def KH {t:D->DS->Option DS}{b:DM}{s:DS}{r:Fl × DS}(q:dQ f t b s=some r):∃ds s1,f s=some ([.tup ds],s1)/\A9 t b (bq ds) s1=some r:=by
 refine A1 q fun xs s1 h1 h2=>?_
 cases xs with
 |nil=>cases h2
 |cons d xs=>
  cases xs with
  |cons _ _=>cases d <;> cases h2
  |nil=>
   cases d with
   |tup ds=>exact#[ds,s1,h1,h2]
   |_=>cases h2
def IY {t:D->DS->Option DS}{b:DM}{s:DS}(h:f s=some ([.tup ds],s1)):dQ f t b s=A9 t b (bq ds) s1:=by
 unfold dQ;rw[h,Mh]
section
variable {g:Gh}{t:D->DS->Option DS}{b:DM}{pos pt:Pos}{x1:Nat}
def Cf (hp:PassesOwn (model X.prog X.w) X.A X.env X.xe) (hc:X.calm=true) (Y:Gl X "enumerate") (hm:X.mg "enumerate" = none) (he:AO X g [e] f) (hg:GO X g (.Tuple elts x1 pt) t) (hb:SSO X g body b)
  (Z:starEach [e] X.env=[(false,eval e X.env)]:=by rfl) (hs:∀x,foldedSetIterable (.Call (.Name "enumerate" p1) [e] [] p2) X.env x=pure x:=by intro _;rfl) :
  SO X g (.For (.Tuple elts x1 pt) (.Call (.Name "enumerate" p1) [e] [] p2) body [] pos) (dQ f t b):=SO.w (kM hp hc (Dc Y hm he.pe Z) hg.pe hb.pe hs) fun E σ H hQ=>by
 refine hQ.elim fun fa O s fl sf I q k=>?_
 obtain⟨ds,s1,h1,h2⟩:=KH q;refine#[fa,O,s,_,s1,I,h1,fun vs H1 f1 O1 a1 U r=>?_];have k1:=k.shift a1.stp
 .simp only[Reps,Rep] at r;obtain⟨v,ys,rfl,⟨a,xs,rfl,q,w⟩,rfl⟩:=r;refine#[a,rfl,#[xs,q],Ji (xs:=xs) (W4 X.K g f1 O1 H1 t b (bq ds) fl sf) #[f1,O1,s1,Stp.refl,U,h2] ?_ ?_ ?_]
  .rintro i σ' H' _ ⟨fa',O',s',st,I',e⟩;exact(U.car st).tp a xs q
  .intro i x p σ' H' hx J h;obtain⟨d,hd,rd⟩:=Reps.get' w hx;have h':W4 X.K g f1 O1 H1 t b (bq ds) fl sf i σ' (k9 H' p (.tup [.int (i:Int),x])):=by
    obtain⟨fa',O',s',st,I',e⟩:=h;exact#[fa',O',s',st.trans (F4 J).stp,I'.new J,e]
   refine fv k1 (LJ hd) (fun fa' O' st=>?_) h';simp only[Rep,Reps];exact#[p,[.int (i:Int),x],rfl,SqT.of C0,_,_,rfl,rfl,_,_,rfl,Rep.stp U st rd,rfl]
  .intro σ' H' h;refine fZ k1 ?_ h;unfold bq;rw[Mj,List.length_zipIdx,w.length];exact tx _
end
end DL
namespace L2
open PySem PySem.W PySem.Spec PySem.Builtin PySem.Builtin.ObjectAttr
section
variable {w:World}{g:Array GenState}{d:Drawn}{t:Nat}{x C:Addr}{o:Obj}{mA:vG_}{v:Value}
structure XC (K:vF_) (C:Addr):Prop where
 f0:hasDictIn K C=true
 f1:findIn K (.ref C) "__getattribute__" = some (some (.builtin "BaseException.__getattribute__"))
 f2:findIn K (.ref C) "__getattr__" = some none
 f4:subIn K (.ref C) (.type "BaseException")=some true
 f5:subIn K (.ref C) (.type "object")=some true
 f6:findIn K (.ref C) "__class__" = some (some (.builtin "object.__class__"))
def XC.look (c:XC K C):∃oc od cd sl,K.lookup C=some #[oc,od,.cls cd,sl]/\cd.hasDict=true:=by
 obtain⟨cd,e,q⟩:=any_some c.f0;unfold clsIn at e;split at e
 .rename_i oc od J sl z;cases e;exact#[oc,od,_,sl,z,q]
 .cases e
end
abbrev aO:String := "ValueError.__new__"
abbrev bxF:=PySem.F.excBase_ValueError
section
variable {M:Model}{w:World}{g:Array GenState}{d:Drawn}{t:Nat}{C N fI:Addr}{rest:vV_}
variable {nm q:Str}{bs bm:vV_}{hdct:Bool}{sn:List Str}{sub:vV_}{ab:Bool}{dd:vA_}{k0 k1 k2 k3 k5:Option Value}
def Iu {Q:Unit->Shared->Prop}(J:h.get? C=some (excClassObj nm q C N bs bm hdct sn sub ab col dd k0 k1 k2 k3 k5 aO)) (U:(Value.ref C::bm).contains (.type "ValueError")=true) (z:Q () #[h,g,d,t,os]) :
  wpAny M A (checkBuiltinCall aO #[.ref C::rest,[]]) Q E #[h,g,d,t,os]:=by
 have st:=bxF.noStar;simp only[checkBuiltinCall,bxF.newKind,bxF.newSplit,bxF.newRow]
 repeat (first | refine wpAny_staticBase_exc J ?_ | refine wpAny_madeBy_exc J ?_ | (refine Rj J ?_;rw[U]) | refine NG J ?_ | simp only[bne_self_eq_false,Ob,Nr] | wp_step)
 exact z
def Em {R:Result->Shared->Prop}(J:h.get? C=some (excClassObj nm q C N bs bm hdct sn sub ab col dd k0 k1 k2 k3 k5 aO)) (Y:(Value.ref C::bm).contains (.type "ValueError")=true) (b2:(Value.ref C::bm).contains (.type "AttributeError")=false)
  (Z:(Value.ref C::bm).contains (.type "NameError")=false) (hr:rest.length<=sizeLine)
  (z:R (.ok (.ret (.ref (h.objs.size+1)))) #[(h.push { cls:=.type "tuple",data:=.seq rest.toArray }).push { cls:=.ref C,data:=.fields #v[.ref h.objs.size,.none,.none,.none,.bool false,.none] },g,d,t,os]) :
  codeAny (model prog w) A (.builtin aO #[.ref C::rest,[]]) R #[h,g,d,t,os]:=by
 have he:=bxF.ends;refine codeAny_builtinAt bxF.entry ?_;unfold Builtin.«BaseException.__new__»;refine wpAt_bind ?_;show wpAt _ _ _ (stack >>= _) _ _ _;refine wpAt_bind (wpAt_stack fun p U=>wpAt_of_wpAny ?_)
 wp_walk
 refine wpAt_of_wpAny ?_;rw[bxF.owner]
 repeat (first | (with_reducible refine Rj J ?_;first | rw[Y] | rw[b2] | rw[Z]) | with_reducible refine wpAny_madeHere_exc bxF.canon J ?_ | with_reducible refine NG J ?_ | wp_step)
 show R _ _;rw[NY];exact z
def zB {oI:Obj}{Q:Fin->Shared->Prop}(X:K.In h) (lk:K.lookup C=some (excClassObj nm q C N bs bm hdct sn sub ab col dd k0 k1 k2 k3 k5 aO)) (b1:(Value.ref C::bm).contains (.type "ValueError")=true) (b2:(Value.ref C::bm).contains (.type "AttributeError")=false)
  (b3:(Value.ref C::bm).contains (.type "NameError")=false) (hi:findIn K (.ref C) "__init__" = some (some (.ref fI))) (lI:K.lookup fI=some oI) (cI:oI.cls = .type "function") (hr:rest.length<=sizeLine)
  (z:∀h' e,Heap.MadeExcOf h h' e (.ref C) rest->h.objs.size<=e->wpAny (model prog w) A (call (.ref fI) (.ref e::rest)) (fun r s'=>r = .none/\Q (.done (.ret (.ref e))) s') E #[h',g,d,t,os]) :
  wpAny (model prog w) A (Builtin.«type.__call__» #[.ref C::rest,[]]) Q E #[h,g,d,t,os]:=by
 have J:=X _ _ lk
 repeat (first | with_reducible refine wpAny_madeBy_exc J ?_ | with_reducible refine NG J ?_ | wp_step)
 refine codeAny_call_builtin_code (Code.quiet_builtin _ bxF.quiet) (Iu J b1 ?_);refine Em J b1 b2 b3 hr ?_;generalize U:(h.push { cls:=.type "tuple",data:=.seq rest.toArray }).push { cls:=.ref C,data:=.fields #v[.ref h.objs.size,.none,.none,.none,.bool false,.none] }=h1;have kp:∀b o,h.get? b=some o->h1.get? b=some o:=fun b o e=>by rw[<-U];exact Mg _ (Mg _ e)
 have X1:K.In h1:=X.keeps kp;have Z:=X1 _ _ lk;have ge:h1.get? (h.objs.size+1)=some { cls:=.ref C,data:=.fields #v[.ref h.objs.size,.none,.none,.none,.bool false,.none] }:=by rw[<-U];heap_get
 have gt:h1.get? h.objs.size=some { cls:=.type "tuple",data:=.seq rest.toArray }:=by rw[<-U];exact Mg _ (Heap.get?_push_at rfl rfl)
 have bC:(Value.ref C::bm).contains (.ref C)=true:=by simp
 have L:=looks_findIn (M:=model prog w) X1 hi;show wpAny _ _ _ _ _ _;unfold isInstance
 repeat (first | with_reducible refine L.at ?_ | with_reducible refine NG ge ?_ | (with_reducible refine Rj Z ?_;rw[bC]) | wp_step)
 unfold bindSpecial;refine gV (NV (T := "function") #[_,X1 _ _ lI,cI] ?_);rw[iO #[]];refine iU (gV (MG (z h1 _ #[kp,QJ (Pj _),h.objs.size,ge,QJ (tx _),gt] (Pj _)) (fun r s' Y=>?_) fun _ _ y=>y));obtain⟨rfl,Y⟩:=Y
 wp_walk
 exact Y
def Jj {U:Obj}(X:K.In h) (Y:K.lookup C=some (excClassObj nm q C N bs bm hdct sn sub ab col dd k0 k1 k2 k3 k5 aO)) (Z:(Value.ref C::bm).contains (.type "ValueError")=true) (b2:(Value.ref C::bm).contains (.type "AttributeError")=false)
  (b3:(Value.ref C::bm).contains (.type "NameError")=false) (hi:findIn K (.ref C) "__init__" = some (some (.ref fI))) (lI:K.lookup fI=some U) (cI:U.cls = .type "function") (hr:rest.length<=sizeLine)
  (z:∀h' e,Heap.MadeExcOf h h' e (.ref C) rest->h.objs.size<=e->wpAny (model prog w) (A.under (.builtin "type.__call__" #[.ref C::rest,[]])) (call (.ref fI) (.ref e::rest)) (fun r s'=>r = .none/\Q (.ref e) s') E #[h',g,d,t,os]) :
  wpAny (model prog w) A (call (.ref C) rest) Q E #[h,g,d,t,os]:=by
 have J:=X _ _ Y;have y1:=tc_lookup;have y2:=tc_bind (.ref C);have yT:(#[h,g,d,t,os]:Shared).TypeIs (.ref C) "type" := #[_,J,rfl]
 refine Pd (codeAny_of_tree ?_);show wpAny _ _ (callAny (.ref C) _) _ _ _
 repeat (any_goals (first | with_reducible refine NG J ?_ | assumption | wp_step))
 refine#[rfl,codeAny_call_builtin_at (Code.quiet_builtin _ (by decide +kernel)) entry_typeCall (wpAny_check_type_call_sub J (zB X Y Z b2 b3 hi lI cI hr fun h' e m n=>?_))];exact z h' e m n
end
def aH:List Value:=[.type "ValueError",.type "Exception",.type "BaseException",.type "object"]
def Lg (J:Value):refuseLoop J "__setattr__" aH=pure ():=by kernel_rfl
section
variable {w:World}{g:Array GenState}{d:Drawn}{t:Nat}{x C W:Addr}{o:Obj}{mA:vG_}{v:Value}
def JB {tk:Tok}{ns:List Str}{Q:Fin->Shared->Prop}(X:K.In h) (hc:clsIn K C=some cd) (hm:cd.mro = .ref C :: .ref W::aH) (hk:cd.hasDict=true) (f3:findIn K (.ref C) name=some none) (I:h.Inst x C mA)
  (hq:∀h' tk',h'.Inst x C (fun y=>if y=name then some v else mA y) ->
   (∀b u,b≠x->(∀o0 dx,h.get? x=some o0->o0.dict=some dx->b≠dx)->h.get? b=some u->h'.get? b=some u) ->
   (∀o0,h.get? x=some o0->∃o1,h'.get? x=some o1/\o1.cls=o0.cls/\o1.data=o0.data/\o1.slots=o0.slots/\(∀dx,o0.dict=some dx->o1.dict=some dx)/\(o0.dict=none->∃dx,o1.dict=some dx/\h.objs.size<=dx))->Q (.done (.ret .none)) #[h',g,d,tk',os])
  (hw:Within mA ns) (hz:ns.length<=1000) :
  wpAny (model prog w) A (Builtin.«object.__setattr__» #[[.ref x,.str name tk,v],[]]) Q E #[h,g,d,t,os]:=by
 obtain⟨o,J,U,Y,hd⟩:=I;have L1:=looks_findIn (M:=model prog w) X f3;have L2:=looks_clsIn (M:=model prog w) X hc;have L3:Looks (model prog w) h (mroOf (.ref C)) cd.mro:=L2.andThen .now;have lx:Looks (model prog w) h (typeOf (.ref x)) (.ref C):=by
  intro A' Q' E' s' k z;unfold typeOf;refine gV (wpAny_loadPart (k _ _ J) (iU ?_));rw[U];exact z
 have rf:refuseLoop (.ref x) "__setattr__" cd.mro=pure ():=by rw[hm,refuseLoop_ref,refuseLoop_ref];exact Lg _
 rw[osa_eq,refuse_eq];refine gV (gV (lx.at (gV (L3.at ?_))));rw[rf];refine iU (gV (lx.at (gV (L1.at (gV (iU ?_))))));show wpAny _ _ (storeInOwnDict (.ref x) (.ref C) (.str name tk) name v false) _ _ _;unfold storeInOwnDict
 repeat (first | (with_reducible refine NG J ?_;rw[U]) | with_reducible refine L2.at ?_ | wp_step)
 rcases hd with ⟨dn,mn⟩ | ⟨dx,de,ne,nd⟩
 .rw[dn,iR (by simp[typeHasDict])];split
  .rename_i z;cases z
  split
  .rename_i z;exact absurd z (Y _)
  .have nx:x≠h.objs.size:=MJ (xu J);have gx:(h.push { cls:=.type "dict",data:=.dict #v[] }).get? x=some o:=Mg _ J;refine gV (wpAny_alloc' (gV (wpAny_update' gx (iU ?_))));generalize eh:((h.push { cls:=.type "dict",data:=.dict #v[] }).update x fun o=>{ cls:=o.cls,dict:=some h.objs.size,data:=o.data,slots:=o.slots })=h1;have g1:h1.get? h.objs.size=some { cls:=.type "dict",data:=.dict #v[] }:=by rw[<-eh];exact(Heap.get?_update_ne _ _ _ _ nx.symm).trans (Heap.get?_push_at rfl rfl)
   have gx1:h1.get? x=some { cls:=o.cls,dict:=some h.objs.size,data:=o.data,slots:=o.slots }:=by
    rw[<-eh];refine NF _ gx ?_;have fr:=(Heap.get?_some_iff.mp J).2;obtain⟨oc,od,dt,sl⟩:=o;cases dt <;> first | rfl | exact fr
   have gk:∀b u,b≠x->h.get? b=some u->h1.get? b=some u:=fun b u nb e=>by rw[<-eh];exact(Heap.get?_update_ne _ _ _ _ nb).trans (Mg _ e)
   have n1:h1.Ns h.objs.size (fun _=>none):=#[_,#v[],_,g1,rfl,fun e he=>absurd he (by simp),fun _=>rfl]
   show wpAny _ _ (storeInDict h.objs.size (.str name tk) name v) _ _ _;unfold storeInDict newKeyGuard;refine gV (iU (gV (wpAny_nsSet1 (Heap.Ns1.of_empty n1) fun h' n' Z=>?_)));obtain⟨oD,es,ep,go,gd,gc⟩:=n'.count (Within.cons name v Within.nil);refine gV (wpAny_lookBehind go (by rw[gd];exact pastItsLine_dict (Mm gc (by rw[Mw,NQ,MU];omega))) ?_)
   wp_walk
   have gx':=(Z.2 x nx).trans gx1;refine hq h' _ #[_,gx',U,Y,.inr #[h.objs.size,rfl,nx.symm,?_]] (fun b u nb _ e=>(Z.2 b (MJ (xu e))).trans (gk b u nb e)) fun o0 e0=>?_
   .obtain⟨o',es',ep',e1,e2,e3,e4,e5⟩:=n';exact#[o',es',ep',e1,e2,e3,e4,fun y=>by rw[e5 y];by_cases hy:y=name <;> simp[hy,mn]]
   .obtain rfl:o=o0:=MB (J.symm.trans e0);exact#[_,gx',rfl,rfl,rfl,(fun dx e=>by rw[dn] at e;cases e),fun _=>#[_,rfl,tx _]]
 .rw[de];refine iU ?_;show wpAny _ _ (storeInDict dx (.str name tk) name v) _ _ _;unfold storeInDict newKeyGuard;refine gV (iU (gV (wpAny_nsSet1 nd fun h' n' Z=>?_)));obtain⟨oD,es,ep,go,gd,gc⟩:=n'.count (Within.cons name v hw);refine gV (wpAny_lookBehind go (by rw[gd];exact pastItsLine_dict (Mm gc (by rw[Mw,MU];omega))) ?_)
  wp_walk
  exact hq h' _ #[o,(Z.2 x ne.symm).trans J,U,Y,.inr #[dx,de,ne,n']] (fun b u _ nb e=>(Z.2 b (nb o dx J de)).trans e) fun o0 e0=>#[o0,(Z.2 x ne.symm).trans e0,rfl,rfl,rfl,(fun _ e=>e),fun z=>by rw[J] at e0;cases e0;rw[de] at z;cases z]
def xO {ns:List Str}{Q:Unit->Shared->Prop}(X:K.In h) (Y:clsIn K C=some cd) (hm:cd.mro = .ref C :: .ref W::aH) (hk:cd.hasDict=true) (f3:findIn K (.ref C) name=some none)
  (f7:findIn K (.ref C) "__setattr__" = some (some (.builtin "object.__setattr__"))) (I:h.Inst x C mA)
  (hq:∀h' tk',h'.Inst x C (fun y=>if y=name then some v else mA y) ->
   (∀b u,b≠x->(∀o0 dx,h.get? x=some o0->o0.dict=some dx->b≠dx)->h.get? b=some u->h'.get? b=some u) ->
   (∀o0,h.get? x=some o0->∃o1,h'.get? x=some o1/\o1.cls=o0.cls/\o1.data=o0.data/\o1.slots=o0.slots/\(∀dx,o0.dict=some dx->o1.dict=some dx)/\(o0.dict=none->∃dx,o1.dict=some dx/\h.objs.size<=dx))->Q () #[h',g,d,tk',os])
  (hw:Within mA ns) (hz:ns.length<=1000):wpAny (model prog w) A (setAttr (.ref x) name v) Q E #[h,g,d,t,os]:=by
 obtain⟨o,hx,U,hnc,hd⟩:=id I;have Z:Looks (model prog w) h (typeOf (.ref x)) (.ref C):=by
  intro A' Q' E' s' k z;unfold typeOf;refine gV (wpAny_loadPart (k _ _ hx) (iU ?_));rw[U];exact z
 have L7:=looks_findIn (M:=model prog w) X f7;have J:=PySem.F.store_object;refine gV (wpAny_mkText (gV (gV (gV (Z.at (L7.at (Nm ?_)))))));rw[J.slot.bind];have sub:Looks (model prog w) h (isInstance (.ref x) (.type "object")) true:=Z.andThen (looks_mroIn X (by unfold mroIn;rw[Y,Mh,hm];rfl));refine gV (iU (gV (Pd ?_)));refine codeAny_call_builtin J.slot.plain J.entry (@check_slot (model prog w) _ _ #[h,g,d,t+1,os] "object.__setattr__" "object" "__setattr__" (.ref x) [.str name t,v] [] _ J.kind J.split sub (J.args (.ref x) (.str name t) v) ?_);refine JB X Y hm hk f3 I (fun h' tk' I' k1 k2=>?_) hw hz;exact iU (iU (hq h' tk' I' k1 k2))
end
end L2
namespace L2
open PySem PySem.W PySem.Spec PySem.Builtin PySem.Builtin.ObjectAttr PyProof.Rows
structure XK1 (K:vF_) (C W:Addr):Prop where
 xc:XC K C
 ob:∃nm q N bs hdct sn sub ab col dd k0 k1 k2 k3 k5,K.lookup C=some (excClassObj nm q C N bs (.ref W::aH) hdct sn sub ab col dd k0 k1 k2 k3 k5 aO)
 sa:findIn K (.ref C) "__setattr__" = some (some (.builtin "object.__setattr__"))
def XK1.cls {C W:Addr}(c:XK1 K C W):∃cd,clsIn K C=some cd/\cd.mro = .ref C :: .ref W::aH/\cd.hasDict=true:=by
 obtain⟨nm,q,N,bs,hdct,sn,sub,ab,col,dd,k0,k1,k2,k3,k5,e⟩:=c.ob;obtain⟨oc,od,cd,sl,J,U⟩:=c.xc.look;rw[e] at J;cases J;exact#[_,by unfold clsIn;rw[e],rfl,U]
section
variable {P:Program}{w:World}{e C W fI:Addr}{u0 u1:Value}{R:Result->Shared->Prop}
variable {params:Arguments}{kV doc pm ct:Value}
def Jb {ps:List Str}{us:vV_}(hr:A.depth<recursionLimit) (X:K.In s.heap) (U:s.heap.NoLimit) (Z:K.lookup fI=some #[oc,od,.func (PySem.W.fnOf name qual params body scope .none kV doc pm an cdv ct),osl])
  (J:PySem.W.codeIn K cdv qual=true) (k1:scope.kind = .function) (k2:scope.isCoroutine=false) (k3:scope.isGenerator=false) (hp:∀x∈ps,scope.names.lookup x=some .local)
  (hb:bindArgs (PySem.W.fnOf name qual params body scope .none kV doc pm an cdv ct) #[us,[]]=pure (ps.zip us))
  (z:∀h' tk,(∀b o,s.heap.get? b=some o->h'.get? b=some o)->h'.Ns s.heap.objs.size (bindL (envOfC qual scope s.heap.objs.size fI cdv).kindOf (ps.zip us) fun _=>none) ->
   wpAny (model P w) (A.deeper (envOfC qual scope s.heap.objs.size fI cdv)) (execs body (envOfC qual scope s.heap.objs.size fI cdv)) (fun fl s'=>match fl with | .ret v=>R (.ok (.ret v)) s' | .next=>R (.ok (.ret .none)) s' | _=>False)
    (fun _ _=>False) { s with heap:=h',toks:=tk }) :
  codeAny (model P w) A (.call (.ref fI) #[us,[]]) R s:=by
 refine codeAny_call_function hr (X _ _ Z) rfl k2 k3 rfl (PySem.W.codeRec_of X J) (wpAny_of_eq hb ?_);refine wpAny_newFunctionEnv_cells k1 (fun y Y=>.inl (hp y.1 (Ol (a:=y.1) (b:=y.2) Y).1)) fun env he s1 x=>?_
 subst he;obtain⟨h1,tk,rfl,hk⟩:=x.done;refine#[U.keeps hk,codeAny_func ?_];refine MG (z h1 tk hk x.toInCall.ns) (fun fl s' q=>?_) fun _ _ q=>q.elim
 cases fl <;> first | exact q | exact q.elim
structure Mdx (K:vF_) (h h':Heap) (e dx C:Addr) (vs:vR_) (mA:vG_):Prop where
 kp:∀b u,b≠e->h.get? b=some u->h'.get? b=some u
 at_:∃o,h'.get? e=some o/\o.cls = .ref C/\o.data = .fields vs/\o.dict=some dx
 ne:dx≠e
 nw:h.objs.size<=dx
 ns:h'.Ns1 dx mA
def cH {L f:Addr}(h:scope.names.lookup x=some .local):(envOfC qual scope L f cdv).kindOf x=some .local:=h
def DN {vs:vR_}{p1 p2 p3 p4 p5 p6 p7 p8:Pos}(c:XK1 K C W) (hw:findIn K (.ref C) "word" = some none) (ha:findIn K (.ref C) "at" = some none) (hr:A.depth<recursionLimit) (X:K.In s.heap) (lim:s.heap.NoLimit)
  (lk:K.lookup fI=some #[oc,od,.func (PySem.W.fnOf name qual params [.Assign [.Attribute (.Name "self" p1) "word" p2] (.Name "word" p3) p4,.Assign [.Attribute (.Name "self" p5) "at" p6] (.Name "at" p7) p8] scope .none kV doc pm an cdv ct),osl]) (hcd:PySem.W.codeIn K cdv qual=true)
  (k1:scope.kind = .function) (k2:scope.isCoroutine=false) (k3:scope.isGenerator=false) (hp:∀x∈(["self", "word", "at"]:List Str),scope.names.lookup x=some .local)
  (hb:bindArgs (PySem.W.fnOf name qual params [.Assign [.Attribute (.Name "self" p1) "word" p2] (.Name "word" p3) p4,.Assign [.Attribute (.Name "self" p5) "at" p6] (.Name "at" p7) p8] scope .none kV doc pm an cdv ct) #[[.ref e,u0,u1],[]]=pure ((["self", "word", "at"]:List Str).zip [.ref e,u0,u1]))
  (hx:s.heap.get? e=some { cls:=.ref C,data:=.fields vs }) (hK:K.lookup e=none)
  (z:∀h' tk dx,Mdx K s.heap h' e dx C vs (fun y=>if y = "at" then some u1 else if y = "word" then some u0 else none)->R (.ok (.ret .none)) { s with heap:=h',toks:=tk }) :
  codeAny (model P w) A (.call (.ref fI) #[[.ref e,u0,u1],[]]) R s:=by
 obtain⟨cd,c1,c2,c3⟩:=c.cls;have ks:=hp "self" (by simp);have ka:=hp "at" (by simp);have kw:=hp "word" (by simp);refine Jb hr X lim lk hcd k1 k2 k3 hp hb fun h1 tk hk hn=>?_
 have q1:(bindL (envOfC qual scope s.heap.objs.size fI cdv).kindOf ((["self", "word", "at"]:List Str).zip [Value.ref e,u0,u1]) fun _=>none) "self" = some (.ref e):=fH (i:=0) #[] rfl rfl (cH ks);have q2:(bindL (envOfC qual scope s.heap.objs.size fI cdv).kindOf ((["self", "word", "at"]:List Str).zip [Value.ref e,u0,u1]) fun _=>none) "word" = some u0:=fH (i:=1) #[] rfl rfl (cH kw);have q3:(bindL (envOfC qual scope s.heap.objs.size fI cdv).kindOf ((["self", "word", "at"]:List Str).zip [Value.ref e,u0,u1]) fun _=>none) "at" = some u1:=fH (i:=2) #[] rfl rfl (cH ka);have I0:h1.Inst e C (fun _=>none):=#[_,hk _ _ hx,rfl,(fun c z=>by cases z),.inl #[rfl,fun _=>rfl]]
 refine PV (RR (Og (Pc k1 (cH kw) hn q2 (Og (Pc k1 (cH ks) hn q1 (xO (X.keeps hk) c1 c2 c3 hw c.sa I0 (fun h2 tk2 I2 kp2 st2=>?_) Within.nil #[])) #[])) #[]));obtain⟨o1,g1,g2,g3,_,_,g6⟩:=st2 _ (hk _ _ hx);obtain⟨dx,g7,g8⟩:=g6 rfl;have nL:s.heap.objs.size≠e:=fun z=>by have:=xu hx;rw[<-z] at this;exact Ni _ this
 have U:∀b u,b≠e->h1.get? b=some u->h2.get? b=some u:=fun b u nb J=>kp2 b u nb (fun o0 d0 Z f0=>by rw[hk _ _ hx] at Z;cases Z;cases f0) J
 have hn2:h2.Ns s.heap.objs.size (bindL (envOfC qual scope s.heap.objs.size fI cdv).kindOf ((["self", "word", "at"]:List Str).zip [Value.ref e,u0,u1]) fun _=>none):=by
  obtain⟨o,es,ep,e1,e2⟩:=hn;exact#[o,es,ep,U _ _ nL e1,e2]
 have X2:K.In h2:=fun b o J=>U b o (fun z=>by rw[z,hK] at J;cases J) ((X.keeps hk) _ _ J)
 refine PV (RR (Og (Pc k1 (cH ka) hn2 q3 (Og (Pc k1 (cH ks) hn2 q1 (xO X2 c1 c2 c3 ha c.sa I2 (fun h3 tk3 I3 kp3 st3=>?_) (Within.cons "word" u0 Within.nil) #[])) #[])) #[]));refine OF ?_;obtain⟨o3,y1,y2,y3,_,y5,_⟩:=st3 _ g1;have y7:=y5 _ g7;obtain⟨o2,r1,r2,r3,Y⟩:=I3;rw[y1] at r1;cases r1;rcases Y with ⟨Y,_⟩ | ⟨d2,Y,r5,r6⟩
 .rw[y7] at Y;cases Y
 .rw[y7] at Y;cases Y;have nd:s.heap.objs.size<=dx:=Mm (NI hn.lt) g8;refine z _ _ dx #[fun b u nb J=>kp3 b u nb (fun o0 d0 Z f0=>?_) (U b u nb (hk _ _ J)),#[_,y1,r2,y3.trans g3,y7],r5,nd,r6];rw[g1] at Z;cases Z;rw[g7] at f0;cases f0;rintro rfl;exact absurd (Mu (xu J) nd) (Ni _)
end
def zv (p1 p2 p3 Z p5 U Y J:Pos):List Stmt:=[.Assign [.Attribute (.Name "self" p1) "word" p2] (.Name "word" p3) Z,.Assign [.Attribute (.Name "self" p5) "at" U] (.Name "at" Y) J]
structure XD (K:vF_) (C W fI:Addr) (ps:List Str) (body:List Stmt):Prop where
 k1:XK1 K C W
 hi:PySem.W.findIn K (.ref C) "__init__" = some (some (.ref fI))
 fn:∃(oc:Value) (od:vA_) (name qual:Str) (params:Arguments) (scope:Scope) (kV doc pm:Value) (an:vA_) (cdv ct:Value) (osl:vS_),
  K.lookup fI=some #[oc,od,.func (PySem.W.fnOf name qual params body scope .none kV doc pm an cdv ct),osl]/\oc = .type "function" /\ PySem.W.codeIn K cdv qual=true/\scope.kind = .function/\scope.isCoroutine=false/\scope.isGenerator=false /\
  (∀x∈("self" :: ps:List Str),scope.names.lookup x=some .local)/\∀us:List Value,us.length=ps.length+1->bindArgs (PySem.W.fnOf name qual params body scope .none kV doc pm an cdv ct) #[us,[]]=pure (("self" :: ps:List Str).zip us)
 no:∀x∈ps,PySem.W.findIn K (.ref C) x=some none
structure Mdn (h h':Heap) (e dx C:Addr) (mA:vG_):Prop where
 kp:∀b u,h.get? b=some u->h'.get? b=some u
 ne:dx≠e
 n1:h.objs.size<=e
 n2:h.objs.size<=dx
 at_:∃o,h'.get? e=some o/\o.cls = .ref C/\(∃t0,o.data = .fields #v[.ref t0,.none,.none,.none,.bool false,.none])/\o.dict=some dx
 ns:h'.Ns1 dx mA
def BG (C W:Addr):(Value.ref C :: .ref W::aH).contains (.type "ValueError")=true/\(Value.ref C :: .ref W::aH).contains (.type "AttributeError")=false/\(Value.ref C :: .ref W::aH).contains (.type "NameError")=false:=#[rfl,rfl,rfl]
def BN {e:Addr}(X:K.In h) (n:h.objs.size<=e):K.lookup e=none:=by
 cases q:K.lookup e with
 |none=>rfl
 |some o=>exact absurd (Mu (xu (X _ _ q)) n) (Ni _)
def sR {b e:Addr}{u:Obj}(q:h.get? b=some u) (n:h.objs.size<=e):b≠e:=fun z=>by rw[z] at q;exact absurd (Mu (xu q) n) (Ni _)
section
variable {P:Program}{w:World}{C W fI:Addr}{u0 u1:Value}
def Bx {ps:List Str}{body:List Stmt}{us:vV_}(c:XD K C W fI ps body) (Y:us.length<=sizeLine) (X:K.In s.heap)
  (z:∀h1 e,(∀b u,s.heap.get? b=some u->h1.get? b=some u)->s.heap.objs.size<=e->s.heap.objs.size<=h1.objs.size->(∃t0,h1.get? e=some { cls:=.ref C,data:=.fields #v[.ref t0,.none,.none,.none,.bool false,.none] }) ->
   wpAny (model P w) (A.under (.builtin "type.__call__" #[.ref C::us,[]])) (call (.ref fI) (.ref e::us)) (fun r s'=>r = .none/\Q (.ref e) s') E { s with heap:=h1 }):wpAny (model P w) A (call (.ref C) us) Q E s:=by
 obtain⟨nm,q,N,bs,hdct,sn,sub,ab,col,dd,k0,k1,k2,k3,k5,lk⟩:=c.k1.ob;obtain⟨oc,od,name,qual,params,scope,kV,doc,pm,an,cdv,ct,osl,lf,rfl,_⟩:=c.fn;obtain⟨U,b2,Z⟩:=BG C W;obtain⟨h,g,d,t,os⟩:=s;refine Jj X lk U b2 Z c.hi lf rfl Y fun h1 e m n=>?_
 obtain⟨t0,J,_⟩:=m.there;exact z h1 e m.keeps n (NI (Nc n (xu J))) #[t0,J]
def mk2 {p1 p2 p3 p4 p5 p6 p7 p8:Pos}(c:XD K C W fI ["word", "at"] (zv p1 p2 p3 p4 p5 p6 p7 p8)) (hr:Room (k+1) A) (X:K.In s.heap) (J:s.heap.NoLimit)
  (z:∀h' tk e dx,Mdn s.heap h' e dx C (fun y=>if y = "at" then some u1 else if y = "word" then some u0 else none)->Q (.ref e) { s with heap:=h',toks:=tk }):wpAny (model P w) A (call (.ref C) [u0,u1]) Q E s:=by
 refine Bx c (show 2<=sizeLine by decide) X fun h1 e kp ne sz ⟨Y,Z⟩=>?_
 obtain⟨oc,od,name,qual,params,scope,kV,doc,pm,an,cdv,ct,osl,lf,_,f1,f2,f3,f4,f5,f6⟩:=c.fn;refine Pd (DN (s:={ s with heap:=h1 }) c.k1 (c.no _ (by simp)) (c.no _ (by simp)) (hr.make C _ _).depth (X.keeps kp) (J.keeps kp) lf f1 f2 f3 f4 f5 (f6 _ rfl) Z ?_ fun h2 tk dx m=>?_)
 .exact BN X ne
 .exact#[rfl,z h2 tk e dx #[fun b u U=>m.kp b u (sR U ne) (kp b u U),m.ne,ne,Mm sz m.nw,let ⟨o,y1,y2,y3,y4⟩:=m.at_;#[o,y1,y2,#[Y,y3],y4],m.ns]]
end
end L2
namespace DL
open PySem PySem.Spec L2
structure Rf2 (K:vF_) (mg:vG_) (c:Str):Prop where
 ex:∃C W fI p1 p2 p3 p4 p5 p6 p7 p8,mg c=some (.ref C)/\PySem.W.nsIn K mainGlobals c=some (some (.ref C))/\PySem.W.keepIn K (.ref C)=true/\XD K C W fI ["word", "at"] (zv p1 p2 p3 p4 p5 p6 p7 p8)
section
variable {g:Gh}{p pos:Pos}{a b:Expr}{fa fb:DE}{t:DA}
def GZ {J x1:V}(Z:Vals [J,x1] [u0,u1]) (f:Str):fu ((fnm.zip [J,x1]).lookup f) (if f = "at" then some u1 else if f = "word" then some u0 else none):=by
 have r0:RelV J u0:=by cases Z with | cons r _=>exact r
 have r1:RelV x1 u1:=by
  cases Z with | cons _ q=>
  cases q with | cons r _=>exact r
 show fu (([(("word" : Str),J),("at",x1)]:List (Str × V)).lookup f) _;by_cases Y:f = "word"
 .subst Y;exact r0
 .rw[QV,QH.mpr Y];by_cases U:f = "at"
  .subst U;exact r1
  .rw[QV,QH.mpr U];simp only[iR Y,iR U];trivial
def wG {α:Type}:∀{l:List α},l.length=2->∃x y,l=[x,y]
 |[x,y],_=>#[x,y,rfl]
end
section
variable {C W fI:Addr}{cs':List Str}
def xc_mk (f0:PySem.W.hasDictIn K C=true) (f1:PySem.W.findIn K (.ref C) "__getattribute__" = some (some (.builtin "BaseException.__getattribute__"))) (J:PySem.W.findIn K (.ref C) "__getattr__" = some none)
  (Z:PySem.W.subIn K (.ref C) (.type "BaseException")=some true) (U:PySem.W.subIn K (.ref C) (.type "object")=some true) (Y:PySem.W.findIn K (.ref C) "__class__" = some (some (.builtin "object.__class__"))):XC K C:=#[f0,f1,J,Z,U,Y]
def xk1_mk {nm q:Str}{N:Addr}{bs:vV_}{sn:List Str}{sub:vV_}{dd:vA_}(x:XC K C) (U:K.lookup C=some (excClassObj nm q C N bs (.ref W::aH) hdct sn sub ab col dd k0 k1 k2 k3 k5 aO))
  (J:PySem.W.findIn K (.ref C) "__setattr__" = some (some (.builtin "object.__setattr__"))):XK1 K C W:=#[x,#[nm,q,N,bs,hdct,sn,sub,ab,col,dd,k0,k1,k2,k3,k5,U],J]
def rf2_mk (X:K.In h) (G:h.Ns mainGlobals mg) {kV doc pm:Value}(a:PySem.W.nsIn K mainGlobals c=some (some (.ref C))) (Y:PySem.W.keepIn K (.ref C)=true)
  (x:XK1 K C W) (hi:PySem.W.findIn K (.ref C) "__init__" = some (some (.ref fI))) (Z:PySem.W.findIn K (.ref C) "word" = some none) (w2:PySem.W.findIn K (.ref C) "at" = some none)
  (U:K.lookup fI=some #[.type "function",od,.func (PySem.W.fnOf name qual params [.Assign [.Attribute (.Name "self" p1) "word" p2] (.Name "word" p3) p4,.Assign [.Attribute (.Name "self" p5) "at" p6] (.Name "at" p7) p8] scope .none kV doc pm an cdv ct),osl]) (cd:PySem.W.codeIn K cdv qual=true)
  (s1:scope.kind = .function/\scope.isCoroutine=false/\scope.isGenerator=false/\∀x∈(["self", "word", "at"]:List Str),scope.names.lookup x=some .local)
  (s2:∀us:List Value,us.length=3->bindArgs (PySem.W.fnOf name qual params [.Assign [.Attribute (.Name "self" p1) "word" p2] (.Name "word" p3) p4,.Assign [.Attribute (.Name "self" p5) "at" p6] (.Name "at" p7) p8] scope .none kV doc pm an cdv ct) #[us,[]]=pure ((["self", "word", "at"]:List Str).zip us)):Rf2 K mg c:=
 #[C,W,fI,p1,p2,p3,p4,p5,p6,p7,p8,Ri X G a,a,Y,x,hi,#[_,od,name,qual,params,scope,kV,doc,pm,an,cdv,ct,osl,U,rfl,cd,s1.1,s1.2.1,s1.2.2.1,s1.2.2.2,s2],fun y J=>by
  rcases xo.mp J with rfl | J
  .exact Z
  .rcases Mq.mp J with rfl
   exact w2]
def mem0 {P:Str->Prop}:∀c∈([]:List Str),P c:=fun _ h=>by cases h
def memC {P:Str->Prop}(h:P c) (r:∀c∈l,P c):∀x∈c::l,P x:=fun x J=>by
 rcases xo.mp J with rfl | J
 .exact h
 .exact r x J
end
end DL
namespace L2
open PySem PySem.W PySem.Spec PySem.Builtin PyProof.Rows
structure Fly (n:Nat) (H:Hp) (h:Heap) (e C dx:Addr):Prop where
 en:n<=e
 eh:H e=none
 ob:∃oe vs,h.get? e=some oe/\oe.cls = .ref C/\oe.dict=some dx/\oe.data = .fields vs/\1<vs.size /\
  (vs[1]? = some .none\/∃T oT ts,vs[1]? = some (.ref T)/\n<=T/\H T=none/\T≠e/\h.get? T=some oT/\oT.data = .fields ts/\ts[3]? = some .none)
structure Noted (n:Nat) (H:Hp) (l:List Env) (h h':Heap) (e C dx:Addr):Prop where
 fl:Fly n H h' e C dx
 kl:∃ch:List Addr,(∀b∈ch,n<=b/\H b=none)/\∀b o,b ∉ ch->b ∉ K0 l->h.get? b=some o->h'.get? b=some o
 sl:∀b o,b∈K0 l->h.get? b=some o->∃sl,h'.get? b=some { o with slots:=sl }
 th:∀b o,h.get? b=some o->∃o',h'.get? b=some o'
def Noted.kp {n:Nat}{e C:Addr}(z:Noted n H l h h' e C dx) (b:Addr) (o:Obj) (c:b<n\/H b≠none) (nf:b ∉ K0 l) (q:h.get? b=some o):h'.get? b=some o:=by
 obtain⟨ch,U,Z⟩:=z.kl;refine Z b o (fun m=>?_) nf q;obtain⟨J,Y⟩:=U b m;rcases c with c | c
 .exact absurd c (Nat.not_lt.mpr J)
 .exact c Y
def KQ (f:Array Value->Array Value) (o:Obj):(Obj.mapFields f o).dict=o.dict:=by
 unfold Obj.mapFields;split <;> rfl
section
variable {M:Model}{L e C:Addr}{n0:Nat}{Q:Unit->Shared->Prop}
def zm {oe:Obj}{vs:vR_}(hfr:A.frames=some (env::outer)) (hl:s.heap.FunFrames base (env::outer)) (hf:env.frame=some L) (hb:n0<=s.heap.objs.size) (hH:∀a,s.heap.objs.size<=a->H a=none)
  (en:n0<=e) (eh:H e=none) (he:s.heap.get? e=some oe) (hc:oe.cls = .ref C) (hx:oe.dict=some dx) (hd:oe.data = .fields vs) (Z:1<vs.size)
  (h:∀h',Noted n0 H (env::outer) s.heap h' e C dx->(∀b o,b ∉ K0 (env::outer)->b≠e->s.heap.get? b=some o->h'.get? b=some o)->Q () { s with heap:=h' }) :
  wpAny M A (do let a <-frameOf env;let pl <-entryPlaceOf L hadNext;let b <-EntryCells.newEntry head a .none (rawInt L) .none pl;setField (.ref e) 1 b) (fun _ s'=>wpAny M A (setFlight (.ref e) none) Q E s') E s:=by
 have ne:e ∉ K0 (env::outer):=fun m=>by
  obtain⟨_,o,ho,U⟩:=hl.mem m;rw[he] at ho;cases ho;exact U vs hd
 refine gV (wpAny_frameOf_fun hfr hl hf fun h1 k1=>?_);refine gV (wpAny_entryPlaceOf fun pl hp=>?_);unfold EntryCells.newEntry newFields;refine gV (Nn ?_ (hp.sizeOk5 _ _ _ _ _));generalize eT:({ cls:=.type "traceback",dict:=none,data:=.fields ([head,.ref L,.none,rawInt L,.none]++(if pl.isEmpty then List.replicate 6 Value.none else pl)).toArray }:Obj)=oT;have dT:oT.data = .fields ([head,.ref L,.none,rawInt L,.none]++(if pl.isEmpty then List.replicate 6 Value.none else pl)).toArray:=by rw[<-eT]
 have e1:h1.get? e=some oe:=(k1.2.1 e ne).trans he;have Y:h1.objs.size≠e:=Nd (xu e1);have e2:=Mg oT e1;refine OL e2 hd Z ?_;have d3:=Pm hd (·.setIfInBounds 1 (Value.ref h1.objs.size));have e3:=NF (Obj.mapFields (·.setIfInBounds 1 (Value.ref h1.objs.size))) e2 (Qj d3);have t3:=(Nj (h1.push oT) (Obj.mapFields (·.setIfInBounds 1 (Value.ref h1.objs.size))) Y.symm).trans (MN h1 (by rw[<-eT];rfl));unfold setFlight;refine gV (Mr e3 d3 (x:=.ref h1.objs.size) (by simp[Z]) ?_);rw[iO (show (Value.ref h1.objs.size != Value.none)=true from by simp)];refine OL t3 dT (by simp only[Mv,MC,Mw,NQ];omega) ?_;generalize J:(((h1.push oT).update e (Obj.mapFields (·.setIfInBounds 1 (Value.ref h1.objs.size)))).update h1.objs.size (Obj.mapFields (·.setIfInBounds 3 ((none:vA_).elim Value.none fun f=>rawInt f))))=h4;have kp:∀b o,b≠e->h1.get? b=some o->h4.get? b=some o:=fun b o nb q=>by
  rw[<-J,Nj _ _ (Nd (xu q)),Nj _ _ (Mz nb)];exact Mg _ q
 have kq:∀b o,b ∉ K0 (env::outer)->b≠e->s.heap.get? b=some o->h4.get? b=some o:=fun b o U nb q=>kp b o nb ((k1.2.1 b U).trans q)
 have sT:h1.objs.size=s.heap.objs.size:=k1.1.symm▸rfl;have d5:=Pm dT (·.setIfInBounds 3 ((none:vA_).elim Value.none fun f=>rawInt f));refine h h4 #[#[en,eh,_,_,?_,?_,?_,d3,by simpa using Z,.inr #[h1.objs.size,_,_,by simp[Z],(by rw[sT];exact hb),hH _ (by rw[sT];exact tx _),Y,?_,d5,?_]],#[[e],fun b m=>by rw[Mq.mp m];exact#[en,eh],fun b o m U q=>kq b o U (fun y=>m (by simp[y])) q],fun b o m q=>?_,fun b o q=>?_] kq
 .rw[<-J,Nj _ _ Y];exact e3
 .rw[Obj.cls_mapFields];exact hc
 .rw[KQ];exact hx
 .rw[<-J];exact NF _ t3 (Qj d5)
 .rcases hp with rfl | ⟨_,_,_,_,_,_,_,rfl⟩ <;> simp
 .obtain⟨sl,q1⟩:=k1.2.2 b o q;exact#[sl,kp b _ (fun y=>ne (y▸m)) q1]
 .by_cases y:b=e
  .subst y;have ge:h4.get? b=some (Obj.mapFields (·.setIfInBounds 1 (Value.ref h1.objs.size)) oe):=by rw[<-J,Nj _ _ Y];exact e3
   exact#[_,ge]
  .obtain⟨sl,q1⟩:=k1.2.2 b o q;exact#[_,kp b _ y q1]
def sW (J:A.frames=some (env::outer)) (hl:s.heap.FunFrames base (env::outer)) (hf:env.frame=some L) (hb:n0<=s.heap.objs.size) (hH:∀a,s.heap.objs.size<=a->H a=none) (f:Fly n0 H s.heap e C dx)
  (h:∀h',Noted n0 H (env::outer) s.heap h' e C dx->Q () { s with heap:=h' }):wpAny M A (noteFrame (.ref e) env) (fun _ s'=>wpAny M A (setFlight (.ref e) none) Q E s') E s:=by
 obtain⟨en,eh,oe,vs,e1,e2,e3,Z,e5,z⟩:=f;unfold noteFrame;simp only[hf];rcases z with z | ⟨T,oT,ts,z1,z2,z3,z4,z5,z6,z7⟩
 .refine gV (Mr e1 Z z ?_);rw[iR #[]];exact zm J hl hf hb hH en eh e1 e2 e3 Z e5 fun h' n _=>h h' n
 .refine gV (Mr e1 Z z1 ?_);rw[iO (show (Value.ref T != Value.none)=true from by simp)];refine gV (Mr z5 z6 z7 ?_);rw[iR (show ¬ ((Value.none == rawInt L)=true) from by simp[rawInt])];refine gV (OL z5 z6 (RS.mp z7).1 ?_);have U:∀b,b≠T->(s.heap.update T (Obj.mapFields (·.setIfInBounds 3 Value.none))).get? b=s.heap.get? b:=fun b nb=>Nj _ _ (Mz nb)
  have nT:T ∉ K0 (env::outer):=fun m=>by
   obtain⟨_,o,ho,Y⟩:=hl.mem m;rw[z5] at ho;cases ho;exact Y ts z6
  have tT:=NF (Obj.mapFields (·.setIfInBounds 3 Value.none)) z5 (Qj (Pm z6 _));have sz:(s.heap.update T (Obj.mapFields (·.setIfInBounds 3 Value.none))).objs.size=s.heap.objs.size:=Heap.size_update _ _ _;refine zm (s:={ s with heap:=s.heap.update T (Obj.mapFields (·.setIfInBounds 3 Value.none)) }) J (hl.of_keeps fun b o q Y=>#[o,(U b fun y=>?_).trans q,rfl]) hf (by rw[sz];exact hb) (fun a q=>hH a (by rw[sz] at q;exact q)) en eh ((U e (Mz z4)).trans e1) e2 e3 Z e5 fun h' n kq=>h h' #[n.fl,#[[e,T],fun b m=>?_,fun b o m Y q=>kq b o Y (fun y=>m (by simp[y])) ((U b fun y=>m (by simp[y])).trans q)],fun b o m q=>n.sl b o m ((U b fun y=>nT (y▸m)).trans q),fun b o q=>?_]
  .rw[y,z5] at q;cases q;exact Y ts z6
  .rcases xo.mp m with rfl | m
   .exact#[en,eh]
   .rw[Mq.mp m];exact#[z2,z3]
  .by_cases y:b=T
   .subst y;exact n.th _ _ tT
   .exact n.th b o ((U b y).trans q)
end
end L2
namespace L2
open PySem PySem.W PySem.Spec PyProof.Rows
def aB (P:Program) (w:World):T7:=fun outer H0 s0 E ev s'=>∃e C dx H',ev = .ref e/\Fly s0.heap.objs.size H' s'.heap e C dx/\s'.os=s0.os/\AllBare s'.gens/\Un (K0 outer) [] H0 H' s0.heap s'.heap/\HOk P w H' s'.heap/\E (.ref C) (some dx) H'
def Fly.less {n:Nat}{e C:Addr}(f:Fly n H h e C dx) (l:m<=n):Fly m H h e C dx:=by
 obtain⟨U,Z,oe,vs,e1,e2,e3,e4,e5,z⟩:=f;refine#[Mm l U,Z,oe,vs,e1,e2,e3,e4,e5,z.imp id ?_];rintro⟨T,Y,ts,z1,J,z⟩;exact#[T,Y,ts,z1,Mm l J,z]
section
variable {e C:Addr}{n:Nat}
theorem Noted.hok (I:Inv X pins σ H s) (U:∀b∈K0 l,H b=none) (z:Noted n H l s.heap h' e C dx):HOk X.prog X.w H h':=fun b u q=>by
 refine(I.hok b u q).stay (fun c v J r=>z.kp c v (.inr ?_) (fun m=>?_) r) (fun _ r=>r) fun _ _ r=>r
 .rcases J with rfl | J
  .rw[q];simp
  .rw[J];simp
 .have:=U c m;rcases J with rfl | J
  .rw[q] at this;cases this
  .rw[J] at this;cases this
def Kg (I:Inv X pins σ H s) (hx:X.ex=[]) (hs:X.stack=X.env::X.outer) (z:Noted X.s₀.heap.objs.size H X.stack s.heap h' e C dx):Un X.fs [] X.H₀ H X.s₀.heap h':=by
 have J:=I.base;rw[hx] at J;have sub:∀b∈X.fs,b∈K0 X.stack:=fun b m=>by
  rw[hs];unfold K0;rw[Of];split
  .exact m
  .exact Mf _ m
 have Z:∀b o,X.s₀.heap.get? b=some o->b ∉ X.fs->b ∉ K0 X.stack:=fun b o q U m=>by
  rcases xo.mp (I.stkSub b m) with y | y
  .exact absurd (Mu (xu q) (by rw[y];exact I.ok.above)) (Ni _)
  .exact U y
 refine#[fun b o q m U Y=>z.kp b o (.inl (xu q)) (Z b o q U) (J.keep b o q m U Y),fun b o q m U Y=>?_,fun b o q m Y=>J.free b o q m Y,fun b o q Y=>?_,J.tups,J.frzs,J.tbls]
 .obtain⟨sl,r⟩:=J.slot b o q m U Y;obtain⟨sl2,r2⟩:=z.sl b _ (sub b U) r;exact#[sl2,r2]
 .obtain⟨o1,r⟩:=J.there b o q Y;exact z.th b o1 r
end
section
variable {P:Program}{w:World}{N:List Str}{f:Addr}{cd:Value}{s0:Shared}{H0:Hp}{E:XK}{e C:Addr}
def Lu (I:Inv (P5 (aB P w) P w K mg base N qual scope f cd A outer s0 H0 E) pins σ H s) (z:Fly s0.heap.objs.size H s.heap e C dx) (q:E (.ref C) (some dx) H):(P5 (aB P w) P w K mg base N qual scope f cd A outer s0 H0 E).xe (.ref e) s:=by
 show wpAny (model P w) (A.deeper (envOfC qual scope s0.heap.objs.size f cd)) (leaving (envOfC qual scope s0.heap.objs.size f cd) (.ref e)) _ _ s;unfold leaving;refine gV (sW (H:=H) (base:=base) (n0:=s0.heap.objs.size) I.ok.frames I.stack rfl I.sz (fun a l=>I.hok.fresh l) z fun h' y=>?_);exact#[e,C,dx,H,rfl,y.fl,I.os,I.bare,Kg I rfl rfl y,y.hok I I.stkFree,q]
end
section
variable {E:XK}{ev:Value}{e C:Addr}{n:Nat}
def Inv.noted {s1:Shared}{t':Nat}(I1:Inv X pins σ H1 s1) (I:Inv X pins σ H s) (z:Noted s1.heap.objs.size H X.stack s.heap h' e C dx):Inv X pins σ H { s with heap:=h',toks:=t' }:=by
 obtain⟨ch,J,c2⟩:=z.kl;refine I.call (g':=s.gens) (d':=s.drawn) (t':=t') (ch:=ch) #[fun b o q _ nf U=>c2 b o U nf q,fun b o q _ m _=>z.sl b o m q,fun _ _ _ m _=>m,fun b o q _=>z.th b o q,fun _ _ q=>q,fun _ _ _ q=>q,fun b ps q=>#[#v[],by simpa using q]] (z.hok I I.stkFree) I.bare fun b m=>?_
 obtain⟨_,Y,_,f4,Z,f6⟩:=I1.fpOk (H':=H) (J b m).1 (J b m).2;exact#[f4,Y,Z,f6]
def Inv.thrown (I:Inv X pins σ H s) (h:aB X.prog X.w X.stack H s E ev s'):∃e C dx H',ev = .ref e/\Inv X pins σ H' s'/\Fly s.heap.objs.size H' s'.heap e C dx/\E (.ref C) (some dx) H':=by
 obtain⟨e,C,dx,H',rfl,fl,os,ba,Z,J,q⟩:=h;obtain⟨Y,g,d,t,U⟩:=s';obtain rfl:U=s.os:=os;exact#[e,C,dx,H',rfl,I.call (h':=Y) (g':=g) (d':=d) (t':=t) (ch:=[]) Z J ba (fun b z=>absurd z (by simp)),fl,q]
end
section
variable {w:World}{C:Addr}
def Aq {x:Sem Value}{Q:Flow->Shared->Prop}{J:Obj}(lk:K.lookup C=some J) (Y:J.cls = .type "type") (f4:subIn K (.ref C) (.type "BaseException")=some true) (Z:A.handled=none)
  (h:wpAny (model prog w) A x (fun v s1=>∃e oe,v = .ref e/\K.In s1.heap/\s1.heap.get? e=some oe/\oe.cls = .ref C/\(∃t0,oe.data = .fields #v[.ref t0,.none,.none,.none,.bool false,.none])/\E (.ref e) s1) E s):wpAny (model prog w) A (raiseStmt env (some x) none) Q E s:=by
 unfold raiseStmt;refine gV (MG h (fun v s1 z=>?_) fun _ _ y=>y);obtain⟨e,⟨oc,od,dt,sl⟩,rfl,X,U,hc,⟨t0,hd⟩,hE⟩:=z;cases hc;cases hd;obtain⟨hp,g,d,tk,os⟩:=s1;have hC:=X _ _ lk;have L:=looks_subIn (M:=model prog w) X f4
 repeat (first | with_reducible refine NG U ?_ | with_reducible refine L.at ?_ | (with_reducible refine NG hC ?_;rw[Y]) | wp_step)
 exact wpAny_raiseNew_none Z hE
def HM {x:Expr}{pos:Pos}{Q:Flow->Shared->Prop}{J:Obj}(Z:K.lookup C=some J) (U:J.cls = .type "type") (f4:subIn K (.ref C) (.type "BaseException")=some true) (Y:A.handled=none)
  (h:wpAny (model prog w) A (eval x env) (fun v s1=>∃e oe,v = .ref e/\K.In s1.heap/\s1.heap.get? e=some oe/\oe.cls = .ref C/\(∃t0,oe.data = .fields #v[.ref t0,.none,.none,.none,.bool false,.none])/\E (.ref e) s1) E s):wpAny (model prog w) A (exec (.Raise (some x) none pos) env) Q E s:=by
 rw[arm_exec_Raise];simp only[evalOpt,Option.map];refine gV (OG (Aq (K:=K) (C:=C) Z U f4 Y ?_));refine gV (MG h (fun v s3 z=>?_) fun _ _ y=>y);exact gV (OG (iU z))
end
end L2
namespace DL
open PySem PySem.Spec L2
abbrev Rx:=Sum D (Str × List D)
abbrev J8:=List D->Option FS->Option (Rx × Option FS)
def qc (K:vF_) (N:vB_) (fa:vA_) (H:Hp) (c:Str) (es:vD_) (G:Addr->Addr->Prop):Prop:=∀C dx od xs,PySem.W.nsIn K mainGlobals c=some (some (.ref C))->H dx=some (.frz od (.xd (fnm.zip xs)))->Reps K N fa H es xs->G C dx
def Jz (K:vF_) (n:Nat) (m:J8):Sp:=fun vs H Q E=>∃(F:vB_) (fa:vA_) (ds:vD_) (fs:vO_) (r:Rx) (fs':vO_),
 (∀b,F b->H b≠none)/\(∀a,fa=some a->F a)/\Reps K F fa H ds vs/\FeedR F H fa fs/\m ds fs=some (r,fs')/\ds.length=n /\
  (∀d,r = .inl d->∀v H' fa',Stp fa [] H fa' [] H'->FeedR (fun b=>F b\/fa'=some b) H' fa' fs'->Rep K (fun b=>F b\/fa'=some b) fa' H' d v->Q v H') /\
  (∀c es,r = .inr (c,es)->∀H' fa',Stp fa [] H fa' [] H'->FeedR (fun b=>F b\/fa'=some b) H' fa' fs'->qc K (fun b=>F b\/fa'=some b) fa' H' c es fun C dx=>E (.ref C) (some dx) H')
abbrev yX (P:Program) (w:World) (K:vF_) (mg:vG_) (base:Heap) (k:Nat) (f:Addr) (fd:FuncData) (ps:List Str) (m:J8):Prop:=FnOk P w K mg base (aB P w) k f fd ps (Jz K ps.length m)
structure CalX (P:Program) (w:World) (K:vF_) (mg:vG_) (base:Heap) (k:Nat) (x:Str) (ps:List Str) (m:J8):Prop where
 ex:∃(f:Addr) (fd:FuncData),yX P w K mg base k f fd ps m/\mg x=some (.ref f)/\PySem.W.keepIn K (.ref f)=true/\Binds K fd ps []
def Z6 (n:Nat) (b:DM):J8:=fun ds fs=>(b #[ds.map .v++List.replicate (n - ds.length) .no,fs]).bind fun x=>match x.1 with
 |.ret d=>some (.inl d,x.2.fs)
 |.next=>some (.inl .non,x.2.fs)
 |.thr c es=>some (.inr (c,es),x.2.fs)
 |_=>none
structure Rz (X:Cx) (g:Gh):Prop where
 go:∀(pins:vP_) (σ:L2.St) (H H1:Hp) (s s1:Shared) (e C dx:Addr),Inv X pins σ H1 s1->Inv X pins σ H s->Fly s1.heap.objs.size H s.heap e C dx->g.xq σ (.ref C) (some dx) H->X.xe (.ref e) s
def Rz.pass {g:Gh}(R:Rz X g) (pins:vP_) (σ:L2.St) (H:Hp) (s:Shared) (ev:Value) (s':Shared) (I:Inv X pins σ H s) (h:aB X.prog X.w X.stack H s (g.xq σ) ev s'):X.xe ev s':=by
 obtain⟨e,C,dx,H',rfl,J,fl,q⟩:=I.thrown h;exact R.go pins σ H' H s' s e C dx I J fl q
section
variable {P:Program}{w:World}
def Fj {f:Addr}{N ps:List Str}{b:DM}(F:Fun K x qual st f fd) (S:FnScope N ps (B8 st))
  (U:∀(cdv:Value) (A:Around) (outer:List Env) (s:Shared) (H:Hp) (E:XK) (g:Gh),Rz (P5 (aB P w) P w K mg base N qual (B8 st) f cdv A outer s H E) g->Room k (A.deeper (PyProof.Rows.envOfC qual (B8 st) s.heap.objs.size f cdv)) ->
   SSO (P5 (aB P w) P w K mg base N qual (B8 st) f cdv A outer s H E) g (O6 st) b):yX P w K mg base (k+1) f fd ps (Z6 N.length b):=by
 obtain⟨oc,od,kV,doc,pm,an,cdv,ct,osl,rfl,lk,hcd⟩:=F.ex;refine rB lk hcd S (fun vs H Q E h=>?_) (fun A outer s H vs Q E hr h=>?_)
 .obtain⟨F,fa,ds,fs,d,fs',_,_,r,_,_,hl,_⟩:=h;rw[r.length];exact hl
 obtain⟨F,fa,ds,fs,rr,fs',tr,ff,r,fd,e,hl,q,qx⟩:=h;refine#[_,(U cdv A outer s H E #[F,H,fa,fun _=>E] #[fun pins σ H H1 s s1 e C dx Y I z y=>Lu I (z.less Y.sz) y] hr).pe,?_];refine A1 e fun fl s' h1 h2=>?_
 have hN:∀b,NN F fa [] b->F b:=fun b z=>by
  rcases z with z | z | z
  .exact z
  .cases z
  .exact ff b z
 have c:Car K F fa H (NN F fa []) fa H:=#[fun b xs n q=>#[q,fun z=>n (hN b z)],fun _ _ q=>q,fun _ _ q=>q,fun _ q=>q]
 have el:(L2.start N vs)=vs.map some++List.replicate (N.length - ds.length) none:=by rw[L2.start,r.length]
 have I:GI K #[F,H,fa,fun _=>E] (L2.start N vs) H fa [] #[ds.map .v++List.replicate (N.length - ds.length) .no,fs]:=by
  refine#[Qg,?_,fun b hb=>(by cases hb),Stp.refl,tr,ff,fd.car c fun _ _=>rfl,fun _ _ z=>(by cases z)];rw[el];exact ma (Reps.go c ds vs r)
 have Z:∀{fa':vA_}{O':vL_}{H':Hp},Car K (NN F fa' O') fa' H' (fun b=>F b\/fa'=some b) fa' H':=fun {fa' O' H'}=>#[fun b xs n q=>#[q,fun z=>n (by
   rcases z with z | z
   .exact .inl z
   .exact .inr (.inr z))],fun _ _ q=>q,fun _ _ q=>q,fun _ q=>q]
 have sc:∀{fa':vA_}{O':vL_}{H':Hp},Stp fa [] H fa' O' H'->Stp fa [] H fa' [] H':=fun J=>#[fun b hb=>(by cases hb),J.fe,J.same,J.mon]
 refine#[fa,[],_,fl,s',I,h1,?_];cases fl with
 |next=>
  simp only[MP,Ms] at h2;exact fun σ' H' fa' O' J Y=>q _ h2.1.symm .non H' fa' (sc J) (h2.2▸Y.fd.car Z fun _ _=>rfl) (by simp only[Rep])
 |ret dd=>
  simp only[MP,Ms] at h2;exact fun σ' v H' fa' O' J Y r1=>q _ h2.1.symm v H' fa' (sc J) (h2.2▸Y.fd.car Z fun _ _=>rfl) (Rep.go Z _ _ r1)
 |thr c es=>
  simp only[MP,Ms] at h2;exact fun σ' C dx od xs H' fa' O' J Y n1 n2 r1=>qx _ _ h2.1.symm H' fa' (sc J) (h2.2▸Y.fd.car Z fun _ _=>rfl) C dx od xs n1 n2 (Reps.go Z _ _ r1)
 |brk=>cases h2
 |cont=>cases h2
end
def X6 (c:Str) (t:DA):DM:=fun s=>(t s).map fun x=>(.thr c x.1,x.2)
section
variable {g:Gh}{p pos:Pos}{a b:Expr}{t:DA}
def DP {e C W fI:Addr}{mA:vG_}{U:Nat}{s0:DS}{O:vL_}{ps:List Str}(R:Rz X g) (xd:XD X.K C W fI ps body) (I:Inv X pins σ H s) (m:Mdn s.heap h' e dx C mA) (r:∀f,fu ((fnm.zip xs).lookup f) (mA f))
  (hn:PySem.W.nsIn X.K mainGlobals c=some (some (.ref C))) (G:GI X.K g σ H fa O s0) (rs:Reps X.K (NN g.F fa O) fa H ds xs)
  (q:∀C dx od xs H',StE fa O H fa O H'->GI X.K g σ H' fa O s0->PySem.W.nsIn X.K mainGlobals c=some (some (.ref C))->H' dx=some (.frz od (.xd (fnm.zip xs)))->Reps X.K (NN g.F fa O) fa H' ds xs->g.xq σ (.ref C) (some dx) H') :
  ∃e' oe,(Value.ref e:Value) = .ref e'/\X.K.In h'/\h'.get? e'=some oe/\oe.cls = .ref C/\(∃t0,oe.data = .fields #v[.ref t0,.none,.none,.none,.bool false,.none])/\X.xe (.ref e') { s with heap:=h',toks:=U }:=by
 obtain⟨o,Z,Y,⟨t0,e3⟩,e4⟩:=m.at_;obtain⟨od,es,ep,d1,d2⟩:=id m.ns;have n1:H e=none:=I.hok.fresh m.n1;have n2:H dx=none:=I.hok.fresh m.n2;have J:Inv X pins σ (k9 H dx (.frz od (.xd (fnm.zip xs)))) { s with heap:=h',toks:=U }:=by
  refine I.un #[fun b u q _ _ _=>m.kp b u q,fun b u q _ _ _=>#[u.slots,m.kp b u q],fun b u q n _=>?_,fun b u q _=>#[u,m.kp b u q],fun b ys q=>?_,fun b u v q=>?_,fun b ps q=>#[#v[],?_]] fun b u q=>?_
  .rw[t7 (sR q m.n2)];exact n
  .rw[t7 (O0 q n2)];exact q
  .rw[t7 (O0 q n2)];exact q
  .rw[t7 (O0 q n2)];simpa using q
  .by_cases h2:b=dx
   .subst h2;rw[C0] at q;cases q;exact#[d1,mA,m.ns,r]
   .rw[t7 h2] at q;exact(I.hok b u q).stay (fun c v _ z=>m.kp c v z) (fun c z=>by rw[t7 (O0 z n2)];exact z) fun c ys z=>by rw[t7 (O0 z n2)];exact z
 refine#[e,o,rfl,I.kIn.keeps m.kp,Z,Y,#[t0,e3],R.go pins σ _ _ _ _ e C dx I J #[m.n1,?_,o,_,Z,Y,e4,e3,(show 1<6 by decide),.inl rfl] (q C dx od xs _ (F4 n2) (G.new n2) hn C0 (rs.stp G (F4 n2).stp))];rw[t7 m.ne.symm];exact n1
def gU (R:Rz X g) (Rc:Rf2 X.K X.mg c) (hr:Room (k+1) X.A) (hc:X.calm=true) (hg:Gl X c) (ha:AO X g [a,b] t) (hl:∀s ds s',t s=some (ds,s')->ds.length=2) (Y:(c == ("__debug__" : Str))=false:=by decide)
  (Z:(backTo pos (starEach [b] X.env)).any (·.1)=false:=by rfl) (he:starEach [a,b] X.env=(false,eval a X.env)::starEach [b] X.env:=by rfl):SO X g (.Raise (some (.Call (.Name c p) [a,b] [] pos)) none pos') (X6 c t):=by
 refine#[fun pins s σ H Dd I h=>?_];obtain⟨C,W,fI,p1,p2,p3,p4,p5,p6,p7,p8,hm,hn,hk,U⟩:=Rc.ex;refine h.elim fun fa0 O s0 fl s1 G0 e0 q=>?_
 obtain⟨⟨ds,s2⟩,t1,t2⟩:=Qf.mp e0;cases t2;obtain⟨nm,q',N,bs,hdct,sn,sub,ab,col,dd,k0,k1,k2,k3,k5,lk⟩:=U.k1.ob;refine HM (K:=X.K) (C:=C) lk rfl U.k1.xc.f4 (I.ok.hd hc) ?_;refine NU (jP I hg hm ?_ Y);refine QL (h₀:=X.base) I.ok.mod.kin hk (u6 (ha.pe pos pins s σ H (fun vs H1=>∃f1 O1,StE fa0 O H f1 O1 H1/\GI X.K g σ H1 f1 O1 s2/\Reps X.K (NN g.F f1 O1) f1 H1 ds vs) I #[fa0,O,s0,ds,s2,G0,t1,fun vs H1 f1 O1 a1 a2 a3=>#[f1,O1,a1,a2,a3]]) fun us s3 ⟨vs,H1,J,rv,f1,O1,b1,b2,b3⟩=>#[J.kIn,?_]) he Z;have l1:=hl _ _ _ t1;have l2:=b3.length;have l3:=rv.length;obtain⟨x0,x1,rfl⟩:∃x0 x1,vs=[x0,x1]:=wG (by rw[l2,l1]);obtain⟨u0,u1,rfl⟩:∃u0 u1,us=[u0,u1]:=wG (by rw[<-l3];rfl);refine L2.mk2 U hr J.kIn J.nolimit fun h' tk e dx m=>?_
 exact DP (c:=c) R U J m (GZ rv) hn b2 b3 fun C dx od xs H' c1 c2 c3 c4 c5=>q σ C dx od xs H' f1 O1 (b1.trans c1).stp c2 c3 c4 c5
end
abbrev V8:=DS->Option (Rx × DS)
def yD (K:vF_) (g:Gh) (f:V8):TE:=fun σ H Q=>∃fa O s r s',GI K g σ H fa O s/\f s=some (r,s') /\
 (∀d,r = .inl d->∀v H' fa' O',StE fa O H fa' O' H'->GI K g σ H' fa' O' s'->Rep K (NN g.F fa' O') fa' H' d v->Q v H') /\
 (∀c es,r = .inr (c,es)->∀H' fa' O',StE fa O H fa' O' H'->GI K g σ H' fa' O' s'->qc K (NN g.F fa' O') fa' H' c es fun C dx=>g.xq σ (.ref C) (some dx) H')
structure XO (X:Cx) (g:Gh) (e:Expr) (f:V8):Prop where
 pe:PE X e (yD X.K g f)
def XO.w {g:Gh}{f:V8}{t:TE}(h:PE X e t) (k:∀σ H Q,yD X.K g f σ H Q->t σ H Q):XO X g e f:=#[fun pins s σ H Q I q=>h pins s σ H Q I (k σ H Q q)]
def bT (m:J8) (t:DA):V8:=fun s=>(t s).bind fun x=>(m x.1 x.2.fs).map fun y=>(y.1,{ x.2 with fs:=y.2 })
section
variable {g:Gh}{ps:List Str}{m:J8}{p pos:Pos}{t:DA}
def LY {E:L2.St->XK}{CX:T7}{f:Addr}{fd:FuncData}{sp:Sp}{ta:TA}(F:FnOk X.prog X.w X.K X.mg X.base CX k f fd ps sp) (hr:Room k X.A) (hg:Gl X x) (hm:X.mg x=some (.ref f)) (hk:PySem.W.keepIn X.K (.ref f)=true) (hb:Binds X.K fd ps [])
  (hx:∀(pins:vP_) (σ:L2.St) (H:Hp) (s:Shared) (e:Value) (s':Shared),Inv X pins σ H s->CX X.stack H s (E σ) e s'->X.xe e s')
  (ha:PA X (e::es) ta) (Z:(x == ("__debug__" : Str))=false:=by decide) (he:starEach (e::es) X.env=(false,eval e X.env)::starEach es X.env:=by rfl) (hpl:(backTo pos (starEach es X.env)).any (·.1)=false:=by rfl) :
  PE X (.Call (.Name x p) (e::es) [] pos) (fun σ H Q=>ta σ H fun vs H1=>sp vs H1 Q (E σ)):=by
 intro pins s σ H Q I h;refine NU (jP I hg hm ?_ Z);refine QL (h₀:=X.base) I.ok.mod.kin hk (u6 (ha pos pins s σ H _ I h) fun us s1 ⟨vs,H1,Y,r,q⟩=>#[Y.kIn,?_]) he hpl;have hl:(us++[]).length=ps.length:=by rw[MQ,<-r.length];exact F.len _ _ _ _ q
 have U:=hb s1 us Y.kIn hl;rw[MQ] at U;refine Pd (Pe (F.run X.A X.stack s1 H1 #[us,[]] us vs Q (E σ) hr Y.env0 U r q) fun rr s' J=>?_);cases rr with
 |error ev=>exact hx pins σ H1 s1 ev s' Y J
 |ok fl=>
  cases fl with
  |ret u=>exact Y.after J
  |next=>exact False.elim J
  |brk=>exact False.elim J
  |cont=>exact False.elim J
def nI (C:CalX X.prog X.w X.K X.mg X.base k x ps m) (R:Rz X g) (k':Nat) (hr:Room k' X.A) (hk:k<=k') (hg:Gl X x) (ha:AO X g (e::es) t) (hn:∀s ds s',t s=some (ds,s')->ds.length=ps.length)
  (hdb:(x == ("__debug__" : Str))=false:=by decide) (he:starEach (e::es) X.env=(false,eval e X.env)::starEach es X.env:=by rfl) (hpl:(backTo pos (starEach es X.env)).any (·.1)=false:=by rfl):XO X g (.Call (.Name x p) (e::es) [] pos) (bT m t):=by
 obtain⟨f,fd,F,hm,hkp,hb⟩:=C.ex;refine XO.w (LY F (hr.mono hk) hg hm hkp hb R.pass ha.pe hdb he hpl) fun σ H Q h=>?_
 obtain⟨fa,O,s,r,s',I,q,k1,k2⟩:=h;refine A1 q fun ds s1 h1 h2=>?_
 refine mapP h2 fun r1 fs1 h3 h4=>?_
 simp only[Ms] at h4;obtain⟨e1,e2⟩:=h4;subst e1;subst e2;refine#[fa,O,s,ds,s1,I,h1,fun vs H1 f1 O1 a1 Z r=>?_];have st:∀{J:vA_}{H2:Hp},Stp f1 [] H1 J [] H2->StE f1 O1 H1 J O1 H2:=fun U=>#[fun b hb=>hb,U.fe,fun b u e n=>U.same b u e (by simp) n,U.mon]
 have c2:∀{J:vA_}{H2:Hp},Car X.K (fun b=>NN g.F f1 O1 b\/J=some b) J H2 (NN g.F J O1) J H2:=fun {J H2}=>#[fun b xs n q=>#[q,fun z=>n (by
   rcases z with z | z | z
   .exact .inl (.inl z)
   .exact .inl (.inr (.inl z))
   .exact .inr z)],fun _ _ q=>q,fun _ _ q=>q,fun _ q=>q]
 have gi:∀{J:vA_}{H2:Hp},Stp f1 [] H1 J [] H2->FeedR (fun b=>NN g.F f1 O1 b\/J=some b) H2 J fs1->GI X.K g σ H2 J O1 { s1 with fs:=fs1 }:=fun {J H2} U Y=>by
  have a3:=st U;refine#[Z.nd,SlR.go (Z.car a3.stp) (fun b xs hb e=>?_) Z.sl,Z.fr,Z.st.trans #[fun b hb=>(by cases hb),U.fe,fun b u e n z=>U.same b u e n z,U.mon],Z.tr,Z.ff,Y.car c2 fun _ _=>rfl,Z.nf_step a3.fe];exact a3.same b _ e fun z=>Z.nf b z hb
 exact#[NN g.F f1 O1,f1,ds,s1.fs,r1,fs1,fun b hb=>Z.nn_tracked hb,fun a ha=>.inr (.inr ha),r,Z.fd,h3,hn s ds s1 h1,fun d ed v H2 J U Y r2=>k1 d ed v H2 J O1 (a1.trans (st U)) (gi U Y) (Rep.go c2 _ _ r2),
  fun c es ec H2 J U Y C dx od xs n1 n2 r2=>k2 c es ec H2 J O1 (a1.trans (st U)) (gi U Y) C dx od xs n1 n2 (Reps.go c2 _ _ r2)]
def eP (f:V8):DM:=fun s=>(f s).map fun x=>match x.1 with
 |.inl d=>(.ret d,x.2)
 |.inr (c,es)=>(.thr c es,x.2)
def sr {f:V8}(he:XO X g e f):SO X g (.Return (some e) pos) (eP f):=SO.w (yJ he.pe) fun E σ H hQ=>by
 refine hQ.elim fun fa O s fl s' I q k=>?_
 refine mapP q fun r s1 h1 h2=>?_
 refine#[fa,O,s,r,s1,I,h1,fun d ed v H' f1 O1 Y J U=>?_,fun c es ec H' f1 O1 Y J C dx od xs n1 Z U=>?_]
 .subst ed;cases h2;exact k σ v H' f1 O1 Y.stp J U
 .subst ec;cases h2;exact k σ C dx od xs H' f1 O1 Y.stp J n1 Z U
def ik (f:V8) (t:D->DS->Option DS):DM:=fun s=>(f s).bind fun x=>match x.1 with
 |.inl d=>(t d x.2).map fun s'=>(.next,s')
 |.inr (c,es)=>some (.thr c es,x.2)
def Il {f:V8}{i:Nat}{x:Str}{pos':Pos}(hN:X.N.Nodup) (hi:X.N[i]? = some x) (hx:Z4 X.env.scope x) (he:XO X g e f) (hs:swapsWith e (some (.Name x pos')) pos.line X.env=pure false:=by rfl) (Z:X.fn x=true\/X.env.scope.names.lookup x=some .local:=by first | exact .inl rfl | exact .inr rfl | assumption) :
  SO X g (.Assign [.Name x pos'] e pos) (ik f (d8 i)):=SO.w (oN hN hi hx he.pe hs Z) fun E σ H hQ=>by
 refine hQ.elim fun fa O s fl s' I q k=>?_
 refine A1 q fun r s1 h1 h2=>?_
 refine#[fa,O,s,r,s1,I,h1,fun d ed v H' f1 O1 Y J U=>?_,fun c es ec H' f1 O1 Y J C dx od xs n1 n2 U=>?_]
 .subst ed;cases h2;obtain⟨P,sub,I'⟩:=J.put i U;exact k _ H' f1 P (Y.stp.trans (gQ sub).stp) I'
 .subst ec;cases h2;exact k σ C dx od xs H' f1 O1 Y.stp J n1 n2 U
end
end DL
namespace L2
open PySem PySem.W PySem.Spec PyProof.Rows
section
variable {w:World}{g:Array GenState}{d:Drawn}{t:Nat}{e C C':Addr}{oe:Obj}{b:Bool}{Q:Bool->Shared->Prop}
def JC {sl:vS_}(X:K.In h) (Y:h.get? e=some oe) (hc:oe.cls = .ref C) (lk:K.lookup C'=some #[.type "type",od,.cls cd,sl]) (f4:subIn K (.ref C') (.type "BaseException")=some true) (U:subIn K (.ref C) (.ref C')=some b) (z:Q b #[h,g,d,t,os]) :
  wpAny (model prog w) A (excMatches (.ref e) (.ref C')) Q E #[h,g,d,t,os]:=by
 have J:=X _ _ lk;have L2:=looks_subIn (M:=model prog w) X f4;have L3:=looks_subIn (M:=model prog w) X U;have Z:isSubtype (.type "type") (.type "tuple")=pure false:=tc_notTuple;unfold excMatches isInstance
 repeat (any_goals (first | assumption | with_reducible refine NG J ?_ | with_reducible refine L2.at ?_ | with_reducible refine L3.at ?_ | (with_reducible refine NG Y ?_;rw[hc]) | wp_step))
 cases b <;> (repeat (any_goals (first | assumption | wp_step)))
end
section
variable {M:Model}{s1:Shared}{e C:Addr}{Q:Unit->Shared->Prop}
def EA (I1:Inv X pins σ H1 s1) (I:Inv X pins σ H s) (f:Fly s1.heap.objs.size H s.heap e C dx) (z:∀h',Inv X pins σ H { s with heap:=h' }->(∀o,s.heap.get? e=some o->h'.get? e=some o)->Q () { s with heap:=h' }):wpAny M A (setFlight (.ref e) none) Q E s:=by
 obtain⟨en,eh,oe,vs,U,e2,e3,J,e5,y⟩:=f;unfold setFlight;rcases y with y | ⟨T,oT,ts,z1,z2,z3,z4,z5,z6,z7⟩
 .refine gV (Mr U J y ?_);rw[iR #[]];exact iU (z s.heap I fun o q=>q)
 .refine gV (Mr U J z1 ?_);rw[iO (show (Value.ref T != Value.none)=true from by simp)];refine OL z5 z6 (RS.mp z7).1 (z _ ?_ fun o q=>(Nj _ _ z4).trans q);obtain⟨f1,Y,f3,f4,Z,f6⟩:=I1.fpOk (H':=H) z2 z3;exact I.turned (t':=s.toks) (it:=T) (fun b o nb q=>(Nj _ _ (Mz nb)).trans q) z3 Y f4 Z f6
end
abbrev Cx.tr (X:Cx) (pn:vP_) (xe:vQ_):Cx:={ X with pn:=pn,xe:=xe }
abbrev Cx.hd (X:Cx) (e:Addr):Cx:={ X with A:=X.A.mark (some (.ref e)),calm:=false,xe:=fun _ _=>False }
section
variable {pins':vP_}{xe:vQ_}{e:Addr}
theorem Cx.Ok.tr {U:vP_}(J:X.Ok):(X.tr U xe).Ok:=#[J.mod,J.kind,J.glob,J.blt,J.above,J.inj,J.has,J.cab,J.hd,J.frames,J.stk,J.exf,J.bs,J.bsz,J.noex,J.exfs,J.funs,J.frf]
def Cx.Ok.untr {U:vP_}(J:(X.tr U xe).Ok):X.Ok:=#[J.mod,J.kind,J.glob,J.blt,J.above,J.inj,J.has,J.cab,J.hd,J.frames,J.stk,J.exf,J.bs,J.bsz,J.noex,J.exfs,J.funs,J.frf]
theorem Inv.tr (I:Inv X pins σ H s):Inv (X.tr (X.pn++pins) xe) [] σ H s:=#[I.ok.tr,I.os,I.bare,I.base,I.loc,I.cell,I.free,I.freeC,fun p J=>I.pin p (by simpa using J),I.hok,I.len]
theorem Inv.untr (I:Inv (X.tr (X.pn++pins) xe) pins' σ H s):Inv X pins σ H s:=#[I.ok.untr,I.os,I.bare,I.base,I.loc,I.cell,I.free,I.freeC,fun p J=>I.pin p (MX _ J),I.hok,I.len]
def Cx.Ok.hd' (J:X.Ok):(X.hd e).Ok:=#[J.mod,J.kind,J.glob,J.blt,J.above,J.inj,J.has,J.cab,(fun z=>by cases z),J.frames,J.stk,J.exf,J.bs,J.bsz,J.noex,J.exfs,J.funs,J.frf]
theorem Inv.hd (I:Inv X pins σ H s):Inv (X.hd e) pins σ H s:=#[I.ok.hd',I.os,I.bare,I.base,I.loc,I.cell,I.free,I.freeC,I.pin,I.hok,I.len]
def Inv.unhd (J:X.Ok) (I:Inv (X.hd e) pins σ H s):Inv X pins σ H s:=#[J,I.os,I.bare,I.base,I.loc,I.cell,I.free,I.freeC,I.pin,I.hok,I.len]
theorem SP.unhd {D:Ends}{f:Flow}(J:X.Ok) (h:SP (X.hd e) pins D f s'):SP X pins D f s':=by
 cases f with
 |next=>obtain⟨σ',H',I,q⟩:=h;exact#[σ',H',I.unhd J,q]
 |brk=>obtain⟨σ',H',I,q⟩:=h;exact#[σ',H',I.unhd J,q]
 |cont=>obtain⟨σ',H',I,q⟩:=h;exact#[σ',H',I.unhd J,q]
 |ret u=>obtain⟨v,σ',H',I,r,q⟩:=h;exact#[v,σ',H',I.unhd J,r,q]
theorem SP.untr {D:Ends}{f:Flow}(h:SP (X.tr (X.pn++pins) xe) pins' D f s'):SP X pins D f s':=by
 cases f with
 |next=>obtain⟨σ',H',I,q⟩:=h;exact#[σ',H',I.untr,q]
 |brk=>obtain⟨σ',H',I,q⟩:=h;exact#[σ',H',I.untr,q]
 |cont=>obtain⟨σ',H',I,q⟩:=h;exact#[σ',H',I.untr,q]
 |ret u=>obtain⟨v,σ',H',I,r,q⟩:=h;exact#[v,σ',H',I.untr,r,q]
end
end L2
namespace DL
open PySem PySem.Spec L2
structure Ck (K:vF_) (mg:vG_) (cs:List Str) (cn:Str):Prop where
 ex:∃C' od cd sl,mg cn=some (.ref C')/\K.lookup C'=some #[.type "type",od,.cls cd,sl]/\PySem.W.subIn K (.ref C') (.type "BaseException")=some true/\∀c∈cs,∃C,PySem.W.nsIn K mainGlobals c=some (some (.ref C))/\PySem.W.subIn K (.ref C) (.ref C')=some true
def df (cs:List Str) (b h:DM):DM:=fun s=>(b s).bind fun x=>match x.1 with
 |.thr c _=>if cs.contains c=true then h x.2 else none
 |fl=>some (fl,x.2)
section
variable {g:Gh}{cn:Str}{p pos:Pos}{b0:Stmt}{suite:List Stmt}{b h:DM}
def Hf {O:vL_}{s0:DS}(Z:∀(pn:vP_) (xe:vQ_) (g1:Gh),Rz (X.tr pn xe) g1->g1.F=g.F->g1.H0=g.H0->g1.fa0=g.fa0->SSO (X.tr pn xe) g1 body b) (I:Inv X pins σ H s) (G:GI X.K g σ H fa O s0)
  (e:b s0=some (fl,s1)) (U:∀c ds,fl ≠ .thr c ds) (k:FlK X.K g Dn fa O H fl s1):wpAny (model X.prog X.w) X.A (exec (.Try body [hs] [] [] pos) X.env) (SP X pins Dn) X.xe s:=by
 have Y:Rz (X.tr (X.pn++pins) fun _ _=>False) #[g.F,g.H0,g.fa0,fun _=>E0]:=#[fun pins' σ' H' H1 s' s1 e C dx J1 J fl q=>q]
 have B:=(Z (X.pn++pins) (fun _ _=>False) #[g.F,g.H0,g.fa0,fun _=>E0] Y rfl rfl rfl).pe [] s σ H Dn I.tr #[fa,O,s0,fl,s1,G,e,by
  cases fl with
  |thr c ds=>exact absurd rfl (U c ds)
  |next=>exact k
  |brk=>exact k
  |cont=>exact k
  |ret d=>exact k]
 refine wpAny_Try_except (MG B (fun f s' z=>?_) fun ev s' z=>z.elim);have z:=z.untr;cases f with
 |next=>exact OF z
 |brk=>exact z
 |cont=>exact z
 |ret u=>exact z
def HC {O:vL_}{s0:DS}(hb:∀(pn:vP_) (xe:vQ_) (g1:Gh),Rz (X.tr pn xe) g1->g1.F=g.F->g1.H0=g.H0->g1.fa0=g.fa0->SSO (X.tr pn xe) g1 body b) (hs:X.stack=X.env::X.outer) (hf:X.env.frame=some X.env.locals)
  (I:Inv X pins σ H s) (G:GI X.K g σ H fa O s0) (e:b s0=some (.thr c ds,s1))
  (z:∀(e C dx:Addr) (σ':L2.St) (H' H1:Hp) (sa sb:Shared) (od:Obj) (xs:List V) (fa':vA_) (O':vL_),Inv X pins σ' H1 sa->Inv X pins σ' H' sb->Fly sa.heap.objs.size H' sb.heap e C dx->Stp fa O H fa' O' H'->GI X.K g σ' H' fa' O' s1->PySem.W.nsIn X.K mainGlobals c=some (some (.ref C)) ->
   H' dx=some (.frz od (.xd (fnm.zip xs)))->Reps X.K (NN g.F fa' O') fa' H' ds xs->wpAny (model X.prog X.w) X.A (handleBy (.ref e) X.env [hn]) (SP X pins Dn) X.xe sb) :
  wpAny (model X.prog X.w) X.A (exec (.Try body [hn] [] [] pos) X.env) (SP X pins Dn) X.xe s:=by
 generalize Y:(fun (σ':L2.St) (cv:Value) (odx:vA_) (H':Hp)=>∃C dx od xs fa' O',cv = .ref C/\odx=some dx/\Stp fa O H fa' O' H'/\GI X.K g σ' H' fa' O' s1/\PySem.W.nsIn X.K mainGlobals c=some (some (.ref C))/\H' dx=some (.frz od (.xd (fnm.zip xs)))/\Reps X.K (NN g.F fa' O') fa' H' ds xs)=xq;generalize U:(fun (ev:Value) (s':Shared)=>∃e C dx σ' H' H1 sa,ev = .ref e/\Inv X pins σ' H1 sa/\Inv X pins σ' H' s'/\Fly sa.heap.objs.size H' s'.heap e C dx/\xq σ' (.ref C) (some dx) H')=xe;have R1:Rz (X.tr (X.pn++pins) xe) #[g.F,g.H0,g.fa0,xq]:=#[fun pins' σ' H' H1 s' sa e C dx Z J fl q=>by
  show xe _ _;rw[<-U];exact#[e,C,dx,σ',H',H1,sa,rfl,Z.untr,J.untr,fl,q]]
 have B:=(hb (X.pn++pins) xe #[g.F,g.H0,g.fa0,xq] R1 rfl rfl rfl).pe [] s σ H #[fun _ _=>False,fun _ _=>False,fun _ _=>False,fun _ _=>False] I.tr #[fa,O,s0,_,s1,G,e,fun σ' C dx od xs H' fa' O' a1 I1 n1 n2 r1=>by
  show xq _ _ _ _;rw[<-Y];exact#[C,dx,od,xs,fa',O',rfl,rfl,a1,I1,n1,n2,r1]]
 refine wpAny_Try_except (MG B (fun f s' y=>?_) fun ev s' y=>?_)
 .cases f with
  |next=>obtain⟨_,_,_,q⟩:=y;exact q.elim
  |brk=>obtain⟨_,_,_,q⟩:=y;exact q.elim
  |cont=>obtain⟨_,_,_,q⟩:=y;exact q.elim
  |ret u=>obtain⟨_,_,_,_,_,q⟩:=y;exact q.elim
 .have y:xe ev s':=y;rw[<-U] at y;obtain⟨e,C,dx,σ',H',H1,sa,rfl,Z,J,fl,q⟩:=y;rw[<-Y] at q;obtain⟨C2,dx2,od,xs,fa',O',q1,q2,a1,I1,n1,n2,r1⟩:=q;cases q1;cases q2;obtain⟨oe,vs,g1,_⟩:=id fl.ob;have sz:sa.heap.objs.size<=s'.heap.objs.size:=Mm fl.en (NI (xu g1));refine sW (H:=H') (base:=X.base) (n0:=sa.heap.objs.size) (outer:=X.outer) (by rw[J.ok.frames,hs]) (by have:=J.stack;rw[hs] at this;exact this) hf sz (fun a l=>J.hok.fresh l) fl fun h' y=>?_
  have y':Noted sa.heap.objs.size H' X.stack s'.heap h' e C dx:=by rw[hs];exact y
  exact z e C dx σ' H' H1 sa { s' with heap:=h' } od xs fa' O' Z (Z.noted (t':=s'.toks) J y') y.fl a1 I1 n1 n2 r1
def ER {nm:Option Str}{pins:vP_}{H:Hp}{s:Shared}{e C dx:Addr}{c:Str}{n:Nat}{Q:Flow->Shared->Prop}(K1:Ck X.K X.mg cs cn) (Y:c∈cs) (U:Gl X cn) (I:Inv X pins σ H s) (f:Fly n H s.heap e C dx) (hn:PySem.W.nsIn X.K mainGlobals c=some (some (.ref C)))
  (z:codeAny (model X.prog X.w) (X.A.mark (some (.ref e))) (.handlers (.ref e) [.ExceptHandler none nm (b0::suite) pos'] X.env) (fun r s2=>match r with
     |.ok fl=>(match nm with
      |none=>Q fl s2
      |some x=>wpAny (model X.prog X.w) X.A (do bindName X.env x .none;unbindBehindTheSuite X.env x pos') (fun _ s3=>Q fl s3) X.xe s2)
     |.error _=>False) s) (hd:(cn == ("__debug__" : Str))=false:=by decide) :
  wpAny (model X.prog X.w) X.A (handleBy (.ref e) X.env [.ExceptHandler (some (.Name cn p)) nm (b0::suite) pos']) Q X.xe s:=by
 obtain⟨C',od,cd,sl,hm,lk,f4,J⟩:=K1.ex;obtain⟨C2,m1,m2⟩:=J c Y;rw[hn] at m1;cases m1;obtain⟨oe,vs,Z,g2,_⟩:=id f.ob;refine wpAny_handleBy_cons (codeAny_handlers_test ?_) (by intro q;cases q);refine jP (X:=X.hd e) (I.hd (e:=e)) U hm ?_ hd;obtain⟨hh,gg,d0,tt,oo⟩:=s;refine JC I.kIn Z g2 lk f4 m2 ?_;refine Pe z fun r s2 y=>?_
 cases r with
 |error x=>exact y.elim
 |ok fl=>exact y
def EB (hb:∀(pn:vP_) (xe:vQ_) (g1:Gh),Rz (X.tr pn xe) g1->g1.F=g.F->g1.H0=g.H0->g1.fa0=g.fa0->SSO (X.tr pn xe) g1 body b) (hh:∀e:Addr,SSO (X.hd e) g (b0::suite) h) (K1:Ck X.K X.mg cs cn) (hg:Gl X cn) (hs:X.stack=X.env::X.outer:=by rfl) (hf:X.env.frame=some X.env.locals:=by rfl)
  (hd:(cn == ("__debug__" : Str))=false:=by decide):SO X g (.Try body [.ExceptHandler (some (.Name cn p)) none (b0::suite) pos'] [] [] pos) (df cs b h):=by
 refine#[fun pins s σ H Dn I q=>?_];refine q.elim fun fa O s0 fl s1 G e0 k=>?_
 refine A1 e0 fun U sb h1 h2=>?_
 by_cases Y:∀c ds,U ≠ .thr c ds
 .refine Hf hb I G h1 Y ?_;cases U with
  |thr c ds=>exact absurd rfl (Y c ds)
  |next=>cases h2;exact k
  |brk=>cases h2;exact k
  |cont=>cases h2;exact k
  |ret d=>cases h2;exact k
 .cases U with
  |thr c ds=>
   have h2:(if cs.contains c=true then h sb else none)=some (fl,s1):=h2;by_cases Z:cs.contains c=true
   .rw[iO Z] at h2;refine HC hb hs hf I G h1 fun e C dx σ' H' H1 sa sb' od xs fa' O' J1 J fl a1 I1 n1 n2 r1=>?_
    refine ER (cs:=cs) K1 (by simpa using Z) hg J fl n1 (codeAny_handlers_suite (MG (EA (E:=fun _ _=>False) J1 J fl fun h' J2 _=>?_) (fun _ _ y=>y) fun _ _ y=>y.elim)) hd;refine MG ((hh e).pe pins _ σ' H' Dn (J2.hd (e:=e)) #[fa',O',sb,_,s1,I1,h2,k.shift a1]) (fun f s3 y=>y.unhd J.ok) fun _ _ y=>y.elim
   .rw[iR Z] at h2;cases h2
  |next=>exact absurd (fun c ds z=>by cases z) Y
  |brk=>exact absurd (fun c ds z=>by cases z) Y
  |cont=>exact absurd (fun c ds z=>by cases z) Y
  |ret d=>exact absurd (fun c ds z=>by cases z) Y
end
section
variable {g:Gh}{a:Expr}{p pos:Pos}{fa:DE}{cs':List Str}
def gZ (f:V8):V8:=fun s=>(f s).bind fun x=>match x.1 with
 |.inl (.bl a)=>some (.inl (.bl (a == true)),x.2)
 |.inl _=>none
 |.inr t=>some (.inr t,x.2)
def zR {f:V8}{j:Option String}{p2:Pos}(he:XO X g e f) (hc:EO X g a (dC (.bl true))) (hm:behindInMarks .Is a=false):XO X g (.Compare e [.Is] [a] pos) (gZ f):=XO.w (mJ Jm he.pe hc.pe hm) fun σ H Q h=>by
 obtain⟨fa,O,s,r,s',I,q,k1,k2⟩:=h;refine A1 q fun r1 s1 h1 h2=>?_
 refine#[fa,O,s,r1,s1,I,h1,fun d ed v H' f1 O1 Y U J=>?_,fun c es ec H' f1 O1 Y U C dx od xs n1 n2 J=>?_]
 .subst ed;cases d with
  |bl a=>
   cases h2;simp only[Rep] at J;subst J;refine#[f1,O1,s1,_,s1,U,rfl,fun u H2 f2 O2 a2 I2 Z=>?_];simp only[Rep] at Z;subst Z;exact#[a,true,rfl,rfl,k1 _ rfl _ H2 f2 O2 (Y.trans a2) I2 (by simp only[Rep])]
  |_=>cases h2
 .subst ec;cases h2;exact k2 c es rfl H' f1 O1 Y U C dx od xs n1 n2 J
end
section
variable {n:Str}{f:Addr}
def nQ {w:World}{N ps:List Str}{b:DM}(F:GF K mg n st f fd) (q:∀(kV doc pm:Value) (an:vA_) (cdv ct:Value) (us:vV_),us.length=ps.length->bindArgs (PySem.W.fnOf n n (X8 st) (O6 st) (B8 st) .none kV doc pm an cdv ct) #[us,[]]=pure (ps.zip us)) (S:FnScope N ps (B8 st))
  (J:∀(cdv:Value) (A:Around) (outer:List Env) (s:Shared) (H:Hp) (E:XK) (g:Gh),Rz (P5 (aB P w) P w K mg base N n (B8 st) f cdv A outer s H E) g->Room k (A.deeper (PyProof.Rows.envOfC n (B8 st) s.heap.objs.size f cdv)) ->
   SSO (P5 (aB P w) P w K mg base N n (B8 st) f cdv A outer s H E) g (O6 st) b):CalX P w K mg base (k+1) n ps (Z6 N.length b):=#[f,fd,Fj F.F S J,F.m,F.F.kp,F.F.binds q]
def ck_mk (X:K.In h) (G:h.Ns mainGlobals mg) {sl:vS_}(a:PySem.W.nsIn K mainGlobals cn=some (some (.ref C'))) (U:K.lookup C'=some #[.type "type",od,.cls cd,sl]) (J:PySem.W.subIn K (.ref C') (.type "BaseException")=some true)
  (m:∀c∈cs,∃C,PySem.W.nsIn K mainGlobals c=some (some (.ref C))/\PySem.W.subIn K (.ref C) (.ref C')=some true):Ck K mg cs cn:=#[C',od,cd,sl,Ri X G a,U,J,m]
def sub_mk (a:PySem.W.nsIn K mainGlobals c=some (some (.ref C))) (k:PySem.W.subIn K (.ref C) (.ref C')=some true):∃C,PySem.W.nsIn K mainGlobals c=some (some (.ref C))/\PySem.W.subIn K (.ref C) (.ref C')=some true:=#[C,a,k]
end
def B2 {f:Addr}{w:World}{ps:List Str}{b:DM}(U:List Str) (F:GF K mg n st f fd) (q:∀(kV doc pm:Value) (an:vA_) (cdv ct:Value) (us:vV_),us.length=ps.length->bindArgs (PySem.W.fnOf n n (X8 st) (O6 st) (B8 st) .none kV doc pm an cdv ct) #[us,[]]=pure (ps.zip us)) (S:FnScope (ps++U) ps (B8 st))
  (J:(ps++U).Nodup->∀(cdv:Value) (A:Around) (outer:List Env) (s:Shared) (H:Hp) (E:XK) (g:Gh),Room k (A.deeper (PyProof.Rows.envOfC n (B8 st) s.heap.objs.size f cdv))->SSO (P5 W3 P w K mg base (ps++U) n (B8 st) f cdv A outer s H E).nox g (O6 st) b) :
  Cal P w K mg base (k+1) n ps (w8 (ps++U).length b):=wV F q S (J S.nd)
end DL
namespace T
open PySem PySem.Spec L2 DL
abbrev Ld:DM:=(d6 (j4 (a9 C9 (dL 2) (dL 3)) (d8 4)) (d6 (j4 (dV 3) (d8 2)) (j4 (dV 4) (d8 3))))
def jY:DM:=(d6 (j4 (j6 (one Y5) (a7 (dL 0) b9)) (d8 2)) (d6 (j4 (j6 (one Y5) (a7 (dL 1) b9)) (d8 3)) (d6 (U2 (dB (a9 A2 (dL 3) (Sj 0))) (Ld)) (i8 (dV 2)))))
def R4:c8:=w8 5 (jY)
abbrev gm (m0k:c8):DM:=(j4 (d7 m0k (a7 (dV 1) (a7 (dV 2) b9))) (d8 1))
def iW (J:c8):DM:=(d6 (j4 (Sj 0) (d8 1)) (d6 (G5 (dV 0) (d8 2) (gm J)) (i8 (dV 1))))
def aj (J:c8):c8:=w8 3 (iW J)
def nU (J:c8):DM:=(d6 (j4 (d7 J (a7 (dV 0) b9)) (d8 1)) (d6 (j7 (dB (a9 (n8 (fun i j=>decide (i<j))) (a9 d9 (dL 0) (k6 o8 (Sj 1))) (Sj 0))) (j4 (k6 o8 (dL 1)) (d8 1)) j8) (i8 (j6 (one U3) (a7 (l5 (K9 [1] (T6 (dV 0)) F6 (a9 N7 (dL 0) (dL 1)))) b9)))))
def zi (J:c8):c8:=w8 2 (nU J)
def mv:DM:=(i8 (v7 (k6 (F7 "int") (dL 0)) (A5 (k6 (F7 "bool") (dL 0)))))
def br:c8:=w8 1 (mv)
def fj (U:c8) (J:c8):DM:=(d6 (j7 (u4 (t9 (o6 (k6 (F7 "tuple") (dL 0)))) (dB (a9 A2 (j6 (one j9) (a7 (dL 0) b9)) (dL 1)))) (i8 (dC (.bl false))) j8) (d6 (j7 (t9 (o6 (j6 (one fW) (a7 (l5 (K9 [] (T6 (dV 0)) F6 (d7 J (a7 (dV 0) b9)))) b9)))) (i8 (dC (.bl false))) j8) (i8 (v7 (a9 (n8 (fun i j=>decide (j<=i))) (a9 d9 (dL 0) (k6 o8 (Sj 1))) (Sj 1)) (a9 J6 (d7 U (a7 (dV 0) b9)) (Sj 1))))))
def qm (U:c8) (J:c8):c8:=w8 2 (fj U J)
def jX (J:c8):DM:=(i8 (d7 J (a7 (dV 0) (a7 (Sj 3) b9))))
def yL (J:c8):c8:=w8 1 (jX J)
def dM:DM:=(d6 (j7 (dB (a9 (n8 (fun i j=>decide (j<i))) (dL 0) (Sj 0))) (i8 (Sj 1)) j8) (d6 (j7 (dB (a9 (n8 (fun i j=>decide (i<j))) (dL 0) (Sj 0))) (i8 (k6 o8 (Sj 1))) j8) (i8 (Sj 0))))
def iJ:c8:=w8 1 (dM)
def jd (J:c8):DM:=(d6 (j4 (a9 o7 (Sk 0 0) (a9 o9 (a9 o7 (Sk 1 1) (Sk 2 2)) (a9 o7 (Sk 2 1) (Sk 1 2)))) (d8 3)) (d6 (j4 (a9 o9 (dL 3) (a9 o7 (Sk 0 1) (a9 o9 (a9 o7 (Sk 1 0) (Sk 2 2)) (a9 o7 (Sk 2 0) (Sk 1 2))))) (d8 3)) (d6 (j4 (a9 j5 (dL 3) (a9 o7 (Sk 0 2) (a9 o9 (a9 o7 (Sk 1 0) (Sk 2 1)) (a9 o7 (Sk 2 0) (Sk 1 1))))) (d8 3)) (i8 (d7 J (a7 (dV 3) b9))))))
def qy (J:c8):c8:=w8 4 (jd J)
def bM:DM:=(d6 (j7 (o6 (dL 1)) (i8 (l5 (S0 bp (a7 (dL 0) (a7 (a9 j5 (D2 (dL 0) (E7 (Sj 1)) E6) (D2 (dL 0) E6 (E7 (Sj 1)))) b9))))) j8) (i8 (l5 (S0 bp (a7 (dL 0) (a7 (D2 (dL 0) (E7 (Sj 1)) E6) b9))))))
def jT:c8:=w8 2 (bM)
abbrev CU:DM:=(v3 0 1 (a7 (dV 1) (a7 (a9 C9 (dL 0) (dL 1)) b9)))
def mQ:DM:=(d6 (v3 0 1 (a7 (j6 (one Y5) (a7 (dL 0) b9)) (a7 (j6 (one Y5) (a7 (dL 1) b9)) b9))) (d6 (U2 (dB (a9 (n8 (fun i j=>decide (j<i))) (dL 1) (Sj 0))) (CU)) (i8 (dV 0))))
def LN:c8:=w8 2 (mQ)
def kY:DM:=(i8 (jf 0))
def U9:c8:=w8 1 (kY)
def bh:DM:=(d6 (T4 0 3 (a9 j5 (E5 0 3) (Sj 1))) (d6 (j7 (dB (a9 (n8 (fun i j=>decide (j<i))) (E5 0 2) (Sj 0))) (d6 (j4 (a9 C9 (E5 0 2) (dL 1)) (d8 2)) (d6 (T4 0 2 (a9 N7 (E5 0 2) (dL 1))) (i8 (dV 2)))) j8) (d6 (j4 (E5 0 1) (d8 3)) (d6 (T4 0 1 (a9 j5 (dL 3) (Sj 1))) (d6 (j4 (a9 d9 (E5 0 0) (a9 C9 (dL 3) (j6 (one j9) (a7 (E5 0 0) b9)))) (d8 4)) (d6 (j7 (r8 (dB (a9 (n8 (fun i j=>decide (j<=i))) (dL 4) (a9 cU (Sj 10) (Sj 18)))) (dB (a9 (n8 (fun i j=>decide (i<j))) (dL 3) (j6 (one j9) (a7 (E5 0 0) b9))))) (d6 (T4 0 2 (a9 N7 (dL 4) (dL 1))) (i8 (a9 C9 (dL 4) (dL 1)))) j8) (d6 (j4 (a9 C9 (a9 j5 (a9 j5 (a9 o7 (a9 C9 (dL 4) (Sj 1000003)) (Sj 48271)) (a9 o7 (Sj 7919) (E5 0 3))) (Sj 104729)) (Sj 2147483647)) (d8 5)) (d6 (j4 (a9 C9 (a9 j5 (a9 j5 (a9 o7 (a9 N7 (dL 5) (Sj 64)) (Sj 69621)) (a9 o7 (a9 o7 (Sj 31) (E5 0 3)) (E5 0 3))) (dL 3)) (Sj 2147483587)) (d8 5)) (i8 (a9 C9 (a9 N7 (dL 5) (Sj 64)) (dL 1)))))))))))
def xP:c8:=w8 6 (bh)
abbrev IU:DM:=(v3 0 1 (a7 (dV 1) (a7 (a9 C9 (dL 0) (dL 1)) b9)))
def sv:DM:=(d6 (v3 0 1 (a7 (j6 (one Y5) (a7 (dL 0) b9)) (a7 (j6 (one Y5) (a7 (dL 1) b9)) b9))) (d6 (U2 (dB (a9 (n8 (fun i j=>decide (j<i))) (dL 1) (Sj 0))) (IU)) (i8 (dV 0))))
def iQ:c8:=w8 2 (sv)
def kR (J:c8):DM:=(d6 (j4 (d7 J (a7 (d7 J (a7 (dV 0) (a7 (dV 1) b9))) (a7 (dV 2) b9))) (d8 3)) (d6 (j7 (dB (a9 (n8 (fun i j=>decide (i<j))) (dL 2) (Sj 0))) (j4 (a9 o9 (Sj 0) (dL 3)) (d8 3)) j8) (i8 (i7 (a7 (a9 N7 (dL 0) (dL 3)) (a7 (a9 N7 (dL 1) (dL 3)) (a7 (a9 N7 (dL 2) (dL 3)) b9)))))))
def uC (J:c8):c8:=w8 4 (kR J)
def kL (mo:c8):DM:=(d6 (E4 1 (n9 (a7 (dC .non) (a7 (dC (.bl true)) (a7 (dC (.bl false)) (a7 (Sj 0) (a7 (Sj 1) (a7 (k6 o8 (Sj 1)) (a7 (Sj 2) (a7 (dC (.str "")) (a7 (dC (.str "a")) (a7 (dC (.str "meet")) (a7 (dC (.str "apart")) (a7 (dC (.str "one")) (a7 (dC (.str "other")) (a7 (i7 b9) (a7 (l5 (n9 b9)) (a7 (i7 (a7 (Sj 0) b9)) (a7 (i7 (a7 (Sj 0) (a7 (Sj 0) (a7 (Sj 1) b9)))) (a7 (i7 (a7 (Sj 1) (a7 (Sj 2) b9))) b9)))))))))))))))))))) (d6 (E4 1 (V0 W9 (dL 1) (l5 (n9 (a7 (i7 (a7 (Sj 2) (a7 (Sj 4) (a7 (Sj 2) b9)))) (a7 (i7 (a7 (Sj 0) (a7 (Sj 0) (a7 (Sj 0) b9)))) (a7 (i7 (a7 (Sj 1) (a7 (Sj 1) (a7 (k6 o8 (Sj 1)) b9)))) (a7 (i7 (a7 (i7 (a7 (Sj 0) (a7 (Sj 0) (a7 (Sj 1) b9)))) b9)) (a7 (i7 (a7 (dC (.str "one")) (a7 (Sj 0) b9))) (a7 (a9 cU (Sj 10) (Sj 39)) b9)))))))))) (i8 (a9 d9 (dL 1) (d7 mo (a7 (dV 0) (a7 (Sj 24) b9)))))))
def yw (mo:c8):c8:=w8 2 (kL mo)
def S3 (J:c8) (mo:c8) (U:c8):DM:=(d6 (j7 (r8 (o6 (k6 (F7 "tuple") (dL 1))) (r8 (dB (a9 A2 (dL 1) (i7 b9))) (dB (a9 (n8 (fun i j=>decide (j<i))) (d7 mo (a7 (dV 0) (a7 (Sj 6) b9))) (Sj 0))))) (d6 (j4 (d7 mo (a7 (dV 0) (a7 (j6 (one j9) (a7 (dL 1) b9)) b9))) (d8 2)) (i8 (a9 j5 (a9 j5 (D2 (dL 1) E6 (E7 (dL 2))) (i7 (a7 (d7 U (a7 (dV 0) (a7 (a9 d9 (dL 1) (dL 2)) b9))) b9))) (D2 (dL 1) (E7 (a9 j5 (dL 2) (Sj 1))) E6)))) j8) (d6 (j4 (d7 mo (a7 (dV 0) (a7 (Sj 8) b9))) (d8 3)) (d6 (j7 (r8 (o6 (k6 (F7 "tuple") (dL 1))) (dB (a9 (n8 (fun i j=>decide (i<j))) (dL 3) (Sj 6)))) (d6 (j4 (d7 mo (a7 (dV 0) (a7 (a9 j5 (j6 (one j9) (a7 (dL 1) b9)) (Sj 1)) b9))) (d8 2)) (d6 (E4 4 (n9 (a7 (l5 (S0 (one dk) (a7 (dL 1) b9))) (a7 (a9 j5 (D2 (dL 1) E6 (E7 (dL 2))) (D2 (dL 1) (E7 (a9 j5 (dL 2) (Sj 1))) E6)) (a7 (a9 j5 (D2 (dL 1) E6 (E7 (a9 j5 (dL 2) (Sj 1)))) (D2 (dL 1) (E7 (dL 2)) E6)) (a7 (jC (dL 1) (k6 o8 (Sj 1))) b9)))))) (i8 (a9 d9 (l5 (V0 W9 (dL 4) (l5 (n9 (a7 (a9 j5 (D2 (dL 1) (E7 (Sj 1)) E6) (D2 (dL 1) E6 (E7 (Sj 1)))) (a7 (a9 j5 (dL 1) (i7 (a7 (d7 J (a7 (dV 0) b9)) b9))) b9)))))) (dL 3))))) j8) (d6 (j7 (r8 (o6 (k6 (F7 "int") (dL 1))) (r8 (t9 (o6 (k6 (F7 "bool") (dL 1)))) (dB (a9 (n8 (fun i j=>decide (i<j))) (dL 3) (Sj 6))))) (i8 (a9 d9 (l5 (n9 (a7 (a9 j5 (dL 1) (Sj 1)) (a7 (a9 o9 (dL 1) (Sj 1)) (a7 (a9 o9 (Sj 0) (dL 1)) (a7 (a9 J6 (dL 1) (Sj 1)) (a7 (a9 o7 (Sj 2) (dL 1)) (a7 (j6 (one eJ) (a7 (dL 1) b9)) b9)))))))) (dL 3))) j8) (i8 (d7 J (a7 (dV 0) b9)))))))
def nW (J:c8) (mo:c8):Nat->c8
 |0=>fun _ _=>none
 |n+1=>w8 5 (S3 J mo (nW J mo n))
def ve (J:c8):DM:=(i8 (d7 J (a7 (dV 0) (a7 (dC (.bl true)) b9))))
def xR (J:c8):c8:=w8 1 (ve J)
def fY:DM:=(i8 (l5 (K9 [0] (V4 (a7 (j6 (one j9) (a7 (dL 0) b9)) b9)) F6 (i7 (a7 (a9 d9 (dL 1) (dL 0)) (a7 (a9 d9 (dL 1) (a9 C9 (a9 j5 (dL 0) (Sj 1)) (j6 (one j9) (a7 (dL 1) b9)))) b9))))))
def R5:c8:=w8 1 (fY)
def ja:DM:=(d6 (j4 (a9 o7 (Sk 0 0) (a9 o9 (a9 o7 (Sk 1 1) (Sk 2 2)) (a9 o7 (Sk 1 2) (Sk 2 1)))) (d8 3)) (d6 (j4 (a9 o7 (Sk 0 1) (a9 o9 (a9 o7 (Sk 1 0) (Sk 2 2)) (a9 o7 (Sk 1 2) (Sk 2 0)))) (d8 4)) (i8 (a9 j5 (a9 o9 (dL 3) (dL 4)) (a9 o7 (Sk 0 2) (a9 o9 (a9 o7 (Sk 1 0) (Sk 2 1)) (a9 o7 (Sk 1 1) (Sk 2 0))))))))
def Z3:c8:=w8 5 (ja)
def gX (J:c8):DM:=(d6 (j4 (a9 j5 (a9 o7 (Sk 0 0) (Sk 1 2)) (a9 o7 (Sk 1 0) (Sk 0 2))) (d8 2)) (i8 (d7 J (a7 (dV 2) (a7 (a9 j5 (a9 o7 (Sk 0 1) (Sk 1 2)) (a9 o7 (Sk 1 1) (Sk 0 2))) (a7 (a9 o7 (a9 o7 (Sj 2) (Sk 0 2)) (Sk 1 2)) b9))))))
def qD (J:c8):c8:=w8 3 (gX J)
def jF:DM:=(d6 (j4 (a9 o9 (a9 o7 (Sk 0 0) (Sk 1 2)) (a9 o7 (Sk 1 0) (Sk 0 2))) (d8 2)) (i8 (A4 (a9 (n8 (fun i j=>decide (i<j))) (dL 2) (Sj 0)) (v7 (a9 J6 (dL 2) (Sj 0)) (a9 (n8 (fun i j=>decide (i<j))) (a9 o7 (Sk 0 1) (Sk 1 2)) (a9 o7 (Sk 1 1) (Sk 0 2)))))))
def cE:c8:=w8 3 (jF)
abbrev jb (m00:c8) (mt:c8):DM:=(j7 (dB (a9 J6 (d7 m00 (a7 (dV 2) (a7 (dV 3) (a7 (dV 1) b9)))) (k6 o8 (Sj 1)))) (i8 (dC (.bl false))) j8)
def ij (J:c8) (mt:c8):DM:=(d6 (G5 (d7 mt (a7 (dV 0) b9)) (p9 2 (l8 (d8 2) (l8 (d8 3) t6))) (jb J mt)) (i8 (dC (.bl true))))
def vh (J:c8) (mt:c8):c8:=w8 4 (ij J mt)
abbrev ji (m0m:c8):DM:=(j7 (o6 (d7 m0m (a7 (dV 2) (a7 (dV 1) b9)))) (i8 (dC (.bl true))) j8)
def ju (J:c8):DM:=(d6 (G5 (dV 0) (d8 2) (ji J)) (i8 (dC (.bl false))))
def wI (J:c8):c8:=w8 3 (ju J)
def yi:DM:=(i8 (i7 (a7 (a9 o9 (a9 o7 (Sk 0 1) (Sk 1 2)) (a9 o7 (Sk 0 2) (Sk 1 1))) (a7 (a9 o9 (a9 o7 (Sk 0 2) (Sk 1 0)) (a9 o7 (Sk 0 0) (Sk 1 2))) (a7 (a9 o9 (a9 o7 (Sk 0 0) (Sk 1 1)) (a9 o7 (Sk 0 1) (Sk 1 0))) b9)))))
def kK:c8:=w8 2 (yi)
def qt (J:c8):DM:=(i8 (d7 J (a7 (dV 0) (a7 (dV 1) b9))))
def xw (J:c8):c8:=w8 2 (qt J)
def yH (U:c8) (J:c8):DM:=(i8 (d7 U (a7 (d7 J (a7 (dV 0) (a7 (dV 1) b9))) b9)))
def wM (U:c8) (J:c8):c8:=w8 2 (yH U J)
abbrev jr (m00:c8) (m0n:c8) (m0j:c8) (mt:c8):DM:=(d6 (j4 (d7 m00 (a7 (dV 1) (a7 (dV 2) (a7 (dV 5) b9)))) (d8 7)) (d6 (j7 (dB (a9 A2 (dL 7) (k6 o8 (Sj 1)))) (J0 4 (dV 5)) j8) (j7 (dB (a9 J6 (a9 o7 (dL 7) (d7 m00 (a7 (dV 1) (a7 (dV 2) (a7 (dV 6) b9))))) (k6 o8 (Sj 1)))) (J0 4 (d7 m0n (a7 (dV 3) (a7 (d7 m0j (a7 (dV 5) (a7 (dV 6) b9))) b9)))) j8)))
def ke (U:c8) (Y:c8) (J:c8) (mt:c8):DM:=(d6 (j4 (d7 J (a7 (dV 1) (a7 (dV 2) b9))) (d8 3)) (d6 (E4 4 (n9 b9)) (d6 (G5 (d7 mt (a7 (dV 0) b9)) (p9 2 (l8 (d8 5) (l8 (d8 6) t6))) (jr U Y J mt)) (i8 (dV 4)))))
def wR (J:c8) (Y:c8) (U:c8) (mt:c8):c8:=w8 8 (ke J Y U mt)
def jM (mo:c8):DM:=(d6 (E4 1 (n9 (a7 (i7 (a7 (Sj 1) (a7 (Sj 0) (a7 (Sj 0) (a7 (Sj 1) b9))))) (a7 (i7 (a7 (Sj 1) (a7 (k6 o8 (Sj 1)) (a7 (Sj 1) (a7 (Sj 1) b9))))) (a7 (i7 (a7 (Sj 3) (a7 (k6 o8 (Sj 4)) (a7 (Sj 4) (a7 (Sj 3) b9))))) (a7 (i7 (a7 (Sj 1) (a7 (Sj 1) (a7 (Sj 0) (a7 (Sj 1) b9))))) (a7 (i7 (a7 (Sj 0) (a7 (k6 o8 (Sj 1)) (a7 (Sj 1) (a7 (Sj 0) b9))))) (a7 (i7 (a7 (Sj 2) (a7 (Sj 1) (a7 (Sj 1) (a7 (Sj 1) b9))))) b9)))))))) (d6 (j4 (a9 d9 (dL 1) (d7 mo (a7 (dV 0) (a7 (Sj 6) b9)))) (d8 2)) (d6 (j4 (a9 o9 (d7 mo (a7 (dV 0) (a7 (Sj 19) b9))) (Sj 9)) (d8 3)) (d6 (j4 (a9 o9 (d7 mo (a7 (dV 0) (a7 (Sj 19) b9))) (Sj 9)) (d8 4)) (i8 (a9 j5 (dL 2) (i7 (a7 (dV 3) (a7 (dV 4) (a7 (a9 d9 (l5 (n9 (a7 (Sj 1) (a7 (Sj 2) (a7 (Sj 3) (a7 (Sj 7) b9)))))) (d7 mo (a7 (dV 0) (a7 (Sj 4) b9)))) b9))))))))))
def qr (mo:c8):c8:=w8 5 (jM mo)
def kO (J:c8):DM:=(d6 (j4 (a9 j5 (a9 j5 (a9 o7 (Sk 0 0) (dL 1)) (a9 o7 (Sk 0 1) (dL 2))) (Sk 0 4)) (d8 3)) (i8 (d7 J (a7 (dV 3) (a7 (a9 j5 (a9 j5 (a9 o7 (Sk 0 2) (dL 1)) (a9 o7 (Sk 0 3) (dL 2))) (Sk 0 5)) (a7 (Sk 0 6) b9))))))
def ub (J:c8):c8:=w8 4 (kO J)
def kh (mo:c8):DM:=(d6 (v3 1 2 (a7 (a9 j5 (Sj 1) (d7 mo (a7 (dV 0) (a7 (Sj 4) b9)))) (a7 (a9 j5 (Sj 1) (d7 mo (a7 (dV 0) (a7 (Sj 4) b9)))) b9))) (d6 (E4 3 (n9 (a7 (i7 (a7 (i7 (a7 (Sj 0) (a7 (Sj 0) b9))) (a7 (i7 (a7 (dV 1) (a7 (Sj 0) b9))) (a7 (i7 (a7 (dV 1) (a7 (dV 2) b9))) (a7 (i7 (a7 (Sj 0) (a7 (dV 2) b9))) b9))))) (a7 (i7 (a7 (i7 (a7 (Sj 0) (a7 (Sj 0) b9))) (a7 (i7 (a7 (dV 1) (a7 (Sj 0) b9))) (a7 (i7 (a7 (Sj 0) (a7 (dV 2) b9))) b9)))) (a7 (i7 (a7 (i7 (a7 (Sj 0) (a7 (Sj 0) b9))) (a7 (i7 (a7 (dV 1) (a7 (Sj 0) b9))) (a7 (i7 (a7 (dV 1) (a7 (dV 2) b9))) b9)))) b9))))) (d6 (E4 3 (V0 W9 (dL 3) (l5 (n9 (a7 (i7 (a7 (i7 (a7 (Sj 0) (a7 (Sj 0) b9))) (a7 (i7 (a7 (dV 1) (a7 (dV 2) b9))) (a7 (i7 (a7 (Sj 0) (a7 (dV 2) b9))) b9)))) (a7 (i7 (a7 (i7 (a7 (Sj 0) (a7 (Sj 0) b9))) (a7 (i7 (a7 (a9 j5 (dL 1) (Sj 1)) (a7 (Sj 1) b9))) (a7 (i7 (a7 (Sj 1) (a7 (a9 j5 (dL 2) (Sj 1)) b9))) b9)))) (a7 (i7 (a7 (i7 (a7 (Sj 0) (a7 (Sj 0) b9))) (a7 (i7 (a7 (dV 1) (a7 (Sj 0) b9))) (a7 (i7 (a7 (dV 1) (a7 (dV 2) b9))) (a7 (i7 (a7 (Sj 0) (a7 (dV 2) b9))) b9))))) b9))))))) (d6 (J0 3 (i7 (a7 (i7 (a7 (Sj 0) (a7 (dV 2) b9))) (a7 (i7 (a7 (dV 1) (a7 (Sj 0) b9))) (a7 (i7 (a7 (a9 o7 (Sj 2) (dL 1)) (a7 (dV 2) b9))) (a7 (i7 (a7 (dV 1) (a7 (a9 o7 (Sj 2) (dL 2)) b9))) b9)))))) (d6 (J0 3 (i7 (a7 (i7 (a7 (Sj 0) (a7 (Sj 1) b9))) (a7 (i7 (a7 (Sj 1) (a7 (Sj 0) b9))) (a7 (i7 (a7 (a9 j5 (dL 1) (Sj 1)) (a7 (Sj 0) b9))) (a7 (i7 (a7 (a9 j5 (dL 1) (Sj 2)) (a7 (Sj 1) b9))) (a7 (i7 (a7 (a9 j5 (dL 1) (Sj 1)) (a7 (Sj 2) b9))) (a7 (i7 (a7 (Sj 1) (a7 (Sj 2) b9))) b9)))))))) (i8 (a9 d9 (dL 3) (d7 mo (a7 (dV 0) (a7 (Sj 8) b9))))))))))
def uf (mo:c8):c8:=w8 4 (kh mo)
abbrev qH (m0o:c8):DM:=(j7 (o6 (d7 m0o (a7 (a9 d9 (dL 0) (dL 2)) (a7 (a9 d9 (dL 0) (dL 1)) b9)))) (j4 (dV 2) (d8 1)) j8)
def jE (J:c8):DM:=(d6 (j4 (Sj 0) (d8 1)) (d6 (cQ (a7 (j6 (one j9) (a7 (dL 0) b9)) b9) (d8 2) (qH J)) (i8 (j6 (one U3) (a7 (a9 j5 (D2 (dL 0) (E7 (dL 1)) E6) (D2 (dL 0) E6 (E7 (dL 1)))) b9)))))
def yC (J:c8):c8:=w8 3 (jE J)
abbrev di (mo:c8) (m0p:c8) (m0q:c8) (m0r:c8):DM:=(d6 (j4 (i7 (a7 (a9 j5 (dL 3) (d7 mo (a7 (dV 0) (a7 (Sj 6) b9)))) (a7 (d7 mo (a7 (dV 0) (a7 (Sj 6) b9))) b9))) (p9 2 (l8 (d8 6) (l8 (d8 7) t6)))) (d6 (E4 8 (bV [1,6,7] (T6 (d7 m0q (a7 (dV 0) b9))) F6 (d7 m0r (a7 (dV 2) (a7 (a9 j5 (dL 0) (dL 3)) (a7 (a9 j5 (dL 1) (dL 4)) b9)))))) (j7 (r8 (dB (a9 A2 (dL 4) (l5 (n9 b9)))) (dB (a9 J6 (d7 mo (a7 (dV 0) (a7 (Sj 9) b9))) (Sj 0)))) (J0 4 (Sk 4 0)) (J0 4 (d7 m0p (a7 (dV 8) b9))))))
def oX (mo:c8) (J:c8) (U:c8) (Y:c8):DM:=(d6 (E4 4 (n9 b9)) (d6 (cQ (a7 (a9 j5 (Sj 1) (d7 mo (a7 (dV 0) (a7 (dV 2) b9)))) b9) (d8 5) (di mo J U Y)) (i8 (j6 (one U3) (a7 (dL 4) b9)))))
def vB (mo:c8) (J:c8) (U:c8) (Y:c8):c8:=w8 9 (oX mo J U Y)
def kH (J:c8) (mo:c8) (U:c8):DM:=(d6 (j4 (d7 U (a7 (dV 0) b9)) (d8 1)) (d6 (j4 (d7 J (a7 (dV 0) (a7 (dV 1) (a7 (Sj 2) (a7 (Sj 0) b9))))) (d8 2)) (i8 (i7 (a7 (dV 2) (a7 (d7 J (a7 (dV 0) (a7 (dV 1) (a7 (Sj 2) (a7 (a9 d9 (l5 (n9 (a7 (Sj 0) (a7 (Sj 2) (a7 (Sj 5) (a7 (Sj 9) (a7 (Sj 14) b9))))))) (d7 mo (a7 (dV 0) (a7 (Sj 5) b9)))) b9))))) b9))))))
def tM (J:c8) (mo:c8) (U:c8):c8:=w8 3 (kH J mo U)
abbrev jg (m00:c8) (mt:c8):DM:=(j7 (dB (a9 A2 (d7 m00 (a7 (Sk 3 0) (a7 (Sk 3 1) (a7 (dV 4) b9)))) (k6 o8 (Sj 1)))) (i8 (dC (.bl false))) j8)
def iE (J:c8) (mt:c8):DM:=(d6 (j4 (a9 d9 (d7 mt (a7 (dV 0) b9)) (dL 1)) (d8 3)) (d6 (G5 (dV 2) (d8 4) (jg J mt)) (i8 (dC (.bl true)))))
def sO (J:c8) (mt:c8):c8:=w8 5 (iE J mt)
abbrev kA (m05:c8):DM:=(j7 (o6 (d7 m05 (a7 (dV 0) (a7 (dV 2) (a7 (dV 1) b9))))) (i8 (dV 2)) j8)
def iy (J:c8):DM:=(d6 (cQ (a7 (j6 (one j9) (a7 (dL 0) b9)) b9) (d8 2) (kA J)) (i8 (dC .non)))
def tF (J:c8):c8:=w8 3 (iy J)
def aP (J:c8):DM:=(d6 (j4 (d7 J (a7 (dV 0) (a7 (dV 1) b9))) (d8 2)) (d6 (j7 (dB (a9 nv (dL 2) (dC .non))) (i8 (i7 (a7 (dC (.str "one")) (a7 (dV 2) b9)))) j8) (d6 (j4 (d7 J (a7 (dV 1) (a7 (dV 0) b9))) (d8 2)) (d6 (j7 (dB (a9 nv (dL 2) (dC .non))) (i8 (i7 (a7 (dC (.str "other")) (a7 (dV 2) b9)))) j8) (i8 (dC .non))))))
def sX (J:c8):c8:=w8 3 (aP J)
abbrev mW (m0s:c8) (mt:c8):DM:=(j4 (d7 m0s (a7 (dV 2) (a7 (dV 3) (a7 (dV 4) b9)))) (d8 2))
def oq (J:c8) (mt:c8):DM:=(d6 (E4 2 (S0 (one dk) (a7 (dL 0) b9))) (d6 (G5 (d7 mt (a7 (dV 1) b9)) (p9 2 (l8 (d8 3) (l8 (d8 4) t6))) (mW J mt)) (i8 (Sk 2 0))))
def vE (J:c8) (mt:c8):c8:=w8 5 (oq J mt)
abbrev bw (m0g:c8) (m0h:c8):DM:=(d6 (j4 (d7 m0h (a7 (dV 3) (a7 (dV 5) b9))) (d8 6)) (d6 (j7 (dB (a9 vU (dL 6) (dC .non))) (i8 (i7 (a7 (dC (.str "meet")) (a7 (d7 m0g (a7 (dV 3) (a7 (dV 5) b9))) b9)))) j8) (J0 4 (dV 6))))
abbrev bG (m0g:c8) (m0h:c8):DM:=(d6 (E4 4 (n9 b9)) (d6 (G5 (dV 1) (d8 5) (bw m0g m0h)) (J0 2 (j6 (one U3) (a7 (dL 4) b9)))))
def dW (U:c8) (J:c8):DM:=(d6 (E4 2 (n9 b9)) (d6 (G5 (dV 0) (d8 3) (bG U J)) (i8 (i7 (a7 (dC (.str "apart")) (a7 (j6 (one U3) (a7 (dL 2) b9)) b9))))))
def xV (U:c8) (J:c8):c8:=w8 7 (dW U J)
def Bj (J:c8):DM:=(i8 (v7 (d7 J (a7 (dV 1) b9)) (bR (n8 (fun i j=>decide (i<=j))) (n8 (fun i j=>decide (i<j))) (Sj 0) (dL 1) (j6 (one j9) (a7 (dL 0) b9)))))
def vJ (J:c8):c8:=w8 2 (Bj J)
def fA (U:c8) (J:c8):DM:=(d6 (j7 (u4 (t9 (o6 (k6 (F7 "tuple") (dL 2)))) (dB (a9 A2 (j6 (one j9) (a7 (dL 2) b9)) (Sj 2)))) (i8 (dC (.bl false))) j8) (d6 (j7 (dB (a9 J6 (Sk 2 0) (dC (.str "one")))) (i8 (v7 (d7 J (a7 (dV 0) (a7 (Sk 2 1) b9))) (d7 U (a7 (dV 0) (a7 (Sk 2 1) (a7 (dV 1) b9)))))) j8) (d6 (j7 (dB (a9 J6 (Sk 2 0) (dC (.str "other")))) (i8 (v7 (d7 J (a7 (dV 1) (a7 (Sk 2 1) b9))) (d7 U (a7 (dV 1) (a7 (Sk 2 1) (a7 (dV 0) b9)))))) j8) (i8 (dC (.bl false))))))
def xJ (U:c8) (J:c8):c8:=w8 3 (fA U J)
def fJ (J:c8):DM:=(d6 (j7 (u4 (t9 (o6 (k6 (F7 "tuple") (dL 0)))) (dB (a9 A2 (j6 (one j9) (a7 (dL 0) b9)) (Sj 2)))) (i8 (dC (.bl false))) j8) (d6 (j7 (dB (a9 J6 (Sk 0 0) (dC (.str "meet")))) (i8 (d7 J (a7 (Sk 0 1) b9))) j8) (i8 (v7 (a9 J6 (Sk 0 0) (dC (.str "apart"))) (k6 (F7 "tuple") (Sk 0 1))))))
def rX (J:c8):c8:=w8 1 (fJ J)
abbrev uY (m0i:c8):DM:=(j7 (t9 (o6 (d7 m0i (a7 (a9 d9 (dL 0) (dL 3)) (a7 (dV 6) (a7 (dV 5) b9)))))) (X6 "NoPaper" (a7 (dC (.str "pair")) (a7 (dV 3) b9))) j8)
abbrev jw (m0i:c8):DM:=(d6 (j7 (u4 (t9 (o6 (k6 (F7 "tuple") (dL 4)))) (dB (a9 A2 (j6 (one j9) (a7 (dL 4) b9)) (j6 (one j9) (a7 (dL 1) b9))))) (X6 "NoPaper" (a7 (dC (.str "rows")) (a7 (dV 3) b9))) j8) (fg (a7 (dV 4) (a7 (dV 1) b9)) (p9 2 (l8 (d8 5) (l8 (d8 6) t6))) (uY m0i)))
def cz (J:c8):DM:=(d6 (j7 (dB (a9 A2 (j6 (one j9) (a7 (dL 2) b9)) (j6 (one j9) (a7 (dL 0) b9)))) (X6 "NoPaper" (a7 (dC (.str "rows")) (a7 (Sj 0) b9))) j8) (d6 (dQ (a7 (dV 2) b9) (p9 2 (l8 (d8 3) (l8 (d8 4) t6))) (jw J)) (i8 (dC (.bl true)))))
def wz (J:c8):J8:=Z6 7 (cz J)
def cD (J:c8):DM:=(d6 (j7 (u4 (t9 (o6 (d7 J (a7 (dV 0) (a7 (dV 2) b9))))) (t9 (o6 (d7 J (a7 (dV 1) (a7 (dV 2) b9)))))) (X6 "NoPaper" (a7 (dC (.str "place")) (a7 (Sj 0) b9))) j8) (i8 (dC (.bl true))))
def zd (J:c8):J8:=Z6 3 (cD J)
def cG (Y:J8) (U:J8) (J:c8):DM:=(d6 (j7 (t9 (o6 (d7 J (a7 (dV 2) b9)))) (X6 "NoPaper" (a7 (dC (.str "shape")) (a7 (Sj 0) b9))) j8) (d6 (j7 (dB (a9 J6 (Sk 2 0) (dC (.str "meet")))) (eP (bT U (a7 (dV 0) (a7 (dV 1) (a7 (Sk 2 1) b9))))) j8) (eP (bT Y (a7 (dV 0) (a7 (dV 1) (a7 (Sk 2 1) b9)))))))
def wD (Y:J8) (U:J8) (J:c8):J8:=Z6 3 (cG Y U J)
def fG (J:J8):DM:=(d6 (j4 (dC (.bl false)) (d8 3)) (d6 (df ["NoPaper"] (ik (gZ (bT J (a7 (dV 0) (a7 (dV 1) (a7 (dV 2) b9))))) (d8 3)) (j4 (dC (.bl false)) (d8 3))) (i8 (dV 3))))
def mw (J:J8):c8:=w8 4 (fG J)
abbrev lG (mo:c8):DM:=(d6 (E4 5 (K9 [0] (T6 (dV 2)) F6 (i7 (a7 (a9 d9 (l5 (n9 (a7 (dC (.str "one")) (a7 (dC (.str "other")) b9)))) (d7 mo (a7 (dV 1) (a7 (Sj 2) b9)))) (a7 (d7 mo (a7 (dV 1) (a7 (Sj 4) b9))) b9))))) (J0 3 (j6 (one U3) (a7 (dL 5) b9))))
def nu (mo:c8):DM:=(d6 (E4 3 (n9 b9)) (d6 (G5 (dV 1) (d8 4) (lG mo)) (i8 (i7 (a7 (dC (.str "apart")) (a7 (j6 (one U3) (a7 (dL 3) b9)) b9))))))
def xA (mo:c8):c8:=w8 6 (nu mo)
def jS (U:c8) (J:c8):DM:=(d6 (v3 4 5 (a7 (d7 J (a7 (dV 0) (a7 (dV 1) (a7 (dV 2) b9)))) (a7 (d7 J (a7 (dV 0) (a7 (dV 1) (a7 (dV 3) b9)))) b9))) (d6 (j4 (a9 o9 (a9 o7 (dL 5) (Sk 2 0)) (a9 o7 (dL 4) (Sk 3 0))) (d8 6)) (i8 (d7 U (a7 (dV 6) (a7 (a9 o9 (a9 o7 (dL 5) (Sk 2 1)) (a9 o7 (dL 4) (Sk 3 1))) (a7 (a9 o9 (a9 o7 (dL 5) (Sk 2 2)) (a9 o7 (dL 4) (Sk 3 2))) b9)))))))
def pd (J:c8) (U:c8):c8:=w8 7 (jS J U)
abbrev nq (m0t:c8) (m03:c8) (m04:c8):DM:=(d6 (v3 6 7 (a7 (d7 m03 (a7 (dV 1) (a7 (dV 2) (a7 (dV 4) b9)))) (a7 (d7 m03 (a7 (dV 1) (a7 (dV 2) (a7 (dV 5) b9)))) b9))) (d6 (j7 (dB (a9 (n8 (fun i j=>decide (j<=i))) (dL 6) (Sj 0))) (J0 3 (dV 4)) j8) (j7 (dB (a9 (n8 (fun i j=>decide (i<j))) (a9 o7 (dL 6) (dL 7)) (Sj 0))) (J0 3 (d7 m0t (a7 (dV 1) (a7 (dV 2) (a7 (dV 4) (a7 (dV 5) b9)))))) j8)))
def kj (U:c8) (Y:c8) (J:c8):DM:=(d6 (E4 3 (n9 b9)) (d6 (G5 (d7 J (a7 (dV 0) b9)) (p9 2 (l8 (d8 4) (l8 (d8 5) t6))) (nq U Y J)) (i8 (dV 3))))
def xj (J:c8) (U:c8) (Y:c8):c8:=w8 8 (kj J U Y)
abbrev lK (m0u:c8) (m04:c8):DM:=(j4 (d7 m0u (a7 (dV 2) (a7 (dV 3) (a7 (dV 4) b9)))) (d8 2))
def ou (U:c8) (J:c8):DM:=(d6 (E4 2 (S0 (one dk) (a7 (dL 0) b9))) (d6 (G5 (d7 J (a7 (dV 1) b9)) (p9 2 (l8 (d8 3) (l8 (d8 4) t6))) (lK U J)) (i8 (dV 2))))
def uD (J:c8) (U:c8):c8:=w8 5 (ou J U)
abbrev jR (m06:c8) (m07:c8) (mo:c8) (m08:c8) (m02:c8) (m09:c8) (m0a:c8) (m0b:c8) (m0c:c8):DM:=(j7 (dB (a9 A2 (l5 (K9 [7] (T6 (dV 5)) (dB (a9 A2 (d7 m0a (a7 (dV 1) (a7 (dV 0) b9))) (l5 (n9 b9)))) (dV 0))) (l5 (n9 b9)))) (j4 (dC (.str "meet")) (d8 6)) j8)
abbrev kW (m06:c8) (m07:c8) (mo:c8) (m08:c8) (m02:c8) (m09:c8) (m0a:c8) (m0b:c8) (m0c:c8):DM:=(J0 9 (i7 (a7 (dC (.str "meet")) (a7 (d7 m07 (a7 (a9 d9 (dL 10) (d7 mo (a7 (dV 1) (a7 (j6 (one j9) (a7 (dL 10) b9)) b9)))) (a7 (a9 d9 (dL 10) (d7 mo (a7 (dV 1) (a7 (j6 (one j9) (a7 (dL 10) b9)) b9)))) b9))) b9))))
abbrev lU (m06:c8) (m07:c8) (mo:c8) (m08:c8) (m02:c8) (m09:c8) (m0a:c8) (m0b:c8) (m0c:c8):DM:=(j7 (r8 (o6 (d7 m06 (a7 (dV 4) (a7 (dV 5) (a7 (dV 11) b9))))) (dB (a9 A2 (Sk 11 0) (dL 6)))) (i8 (dC (.bl false))) j8)
abbrev pg (m06:c8) (m07:c8) (mo:c8) (m08:c8) (m02:c8) (m09:c8) (m0a:c8) (m0b:c8) (m0c:c8):DM:=(d6 (j4 (d7 m0b (a7 (dV 1) b9)) (p9 2 (l8 (d8 4) (l8 (d8 5) t6)))) (d6 (j4 (dC (.str "apart")) (d8 6)) (d6 (G5 (dV 4) (d8 7) (jR m06 m07 mo m08 m02 m09 m0a m0b m0c)) (d6 (j4 (d7 m09 (a7 (dV 4) (a7 (dV 5) b9))) (d8 8)) (d6 (j7 (u4 (dB (a9 A2 (Sk 8 0) (dL 6))) (t9 (o6 (d7 m06 (a7 (dV 4) (a7 (dV 5) (a7 (dV 8) b9))))))) (i8 (dC (.bl false))) j8) (d6 (E4 9 (n9 (a7 (dV 2) (a7 (d7 m02 (a7 (dV 1) (a7 (dV 8) b9))) (a7 (d7 m02 (a7 (dV 1) (a7 (d7 m02 (a7 (dV 1) (a7 (dV 8) b9))) b9))) b9))))) (d6 (E4 9 (V0 W9 (dL 9) (l5 (K9 [1,4,5] (V4 (a7 (Sj 3) b9)) F6 (d7 m08 (a7 (dV 1) (a7 (dV 2) (a7 (dV 3) b9)))))))) (d6 (G5 (a9 j5 (dL 4) (dL 5)) (d8 10) (kW m06 m07 mo m08 m02 m09 m0a m0b m0c)) (d6 (G5 (dV 9) (d8 11) (lU m06 m07 mo m08 m02 m09 m0a m0b m0c)) (j4 (dV 8) (d8 2)))))))))))
def lC (m06:c8) (Z:c8) (mo:c8) (m08:c8) (m02:c8) (m09:c8) (U:c8) (Y:c8) (J:c8):DM:=(d6 (j4 (d7 J (a7 (dV 0) b9)) (d8 1)) (d6 (j4 (i7 (a7 (dC (.str "apart")) (a7 (i7 b9) b9))) (d8 2)) (d6 (cQ (a7 (Sj 4) b9) (d8 3) (pg m06 Z mo m08 m02 m09 U Y J)) (i8 (dC (.bl true))))))
def ph (m06:c8) (Y:c8) (mo:c8) (m08:c8) (m02:c8) (m09:c8) (J:c8) (U:c8) (Z:c8):c8:=w8 12 (lC m06 Y mo m08 m02 m09 J U Z)
end T
namespace DL
open PySem L2
def dY {n:Nat}(hk:0<k) (h:n<2 ^ k):n.log2<k:=by
 by_cases J:n=0
 .subst J;simpa using hk
 .exact(Nat.log2_lt J).mpr h
def ku {i:Int}(h:i.natAbs<2 ^ 200):A8 i=true:=by
 have:=dY #[] h;exact MA ∅
def CZ {j:Int}(J:j≠0) (h:j.natAbs<2 ^ 200):P9 j=true:=by
 have:=dY #[] h;unfold P9;rw[MA J,Ov];exact MA ∅
def vF (i:Int):C5 (.int i)=true:=by simp[C5,D.plain,D.py,SeqAt.shaped,PyData.canLay0,PyData.depth]
def X5 (i j:Int):A2 (.int i) (.int j)=some (.bl (!decide (i=j))):=by
 simp only[A2,vF,NR,MV,D.py,PyData.eqv,Rk]
def aR (i j:Int):J6 (.int i) (.int j)=some (.bl (decide (i=j))):=by
 simp only[J6,vF,NR,MV,D.py,PyData.eqv,Rk]
def Jc {i:Int}(h:i.natAbs.log2<1920):(PySem.Str.ofString (toString i)).length<=1921:=PyProof.Rows.int_text_len_1921 h
def jV {α:Type}{xs:List α}{i:Int}(J:0<=i) (h1:i<xs.length):C1 xs i=xs[i.toNat]?:=by
 unfold C1 U0;rw[iO J,iO h1];rfl
def aM {a b:Int}(h:0<b):0<=a.fmod b/\a.fmod b<b:=by
 rw[Po a ∅];exact#[Int.emod_nonneg a ∅,Int.emod_lt_of_pos a h]
def u5 {a b:DM}{s:DS}(h:a s=some (.next,s1)):d6 a b s=b s1:=by simp[d6,h,w5]
def K8 {a b:DM}{s:DS}(h:a s=some (.ret d,s1)):d6 a b s=some (.ret d,s1):=by simp[d6,h,w5]
def fq {m:c8}{a:DA}{s:DS}{xs:vD_}{fs:vO_}(J:a s=some (xs,s1)) (U:m xs s1.fs=some (d,fs)):d7 m a s=some (d,{ s1 with fs:=fs }):=by
 unfold d7;rw[J,Mh,U];rfl
def f9 {p:D->D->Option D}{a b:DE}{s:DS}{x z:D}(h1:a s=some (x,s1)) (h2:b s1=some (y,s2)) (h3:p x y=some z):a9 p a b s=some (z,s2):=by
 unfold a9;rw[h1,Mh,h2,Mh,h3];rfl
def D9 {a:DE}{b:DA}{s:DS}{x:D}{xs:vD_}(h1:a s=some (x,s1)) (h2:b s1=some (xs,s2)):a7 a b s=some (x::xs,s2):=by
 unfold a7;rw[h1,Mh,h2];rfl
def B7 {f:DE}{t:D->DS->Option DS}{s:DS}(h1:f s=some (d,s1)) (h2:t d s1=some s2):j4 f t s=some (.next,s2):=by
 unfold j4;rw[h1,Mh,h2];rfl
def G1 {c:DT}{a b:DM}{s:DS}(h:c s=some (true,s1)):j7 c a b s=a s1:=by simp[j7,h]
def dU {c:DT}{a b:DM}{s:DS}(h:c s=some (false,s1)):j7 c a b s=b s1:=by simp[j7,h]
def w4 {f:DE}{s:DS}(h:f s=some (d,s1)):i8 f s=some (.ret d,s1):=by simp[i8,h]
def D4 {f:DE}{s:DS}{b:Bool}(h:f s=some (.bl b,s1)):dB f s=some (b,s1):=by simp[dB,h]
def v5 {n:Nat}{b:DM}{fs:vO_}{s:DS}(h:b #[ds.map .v++List.replicate (n - ds.length) .no,fs]=some (.ret d,s)):w8 n b ds fs=some (d,s.fs):=by simp[w8,h]
def u7 {m:c8}{a:DA}{fs:vO_}{xs:vD_}(J:a #[sl,fs]=some (xs,#[sl,fs])) (U:m xs fs=some (d,fs)):d7 m a #[sl,fs]=some (d,#[sl,fs]):=fq (s1:=#[sl,fs]) J U
def G9 {m:c8}{a:DA}{fs:vO_}{xs:vD_}(J:a #[sl,fs]=some (xs,#[sl,fs])) (U:m xs fs=some (d,fs')):d7 m a #[sl,fs]=some (d,#[sl,fs']):=fq (s1:=#[sl,fs]) J U
def cS {m:c8}{a:DA}{fs J:vO_}{xs:vD_}(U:a #[sl,fs]=some (xs,#[sl',fs'])) (Y:m xs fs'=some (d,J)):d7 m a #[sl,fs]=some (d,#[sl',J]):=fq (s1:=#[sl',fs']) U Y
def zA {a b c:DE}{s J:DS}{x z:D}(h1:a s=some (x,s1)) (h2:b s1=some (y,s2)) (h3:c s2=some (z,J)):i7 (a7 a (a7 b (a7 c b9))) s=some (.tup [x,y,z],J):=by
 unfold i7;rw[D9 h1 (D9 h2 (D9 h3 rfl)),Mh];exact iO (e:=(none:Option (D × DS))) (show 3<=sizeLine by decide)
def Q1 {t:D->DS->Option DS}{b:DM}{r:vD_}{s:DS}(h1:t d s=some s1) (h2:b s1=some (.next,s2)):A9 t b (d::r) s=A9 t b r s2:=by
 rw[A9,h1,Mh,h2];rfl
def T1 {a b:DE}{s:DS}{x:D}(h1:a s=some (x,s1)) (h2:b s1=some (y,s2)):i7 (a7 a (a7 b b9)) s=some (.tup [x,y],s2):=by
 unfold i7;rw[D9 h1 (D9 h2 rfl),Mh];exact iO (e:=(none:Option (D × DS))) (show 2<=sizeLine by decide)
def sH {i j:Nat}{f:DA}{s s1 s2:DS}{a b:D}(h:f s=some ([a,b],s1)) (e:{ s1 with sl:=(s1.sl.set i (.v a)).set j (.v b) }=s2):v3 i j f s=some (.next,s2):=by
 unfold v3;rw[h];exact congrArg (fun z=>some (Fl.next,z)) e
def K4 {f:DE}{s:DS}{b:Bool}(h:f s=some (.bl b,s1)):o6 f s=some (b,s1):=by
 unfold o6;rw[h];rfl
def O5 {a:DT}{s:DS}{b:Bool}(h:a s=some (b,s1)):t9 a s=some (!b,s1):=by
 unfold t9;rw[h];rfl
def nC {a b:DT}{s:DS}{r:Option (Bool × DS)}(h1:a s=some (true,s1)) (h2:b s1=r):r8 a b s=r:=by
 unfold r8;rw[h1,Mh,iO rfl];exact h2
def rz {a b:DT}{s:DS}(h1:a s=some (false,s1)):r8 a b s=some (false,s1):=by
 unfold r8;rw[h1,Mh,iR Mk]
def mi {a b:DT}{s:DS}(h1:a s=some (true,s1)):u4 a b s=some (true,s1):=by
 unfold u4;rw[h1,Mh,iO rfl]
def lP {a b:DT}{s:DS}{r:Option (Bool × DS)}(h1:a s=some (false,s1)) (h2:b s1=r):u4 a b s=r:=by
 unfold u4;rw[h1,Mh,iR Mk];exact h2
def E9 {c:DT}{s:DS}(h:c s=some (false,s1)):j7 c a j8 s=some (.next,s1):=by
 rw[dU h];rfl
def Y7 {s:DS}(h:f s=some (ds,s1)) (hi:i<s1.sl.length):E4 i f s=some (.next,{ s1 with sl:=s1.sl.set i (.own ds) }):=by
 unfold E4;rw[h,Mh,iO hi]
def GU {s:DS}{R:vD_}(h:fi s=some (ds,s1)) (hz:ds.length<=sizeLine) (c:E8 (mk2 idx s1.sl) fc fe ds s1.fs=some (R,fs')):bV idx fi fc fe s=some (R,{ s1 with fs:=fs' }):=by
 unfold bV;rw[h,Mh,iO hz,c];rfl
def Jy {s:DS}(h:f s=some (ds,s1)):l5 f s=some (.lst ds,s1):=by
 unfold l5;rw[h];rfl
def kX {s:DS}{R:vD_}(h:fi s=some (ds,s1)) (hz:ds.length<=sizeLine) (c:E8 (fun d=>some (.v d::Q8 idx s1.sl)) fc fe ds s1.fs=some (R,s1.fs)):K9 idx fi fc fe s=some (R,s1):=by
 unfold K9;rw[h,Mh,iO hz,c];rfl
def U7 {f:DE}{s:DS}{ds0:vD_}(J:s.sl[i]? = some (.own ds0)) (h:f s=some (d,s1)) (h1:s1.sl[i]? = some (.own ds)) (U:ds.length<sizeLine):J0 i f s=some (.next,{ s1 with sl:=s1.sl.set i (.own (ds++[d])) }):=by
 unfold J0;rw[J];show (f s).bind _=_;rw[h,Mh];show (match s1.sl[i]? with | some (.own ds)=>_ | _=>_)=_;rw[h1];exact iO U
def jh {p:D->Option D}{a:DE}{s:DS}{x:D}(h:a s=some (x,s1)) (J:p x=some d):j6 (one p) (a7 a b9) s=some (d,s1):=by
 unfold j6;rw[D9 h rfl,Mh];show (p x).map _=_;rw[J];rfl
def fr (p:Rat):D:=.tup [.int p.num,.int p.den]
def Sz (k:Nat) (p:Rat):Prop:=p.num.natAbs<2 ^ k/\p.den<2 ^ k
def Sz.mono {l:Nat}{p:Rat}(h:Sz k p) (J:k<=l):Sz l p:=
 #[Mu h.1 (Pp #[] J),Mu h.2 (Pp #[] J)]
def rk {a b:Int}(J:b≠0):(Rat.divInt a b).num.natAbs<=a.natAbs/\(Rat.divInt a b).den<=b.natAbs:=by
 constructor
 .rw[Rat.num_divInt,Int.natAbs_ediv_of_dvd (Int.dvd_mul_of_dvd_right (Pq ..))];rw[Rl,Int.natAbs_sign_of_ne_zero J,Nat.one_mul];exact Nat.div_le_self _ _
 .rw[Rat.den_divInt,iR J];exact Nat.div_le_self _ _
def Sz.of_divInt {a b:Int}(J:b≠0) (h1:a.natAbs<2 ^ k) (h2:b.natAbs<2 ^ k):Sz k (Rat.divInt a b):=
 #[Nc (rk J).1 h1,Nc (rk J).2 h2]
def qp {a b l:Nat}(h1:a<2 ^ k) (h2:b<2 ^ l):a*b<2 ^ (k+l):=by
 rw[Nat.pow_add];exact Nat.mul_lt_mul_of_lt_of_lt h1 h2
def zF {a b:Nat}(h1:a<2 ^ k) (h2:b<2 ^ k):a+b<2 ^ (k+1):=by
 rw[Qu];omega
def Bd (k:Nat) (i:Int):Prop:=i.natAbs<2 ^ k
def Bd.mono {l:Nat}{i:Int}(h:Bd k i) (J:k<=l):Bd l i:=Mu h (Pp #[] J)
def Bd.mul {l:Nat}{i j:Int}(h1:Bd k i) (h2:Bd l j):Bd (k+l) (i*j):=by
 unfold Bd;rw[Rl];exact qp h1 h2
def Bd.add {l:Nat}{i j:Int}(h1:Bd k i) (h2:Bd l j):Bd (max k l+1) (i+j):=
 Nc (Int.natAbs_add_le i j) (zF (h1.mono (Nat.le_max_left ..)) (h2.mono (Nat.le_max_right ..)))
def Bd.neg {i:Int}(h1:Bd k i):Bd k (-i):=by unfold Bd;rw[Int.natAbs_neg];exact h1
def Bd.sub {l:Nat}{i j:Int}(h1:Bd k i) (h2:Bd l j):Bd (max k l+1) (i - j):=by rw[Int.sub_eq_add_neg];exact h1.add h2.neg
theorem Bd.gcd {i:Int}{j:Int}(h:Bd k j) (J:j≠0):Bd k (Int.gcd i j:Int):=by
 have:Int.gcd i j<=j.natAbs:=Nat.le_of_dvd ∅ (Nat.gcd_dvd_right i.natAbs j.natAbs);exact Nc this h
def Bd.bits {i:Int}(h:Bd k i) (hk:k<=8000):A8 i=true:=by
 have:=dY (k:=8000) #[] (h.mono hk);exact MA ∅
def Bd.div {i:Int}(h:Bd k i) (J:i≠0) (hk:k<=8000):P9 i=true:=by
 have:=dY (k:=8000) #[] (h.mono hk);unfold P9;rw[MA J,Ov];exact MA ∅
def Bd.lit {i:Int}(h:decide (i.natAbs<2 ^ k)=true):Bd k i:=by unfold Bd;exact Nv h
theorem Sz.num {p:Rat}(h:Sz k p):Bd k p.num:=h.1
def Ee (p:Rat):(p.den:Int)≠0:=by have:=p.den_nz;omega
def Dt (p:Rat):(0:Int)<p.den:=by have:=p.den_nz;omega
end DL
namespace T
open PySem L2 DL
abbrev gT:DT:=dB (a9 A2 (dL 3) (Sj 0))
abbrev gB:DM:=d6 (j4 (a9 C9 (dL 2) (dL 3)) (d8 4)) (d6 (j4 (dV 3) (d8 2)) (j4 (dV 4) (d8 3)))
def rj (a b:Sl) (g r:Int) (x:Sl) (fs:vO_):gT #[[a,b,.v (.int g),.v (.int r),x],fs]=some (!decide (r=0),#[[a,b,.v (.int g),.v (.int r),x],fs]):=by
 simp[dB,a9,dL,dC,Sj,Sk,X5]
def Dm (a b:Sl) (g r:Int) (x:Sl) (fs:vO_) (h:r≠0):gB #[[a,b,.v (.int g),.v (.int r),x],fs] =
  some (.next,#[[a,b,.v (.int r),.v (.int (g.fmod r)),.v (.int (g.fmod r))],fs]):=by
 simp[d6,w5,j4,a9,dL,dV,d8,C9,h]
def Ah (a b:Sl) (fs:vO_) (r:Nat):∀(g:Nat) (x:Sl),∃y,U2 gT gB #[[a,b,.v (.int g),.v (.int r),x],fs]=some (.next,#[[a,b,.v (.int (Nat.gcd g r)),.v (.int 0),y],fs]):=by
 induction r using Nat.strongRecOn with
 |ind r Y=>
  intro g x;by_cases h:r=0
  .subst h;refine#[x,?_];rw[Nat.gcd_zero_right];exact rP (by rw[rj];rfl)
  .have e:((g:Int).fmod (r:Int))=((g % r:Nat):Int):=by rw[Po _ ∅];rfl
   obtain⟨y,J⟩:=Y (g % r) (Ng _ ∅) r (.v (.int ((g:Int).fmod (r:Int))));refine#[y,?_];have U:Nat.gcd g r=Nat.gcd r (g % r):=by rw[Qv g r,Nat.gcd_rec,Qv]
   rw[U];refine vp (s1:=#[[a,b,.v (.int g),.v (.int r),x],fs]) (by rw[rj,MK ∅];rfl) (Dm _ _ _ _ _ _ ∅) ?_;rw[e] at J ⊢;exact J
def ox (a:Int):(if a<0 then -a else a)=((a.natAbs:Nat):Int):=by split <;> omega
def Fz (a b:Int) (fs:vO_):R4 [.int a,.int b] fs=some (.int (Int.gcd a b),fs):=by
 obtain⟨y,J⟩:=Ah (.v (.int a)) (.v (.int b)) fs b.natAbs a.natAbs .no;refine v5 (s:=#[[.v (.int a),.v (.int b),.v (.int (Int.gcd a b)),.v (.int 0),y],fs]) ?_;show jY #[[.v (.int a),.v (.int b),.no,.no,.no],fs]=_;unfold jY;rw[u5 (s1:=#[[.v (.int a),.v (.int b),.v (.int a.natAbs),.no,.no],fs]) (by simp[j4,j6,a7,b9,dL,one,Y5,d8,ox])];rw[u5 (s1:=#[[.v (.int a),.v (.int b),.v (.int a.natAbs),.v (.int b.natAbs),.no],fs]) (by simp[j4,j6,a7,b9,dL,one,Y5,d8,ox])];rw[u5 J];exact w4 (by simp[dV,Int.gcd])
def yp (a:Int):Int.gcd 0 a=a.natAbs:=by simp[Int.gcd]
def yN (a b:Int):Int.gcd ((a.natAbs:Nat):Int) b=Int.gcd a b:=by simp[Int.gcd]
def fV (P:D) (J x:Int) (x2:Sl) (r:vD_) (fs:vO_):A9 (d8 2) (gm R4) (.int x::r) #[[.v P,.v (.int J),x2],fs]=A9 (d8 2) (gm R4) r #[[.v P,.v (.int (Int.gcd J x)),.v (.int x)],fs]:=Q1 (s1:=#[[.v P,.v (.int J),.v (.int x)],fs]) rfl (B7 (u7 rfl (Fz J x fs)) rfl)
def vj {g:Int}{fs:vO_}(h:A9 (d8 2) (gm R4) ds #[[.v (.tup ds),.v (.int 0),.no],fs]=some (.next,#[[.v (.tup ds),.v (.int g),x2],fs])):aj R4 [.tup ds] fs=some (.int g,fs):=by
 refine v5 (s:=#[[.v (.tup ds),.v (.int g),x2],fs]) ?_;show iW R4 #[[.v (.tup ds),.no,.no],fs]=_;unfold iW;have J:G5 (dV 0) (d8 2) (gm R4) #[[.v (.tup ds),.v (.int 0),.no],fs]=some (.next,#[[.v (.tup ds),.v (.int g),x2],fs]):=h;rw[u5 (s1:=#[[.v (.tup ds),.v (.int 0),.no],fs]) (B7 rfl rfl),u5 J];exact w4 rfl
def LC (a b:Int) (fs:vO_):aj R4 [.tup [.int a,.int b]] fs=some (.int (Int.gcd a b),fs):=vj (x2:=.v (.int b)) (by
 rw[fV,fV,yp,yN];rfl)
def rL (a b c:Int) (fs:vO_):aj R4 [.tup [.int a,.int b,.int c]] fs=some (.int (Int.gcd (Int.gcd a b:Int) c),fs):=vj (x2:=.v (.int c)) (by
 rw[fV,fV,fV,yp,yN];rfl)
def dI {a g c:Int}(J:g≠0) (e:a=g*c):a.fdiv g=c:=by subst e;exact Int.mul_fdiv_cancel_left c J
def Gq {a b:Int}(J:b≠0) (h:Bd k b) (hk:k<=8000):P9 (if b<0 then -(Int.gcd a b:Int) else (Int.gcd a b:Int))=true:=by
 have U:0<Int.gcd a b:=Rm a J;split
 .exact(Bd.gcd h J).neg.div ∅ hk
 .exact(Bd.gcd h J).div ∅ hk
def sD:(2:Nat)<=sizeLine:=by decide
def xx (a b:D):C1 [a,b] (-1)=some b:=sj [a] b
def nJ (a b c:D):C1 [a,b,c] (-1)=some c:=sj [a,b] c
def KN (a b c:D):C1 [a,b,c] 0=some a:=rfl
def zG (a b c:D):C1 [a,b,c] 1=some b:=rfl
def zP (a b c:D):C1 [a,b,c] 2=some c:=rfl
abbrev FL:c8:=zi (aj R4)
theorem wm {J:Int}(U:P9 J=true) (fs:vO_):∀xs:List Int,E8 (fun d=>some [.v d,.v (.int J)]) F6 (a9 N7 (dL 0) (dL 1)) (xs.map .int) fs=some (xs.map (fun x=>.int (x.fdiv J)),fs)
 |[]=>rfl
 |x::r=>by
  have e:a9 N7 (dL 0) (dL 1) #[[.v (.int x),.v (.int J)],fs]=some (.int (x.fdiv J),#[[.v (.int x),.v (.int J)],fs]):=f9 rfl rfl (iO U);have Y:=wm U fs r;rw[Mo,E8,Mh];show ((a9 N7 (dL 0) (dL 1) #[[.v (.int x),.v (.int J)],fs]).bind _)=_;rw[e,Mh];show (E8 _ F6 _ (r.map .int) fs).map _=_;rw[Y];rfl
def JT {d g:Int}(h:C1 ds (-1)=some (.int d)) (fs:vO_):j7 (dB (a9 (n8 (fun i j=>decide (i<j))) (a9 d9 (dL 0) (k6 o8 (Sj 1))) (Sj 0))) (j4 (k6 o8 (dL 1)) (d8 1)) j8 #[[.v (.tup ds),.v (.int g)],fs]=some (.next,#[[.v (.tup ds),.v (.int (if d<0 then -g else g))],fs]):=by
 have t:dB (a9 (n8 (fun i j=>decide (i<j))) (a9 d9 (dL 0) (k6 o8 (Sj 1))) (Sj 0)) #[[.v (.tup ds),.v (.int g)],fs]=some (decide (d<0),#[[.v (.tup ds),.v (.int g)],fs]):=D4 (f9 (f9 rfl rfl (show d9 (.tup ds) (.int (-1))=some (.int d) from h)) rfl rfl);by_cases J:d<0
 .rw[MA J] at t;rw[iO J,G1 t];rfl
 .rw[MK J] at t;rw[iR J,dU t];rfl
def Hg {xs:List Int}{d g:Int}(fs:vO_) (J:xs.length<=10) (Y:aj R4 [.tup (xs.map .int)] fs=some (.int g,fs)) (h:C1 (xs.map D.int) (-1)=some (.int d)) (dg:P9 (if d<0 then -g else g)=true):FL [.tup (xs.map .int)] fs=some (.tup (xs.map fun x=>.int (x.fdiv (if d<0 then -g else g))),fs):=by
 have Z:=JT (g:=g) h fs;have cd:=wm dg fs xs;have U:(xs.map D.int).length<=sizeLine:=Mm (by rw[Mj];exact J) (show 10<=sizeLine by decide);generalize xs.map D.int=ds at *;generalize (if d<0 then -g else g)=gg at *;refine v5 (s:=#[[.v (.tup ds),.v (.int gg)],fs]) ?_;show nU (aj R4) #[[.v (.tup ds),.no],fs]=_;unfold nU;rw[u5 (s1:=#[[.v (.tup ds),.v (.int g)],fs]) (B7 (u7 rfl Y) rfl),u5 Z];exact w4 (jh (p:=U3) (Jy (kX (idx:=[1]) (ds:=ds) (s1:=#[[.v (.tup ds),.v (.int gg)],fs]) rfl U cd)) rfl)
def P6 {a b:Int}(h1:A8 a=true) (h2:A8 b=true):o7 (.int a) (.int b)=some (.int (a*b)):=by simp[o7,h1,h2]
def aF {α:Type}{xs:List α}{r:Int}(J:0<=r) (h1:r<xs.length):∃x,x∈xs/\C1 xs r=some x:=by
 refine#[xs[r.toNat]'∅,NZ _,?_];rw[jV J h1,ME]
end T
namespace DL
open PySem L2
abbrev Pt:=Rat × Rat
variable {Os Ss:List (List Pt)}{a p z:Pt}{S:Pt->Prop}{Ls:List (Pt × Pt)}{q:Pt × Pt}
abbrev vT_:=List Pt
variable {l B:vT_}
def pL (a:Pt):Int:=((Nat.lcm a.1.den a.2.den:Nat):Int)
def pX (a:Pt):Int:=a.1.num*((Nat.lcm a.1.den a.2.den / a.1.den:Nat):Int)
def pY (a:Pt):Int:=a.2.num*((Nat.lcm a.1.den a.2.den / a.2.den:Nat):Int)
def pt (a:Pt):D:=.tup [.int (pX a),.int (pY a),.int (pL a)]
theorem lcm_pos (p q:Rat):0<Nat.lcm p.den q.den:=Nat.lcm_pos (by have:=p.den_nz;omega) (by have:=q.den_nz;omega)
def dH (a:Pt):0<pL a:=by have:=lcm_pos a.1 a.2;unfold pL;omega
def kS (a:Pt):pL a≠0:=by have:=dH a;omega
def L6 (a:Pt):(0:Rat)<(pL a:Rat):=Rat.intCast_pos.mpr (dH a)
def dR (a:Pt):(pL a:Rat)≠0:=fun h=>kS a (Ow.mp h)
def mS (p:Rat):(p.num:Rat)=p*((p.den:Int):Rat):=by
 have e:=Rat.num_divInt_den p;rw[NS] at e;have J:((p.den:Int):Rat)≠0:=fun h=>Ee p (Ow.mp h)
 have:(p.num:Rat) / ((p.den:Int):Rat)*((p.den:Int):Rat)=(p.num:Rat):=Pr J;rw[e] at this;exact this.symm
theorem U4 (a:Pt):(pX a:Rat)=a.1*(pL a:Rat):=by
 unfold pX pL;obtain⟨c,J⟩:=Nat.dvd_lcm_left a.1.den a.2.den;have U:=a.1.den_nz;have e:Nat.lcm a.1.den a.2.den / a.1.den=c:=RT ∅ J;rw[e,J,Pu,My,My,mS];grind
theorem T8 (a:Pt):(pY a:Rat)=a.2*(pL a:Rat):=by
 unfold pY pL;obtain⟨c,J⟩:=Nat.dvd_lcm_right a.1.den a.2.den;have U:=a.2.den_nz;have e:Nat.lcm a.1.den a.2.den / a.2.den=c:=RT ∅ J;rw[e,J,Pu,My,My,mS];grind
theorem kE {x d:Int}{p:Rat}(hd:0<d) (h:(x:Rat)=p*(d:Rat)):∃c:Int,d=p.den*c/\x=p.num*c:=by
 have h1:x*p.den=p.num*d:=by
  have e:=mS p;have:((x*p.den:Int):Rat)=((p.num*d:Int):Rat):=by
   rw[My,My,h,e];grind
  exact Rat.intCast_inj.mp this
 have Z:(p.den:Int)∣p.num*d:=#[x,by rw[<-h1,Pw]]
 have U:p.den∣p.num.natAbs*d.natAbs:=by
  have:=Int.natAbs_dvd_natAbs.mpr Z
  rwa [Rl,Int.natAbs_natCast] at this
 have J:p.den∣d.natAbs:=Nat.Coprime.dvd_of_dvd_mul_left (Nat.Coprime.symm p.reduced) U;obtain⟨c,Y⟩:(p.den:Int)∣d:=Int.dvd_natAbs.mp (OV.mpr J);refine#[c,Y,?_];have hp:=Dt p;have:(p.den:Int)*x=p.den*(p.num*c):=by rw[Pw,h1,Y];grind
 exact Int.eq_of_mul_eq_mul_left ∅ this
theorem nD {x y d:Int}(Z:0<d) (hg:Int.gcd (Int.gcd x y:Int) d=1) (U:(x:Rat)=a.1*(d:Rat)) (J:(y:Rat)=a.2*(d:Rat)):x=pX a/\y=pY a/\d=pL a:=by
 obtain⟨c1,e1,f1⟩:=kE Z U;obtain⟨c2,e2,f2⟩:=kE Z J;obtain⟨D,rfl⟩:=Px (show 0<=d by omega);have dl:Nat.lcm a.1.den a.2.den∣D:=Nat.lcm_dvd (OV.mp #[c1,e1]) (OV.mp #[c2,e2]);obtain⟨m,hm⟩:=dl;have key:∀z:Int,∀r:Rat,(z:Rat)=r*((D:Int):Rat)->∀w:Int,(w:Rat)=r*(pL a:Rat)->z=w*m:=by
  intro z r h1 w h2;have:(z:Rat)=((w*m:Int):Rat):=by
   rw[h1,My,h2,hm];have:(((Nat.lcm a.1.den a.2.den*m:Nat):Int):Rat)=(pL a:Rat)*((m:Int):Rat):=by
    rw[Pu,My];rfl
   rw[this];grind
  exact Rat.intCast_inj.mp this
 have kx:=key x a.1 U (pX a) (U4 a);have Y:=key y a.2 J (pY a) (T8 a);have kd:(D:Int)=pL a*m:=by rw[hm,Pu];rfl
 have m1:(m:Int)∣1:=by
  have h:(m:Int)∣(Int.gcd (Int.gcd x y:Int) (D:Int):Int):=by
   refine Int.dvd_coe_gcd (Int.dvd_coe_gcd ?_ ?_) ?_
   .exact#[pX a,by rw[kx,Pw]]
   .exact#[pY a,by rw[Y,Pw]]
   .exact#[pL a,by rw[kd,Pw]]
  rwa [hg] at h
 have m2:m=1:=Nat.eq_one_of_dvd_one (OV.mp m1);subst m2;exact#[by rw[kx];simp,by rw[Y];simp,by rw[kd];simp]
theorem JG (a:Pt):Int.gcd (Int.gcd (pX a) (pY a):Int) (pL a)=1:=by
 have g0:0<Int.gcd (Int.gcd (pX a) (pY a):Int) (pL a):=Rm _ (kS a);obtain⟨d,U⟩:=Pq (Int.gcd (pX a) (pY a):Int) (pL a);have h1:=Qw (Int.gcd (pX a) (pY a):Int) (pL a);obtain⟨x,hx⟩:=Qx h1 (Qw ..);obtain⟨y,hy⟩:=Qx h1 (Pq ..);generalize hgg:Int.gcd (Int.gcd (pX a) (pY a):Int) (pL a)=G at *;have hL:=dH a;have J:0<d:=by
  rcases Qy 0 d with z | z
  .exact z
  .have:(G:Int)*d<=G*0:=Rn z ∅;omega
 have hGr:((G:Int):Rat)≠0:=fun h=>by have:=Ow.mp h;omega
 have q1:(x:Rat)=a.1*(d:Rat):=by
  have e:=U4 a;rw[hx,U,My,My] at e;grind
 have q2:(y:Rat)=a.2*(d:Rat):=by
  have e:=T8 a;rw[hy,U,My,My] at e;grind
 obtain⟨c1,e1,f1⟩:=kE J q1;obtain⟨c2,e2,f2⟩:=kE J q2;obtain⟨D,rfl⟩:=Px (show 0<=d by omega);obtain⟨m,hm⟩:Nat.lcm a.1.den a.2.den∣D:=Nat.lcm_dvd (OV.mp #[c1,e1]) (OV.mp #[c2,e2]);have hl:(pL a:Int)=((Nat.lcm a.1.den a.2.den:Nat):Int):=rfl;rw[hl,hm] at U;have Y:Nat.lcm a.1.den a.2.den=G*(Nat.lcm a.1.den a.2.den*m):=by exact_mod_cast U
 have Z:=lcm_pos a.1 a.2;have:Nat.lcm a.1.den a.2.den*(G*m)=Nat.lcm a.1.den a.2.den*1:=by
  rw[Nat.mul_one];have e3:G*(Nat.lcm a.1.den a.2.den*m)=Nat.lcm a.1.den a.2.den*(G*m):=by grind
  rw[<-e3];exact Y.symm
 have:=RU Z this;exact Nat.eq_one_of_mul_eq_one_right this
structure Ps (k:Nat) (a:Pt):Prop where
 x:Bd k (pX a)
 y:Bd k (pY a)
 l:Bd k (pL a)
theorem Ps.mono {l:Nat}(h:Ps k a) (J:k<=l):Ps l a:=#[h.x.mono J,h.y.mono J,h.l.mono J]
def Ps.of {l:Nat}(h1:Sz k a.1) (h2:Sz l a.2):Ps (k+l) a:=by
 have J:Nat.lcm a.1.den a.2.den<=a.1.den*a.2.den:=Nat.le_of_dvd (Nat.mul_pos (by have:=a.1.den_nz;omega) (by have:=a.2.den_nz;omega)) (Nat.lcm_dvd_mul ..);have b:=qp h1.2 h2.2;have U:Nat.lcm a.1.den a.2.den / a.1.den<=a.2.den:=by
  rw[RV (by have:=a.1.den_nz;omega)];omega
 have Y:Nat.lcm a.1.den a.2.den / a.2.den<=a.1.den:=by
  rw[RV (by have:=a.2.den_nz;omega),Qb a.2.den];omega
 refine#[?_,?_,?_]
 .exact Bd.mul h1.num (show Bd l ((_:Nat):Int) from Nc U h2.2)
 .have:=Bd.mul h2.num (show Bd k ((_:Nat):Int) from Nc Y h1.2);rw[NO];exact this
 .exact Nc J b
def a8 (a b c:Pt):Rat:=(b.1 - a.1)*(c.2 - a.2) - (b.2 - a.2)*(c.1 - a.1)
def l7 (r:Rat):Int:=if 0<r then 1 else if r<0 then -1 else 0
def X0 (n:Int):Int:=if 0<n then 1 else if n<0 then -1 else 0
def jN {n:Int}{c r:Rat}(J:0<c) (h:(n:Rat)=c*r):X0 n=l7 r:=by
 unfold X0 l7;have h1:0<n↔0<r:=by
  rw[<-Rat.intCast_pos,h];exact Ro J
 have h2:n<0↔r<0:=by
  rw[<-Rat.intCast_neg_iff,h];exact Rat.mul_neg_iff_of_pos_left J
 simp only[h1,h2]
def v8 (a b:Pt):Bool:=decide (a.1<b.1)||(decide (a.1=b.1)&&decide (a.2<b.2))
end DL
variable {Os Ss:List (List DL.Pt)}{a p z:DL.Pt}{S:DL.Pt->Prop}{Ls:List (DL.Pt × DL.Pt)}{q:DL.Pt × DL.Pt}{l B:DL.vT_}
namespace T
open PySem L2 DL
theorem jG (x y d:Int) (hd:d≠0):let G:Nat:=Int.gcd (Int.gcd x y:Int) d
  let g:Int:=if d<0 then -(G:Int) else (G:Int)
  g≠0/\x.fdiv g=pX (Rat.divInt x d,Rat.divInt y d)/\y.fdiv g=pY (Rat.divInt x d,Rat.divInt y d)/\d.fdiv g=pL (Rat.divInt x d,Rat.divInt y d):=by
 intro G g;have g0:0<G:=Rm _ hd;obtain⟨J,ed⟩:=Pq (Int.gcd x y:Int) d;have h1:=Qw (Int.gcd x y:Int) d;obtain⟨U,ex⟩:=Qx h1 (Qw ..);obtain⟨Y,Z⟩:=Qx h1 (Pq ..)
 replace ed:d=(G:Int)*J:=ed
 replace ex:x=(G:Int)*U:=ex
 replace Z:y=(G:Int)*Y:=Z
 have cop:Int.gcd (Int.gcd U Y:Int) J=1:=by
  have e1:Int.gcd x y=G*Int.gcd U Y:=by
   have:=Int.gcd_mul_left (m:=(G:Int)) (n:=U) (k:=Y);rw[<-ex,<-Z] at this;exact this
  have e2:Int.gcd (Int.gcd x y:Int) d=G*Int.gcd (Int.gcd U Y:Int) J:=by
   have:=Int.gcd_mul_left (m:=(G:Int)) (n:=(Int.gcd U Y:Int)) (k:=J);rw[<-ed,<-Pu,<-e1] at this;exact this
  have e3:G*Int.gcd (Int.gcd U Y:Int) J=G*1:=by rw[<-e2,Nat.mul_one]
  exact RU g0 e3
 have hdr:(d:Rat)≠0:=fun h=>hd (Ow.mp h)
 have hGr:((G:Int):Rat)≠0:=fun h=>by have:=Ow.mp h;omega
 have vx:∀z z':Int,z=(G:Int)*z'->(z':Rat)=Rat.divInt z d*(J:Rat):=fun z z' e=>by
  rw[NS];have ed':(d:Rat)=((G:Int):Rat)*(J:Rat):=by rw[<-My];exact congrArg _ ed
  have ez':(z:Rat)=((G:Int):Rat)*(z':Rat):=by rw[<-My];exact congrArg _ e
  have hd'r:(J:Rat)≠0:=fun h=>hdr (by rw[ed',h];grind)
  rw[ez',ed'];grind
 by_cases h:d<0
 .have eg:g = -(G:Int):=iO h;have dn:0 < -J:=by
   rcases Qy J 0 with z | z
   .omega
   .have:0<=(G:Int)*J:=Int.mul_nonneg ∅ z;omega
  obtain⟨q1,q2,q3⟩:=nD (x:=-U) (y:=-Y) (d:=-J) (a:=(Rat.divInt x d,Rat.divInt y d)) dn (by
   have:Int.gcd (-U) (-Y)=Int.gcd U Y:=by simp[Int.gcd]
   rw[this];have:Int.gcd (Int.gcd U Y:Int) (-J)=Int.gcd (Int.gcd U Y:Int) J:=by simp[Int.gcd]
   rw[this];exact cop) (by rw[Qz,Qz,vx x U ex];grind) (by rw[Qz,Qz,vx y Y Z];grind)
  rw[eg,<-q1,<-q2,<-q3];exact#[by omega,dI ∅ (by grind),dI ∅ (by grind),dI ∅ (by grind)]
 .have eg:g=(G:Int):=iR h;have dp:0<J:=by
   rcases Qy 0 J with z | z
   .exact z
   .have:(G:Int)*J<=G*0:=Rn z ∅;omega
  obtain⟨q1,q2,q3⟩:=nD (x:=U) (y:=Y) (d:=J) (a:=(Rat.divInt x d,Rat.divInt y d)) dp cop (vx x U ex) (vx y Y Z);rw[eg,<-q1,<-q2,<-q3];exact#[by omega,dI ∅ ex,dI ∅ Z,dI ∅ ed]
def vI {x y d:Int}(J:d≠0) (h:Bd k d) (hk:k<=8000):P9 (if d<0 then -(Int.gcd (Int.gcd x y:Int) d:Int) else (Int.gcd (Int.gcd x y:Int) d:Int))=true:=Gq (a:=(Int.gcd x y:Int)) J h hk
def zQ (x y d:Int) (fs:vO_) (J:d≠0) (h:Bd k d) (hk:k<=8000):FL [.tup [.int x,.int y,.int d]] fs=some (pt (Rat.divInt x d,Rat.divInt y d),fs):=by
 obtain⟨Y,p1,p2,U⟩:=jG x y d J;have e:=Hg (xs:=[x,y,d]) (d:=d) fs (show 3<=10 by decide) (rL x y d fs) (nJ _ _ _) (vI (x:=x) (y:=y) J h hk);unfold pt;rw[<-p1,<-p2,<-U];exact e
def px_div (a:Pt):Rat.divInt (pX a) (pL a)=a.1:=by
 rw[NS,U4,Rat.mul_div_cancel (dR a)]
def py_div (a:Pt):Rat.divInt (pY a) (pL a)=a.2:=by
 rw[NS,T8,Rat.mul_div_cancel (dR a)]
end T
namespace DL
def C8 (x y:Rat):Prop:=0<x\/(x=0/\0<y)
theorem aW (a b:Pt):v8 a b=true↔C8 (b.1 - a.1) (b.2 - a.2):=by
 unfold v8 C8;rw[Bool.or_eq_true,MF,QA,QA,QA];constructor
 .rintro(h | ⟨h1,h2⟩)
  .left;grind
  .right;constructor <;> grind
 .rintro(h | ⟨h1,h2⟩)
  .left;grind
  .right;constructor <;> grind
theorem GN (x y:Rat) (h:C8 x y):¬ C8 (-x) (-y):=by
 unfold C8 at *;grind
def bS {x y s:Rat}(J:0<s):C8 (s*x) (s*y)↔C8 x y:=by
 unfold C8;have h1:0<s*x↔0<x:=Ro J;have h2:0<s*y↔0<y:=Ro J;have h3:s*x=0↔x=0:=by
  rw[MM];constructor
  .rintro(h | h)
   .rw[h] at J;exact absurd J OW
   .exact h
  .exact fun h=>.inr h
 rw[h1,h2,h3]
theorem jy:¬ C8 0 0:=by unfold C8;grind
theorem Bt {x y:Rat}(h:C8 x y) (s:Rat):C8 (s*x) (s*y)↔0<s:=by
 constructor
 .intro q;rcases Py (a:=s) (b:=0) with z | z
  .rcases(Rat.le_iff_lt_or_eq).mp z with z | z
   .have:C8 (-s*x) (-s*y):=(bS (by grind)).mpr h;rw[Rat.neg_mul,Rat.neg_mul] at this;exact absurd this (GN _ _ q)
   .rw[z,Nw,Nw] at q;exact absurd q jy
  .rcases(Rat.le_iff_lt_or_eq).mp z with z | z
   .exact z
   .rw[<-z,Nw,Nw] at q;exact absurd q jy
 .intro J;exact(bS J).mpr h
def u3 (a b:Pt) (s:Rat):Pt:=(a.1+s*(b.1 - a.1),a.2+s*(b.2 - a.2))
def ck (a b:Pt):u3 a b 0=a:=by unfold u3;simp[Rat.add_zero]
theorem km (a b:Pt):u3 a b 1=b:=by unfold u3;exact MD (by grind) (by grind)
theorem gE {b c:Pt}(J:a≠b) (h:a8 a b c=0):∃s,c=u3 a b s:=by
 unfold a8 at h;by_cases h1:b.1 - a.1=0
 .have h2:b.2 - a.2≠0:=fun z=>J (MD (by grind) (by grind))
  refine#[(c.2 - a.2) / (b.2 - a.2),?_];unfold u3;refine MD ?_ ?_
  .show c.1=_;have:(b.2 - a.2)*(c.1 - a.1)=0:=by grind
   rcases MM.mp this with z | z
   .exact absurd z h2
   .grind
  .show c.2=_;grind
 .refine#[(c.1 - a.1) / (b.1 - a.1),?_];unfold u3;refine MD ?_ ?_
  .show c.1=_;grind
  .show c.2=_;have e:(b.1 - a.1)*(c.2 - a.2)=(b.2 - a.2)*(c.1 - a.1):=by grind
   have:c.2 - a.2=(c.1 - a.1) / (b.1 - a.1)*(b.2 - a.2):=by grind
   grind
def G3 (a b:Pt):Rat:=(a.1 - b.1)*(a.1 - b.1)+(a.2 - b.2)*(a.2 - b.2)
theorem W8 (x:Rat):0<=x*x:=by
 rcases Py (a:=0) (b:=x) with h | h
 .exact Ml h h
 .have:=Ml (a:=-x) (b:=-x) (by grind) (by grind);grind
def ki {x:Rat}(h:x≠0):0<x*x:=Rat.lt_of_le_of_ne (W8 x) (fun z=>h (by
 rcases MM.mp z.symm with q | q <;> exact q))
theorem Hq {b:Pt}(J:a≠b):0<G3 a b:=by
 unfold G3;by_cases h1:a.1 - b.1=0
 .have h2:a.2 - b.2≠0:=fun z=>J (MD (by grind) (by grind))
  have:=ki h2;have:=W8 (a.1 - b.1);grind
 .have:=ki h1;have:=W8 (a.2 - b.2);grind
theorem KI (s:Rat):s*s<=1↔(-1<=s/\s<=1):=by
 constructor
 .intro h;constructor
  .rcases Py (a:=-1) (b:=s) with z | z
   .exact z
   .have:=Ml (a:=-1 - s) (b:=-1 - s) (by grind) (by grind);have:=Ml (a:=-1 - s) (b:=1) (by grind) (by grind);grind
  .rcases Py (a:=s) (b:=1) with z | z
   .exact z
   .have:=Ml (a:=s - 1) (b:=s - 1) (by grind) (by grind);grind
 .rintro⟨h1,h2⟩;have:=Ml (a:=1 - s) (b:=1+s) (by grind) (by grind);grind
theorem zV (a b:Pt) (s:Rat):G3 a (u3 a b s)=s*s*G3 a b/\G3 b (u3 a b s)=(1 - s)*(1 - s)*G3 a b:=by
 unfold G3 u3;constructor <;> grind
end DL
namespace T
open PySem L2 DL
def CG (n:Int) (fs:vO_):iJ [.int n] fs=some (.int (X0 n),fs):=by
 refine v5 (s:=#[[.v (.int n)],fs]) ?_;show dM #[[.v (.int n)],fs]=_;unfold X0;by_cases h1:0<n
 .simp![dM,d9,h1]
 .by_cases h2:n<0
  .simp![dM,d9,h1,h2]
  .simp![dM,d9,h1,h2]
abbrev M7:c8:=qy iJ
def HF {a b c:Rat}(J:0<a) (U:0<b) (Y:0<c):0<a*b*c:=Mn (Mn J U) Y
theorem BW (a b c:Pt):X0 (pX a*(pY b*pL c - pY c*pL b) - pY a*(pX b*pL c - pX c*pL b)+pL a*(pX b*pY c - pX c*pY b))=l7 (a8 a b c):=by
 refine jN (HF (L6 a) (L6 b) (L6 c)) ?_;simp only[QB,NB,My,U4,T8,a8];grind
def kN (a b c:Pt) (fs:vO_) (Y:Ps k a) (U:Ps k b) (J:Ps k c) (hk:k<=2000):M7 [pt a,pt b,pt c] fs=some (.int (l7 (a8 a b c)),fs):=by
 have a1:=Y.x.bits ∅;have a2:=Y.y.bits ∅;have a3:=Y.l.bits ∅;have Z:=U.x.bits ∅;have b2:=U.y.bits ∅;have b3:=U.l.bits ∅;have c1:=J.x.bits ∅;have c2:=J.y.bits ∅;have c3:=J.l.bits ∅;have d1:=((U.y.mul J.l).sub (J.y.mul U.l)).bits ∅;have d2:=((U.x.mul J.l).sub (J.x.mul U.l)).bits ∅;have d3:=((U.x.mul J.y).sub (J.x.mul U.y)).bits ∅;rw[<-BW];refine v5 (s:=#[[.v (pt a),.v (pt b),.v (pt c),.v (.int (pX a*(pY b*pL c - pY c*pL b) - pY a*(pX b*pL c - pX c*pL b)+pL a*(pX b*pY c - pX c*pY b)))],fs]) ?_;show jd iJ #[[.v (pt a),.v (pt b),.v (pt c),.no],fs]=_;unfold jd;have x:∀p:Pt,d9 (pt p) (.int 0)=some (.int (pX p)):=fun _=>rfl
 have y:∀p:Pt,d9 (pt p) (.int 1)=some (.int (pY p)):=fun _=>rfl
 have l:∀p:Pt,d9 (pt p) (.int 2)=some (.int (pL p)):=fun _=>rfl
 rw[u5 (s1:=#[[.v (pt a),.v (pt b),.v (pt c),.v (.int (pX a*(pY b*pL c - pY c*pL b)))],fs]) (B7 (f9 (f9 rfl rfl (x a)) (f9 (f9 (f9 rfl rfl (y b)) (f9 rfl rfl (l c)) (P6 b2 c3)) (f9 (f9 rfl rfl (y c)) (f9 rfl rfl (l b)) (P6 c2 b3)) rfl) (P6 a1 d1)) rfl),
  u5 (s1:=#[[.v (pt a),.v (pt b),.v (pt c),.v (.int (pX a*(pY b*pL c - pY c*pL b) - pY a*(pX b*pL c - pX c*pL b)))],fs]) (B7 (f9 rfl (f9 (f9 rfl rfl (y a)) (f9 (f9 (f9 rfl rfl (x b)) (f9 rfl rfl (l c)) (P6 Z c3)) (f9 (f9 rfl rfl (x c)) (f9 rfl rfl (l b)) (P6 c1 b3)) rfl) (P6 a2 d2)) rfl) rfl),
  u5 (s1:=#[[.v (pt a),.v (pt b),.v (pt c),.v (.int (pX a*(pY b*pL c - pY c*pL b) - pY a*(pX b*pL c - pX c*pL b)+pL a*(pX b*pY c - pX c*pY b)))],fs]) (B7 (f9 rfl (f9 (f9 rfl rfl (l a)) (f9 (f9 (f9 rfl rfl (x b)) (f9 rfl rfl (y c)) (P6 Z c2)) (f9 (f9 rfl rfl (x c)) (f9 rfl rfl (y b)) (P6 c1 b2)) rfl) (P6 a3 d3)) rfl) rfl)]
 exact w4 (u7 (D9 rfl rfl) (CG _ fs))
end T
namespace DL
open PySem L2
theorem fQ {t:D->DS->Option DS}{b:DM}(P:Nat->DS->Prop):∀(ds:vD_) (n:Nat) (s:DS),P n s->(∀i d s,ds[i]? = some d->P (n+i) s->∃s1 s2,t d s=some s1/\(b s1=some (.next,s2)\/b s1=some (.cont,s2))/\P (n+i+1) s2) ->
  ∃s',A9 t b ds s=some (.next,s')/\P (n+ds.length) s'
 |[],n,s,h,_=>#[s,rfl,h]
 |d::r,n,s,h,k=>by
  obtain⟨s1,s2,Y,J,h2⟩:=k 0 d s rfl h;obtain⟨s',e3,h3⟩:=fQ P r (n+1) s2 h2 (fun i Z s hd U=>by
   have:=k (i+1) Z s (by simpa using hd) (by rwa [show n+1+i=n+(i+1) by omega] at U)
   rwa [show n+(i+1)+1=n+1+i+1 by omega] at this)
  refine#[s',?_,by rw[Mw,show n+(r.length+1)=n+1+r.length by omega];exact h3];rw[A9,Y];rcases J with J | J <;> simp[J,e3]
def kG {t:D->DS->Option DS}{b:DM}{s:DS}{xs:vD_}(h1:f s=some (xs,s1)) (h2:R9 xs=some ds):cQ f t b s=A9 t b ds s1:=by
 simp only[cQ,h1,Mh,h2]
def dJ {f:DE}{t:D->DS->Option DS}{b:DM}{s:DS}(h1:f s=some (.lst ds,s1)):G5 f t b s=A9 t b ds s1:=by
 simp only[G5,h1,Mh]
def dD {f:DE}{t:D->DS->Option DS}{b:DM}{s:DS}(h1:f s=some (.tup ds,s1)):G5 f t b s=A9 t b ds s1:=by
 simp only[G5,h1,Mh]
def eV {lo:Int}{n:Nat}(h:(B5 lo n)[i]? = some d):d = .int (lo+i)/\i<n:=by
 have hi:i<n:=by have:=(MT.mp h).1;rwa [cP] at this
 rw[mR hi] at h;cases h;exact#[rfl,hi]
def cT {n:Nat}(h:n<2 ^ 30):R9 [.int (n:Int)]=some (B5 0 n):=by
 have:-(2 ^ 62)<=(n:Int)/\(n:Int)<2 ^ 62:=by omega
 simp only[R9,iO this,Nz]
end DL
namespace T
open PySem L2 DL
def qB {i:Int}(h:i.natAbs<2 ^ k):Bd k i:=h
structure PtS (k:Nat) (a:Pt):Prop where
 x:Sz k a.1
 y:Sz k a.2
def PtS.ps (h:PtS k a):Ps (k+k) a:=Ps.of h.x h.y
theorem PtS.mono {l:Nat}(h:PtS k a) (J:k<=l):PtS l a:=#[h.x.mono J,h.y.mono J]
section
variable {α β:Type}
def ay (lt:α->α->Bool):List α->List α->List α
 |[],ys=>ys
 |x::xs,ys=>ys.takeWhile (fun y=>lt y x)++x::ay lt xs (ys.dropWhile (fun y=>lt y x))
def W0 (lt:α->α->Bool):Nat->List α->List α
 |0,l=>l
 |n+1,l=>if l.length<2 then l else ay lt (W0 lt n (l.take (l.length / 2))) (W0 lt n (l.drop (l.length / 2)))
def N3 (t:α->α->α->Bool) (x:α):List α->List α
 |b::a::r=>if t a b x=true then b::a::r else N3 t x (a::r)
 |l=>l
def P1 (t:α->α->α->Bool):List α->List α->List α
 |acc,[]=>acc
 |acc,x::xs=>P1 t (x::N3 t x acc) xs
def B3 (t:α->α->α->Bool) (l:List α):List α:=(P1 t [] l).reverse
def jJ (lt:α->α->Bool) (t:α->α->α->Bool) (l:List α):List α:=(B3 t (W0 lt 64 l)).dropLast++(B3 t (W0 lt 64 l).reverse).dropLast
def U1 [DecidableEq α] (J:List α) (x:α):List α:=if x∈J then J else J++[x]
def bA [DecidableEq α] (l:List α):List α:=l.foldl U1 []
variable {lt:α->α->Bool}{lt':β->β->Bool}{t:α->α->α->Bool}{t':β->β->β->Bool}{f:α->β}
theorem yh (h:∀a b c,t' (f a) (f b) (f c)=t a b c) (x:α):∀l:List α,N3 t' (f x) (l.map f)=(N3 t x l).map f
 |[]=>rfl
 |[b]=>rfl
 |b::a::r=>by
  have J:=yh h x (a::r);simp only[Mo,N3] at J ⊢;rw[h];split
  .rfl
  .exact J
theorem uL (h:∀a b c,t' (f a) (f b) (f c)=t a b c):∀(l acc:List α),P1 t' (acc.map f) (l.map f)=(P1 t acc l).map f
 |[],acc=>rfl
 |x::xs,acc=>by
  simp only[Mo,P1];rw[yh h,<-Mo,uL h xs]
def mL (h:∀a b c,t' (f a) (f b) (f c)=t a b c) (l:List α):B3 t' (l.map f)=(B3 t l).map f:=by
 unfold B3;have:=uL h l [];rw[NX] at this;rw[this,List.map_reverse]
theorem mm:∀{xs ys:List α}{z:α},z∈ay lt xs ys->z∈xs\/z∈ys
 |[],ys,z,h=>.inr h
 |x::xs,ys,z,h=>by
  simp only[ay] at h;rcases Mp.mp h with h | h
  .exact .inr (List.takeWhile_subset _ h)
  .rcases xo.mp h with h | h
   .exact .inl (h▸Mi ..)
   .rcases mm h with h | h
    .exact .inl (Mf _ h)
    .exact .inr (Rp _ h)
theorem bN:∀(n:Nat) {l:List α}{z:α},z∈W0 lt n l->z∈l
 |0,l,z,h=>h
 |n+1,l,z,h=>by
  simp only[W0] at h;split at h
  .exact h
  .rcases mm h with h | h
   .exact QC (bN n h)
   .exact Pz (bN n h)
theorem kT {x:α}:∀{l:List α}{z:α},z∈N3 t x l->z∈l
 |[],z,h=>h
 |[b],z,h=>h
 |b::a::r,z,h=>by
  simp only[N3] at h;split at h
  .exact h
  .exact Mf _ (kT h)
theorem yc:∀{l acc:List α}{z:α},z∈P1 t acc l->z∈acc\/z∈l
 |[],acc,z,h=>.inl h
 |x::xs,acc,z,h=>by
  simp only[P1] at h;rcases yc h with h | h
  .rcases xo.mp h with h | h
   .exact .inr (h▸Mi ..)
   .exact .inl (kT h)
  .exact .inr (Mf _ h)
def jk {l:List α}{z:α}(h:z∈B3 t l):z∈l:=by
 unfold B3 at h;rcases yc (PB.mp h) with h | h
 .cases h
 .exact h
theorem vM [DecidableEq α]:∀{l acc:List α}{z:α},z∈l.foldl U1 acc->z∈acc\/z∈l
 |[],acc,z,h=>.inl h
 |x::xs,acc,z,h=>by
  rcases vM (l:=xs) h with h | h
  .unfold U1 at h;split at h
   .exact .inl h
   .rcases Mp.mp h with h | h
    .exact .inl h
    .exact .inr (by rw[Mq.mp h];exact Mi ..)
  .exact .inr (Mf _ h)
def nZ [DecidableEq α] {l:List α}{z:α}(h:z∈bA l):z∈l:=by
 rcases vM h with h | h
 .cases h
 .exact h
theorem uP [DecidableEq α]:∀(l acc:List α),(l.foldl U1 acc).length<=acc.length+l.length
 |[],acc=>tx _
 |x::xs,acc=>by
  have h:=uP xs (U1 acc x);have h2:(U1 acc x).length<=acc.length+1:=by
   unfold U1;split
   .omega
   .simp
  simp only[Ph,Mw];omega
def zY [DecidableEq α] (l:List α):(bA l).length<=l.length:=by
 unfold bA;simpa using uP l []
end
section
variable {α:Type}{lt:α->α->Bool}
abbrev Q9 (lt:α->α->Bool) (l:List α):Prop:=l.Pairwise fun a b=>lt a b=true
structure Ord (lt:α->α->Bool):Prop where
 irr:∀a,lt a a=false
 tr:∀a b c,lt a b=true->lt b c=true->lt a c=true
 tot:∀a b,lt a b=false->a≠b->lt b a=true
theorem hV:∀{xs ys:List α}{z:α},z∈xs\/z∈ys->z∈ay lt xs ys
 |[],ys,z,h=>by rcases h with h | h;cases h;exact h
 |x::xs,ys,z,h=>by
  simp only[ay];have U:∀{z},z∈ys->z∈ys.takeWhile (fun y=>lt y x)\/z∈ys.dropWhile (fun y=>lt y x):=fun {z} J=>by
   rw[<-RW (p:=fun y=>lt y x) (l:=ys)] at J;exact Mp.mp J
  rcases h with h | h
  .rcases xo.mp h with h | h
   .exact Mp.mpr (.inr (h▸Mi ..))
   .exact Mp.mpr (.inr (Mf _ (hV (.inl h))))
  .rcases U h with h | h
   .exact Mp.mpr (.inl h)
   .exact Mp.mpr (.inr (Mf _ (hV (.inr h))))
theorem xY {p:α->Bool}:∀{l:List α}{z:α},z∈l.takeWhile p->p z=true
 |[],z,h=>by cases h
 |a::r,z,h=>by
  rw[List.takeWhile_cons] at h;by_cases q:p a=true
  .rw[iO q] at h;rcases xo.mp h with e | e
   .exact e▸q
   .exact xY e
  .rw[iR q] at h;cases h
theorem wo {p:α->Bool}:∀{l:List α}{a:α}{r:List α},l.dropWhile p=a::r->p a=false
 |[],a,r,h=>by cases h
 |b::l,a,r,h=>by
  rw[List.dropWhile_cons] at h;by_cases q:p b=true
  .rw[iO q] at h;exact wo h
  .rw[iR q] at h;cases h;simpa using q
theorem ur (O:Ord lt):∀{xs ys:List α},Q9 lt xs->Q9 lt ys->(∀x∈xs,x ∉ ys)->Q9 lt (ay lt xs ys)
 |[],ys,h1,h2,_=>h2
 |x::xs,ys,h1,h2,d=>by
  obtain⟨g1,g2⟩:=NT.mp h1;have sub:=RW (p:=fun y=>lt y x) (l:=ys);have hs:Q9 lt (ys.takeWhile (fun y=>lt y x)++ys.dropWhile (fun y=>lt y x)):=by rw[sub];exact h2
  obtain⟨s1,s2,s3⟩:=Rq.mp hs;have dw:∀z∈ys.dropWhile (fun y=>lt y x),lt x z=true:=by
   cases e:ys.dropWhile (fun y=>lt y x) with
   |nil=>intro z J;cases J
   |cons a r=>
    rw[e] at s2;have U:lt a x=false:=wo (p:=fun y=>lt y x) e;have am:a∈ys:=Rp _ (e▸Mi ..);have Z:lt x a=true:=O.tot a x U fun z=>d x (Mi ..) (z▸am)
    intro z J;rcases xo.mp J with q | q
    .exact q▸Z
    .exact O.tr _ _ _ Z ((NT.mp s2).1 z q)
  have rest:∀z∈ay lt xs (ys.dropWhile (fun y=>lt y x)),lt x z=true:=fun z J=>by
   rcases mm J with q | q
   .exact g1 z q
   .exact dw z q
  simp only[ay];refine Rq.mpr #[s1,NT.mpr #[rest,ur O g2 s2 fun a U Y=>d a (Mf _ U) (Rp _ Y)],fun a U b Y=>?_];have ax:lt a x=true:=xY (p:=fun y=>lt y x) U;rcases xo.mp Y with q | q
  .exact q▸ax
  .exact O.tr _ _ _ ax (rest b q)
theorem kZ:∀(n:Nat) {l:List α}{z:α},z∈l->z∈W0 lt n l
 |0,l,z,h=>h
 |n+1,l,z,h=>by
  simp only[W0];split
  .exact h
  .rw[<-OX (l.length / 2) l] at h;rcases Mp.mp h with h | h
   .exact hV (.inl (kZ n h))
   .exact hV (.inr (kZ n h))
theorem mE (O:Ord lt):∀(n:Nat) (l:List α),l.length<=2 ^ n->l.Nodup->Q9 lt (W0 lt (n+1) l)
 |n,l,hl,nd=>by
  simp only[W0];split
  .rename_i h
   match l,h with
   |[],_=>exact List.Pairwise.nil
   |[a],_=>exact RX _ _
   |a::b::r,h=>exact absurd h (by simp only[Mw];omega)
  .rename_i h;cases n with
   |zero=>exact absurd hl ∅
   |succ n=>
    have p2:2 ^ (n+1)=2 ^ n+2 ^ n:=by rw[Qu];omega
    rw[<-OX (l.length / 2) l] at nd;obtain⟨U,J,n3⟩:=QY.mp nd;refine ur O (mE O n _ (by rw[Np];omega) U) (mE O n _ (by rw[MH];omega) J) fun x Z Y=>?_
    exact n3 x (bN _ Z) x (bN _ Y) rfl
def LO [DecidableEq α] {J:List α}{x z:α}:z∈U1 J x↔z∈J\/z=x:=by
 unfold U1;by_cases h:x∈J
 .rw[iO h];exact#[.inl,fun q=>q.elim id fun e=>e▸h]
 .rw[iR h,Mp,Mq]
theorem sy [DecidableEq α]:∀{l acc:List α}{z:α},z∈l.foldl U1 acc↔z∈acc\/z∈l
 |[],acc,z=>by simp
 |x::xs,acc,z=>by
  rw[Ph,sy,LO,xo];exact or_assoc
def uniqG_in [DecidableEq α] {l:List α}{z:α}:z∈bA l↔z∈l:=by
 unfold bA;rw[sy];simp
def Al [DecidableEq α] {J:List α}{x:α}(h:J.Nodup):(U1 J x).Nodup:=by
 unfold U1;by_cases e:x∈J
 .rw[iO e];exact h
 .rw[iR e];refine QY.mpr #[h,by simp,fun a U b Y=>?_];rw[Mq.mp Y];exact fun z=>e (z▸U)
def Kw [DecidableEq α] (l:List α):(bA l).Nodup:=by
 have:∀(l J:List α),J.Nodup->(l.foldl U1 J).Nodup:=fun l=>by
  induction l with
  |nil=>intro J h;exact h
  |cons x xs U=>intro J h;exact U _ (Al h)
 exact this l [] Qg
end
theorem lsB_ord:Ord v8 where
 irr:=fun a=>by
  cases q:v8 a a with
  |false=>rfl
  |true=>
   rw[aW] at q;unfold C8 at q;grind
 tr:=fun a b c h1 h2=>by
  rw[aW] at h1 h2 ⊢;unfold C8 at *;grind
 tot:=fun a b h n=>by
  have h:¬ (v8 a b=true):=by rw[h];decide
  rw[aW] at h ⊢;have:¬ (b.1 - a.1=0/\b.2 - a.2=0):=fun z=>n (MD (by grind) (by grind))
  unfold C8 at *;grind
def Y0 (l:vT_):List Pt:=W0 v8 64 (bA l)
def LR (h:l.length<2 ^ 20):Q9 v8 (Y0 l):=mE lsB_ord 63 _ (Mm (zY l) (Mm (NI h) #[])) (Kw l)
def rowP_in :z∈Y0 l↔z∈l:=#[fun h=>nZ (bN _ h),fun h=>kZ _ (uniqG_in.mpr h)]
def A3 {a:DE}{b:DA}{s:DS}{x:DL.D}{xs:List DL.D}(h1:a s=some (x,s)) (h2:b s=some (xs,s)):a7 a b s=some (x::xs,s):=D9 h1 h2
def pb {l:List DL.D}{n:Nat}{x:DL.D}(h:l[n]? = some x):C1 l (n:Int)=some x:=by
 have J:n<l.length:=(MT.mp h).1;unfold C1 U0;rw[iO ∅,iO ∅];exact h
section
variable (hk:k<=2000)
include hk
end
def w6 (a b c:Pt):Bool:=decide (l7 (a8 a b c)=1)
end T
namespace DL
open PySem L2
theorem AJ {x y u v:Rat}(h1:C8 x y) (h2:C8 u v):C8 (x+u) (y+v):=by
 unfold C8 at *;grind
theorem je {x y u v a:Rat}(J:0<=a) (h1:C8 x y) (h2:C8 u v):C8 (a*x+u) (a*y+v):=by
 by_cases h:a=0
 .subst h;rw[Nw,Nw,QD,QD];exact h2
 .exact AJ ((bS (by grind)).mpr h1) h2
theorem yv {U Y vx vy J Z:Rat}(hu:C8 U Y) (hv:C8 vx vy) (hw:C8 J Z) (h1:0<U*vy - Y*vx) (h2:0<=vx*Z - vy*J):0<U*Z - Y*J:=by
 by_cases c:0<U*Z - Y*J
 .exact c
 .have k:0 <= -(U*Z - Y*J):=by grind
  have a:=(bS h1).mpr hw;have b:=je k hv (je h2 hu a);have e1:-(U*Z - Y*J)*vx+((vx*Z - vy*J)*U+(U*vy - Y*vx)*J)=0:=by grind
  have e2:-(U*Z - Y*J)*vy+((vx*Z - vy*J)*Y+(U*vy - Y*vx)*Z)=0:=by grind
  rw[e1,e2] at b;exact absurd b jy
def Z9 (h b o:Pt):Bool:=if a8 h b o=0 then decide (G3 h b<G3 h o) else decide (a8 h b o<0)
def aC (h:Pt) (b:Option Pt) (o:Pt):Option Pt:=if o=h then b else match b with
 |none=>some o
 |some r=>if Z9 h r o then some o else some r
def ue (h:Pt) (b:Option Pt):aC h b h=b:=iO rfl
def rA {h o:Pt}(n:o≠h):aC h none o=some o:=iR n
def uA {h r o:Pt}(n:o≠h) (f:Z9 h r o=true):aC h (some r) o=some o:=(iR n).trans (iO f)
def rJ {h r o:Pt}(n:o≠h) (f:Z9 h r o=false):aC h (some r) o=some r:=(iR n).trans (iR (by rw[f];exact Mk))
def kf (f:Pt) (S:vT_) (b:Option Pt):Prop:=(b=none/\∀q∈S,q=f)\/∃p,b=some p/\p∈S/\p≠f/\∀q∈S,0<=a8 f p q/\(a8 f p q=0->G3 f q<=G3 f p)
def Lst (f:Pt) (q:Pt):Prop:=q=f\/C8 (q.1 - f.1) (q.2 - f.2)
def Lst.pos {f q:Pt}(h:Lst f q) (n:q≠f):C8 (q.1 - f.1) (q.2 - f.2):=h.resolve_left n
theorem oV (f:Pt):G3 f f=0:=by unfold G3;grind
theorem Y4 (f p:Pt):a8 f p f=0:=by unfold a8;grind
theorem ai (f p:Pt):a8 f p p=0:=by unfold a8;grind
def pA (a b:Pt):0<=G3 a b:=by unfold G3;exact Rat.add_nonneg (W8 _) (W8 _)
theorem vC {f:Pt}(J:p≠f) (lp:Lst f p) (Y:Lst f z) (c:a8 f p z=0):∃s:Rat,0<=s/\z=u3 f p s:=by
 by_cases e:z=f
 .exact#[0,by decide,by rw[ck];exact e]
 .obtain⟨s,U⟩:=gE (a:=f) (b:=p) (fun z=>J z.symm) c;refine#[s,?_,U];have l:=Y.pos e;rw[U] at l;unfold u3 at l;simp only at l;have Z:f.1+s*(p.1 - f.1) - f.1=s*(p.1 - f.1):=by grind
  have e2:f.2+s*(p.2 - f.2) - f.2=s*(p.2 - f.2):=by grind
  rw[Z,e2] at l;exact MS ((Bt (lp.pos J) s).mp l)
theorem Hx {f:Pt}{S:vT_}{b:Option Pt}{o:Pt}(Z:∀q∈S,Lst f q) (ho:Lst f o) (h:kf f S b):kf f (S++[o]) (aC f b o):=by
 by_cases e:o=f
 .subst e;rw[ue];rcases h with ⟨rfl,h⟩ | ⟨p,rfl,h1,h2,h3⟩
  .refine .inl #[rfl,fun q J=>?_];rcases Mp.mp J with J | J
   .exact h q J
   .exact Mq.mp J
  .refine .inr #[p,rfl,MX _ h1,h2,fun q J=>?_];rcases Mp.mp J with J | J
   .exact h3 q J
   .rw[Mq.mp J,Y4,oV];exact#[Nh,fun _=>pA _ _]
 .have lo:=ho.pos e;rcases h with ⟨rfl,h⟩ | ⟨p,rfl,h1,h2,h3⟩
  .rw[rA e];refine .inr #[o,rfl,MO _ (Mq.mpr rfl),e,fun q J=>?_];rcases Mp.mp J with J | J
   .rw[h q J,Y4,oV];exact#[Nh,fun _=>pA _ _]
   .rw[Mq.mp J,ai];exact#[Nh,fun _=>Nh]
  .have lp:=(Z p h1).pos h2;cases U:Z9 f p o with
   |true=>
    rw[uA e U];refine .inr #[o,rfl,MO _ (Mq.mpr rfl),e,fun q J=>?_];rcases Mp.mp J with J | J
    .obtain⟨c1,c2⟩:=h3 q J;by_cases eq:q=f
     .rw[eq,Y4,oV];exact#[Nh,fun _=>pA _ _]
     .have lq:=(Z q J).pos eq;unfold Z9 at U;by_cases Y:a8 f p o=0
      .rw[iO Y] at U;have hd:=Nv U;obtain⟨s,s0,hs⟩:=vC h2 (Z p h1) ho Y;have hc:a8 f o q=s*a8 f p q:=by rw[hs];unfold u3 a8;grind
       have s1:s≠0:=fun z=>e (by rw[hs,z,ck])
       refine#[by rw[hc];exact Ml s0 c1,fun z=>?_];rw[hc] at z;rcases MM.mp z with z | z
       .exact absurd z s1
       .exact Rat.le_trans (c2 z) (MS hd)
      .rw[iR Y] at U;have hd:=Nv U;have ht:=yv lo lp lq (by unfold a8 at hd;grind) (by unfold a8 at c1;grind);have:0<a8 f o q:=by unfold a8;grind
       exact#[MS this,fun z=>by rw[z] at this;exact absurd this OW]
    .rw[Mq.mp J,ai];exact#[Nh,fun _=>Nh]
   |false=>
    rw[rJ e U];refine .inr #[p,rfl,MX _ h1,h2,fun q J=>?_];rcases Mp.mp J with J | J
    .exact h3 q J
    .rw[Mq.mp J];unfold Z9 at U;by_cases Y:a8 f p o=0
     .rw[iO Y] at U;have:=Rr U;exact#[by rw[Y];exact Nh,fun _=>by grind]
     .rw[iR Y] at U;have:=Rr U;exact#[by grind,fun z=>absurd z Y]
theorem pD {f:Pt}:∀(l S:vT_) (b:Option Pt),(∀q∈S++l,Lst f q)->kf f S b->kf f (S++l) (l.foldl (aC f) b)
 |[],S,b,_,h=>by rw[MQ];exact h
 |o::r,S,b,hl,h=>by
  have e:S++o::r=(S++[o])++r:=by simp
  rw[Ph,e];rw[e] at hl;exact pD r (S++[o]) _ hl (Hx (fun q J=>hl q (MX _ (MX _ J))) (hl o (MX _ (MO _ (Mq.mpr rfl)))) h)
def iV (f p:Pt) (S:vT_) (b:Option Pt):Prop:=(b=none/\∀q∈S,q=p)\/∃r,b=some r/\r∈S/\r≠p/\((∃q∈S,0<a8 f p q)->0<a8 f p r)
theorem pP {f:Pt}(Y:p≠f) (Z:Lst f p) (lz:Lst f z) (c:a8 f p z=0) (hd:G3 f z<=G3 f p) (hz:z≠p):∃s:Rat,s<1/\z=u3 f p s:=by
 obtain⟨s,s0,J⟩:=vC Y Z lz c;refine#[s,?_,J];have d:=(zV f p s).1;rw[<-J] at d;have U:=Hq (fun z=>Y z.symm:f≠p);have ss:s*s<=1:=by
  rcases(Py:s*s<=1\/1<=s*s) with q | q
  .exact q
  .have:G3 f p<=s*s*G3 f p:=by
    have:=RY q (MS U)
    rwa [Ox] at this
   rw[<-d] at this;have e:s*s*G3 f p=1*G3 f p:=by rw[<-d,Ox];exact Rat.le_antisymm hd this
   have e2:(s*s - 1)*G3 f p=0:=by grind
   rcases MM.mp e2 with q | q
   .grind
   .rw[q] at U;exact absurd U OW
 have s1:=(KI s).mp ss;have n1:s≠1:=fun z1=>hz (by rw[J,z1,km])
 grind
theorem Au {f:Pt}{S:vT_}{b:Option Pt}{o:Pt}(hp:p≠f) (Y:∀q∈l,Lst f q) (pl:p∈l) (F:∀q∈l,0<=a8 f p q/\(a8 f p q=0->G3 f q<=G3 f p)) (hS:∀q∈S,q∈l) (ho:o∈l) (h:iV f p S b):iV f p (S++[o]) (aC p b o):=by
 by_cases e:o=p
 .subst e;rw[ue];rcases h with ⟨rfl,h⟩ | ⟨r,rfl,h1,h2,h3⟩
  .refine .inl #[rfl,fun q J=>?_];rcases Mp.mp J with J | J
   .exact h q J
   .exact Mq.mp J
  .refine .inr #[r,rfl,MX _ h1,h2,fun ⟨q,J,c⟩=>?_];rcases Mp.mp J with J | J
   .exact h3 #[q,J,c]
   .rw[Mq.mp J,ai] at c;exact absurd c OW
 .rcases h with ⟨rfl,h⟩ | ⟨r,rfl,h1,h2,h3⟩
  .rw[rA e];refine .inr #[o,rfl,MO _ (Mq.mpr rfl),e,fun ⟨q,J,c⟩=>?_];rcases Mp.mp J with J | J
   .rw[h q J,ai] at c;exact absurd c OW
   .rw[Mq.mp J] at c;exact c
  .obtain⟨AF,ro2⟩:=F r (hS r h1);obtain⟨oo1,oo2⟩:=F o ho;cases U:Z9 p r o with
   |true=>
    rw[uA e U];refine .inr #[o,rfl,MO _ (Mq.mpr rfl),e,fun ⟨q,J,c⟩=>?_];rcases Mp.mp J with J | J
    .have cr:=h3 #[q,J,c];by_cases z:a8 f p o=0
     .obtain⟨s,s1,Z⟩:=pP hp (Y p pl) (Y o ho) z (oo2 z) e;have k:a8 p r o=(1 - s)*a8 f p r:=by rw[Z];unfold u3 a8;grind
      have k2:0<a8 p r o:=by rw[k];exact Mn (by grind) cr
      unfold Z9 at U;rw[iR (by grind)] at U;have:=Nv U;grind
     .grind
    .rw[Mq.mp J] at c;exact c
   |false=>
    rw[rJ e U];refine .inr #[r,rfl,MX _ h1,h2,fun ⟨q,J,c⟩=>?_];rcases Mp.mp J with J | J
    .exact h3 #[q,J,c]
    .rw[Mq.mp J] at c;by_cases z:a8 f p r=0
     .obtain⟨s,s1,Z⟩:=pP hp (Y p pl) (Y r (hS r h1)) z (ro2 z) h2;have k:a8 p r o = -((1 - s)*a8 f p o):=by rw[Z];unfold u3 a8;grind
      have k1:0<(1 - s)*a8 f p o:=Mn (by grind) c;unfold Z9 at U;rw[iR (by grind)] at U;have:=Rr U;grind
     .grind
theorem tw {f:Pt}{J:vT_}(Y:p≠f) (U:∀q∈J,Lst f q) (Z:p∈J) (F:∀q∈J,0<=a8 f p q/\(a8 f p q=0->G3 f q<=G3 f p)):∀(l S:vT_) (b:Option Pt),(∀q∈S++l,q∈J)->iV f p S b->iV f p (S++l) (l.foldl (aC p) b)
 |[],S,b,_,h=>by rw[MQ];exact h
 |o::r,S,b,hm,h=>by
  have e:S++o::r=(S++[o])++r:=by simp
  rw[Ph,e];rw[e] at hm;exact tw Y U Z F r (S++[o]) _ hm (Au Y U Z F (fun q hq=>hm q (MX _ (MX _ hq))) (hm o (MX _ (MO _ (Mq.mpr rfl)))) h)
theorem vw {f b c:Pt}(J:p≠f) (h1:a8 f p a=0) (h2:a8 f p b=0) (h3:a8 f p c=0):a8 a b c=0:=by
 obtain⟨s,rfl⟩:=gE (a:=f) (b:=p) (fun z=>J z.symm) h1;obtain⟨t,rfl⟩:=gE (a:=f) (b:=p) (fun z=>J z.symm) h2;obtain⟨u,rfl⟩:=gE (a:=f) (b:=p) (fun z=>J z.symm) h3;unfold u3 a8;grind
def sI (h:Pt) (l:vT_):Option Pt:=l.foldl (aC h) none
theorem mh {f:Pt}(hf:f∈l) (hl:∀q∈l,Lst f q) {b c:Pt}(Y:a∈l) (hb:b∈l) (U:c∈l) (h:a8 a b c≠0):∃p r,sI f l=some p/\p≠f/\p∈l/\sI p l=some r/\r≠f/\r∈l:=by
 have h1:=pD l [] none (by simpa using hl) (.inl #[rfl,fun q Z=>by cases Z]);rw[Nk] at h1;rcases h1 with ⟨_,h1⟩ | ⟨p,e1,p1,p2,J⟩
 .exact absurd (by rw[h1 a Y,h1 b hb,h1 c U,Y4]) h
 .have ex:∃q∈l,0<a8 f p q:=by
   by_cases z1:a8 f p a=0
   .by_cases z2:a8 f p b=0
    .by_cases z3:a8 f p c=0
     .exact absurd (vw p2 z1 z2 z3) h
     .have:=(J c U).1;exact#[c,U,by grind]
    .have:=(J b hb).1;exact#[b,hb,by grind]
   .have:=(J a Y).1;exact#[a,Y,by grind]
  have h2:=tw p2 hl p1 J l [] none (by simp) (.inl #[rfl,fun q Z=>by cases Z]);rw[Nk] at h2;rcases h2 with ⟨_,h2⟩ | ⟨r,e2,r1,r2,r3⟩
  .exact absurd (h2 f hf) (fun z=>p2 z.symm)
  .refine#[p,r,e1,p2,p1,e2,fun z=>?_,r1];have:=r3 ex;rw[z,Y4] at this;exact absurd this OW
end DL
namespace T
open PySem L2 DL
theorem xh {U Z vx vy J Y:Rat}(hu:C8 U Z) (hv:C8 vx vy) (hw:C8 J Y) (h1:0<=U*vy - Z*vx) (h2:0<=vx*Y - vy*J):0<=U*Y - Z*J:=by
 refine NH.mp fun h=>?_
 have hs:0 < -(U*Y - Z*J):=by grind
 have a1:=(bS hs).mpr hv;have a2:=je h1 hw a1;have a3:=je h2 hu a2;have e1:(vx*Y - vy*J)*U+((U*vy - Z*vx)*J + -(U*Y - Z*J)*vx)=0:=by grind
 have e2:(vx*Y - vy*J)*Z+((U*vy - Z*vx)*Y + -(U*Y - Z*J)*vy)=0:=by grind
 rw[e1,e2] at a3;exact jy a3
def rl (r:Rat):l7 r=1↔0<r:=by
 unfold l7;by_cases h:0<r
 .rw[iO h];exact#[fun _=>h,fun _=>rfl]
 .rw[iR h];by_cases h2:r<0
  .rw[iO h2];exact#[fun z=>absurd z #[],fun z=>absurd z h]
  .rw[iR h2];exact#[fun z=>absurd z #[],fun z=>absurd z h]
def X3 {b:Pt}(h:v8 a b=true):C8 (b.1 - a.1) (b.2 - a.2):=(aW a b).mp h
def Ch (S:Pt->Prop):List Pt->Prop
 |b::a::r=>v8 a b=true/\(∀q,S q->0<=a8 a b q)/\(∀z r',r=z::r'->0<a8 z a b)/\Ch S (a::r)
 |_=>True
def Up (S:Pt->Prop) (x b:Pt):Prop:=(∀q,S q->q=b\/v8 q b=true)\/∃c,v8 b c=true/\(∀q,S q->0<=a8 b c q)/\¬ (0<a8 b c x)
theorem pk {x b q:Pt}(U:Up S x b) (J:S q) (Y:v8 b x=true) (h:q=b\/v8 b q=true):0<=a8 b x q:=by
 rcases h with rfl | h
 .have:a8 q x q=0:=Y4 q x;rw[this];exact Nh
 .rcases U with U | ⟨c,bc,Uc,n⟩
  .rcases U q J with e | e
   .subst e;rw[Y4];exact Nh
   .have:=lsB_ord.tr _ _ _ h e;rw[lsB_ord.irr] at this;cases this
  .have k1:=Uc q J;have k2:0 <= -a8 b c x:=by have:=NH.mp n;grind
   have:=xh (X3 Y) (X3 bc) (X3 h) (by rw[show (x.1 - b.1)*(c.2 - b.2) - (x.2 - b.2)*(c.1 - b.1) = -a8 b c x by unfold a8;grind];exact k2) (by unfold a8 at k1;exact k1);unfold a8;exact this
theorem FU {b x q:Pt}(ab:v8 a b=true) (J:v8 b x=true) (U:v8 q b=true) (h1:0<=a8 a b q) (h2:0<a8 a b x):0<=a8 b x q:=by
 have:=xh (X3 U) (X3 ab) (X3 J) (by rw[show (b.1 - q.1)*(b.2 - a.2) - (b.2 - q.2)*(b.1 - a.1)=a8 a b q by unfold a8;grind];exact h1)
  (by rw[show (b.1 - a.1)*(x.2 - b.2) - (b.2 - a.2)*(x.1 - b.1)=a8 a b x by unfold a8;grind];exact MS h2)
 have e:a8 b x q=(b.1 - q.1)*(x.2 - b.2) - (b.2 - q.2)*(x.1 - b.1):=by unfold a8;grind
 rw[e];exact this
theorem GL {b x:Pt}(J:v8 z a=true) (ab:v8 a b=true) (U:v8 b x=true) (h1:0<a8 z a b) (h2:0<a8 a b x):0<a8 z a x:=by
 have:=yv (X3 J) (X3 ab) (X3 U) (by rw[show (a.1 - z.1)*(b.2 - a.2) - (a.2 - z.2)*(b.1 - a.1)=a8 z a b by unfold a8;grind];exact h1)
  (by rw[show (b.1 - a.1)*(x.2 - b.2) - (b.2 - a.2)*(x.1 - b.1)=a8 a b x by unfold a8;grind];exact MS h2)
 have e:a8 z a x=a8 z a b+((a.1 - z.1)*(x.2 - b.2) - (a.2 - z.2)*(x.1 - b.1)):=by unfold a8;grind
 rw[e];grind
theorem zu {x:Pt}:∀{r:vT_}{b a:Pt},Ch S (b::a::r)->0<a8 a b x->v8 b x=true->Ch (fun q=>S q\/q=x) (b::a::r)
 |r,b,a,⟨ab,L,T,R⟩,h,bx=>by
  refine#[ab,fun q U=>U.elim (L q) fun e=>by rw[e];exact MS h,T,?_];cases r with
  |nil=>trivial
  |cons z J=>
   have t:=T z J rfl;exact zu R (GL R.1 ab bx t h) (lsB_ord.tr _ _ _ ab bx)
theorem wc {x:Pt}(Z:∀q,S q->v8 q x=true):∀(r:vT_) (b:Pt),Ch S (b::r)->Up S x b->(∀p,(b::r).getLast? = some p->∀q,S q->q=p\/v8 p q=true)->(∀z∈b::r,S z)->Ch (fun q=>S q\/q=x) (x::N3 w6 x (b::r))
 |[],b,C,U,B,I=>by
  have Y:=Z b (I b (by simp));refine#[Y,fun q J=>?_,fun z r' e=>(by cases e),trivial];rcases J with J | rfl
  .exact pk U J Y (B b rfl q J)
  .rw[ai];exact Nh
 |a::r,b,C,U,B,I=>by
  obtain⟨ab,L,T,R⟩:=id C;have Y:=Z b (I b (by simp));simp only[N3];by_cases t:w6 a b x=true
  .rw[iO t];have t:0<a8 a b x:=by
    unfold w6 at t;have:=Nv t;exact(rl _).mp this
   refine#[Y,fun q J=>?_,fun z r' e=>(by cases e;exact t),zu C t Y];rcases J with J | rfl
   .by_cases n:q=b
    .exact pk U J Y (.inl n)
    .cases w:v8 q b with
     |true=>exact FU ab Y w (L q J) t
     |false=>exact pk U J Y (.inr (lsB_ord.tot q b w n))
   .rw[ai];exact Nh
  .rw[iR t];have t:¬ (0<a8 a b x):=fun z=>t (by unfold w6;exact MA ((rl _).mpr z))
   exact wc Z r a R (.inr #[b,ab,L,t]) (fun p e=>B p (by rw[PD];exact e)) fun z hz=>I z (Mf _ hz)
theorem nE {α:Type}{t:α->α->α->Bool}{x:α}:∀l:List α,(N3 t x l).getLast? = l.getLast?
 |[]=>rfl
 |[b]=>rfl
 |b::a::r=>by
  simp only[N3];split
  .rfl
  .rw[nE (a::r),PD]
theorem lM {α:Type}{t:α->α->α->Bool}{x:α}:∀{l:List α},l≠[]->N3 t x l≠[]
 |[],h=>absurd rfl h
 |[b],_=>by simp[N3]
 |b::a::r,_=>by
  simp only[N3];split
  .simp
  .exact lM (by simp)
structure Stk (S:Pt->Prop) (acc:vT_):Prop where
 ch:Ch S acc
 top:∀b r,acc=b::r->∀q,S q->q=b\/v8 q b=true
 bot:∀p,acc.getLast? = some p->∀q,S q->q=p\/v8 p q=true
 mem:∀z∈acc,S z
def Ea {J:vT_}{x:Pt}(h:Stk S J) (Z:J≠[]) (Y:∀q,S q->v8 q x=true):Stk (fun q=>S q\/q=x) (x::N3 w6 x J):=by
 cases J with
 |nil=>exact absurd rfl Z
 |cons b r=>
  have pn:N3 w6 x (b::r)≠[]:=lM Z;refine#[wc Y r b h.ch (.inl (h.top b r rfl)) h.bot h.mem,fun b' r' e q U=>?_,fun p e q U=>?_,fun z hz=>?_]
  .cases e;exact U.elim (fun z=>.inr (Y q z)) .inl
  .have e2:(b::r).getLast? = some p:=by
    rw[<-nE (t:=w6) (x:=x) (b::r)];cases w:N3 w6 x (b::r) with
    |nil=>exact absurd w pn
    |cons c cs=>rw[w,PD] at e;exact e
   rcases U with U | rfl
   .exact h.bot p e2 q U
   .exact .inr (Y p (h.mem p (List.mem_of_getLast? e2)))
  .rcases xo.mp hz with e | e
   .exact .inr e
   .exact .inl (h.mem z (kT e))
theorem Ch.sub {J:Pt->Prop}(h:∀q,J q->S q):∀{l:vT_},Ch S l->Ch J l
 |[],_=>trivial
 |[b],_=>trivial
 |b::a::r,⟨h1,h2,h3,h4⟩=>#[h1,fun q U=>h2 q (h q U),h3,Ch.sub h h4]
theorem Stk.sub {U:Pt->Prop}(h:Stk S l) (e:∀q,U q↔S q):Stk U l:=
 #[h.ch.sub fun q J=>(e q).mp J,fun b r g q J=>h.top b r g q ((e q).mp J),fun p g q J=>h.bot p g q ((e q).mp J),fun z Y=>(e z).mpr (h.mem z Y)]
theorem yQ:∀(l acc:vT_) (S:Pt->Prop),Stk S acc->acc≠[]->(∀q,S q->∀x∈l,v8 q x=true)->Q9 v8 l->Stk (fun q=>S q\/q∈l) (P1 w6 acc l)/\P1 w6 acc l≠[]/\(P1 w6 acc l).getLast? = acc.getLast?
 |[],acc,S,h,ne,_,_=>#[h.sub fun q=>by simp,ne,rfl]
 |x::xs,acc,S,h,ne,hl,hs=>by
  obtain⟨s1,s2⟩:=NT.mp hs;have h1:=Ea h ne fun q J=>hl q J x (Mi ..)
  obtain⟨g1,Z,Y⟩:=yQ xs (x::N3 w6 x acc) _ h1 (by simp) (fun q J y U=>J.elim (fun z=>hl q z y (Mf _ U)) fun z=>z▸s1 y U) s2;refine#[g1.sub fun q=>by rw[xo,or_assoc],Z,?_];simp only[P1];rw[Y];cases w:N3 w6 x acc with
  |nil=>exact absurd w (lM ne)
  |cons c cs=>rw[PD,<-w,nE]
def mP (h:Q9 v8 (p::l)):Stk (fun q=>q∈p::l) (P1 w6 [] (p::l))/\(P1 w6 [] (p::l)).getLast? = some p/\P1 w6 [] (p::l)≠[]:=by
 obtain⟨h1,h2⟩:=NT.mp h;have s0:Stk (fun q=>q=p) [p]:=#[trivial,fun b r e q J=>by cases e;exact .inl J,fun p' e q J=>by cases e;exact .inl J,fun z Y=>by simpa using Y]
 obtain⟨g1,Z,U⟩:=yQ l [p] _ s0 (by simp) (fun q J x hx=>by rw[J];exact h1 x hx) h2;exact#[g1.sub fun q=>by rw[xo],U,Z]
def M4 (l:vT_):List Pt:=jJ v8 w6 (bA l)
def LB (h:z∈M4 l):z∈l:=by
 unfold M4 jJ at h;rcases Mp.mp h with h | h
 .exact nZ (bN _ (jk (List.dropLast_subset _ h)))
 .exact nZ (bN _ (PB.mp (jk (List.dropLast_subset _ h))))
structure Nx (S:Pt->Prop) (a b:Pt):Prop where
 ne:b≠a
 lf:∀q,S q->0<=a8 a b q
 far:∀q,S q->a8 a b q=0->∃s:Rat,0<=s/\s<=1/\q=u3 a b s
def gG {b:Pt}(h:v8 a b=true):b≠a:=fun e=>by rw[e,lsB_ord.irr] at h;cases h
theorem Jk {b:Pt}{s:Rat}(h:v8 a b=true) (Y:1<s):v8 b (u3 a b s)=true:=by
 rw[aW];have U:(u3 a b s).1 - b.1=(s - 1)*(b.1 - a.1):=by unfold u3;grind
 have J:(u3 a b s).2 - b.2=(s - 1)*(b.2 - a.2):=by unfold u3;grind
 rw[U,J];exact(bS (by grind)).mpr (X3 h)
theorem Fq {b:Pt}{s:Rat}(h:v8 a b=true) (Y:s<0):v8 (u3 a b s) a=true:=by
 rw[aW];have U:a.1 - (u3 a b s).1=(-s)*(b.1 - a.1):=by unfold u3;grind
 have J:a.2 - (u3 a b s).2=(-s)*(b.2 - a.2):=by unfold u3;grind
 rw[U,J];exact(bS (by grind)).mpr (X3 h)
def rT {b:Pt}(h:v8 a b=true) (h2:v8 b a=true):False:=by
 have:=lsB_ord.tr _ _ _ h h2;rw[lsB_ord.irr] at this;cases this
def yV (S:Pt->Prop) (a b:Pt):Prop:=(∀q,S q->q=b\/v8 q b=true)\/∃c,0<a8 a b c/\∀q,S q->0<=a8 b c q
theorem zy {b:Pt}{r:vT_}(C:Ch S (b::a::r)) (U:yV S a b) (B:r=[]->∀q,S q->q=a\/v8 a q=true):Nx S a b:=by
 obtain⟨ab,L,T,R⟩:=C;refine#[gG ab,L,fun q J c0=>?_];obtain⟨s,rfl⟩:=gE (fun e=>gG ab e.symm) c0;refine#[s,NH.mp fun Y=>?_,NH.mp fun Y=>?_,rfl]
 .have lo:=Fq ab Y;cases r with
  |nil=>
   rcases B rfl _ J with e | e
   .rw[e,lsB_ord.irr] at lo;cases lo
   .exact rT lo e
  |cons z Z=>
   have t:=T z Z rfl;have k:=R.2.1 _ J;have e:a8 z a (u3 a b s)=s*a8 z a b:=by unfold a8 u3;grind
   rw[e] at k;have:=Mn (show 0 < -s by grind) t;grind
 .have hi:=Jk ab Y;rcases U with U | ⟨w,t,k⟩
  .rcases U _ J with e | e
   .rw[e,lsB_ord.irr] at hi;cases hi
   .exact rT hi e
  .have k:=k _ J;have e:a8 b w (u3 a b s) = -((s - 1)*a8 a b w):=by unfold a8 u3;grind
   rw[e] at k;have:=Mn (show 0<s - 1 by grind) t;grind
def Q7 (R:Pt->Pt->Prop):List Pt->Prop
 |a::b::r=>R a b/\Q7 R (b::r)
 |_=>True
theorem sg {R:Pt->Pt->Prop}{c:Pt}:∀{l:vT_}{b:Pt},Q7 R (l++[b])->R b c->Q7 R (l++[b]++[c])
 |[],b,_,h=>#[h,trivial]
 |[a],b,⟨h1,_⟩,h=>#[h1,h,trivial]
 |a::a'::l,b,⟨h1,h2⟩,h=>#[h1,sg (l:=a'::l) h2 h]
theorem xW :∀(r:vT_) (b:Pt),Ch S (b::r)->(∀a r',r=a::r'->yV S a b)->(∀p,(b::r).getLast? = some p->∀q,S q->q=p\/v8 p q=true)->Q7 (Nx S) (b::r).reverse
 |[],b,_,_,_=>trivial
 |a::r,b,C,U,B=>by
  have n:=zy C (U a r rfl) (fun e=>by subst e;exact B a rfl);have J:=xW r a C.2.2.2 (fun z r' e=>.inr #[b,C.2.2.1 z r' e,C.2.1]) (fun p e=>B p (by rw[PD];exact e));rw[NW] at J;rw[NW,NW];exact sg J n
def pQ (h:Q9 v8 (p::l)):Q7 (Nx fun q=>q∈p::l) (B3 w6 (p::l)):=by
 obtain⟨s,_,J⟩:=mP h;unfold B3;cases e:P1 w6 [] (p::l) with
 |nil=>exact absurd e J
 |cons b r=>
  rw[e] at s;exact xW r b s.ch (fun a U _=>.inl (s.top b r rfl)) s.bot
def qw (h:Q9 v8 (p::l)):(B3 w6 (p::l)).head? = some p:=by
 obtain⟨_,e,_⟩:=mP h;unfold B3;rw[List.head?_reverse];exact e
theorem qQ {α:Type}{t:α->α->α->Bool}:∀(l acc:List α) (x:α),(P1 t acc (l++[x])).head? = some x
 |[],acc,x=>rfl
 |y::l,acc,x=>qQ l _ x
def vK {x:Pt}:(B3 w6 (l++[x])).getLast? = some x:=by
 unfold B3;rw[List.getLast?_reverse];exact qQ l [] x
def ng (p:Pt):Pt:=(-p.1,-p.2)
theorem cy (p:Pt):ng (ng p)=p:=MD (by unfold ng;grind) (by unfold ng;grind)
theorem oU (a b c:Pt):a8 (ng a) (ng b) (ng c)=a8 a b c:=by unfold a8 ng;grind
def lZ (a b c:Pt):w6 (ng a) (ng b) (ng c)=w6 a b c:=by unfold w6;rw[oU]
theorem vt (a b:Pt):v8 (ng a) (ng b)=v8 b a:=by
 rw[Oj,aW,aW];have U:(ng b).1 - (ng a).1=a.1 - b.1:=by unfold ng;grind
 have J:(ng b).2 - (ng a).2=a.2 - b.2:=by unfold ng;grind
 rw[U,J]
theorem EF (a b:Pt) (s:Rat):ng (u3 a b s)=u3 (ng a) (ng b) s:=MD (by unfold ng u3;grind) (by unfold ng u3;grind)
def Er {b:Pt}(h:Nx (fun q=>S (ng q)) (ng a) (ng b)):Nx S a b:=by
 refine#[fun e=>h.ne (by rw[e]),fun q J=>?_,fun q J c=>?_]
 .rw[<-oU];exact h.lf (ng q) (by rw[cy];exact J)
 .rw[<-oU] at c;obtain⟨s,h1,h2,e⟩:=h.far (ng q) (by rw[cy];exact J) c;refine#[s,h1,h2,?_];rw[<-EF] at e;rw[<-cy q,e,cy]
theorem uO {R J:Pt->Pt->Prop}{f:Pt->Pt}(h:∀a b,R (f a) (f b)->J a b):∀{l:vT_},Q7 R (l.map f)->Q7 J l
 |[],_=>trivial
 |[a],_=>trivial
 |a::b::r,⟨h1,h2⟩=>#[h a b h1,uO (l:=b::r) h h2]
theorem wt {R J:Pt->Pt->Prop}(h:∀a b,R a b->J a b):∀{l:vT_},Q7 R l->Q7 J l
 |[],_=>trivial
 |[a],_=>trivial
 |a::b::r,⟨h1,h2⟩=>#[h a b h1,wt (l:=b::r) h h2]
def Nx.sub {U:Pt->Prop}{b:Pt}(h:Nx S a b) (e:∀q,U q->S q):Nx U a b:=#[h.ne,fun q J=>h.lf q (e q J),fun q J=>h.far q (e q J)]
def pB (h:Q9 v8 l):Q9 v8 (l.reverse.map ng):=by
 refine Rg.mpr ?_;have:l.reverse.Pairwise fun a b=>v8 b a=true:=RZ.mpr h
 exact this.imp fun {a b} e=>by rw[vt];exact e
def zK (h:Q9 v8 l):Q7 (Nx fun q=>q∈l) (B3 w6 l.reverse):=by
 have Y:=pB h;have e:B3 w6 (l.reverse.map ng)=(B3 w6 l.reverse).map ng:=mL (f:=ng) lZ l.reverse;have m:∀q,q∈l->ng q∈l.reverse.map ng:=fun q J=>List.mem_map_of_mem (PB.mpr J)
 cases w:l.reverse.map ng with
 |nil=>
  have:l=[]:=by simpa using w
  subst this;trivial
 |cons p r=>
  rw[w] at Y;have R:=pQ Y;rw[<-w,e] at R;exact uO (fun a b U=>Er (U.sub fun q J=>by have z:=m _ J;rw[cy] at z;exact z)) R
theorem zO {b:Pt}(h:b≠a) {s:Rat}(e:b=u3 a b s):s=1:=by
 unfold u3 at e;have U:b.1=a.1+s*(b.1 - a.1):=congrArg Prod.fst e;have Y:b.2=a.2+s*(b.2 - a.2):=congrArg Prod.snd e;by_cases z:b.1 - a.1=0
 .have J:b.2 - a.2≠0:=fun w=>h (MD (by grind) (by grind))
  have:(s - 1)*(b.2 - a.2)=0:=by grind
  rcases MM.mp this with q | q
  .grind
  .exact absurd q J
 .have:(s - 1)*(b.1 - a.1)=0:=by grind
  rcases MM.mp this with q | q
  .grind
  .exact absurd q z
theorem Bo (a b:Pt) (s t:Rat):u3 a (u3 a b s) t=u3 a b (t*s):=by
 unfold u3;exact MD (by grind) (by grind)
theorem FT (a b c:Pt):a8 a c b = -a8 a b c:=by unfold a8;grind
theorem GA {b c:Pt}(Y:S b) (U:S c) (h1:Nx S a b) (h2:Nx S a c):b=c:=by
 have k1:=h1.lf c U;have k2:=h2.lf b Y;have e:=FT a b c;have z1:a8 a b c=0:=by grind
 have z2:a8 a c b=0:=by grind
 obtain⟨s,s0,s1,es⟩:=h1.far c U z1;obtain⟨t,t0,t1,Z⟩:=h2.far b Y z2;have q:b=u3 a b (t*s):=by rw[<-Bo,<-es];exact Z
 have q:=zO h1.ne q;have J:s=1:=by
  have a1:t*s<=1*s:=RY t1 s0;grind
 rw[es,J,km]
theorem tL {x:Pt}:∀{l m:vT_},Q7 R (l++[x])->Q7 R (x::m)->Q7 R (l++x::m)
 |[],m,_,h=>h
 |[a],m,⟨h1,_⟩,h=>#[h1,h]
 |a::b::l,m,⟨h1,h2⟩,h=>#[h1,tL (l:=b::l) h2 h]
theorem jz {R:Pt->Pt->Prop}:∀{l:vT_}{i:Nat}{a b:Pt},Q7 R l->l[i]? = some a->l[i+1]? = some b->R a b
 |[],i,a,b,_,h,_=>by simp at h
 |[c],i,a,b,_,_,h=>by simp at h
 |c::d::r,0,a,b,⟨h1,_⟩,e1,e2=>by simp at e1 e2;subst e1;subst e2;exact h1
 |c::d::r,i+1,a,b,⟨_,h2⟩,e1,e2=>jz (l:=d::r) h2 (by simpa using e1) (by simpa using e2)
structure Rnd (S:Pt->Prop) (p:Pt) (C:vT_):Prop where
 hd:C.head? = some p
 run:Q7 (Nx S) (C++[p])
 mem:∀z∈C,S z
 nb:∀i,0<i->C[i]? ≠ some p
def Rnd.nodup {C:vT_}(h:Rnd S p C):C.Nodup:=by
 have sp:S p:=h.mem p (List.mem_of_mem_head? h.hd);have Y:∀i a,(C++[p])[i]? = some a->S a:=fun i a e=>by
  rcases Mp.mp (Om e) with z | z
  .exact h.mem a z
  .rw[Mq.mp z];exact sp
 have J:∀(t i j:Nat),i<j->j+t<=C.length->(C++[p])[i]? = (C++[p])[j]? -> (C++[p])[i+t]? = (C++[p])[j+t]?:=by
  intro t;induction t with
  |zero=>intro i j _ _ e;exact e
  |succ t ih=>
   intro i j U hl e;have e':=ih i j U ∅ e;have l:(C++[p]).length=C.length+1:=by simp
   obtain⟨a,ha⟩:∃a,(C++[p])[j+t]? = some a:=#[_,ME ∅]
   obtain⟨b,hb⟩:∃b,(C++[p])[j+t+1]? = some b:=#[_,ME ∅]
   obtain⟨c,hc⟩:∃c,(C++[p])[i+t+1]? = some c:=#[_,ME ∅]
   have r1:=jz h.run ha hb;have r2:=jz h.run (e'.trans ha) hc;have:=GA (Y _ _ hb) (Y _ _ hc) r1 r2;show (C++[p])[i+t+1]? = (C++[p])[j+t+1]?;rw[hb,hc,this]
 refine Rt.mpr fun i j hi Z U e=>?_
 have e:C[i]? = C[j]?:=by rw[ME hi,ME Z,e]
 have g:∀k,k<C.length->(C++[p])[k]? = C[k]?:=fun k hk=>NK hk
 have s:=J (C.length - j) i j U ∅ (by rw[g i ∅,g j Z];exact e);rw[show j+(C.length - j)=C.length by omega,NJ (tx _),Nat.sub_self,g _ ∅] at s;exact h.nb (i+(C.length - j)) ∅ s
def lD {α:Type}{l:List α}{x:α}(h:l.getLast? = some x):l.dropLast++[x]=l:=by
 obtain⟨m,rfl⟩:=Sa.mp h;simp
def GP {α:Type}{l:List α}{x:α}(h:l.head? = some x) (h2:2<=l.length):l.dropLast.head? = some x:=by
 match l,h2 with
 |a::b::r,_=>simpa using h
theorem sx :∀{acc:vT_},Ch S acc->acc.Pairwise fun b a=>v8 a b=true
 |[],_=>List.Pairwise.nil
 |[b],_=>RX _ _
 |b::a::r,⟨ab,_,_,R⟩=>by
  have J:=sx R;refine NT.mpr #[fun z U=>?_,J];rcases xo.mp U with q | q
  .exact q▸ab
  .exact lsB_ord.tr _ _ _ ((NT.mp J).1 z q) ab
def uS (h:Q9 v8 (p::l)):Q9 v8 (B3 w6 (p::l)):=RZ.mpr (sx (mP h).1.ch)
def zc (hl:l.length<2 ^ 20) {r:vT_}(e:Y0 l=p::r) (hr:r≠[]):Rnd (fun q=>q∈l) p (M4 l):=by
 have U:=LR hl;rw[e] at U;obtain⟨m,x,rx⟩:∃m x,r=m++[x]:=by
  obtain⟨x,hx⟩:∃x,r.getLast? = some x:=by
   cases q:r.getLast? with
   |none=>exact absurd (List.getLast?_eq_none_iff.mp q) hr
   |some x=>exact#[x,rfl]
  obtain⟨m,q⟩:=Sa.mp hx;exact#[m,x,q]
 have el:p::r=(p::m)++[x]:=by rw[rx];rfl
 have Z:(p::r).reverse=x::(p::m).reverse:=by rw[el];simp
 have px:∀z∈r,v8 p z=true:=(NT.mp U).1;have xr:x∈r:=by rw[rx];simp
 have inl:∀z,z∈l↔z∈p::r:=fun z=>by rw[<-rowP_in,e]
 have eh:M4 l=(B3 w6 (p::r)).dropLast++(B3 w6 (p::r).reverse).dropLast:=by
  unfold M4 jJ;show (B3 w6 (Y0 l)).dropLast++(B3 w6 (Y0 l).reverse).dropLast=_;rw[e]
 have R1:=pQ U;have R2:=zK U;have H1:=qw U;have L1:(B3 w6 (p::r)).getLast? = some x:=by rw[el];exact vK
 have L2:(B3 w6 (p::r).reverse).getLast? = some p:=by rw[NW];exact vK
 have H2:(B3 w6 (p::r).reverse).head? = some x:=by
  have J:=pB U;have q:B3 w6 ((p::r).reverse.map ng)=(B3 w6 (p::r).reverse).map ng:=mL (f:=ng) lZ _;rw[Z,Mo] at J;have b:=qw J;rw[<-Mo,<-Z,q,List.head?_map] at b;cases w:(B3 w6 (p::r).reverse).head? with
  |none=>rw[w] at b;cases b
  |some y=>
   rw[w] at b;have:ng y=ng x:=MB b;rw[<-cy y,this,cy]
 have n1:2<=(B3 w6 (p::r)).length:=by
  match w:B3 w6 (p::r),H1,L1 with
  |[],h,_=>cases h
  |[a],h1,h2=>
   simp at h1 h2;exact absurd (h2▸h1▸rfl:x=p) (gG (px x xr))
  |a::b::c,_,_=>simp
 have mem1:∀z∈B3 w6 (p::r),z∈p::r:=fun z Y=>jk Y
 have mem2:∀z∈B3 w6 (p::r).reverse,z∈p::r:=fun z Y=>PB.mp (jk Y)
 have cp:M4 l++[p]=(B3 w6 (p::r)).dropLast++B3 w6 (p::r).reverse:=by rw[eh,NL,lD L2]
 refine#[?_,?_,fun z Y=>LB Y,fun i hi q=>?_]
 .rw[eh,List.head?_append,GP H1 n1];rfl
 .rw[cp];cases w:B3 w6 (p::r).reverse with
  |nil=>rw[w] at H2;cases H2
  |cons y m2=>
   rw[w] at H2;have:y=x:=by simpa using H2
   subst this;refine wt (R:=Nx fun q=>q∈p::r) (fun a b h=>Nx.sub h fun q hq=>(inl q).mp hq) (tL (by rw[lD L1];exact R1) (by rw[<-w];exact R2))
 .have S1:=uS U;have S2:(B3 w6 (p::r).reverse).Pairwise fun a b=>v8 b a=true:=by
   have J:=pB U;have q:B3 w6 ((p::r).reverse.map ng)=(B3 w6 (p::r).reverse).map ng:=mL (f:=ng) lZ _;rw[Z,Mo] at J;have b:=uS J;rw[<-Mo,<-Z,q] at b;exact(Rg.mp b).imp fun {a c} z=>by rw[vt] at z;exact z
  rw[<-lD L2] at S2;have B:∀z∈(B3 w6 (p::r).reverse).dropLast,z≠p:=fun z Y w=>gG ((Rq.mp S2).2.2 z Y p (by simp)) w
  have A:∀j,0<j->(B3 w6 (p::r)).dropLast[j]? ≠ some p:=fun j hj w=>by
   cases c:B3 w6 (p::r) with
   |nil=>rw[c] at H1;cases H1
   |cons a t=>
    rw[c] at H1 w S1;have ap:a=p:=by simpa using H1
    have m:p∈t:=by
     have w2:(a::t)[j]? = some p:=by
      rw[List.getElem?_dropLast] at w;split at w
      .exact w
      .cases w
     cases j with
     |zero=>omega
     |succ j=>exact Om (by simpa using w2)
    exact gG ((NT.mp S1).1 p m) ap.symm
  rw[eh] at q;by_cases hi2:i<(B3 w6 (p::r)).dropLast.length
  .rw[NK hi2] at q;exact A i hi q
  .rw[NJ ∅] at q;exact B p (Om q) rfl
end T
namespace DL
open PySem L2
structure Ok (k n:Nat) (d:D):Prop where
 pl:d.plain=true
 sh:d.py.showable=true
 la:d.py.canLay0=true
 dp:d.py.depth<=k
 le:d.py.leavesShort 1921=true
 bu:d.py.bulk<=n
structure OkL (k n:Nat) (ds:vD_):Prop where
 pl:D.plains ds=true
 sh:PyData.showableAll (D.pys ds)=true
 la:PyData.canLayAll0 (D.pys ds)=true
 dp:PyData.depthAll (D.pys ds)<=k
 le:PyData.leavesShortAll 1921 (D.pys ds)=true
 bu:PyData.bulkAll (D.pys ds)<=n
def Ok.mono {n k' J:Nat}(h:Ok k n d) (hk:k<=k') (U:n<=J):Ok k' J d:=#[h.pl,h.sh,h.la,Mm h.dp hk,h.le,Mm h.bu U]
def OkL.mono {n k' J:Nat}(h:OkL k n ds) (hk:k<=k') (U:n<=J):OkL k' J ds:=#[h.pl,h.sh,h.la,Mm h.dp hk,h.le,Mm h.bu U]
theorem Ok.non:Ok 0 0 .non:=#[rfl,rfl,rfl,tx _,rfl,tx _]
theorem Ok.bl (b:Bool):Ok 0 0 (.bl b):=#[rfl,rfl,rfl,tx _,rfl,tx _]
theorem Ok.int {i:Int}(h:Bd 1920 i):Ok 0 0 (.int i):=by
 have J:i.natAbs.log2<1920:=dY #[] h;refine#[rfl,?_,rfl,tx _,?_,tx _]
 .simp only[D.py,PyData.showable];exact MA J
 .simp only[D.py,PyData.leavesShort,PyData.shown];exact MA (Jc J)
theorem Ok.str (h:PyData.strOk x=true):Ok 0 x.length (.str x):=by
 refine#[rfl,rfl,?_,tx _,?_,tx _]
 .simp only[D.py,PyData.canLay0];exact h
 .exact PyData.leavesShort_of_canLay0 1921 (.str x) (by simp only[PyData.canLay0];exact h) rfl
def OkL.nil:OkL 0 0 []:=#[rfl,rfl,rfl,tx _,rfl,tx _]
def OkL.cons {l n:Nat}(h:Ok k n d) (J:OkL l m ds):OkL (max k l) (n+1+m) (d::ds):=by
 refine#[?_,?_,?_,?_,?_,?_]
 .simp only[D.plains,h.pl,J.pl,NR]
 .simp only[D.pys,PyData.showableAll,h.sh,J.sh,NR]
 .simp only[D.pys,PyData.canLayAll0,h.la,J.la,NR]
 .have:=h.dp;have:=J.dp;simp only[D.pys,PyData.depthAll];omega
 .simp only[D.pys,PyData.leavesShortAll,h.le,J.le,NR]
 .have:=h.bu;have:=J.bu;simp only[D.pys,PyData.bulkAll];omega
theorem Ok.tup {n:Nat}(h:OkL k n ds):Ok (k+1) n (.tup ds):=by
 refine#[?_,?_,?_,?_,?_,?_]
 .simp only[D.plain,h.pl]
 .simp only[D.py,PyData.showable,h.sh]
 .simp only[D.py,PyData.canLay0,h.la]
 .have:=h.dp;simp only[D.py,PyData.depth];omega
 .simp only[D.py,PyData.leavesShort,h.le]
 .have:=h.bu;simp only[D.py,PyData.bulk];omega
theorem Ok.lst {n:Nat}(h:OkL k n ds):Ok (k+1) n (.lst ds):=by
 refine#[?_,?_,?_,?_,?_,?_]
 .simp only[D.plain,h.pl]
 .simp only[D.py,PyData.showable,h.sh]
 .simp only[D.py,PyData.canLay0,h.la]
 .have:=h.dp;simp only[D.py,PyData.depth];omega
 .simp only[D.py,PyData.leavesShort,h.le]
 .have:=h.bu;simp only[D.py,PyData.bulk];omega
theorem OkL.all {n:Nat}:∀{ds:vD_},(∀d∈ds,Ok k n d)->OkL k (ds.length*(n+1)) ds
 |[],_=>OkL.nil.mono ∅ ∅
 |d::r,h=>by
  have:=(OkL.cons (h d (Mi ..)) (OkL.all (ds:=r) fun x J=>h x (Mf _ J)))
  refine this.mono ∅ ?_;rw[Mw,Nat.add_mul,Nat.one_mul];omega
def Ok.eq {k n:Nat}{d:D}(h:Ok k n d) (hk:k<=64:=by decide):C5 d=true:=by
 simp only[C5,h.pl,SeqAt.shaped,h.la,Ov,MA (Mm h.dp hk)]
theorem Ok.pt {k:Nat}{a:Pt}(h:Ps k a) (hk:k<=1920:=by decide):Ok 1 3 (pt a):=Ok.tup ((OkL.cons (Ok.int (h.x.mono hk)) (OkL.cons (Ok.int (h.y.mono hk)) (OkL.cons (Ok.int (h.l.mono hk)) OkL.nil))))
def C4 (ds:vD_) (i:Int):d9 (.tup ds) (.int i)=C1 ds i:=rfl
def B9 (ds:vD_) (i:Int):d9 (.lst ds) (.int i)=C1 ds i:=rfl
def D8 (p:Rat):d9 (DL.fr p) (.int 0)=some (.int p.num):=rfl
def D7 (p:Rat):d9 (DL.fr p) (.int 1)=some (.int p.den):=rfl
def D3 (a:Pt):d9 (DL.pt a) (.int 0)=some (.int (pX a)):=rfl
def D1 (a:Pt):d9 (DL.pt a) (.int 1)=some (.int (pY a)):=rfl
def D6 (a:Pt):d9 (DL.pt a) (.int 2)=some (.int (pL a)):=rfl
end DL
namespace T
open PySem L2 DL
section
variable {g h:Pt}(n:h≠g)
include n
end
theorem Gb {b c d:Pt}(U:S a) (Y:S b) (N:Nx S c d) {s:Rat}(h0:0<s) (h1:s<1) (ab:b≠a) (e:c=u3 a b s):False:=by
 have k1:=N.lf a U;have k2:=N.lf b Y;have q:(1 - s)*a8 c d a+s*a8 c d b=0:=by
  rw[e];unfold a8 u3;grind
 have p1:0<=(1 - s)*a8 c d a:=Ml (by grind) k1;have p2:0<=s*a8 c d b:=Ml (by grind) k2;have z1:(1 - s)*a8 c d a=0:=by grind
 have z2:s*a8 c d b=0:=by grind
 have c1:a8 c d a=0:=by
  rcases MM.mp z1 with w | w
  .grind
  .exact w
 have c2:a8 c d b=0:=by
  rcases MM.mp z2 with w | w
  .grind
  .exact w
 obtain⟨u,u0,u1,J⟩:=N.far a U c1;obtain⟨v,v0,v1,ev⟩:=N.far b Y c2;have dn:=N.ne;have x1:(1 - s)*(a.1 - c.1)+s*(b.1 - c.1)=0:=by rw[e];unfold u3;grind
 have x2:(1 - s)*(a.2 - c.2)+s*(b.2 - c.2)=0:=by rw[e];unfold u3;grind
 have y1:((1 - s)*u+s*v)*(d.1 - c.1)=0:=by
  have:=congrArg Prod.fst J;have t:=congrArg Prod.fst ev
  unfold u3 at this t;simp only at this t;grind
 have Z:((1 - s)*u+s*v)*(d.2 - c.2)=0:=by
  have:=congrArg Prod.snd J;have t:=congrArg Prod.snd ev
  unfold u3 at this t;simp only at this t;grind
 have w0:(1 - s)*u+s*v=0:=by
  rcases MM.mp y1 with w | w
  .exact w
  .rcases MM.mp Z with w' | w'
   .exact w'
   .exact absurd (MD (by grind) (by grind)) dn
 have g1:0<=(1 - s)*u:=Ml (by grind) u0;have g2:0<=s*v:=Ml (by grind) v0;have u':u=0:=by
  have:(1 - s)*u=0:=by grind
  rcases MM.mp this with w | w
  .grind
  .exact w
 have v':v=0:=by
  have:s*v=0:=by grind
  rcases MM.mp this with w | w
  .grind
  .exact w
 rw[u',ck] at J;rw[v',ck] at ev;exact ab (ev.trans J.symm)
theorem Hn {b c d:Pt}(sa:S a) (Z:S b) (J:S c) (N:Nx S a b) (N2:Nx S c d) (U:c≠a) (Y:c≠b):0<a8 a b c:=by
 have k:=N.lf c J;by_cases z:a8 a b c=0
 .obtain⟨s,s0,s1,e⟩:=N.far c J z;have n0:s≠0:=fun w=>U (by rw[e,w,ck])
  have n1:s≠1:=fun w=>Y (by rw[e,w,km])
  exact(Gb sa Z N2 (by grind) (by grind) N.ne e).elim
 .grind
end T
namespace DL
open PySem L2
def U6 (x:Str):Prop:=∀c∈x.cps.toList,c<128
mutual
def Th (b:Nat):Nat->D->Prop
 |_,.non=>True
 |_,.bl _=>True
 |_,.int i=>Bd b i
 |_,.str x=>U6 x
 |k+1,.tup ds=>Ths b k ds
 |k+1,.lst ds=>Ths b k ds
 |_,_=>False
def Ths (b:Nat):Nat->List D->Prop
 |_,[]=>True
 |k,d::r=>Th b k d/\Ths b k r
end
def bk (d:D):Nat:=d.py.bulk
def F5 (ds:vD_):Nat:=PyData.bulkAll (D.pys ds)
def aU:F5 []=0:=rfl
def M8 (d:D) (r:vD_):F5 (d::r)=bk d+1+F5 r:=by simp only[F5,bk,D.pys,PyData.bulkAll]
theorem af:∀(a b:vD_),F5 (a++b)=F5 a+F5 b
 |[],b=>by rw[Nk,aU,PF]
 |d::r,b=>by rw[QR,M8,M8,af r b];omega
def T5 (ds:vD_):bk (.tup ds)=F5 ds:=by simp only[F5,bk,D.py,PyData.bulk]
def zh (ds:vD_):bk (.lst ds)=F5 ds:=by simp only[F5,bk,D.py,PyData.bulk]
def gw (i:Int):bk (.int i)=0:=rfl
def zX (i:Bool):bk (.bl i)=0:=rfl
def hJ (x:Str):bk (.str x)=x.length:=rfl
theorem iu:∀ds:List D,ds.length<=F5 ds
 |[]=>tx _
 |d::r=>by have:=iu r;rw[M8,Mw];omega
def En (n:Nat) (ds:vD_):F5 (ds.take n)<=F5 ds:=by
 have:=af (ds.take n) (ds.drop n);rw[OX] at this;omega
def Ig (n:Nat) (ds:vD_):F5 (ds.drop n)<=F5 ds:=by
 have:=af (ds.take n) (ds.drop n);rw[OX] at this;omega
theorem qW:∀ds:List D,F5 ds.reverse=F5 ds
 |[]=>rfl
 |d::r=>by rw[NW,af,qW r,M8,M8,aU];omega
def Cj (h:d∈ds):bk d+1<=F5 ds:=by
 induction ds with
 |nil=>cases h
 |cons x r J=>
  rw[M8];rcases xo.mp h with z | z
  .subst z;omega
  .have:=J z;omega
section
variable {b b' k':Nat}
mutual
theorem Th.mono (J:b<=b'):∀{k k':Nat}(d:D),k<=k'->Th b k d->Th b' k' d
 |k,k',.non,_,_=>by unfold Th;trivial
 |k,k',.bl _,_,_=>by unfold Th;trivial
 |k,k',.int i,_,h=>by unfold Th at *;exact Bd.mono h J
 |k,k',.str x,_,h=>by unfold Th at *;exact h
 |0,k',.tup ds,_,h=>by unfold Th at h;exact h.elim
 |k+1,0,.tup ds,hk,h=>by omega
 |k+1,k'+1,.tup ds,hk,h=>by unfold Th at *;exact Ths.mono J ds ∅ h
 |0,k',.lst ds,_,h=>by unfold Th at h;exact h.elim
 |k+1,0,.lst ds,hk,h=>by omega
 |k+1,k'+1,.lst ds,hk,h=>by unfold Th at *;exact Ths.mono J ds ∅ h
 |k,k',.feed,_,h=>by unfold Th at h;exact h.elim
 |k,k',.scr _,_,h=>by unfold Th at h;exact h.elim
theorem Ths.mono (J:b<=b'):∀{k k':Nat}(ds:vD_),k<=k'->Ths b k ds->Ths b' k' ds
 |k,k',[],_,_=>by unfold Ths;trivial
 |k,k',d::r,hk,h=>by unfold Ths at *;exact#[Th.mono J d hk h.1,Ths.mono J r hk h.2]
end
theorem Ths.mem:∀{ds:vD_}{d:D},Ths b k ds->d∈ds->Th b k d
 |x::r,d,h,m=>by
  unfold Ths at h;rcases xo.mp m with z | z
  .subst z;exact h.1
  .exact Ths.mem h.2 z
theorem Ths.of:∀{ds:vD_},(∀d∈ds,Th b k d)->Ths b k ds
 |[],_=>by unfold Ths;trivial
 |d::r,h=>by unfold Ths;exact#[h d (Mi ..),Ths.of fun x J=>h x (Mf _ J)]
def wX (h:U6 x):PyData.strOk x=true:=by
 unfold PyData.strOk;rw[Array.all_eq_true_iff_forall_mem];intro c J;have:=h c (Array.mem_toList_iff.mpr J);exact MA ∅
mutual
theorem Th.ok (J:b<=1920):∀{k:Nat}(d:D),Th b k d->Ok k (bk d) d
 |k,.non,_=>Ok.non.mono ∅ (MY _)
 |k,.bl i,_=>(Ok.bl i).mono ∅ (MY _)
 |k,.int i,h=>by unfold Th at h;exact(Ok.int (Bd.mono h J)).mono ∅ (MY _)
 |k,.str x,h=>by unfold Th at h;exact(Ok.str (wX h)).mono ∅ (tx _)
 |0,.tup ds,h=>by unfold Th at h;exact h.elim
 |k+1,.tup ds,h=>by unfold Th at h;rw[T5];exact Ok.tup (Ths.ok J ds h)
 |0,.lst ds,h=>by unfold Th at h;exact h.elim
 |k+1,.lst ds,h=>by unfold Th at h;rw[zh];exact Ok.lst (Ths.ok J ds h)
 |k,.feed,h=>by unfold Th at h;exact h.elim
 |k,.scr _,h=>by unfold Th at h;exact h.elim
theorem Ths.ok (J:b<=1920):∀{k:Nat}(ds:vD_),Ths b k ds->OkL k (F5 ds) ds
 |k,[],_=>OkL.nil.mono ∅ (MY _)
 |k,d::r,h=>by
  unfold Ths at h;rw[M8];exact(OkL.cons (Th.ok J d h.1) (Ths.ok J r h.2)).mono ∅ (tx _)
end
end
def GH (i:Int):U6 (PySem.Str.ofString (toString i)):=by
 intro c U;rw[PyProof.Rows.signs_ofString] at U;obtain⟨ch,J,rfl⟩:=ML.mp U;exact int_ascii i ch J
def FG {b:Nat}{i:Int}(h:Bd b i) (J:0<b):(PySem.Str.ofString (toString i)).length<=b+1:=by
 rw[ofString_length];exact int_text_length_le10 J (Mu h (Nat.pow_le_pow_left #[] _))
def yZ (ds:vD_) (n:Nat) (h:n<=ds.length):A0 ds none (some (n:Int))=ds.take n:=by
 unfold A0 HT.sIx;have h1:¬ (n:Int)<0:=by omega
 simp only[h1,Nr,Qh,Pl,Nz];rw[Pn h]
def tQ (ds:vD_) (n:Nat) (h:n<=ds.length):A0 ds (some (n:Int)) none=ds.drop n:=by
 unfold A0 HT.sIx;have h1:¬ (n:Int)<0:=by omega
 simp only[h1,Nr,Nz];rw[Pn h];exact Sb (by rw[MH];omega)
def sU {l h:Option Int}(J:d∈A0 ds l h):d∈ds:=by
 unfold A0 at J;exact Pz (QC J)
def uF (ds:vD_) (l h:Option Int):F5 (A0 ds l h)<=F5 ds:=by
 unfold A0;exact Mm (En _ _) (Ig _ _)
def yt (ds:vD_) (l h:Option Int):(A0 ds l h).length<=ds.length:=by
 unfold A0;rw[Np,MH];omega
end DL
namespace T
open PySem L2 DL
def eI (h:x.cps.toList.all (fun c=>decide (c<128))=true):U6 x:=fun c J=>Nv (Nb.mp h c J)
def aq (C:String) (ds:vD_):F7 C (.tup ds)=some (.bl (F9 "tuple" C)):=rfl
def Et (C:String) (ds:vD_):F7 C (.lst ds)=some (.bl (F9 "list" C)):=rfl
def rm (C:String) (i:Int):F7 C (.int i)=some (.bl (F9 "int" C)):=rfl
def Dz (C:String) (i:Bool):F7 C (.bl i)=some (.bl (F9 "bool" C)):=rfl
def Eb (C:String) (i:Str):F7 C (.str i)=some (.bl (F9 "str" C)):=rfl
def Ej (C:String):F7 C .non=some (.bl (F9 "NoneType" C)):=rfl
def Jv (ds:vD_):PyData.eqv (D.py (.tup ds)) (D.py (.tup []))=decide (ds=[]):=by
 cases ds with
 |nil=>simp[D.py,D.pys,PyData.eqv,PyData.eqvAll]
 |cons d r=>simp[D.py,D.pys,PyData.eqv,PyData.eqvAll]
def CW {b:Nat}(ds:vD_) (h:Th b k (.tup ds)) (Y:b<=1920) (hk:k<=64):A2 (.tup ds) (.tup [])=some (.bl (!decide (ds=[]))):=by
 have J:=(Th.ok Y _ h).eq hk;have U:C5 (.tup [])=true:=(Ok.tup OkL.nil).eq;have:A2 (.tup ds) (.tup [])=if C5 (.tup ds)&&C5 (.tup []) then some (.bl (!PyData.eqv (D.py (.tup ds)) (D.py (.tup [])))) else none:=rfl
 rw[this,J,U,Jv];rfl
end T
namespace DL
open PySem L2
theorem jQ {idx:List Nat}{g:D->D}(caps:List Sl) (fs:vO_):∀(ds:vD_),(∀d∈ds,∃s,fe #[.v d::caps,fs]=some (g d,s)/\s.fs=fs)->E8 (fun d=>some (.v d::caps)) F6 fe ds fs=some (ds.map g,fs)
 |[],_=>rfl
 |d::r,h=>by
  obtain⟨s,e,q⟩:=h d (Mi ..);have U:=jQ (idx:=idx) caps fs r fun x J=>h x (Mf _ J)
  simp[E8,F6,e,q,U]
theorem rb (p:D->Bool):∀ds:List D,bU (ds.map fun d=>.bl (p d))=some (ds.all p)
 |[]=>rfl
 |d::r=>by simp[bU,rb p r]
def DR (h:ds.length=2):∃a b,ds=[a,b]:=by
 match ds,h with
 |[a,b],_=>exact#[a,b,rfl]
def Ex (h:ds.length=3):∃a b c,ds=[a,b,c]:=by
 match ds,h with
 |[a,b,c],_=>exact#[a,b,c,rfl]
def whole:D->Bool
 |.int _=>true
 |_=>false
def fD (h:whole d=true):∃i,d = .int i:=by
 cases d with
 |int i=>exact#[i,rfl]
 |_=>cases h
def G8:D->Bool
 |.tup [.int x,.int y,.int d]=>decide (1<=d)&&decide (Int.gcd (Int.gcd x y:Int) d=1)
 |_=>false
def thing:D->Bool
 |.feed=>false
 |.scr _=>false
 |.fn _=>false
 |.exc _ _=>false
 |_=>true
theorem Th.thing {b:Nat}(h:Th b k d):thing d=true:=by
 cases d with
 |feed=>unfold Th at h;exact h.elim
 |scr _=>unfold Th at h;exact h.elim
 |fn _=>unfold Th at h;exact h.elim
 |exc _ _=>unfold Th at h;exact h.elim
 |_=>rfl
end DL
namespace T
open PySem L2 DL
def sC (d:D) (fs:vO_) (h:thing d=true):br [d] fs=some (.bl (whole d),fs):=by
 refine v5 (s:=#[[.v d],fs]) ?_;show mv #[[.v d],fs]=_;cases d with
 |feed=>cases h
 |scr _=>cases h
 |fn _=>cases h
 |exc _ _=>cases h
 |non=>rfl
 |bl _=>rfl
 |int _=>rfl
 |str _=>rfl
 |tup _=>simp![mv,C4,B9,D8,D7,D3,D1,D6,aq,F9,whole]
 |lst _=>rfl
abbrev jI:c8:=qm (aj R4) br
def P0 (J:Nat):D->Bool
 |.tup ds=>decide (ds.length=J)&&ds.all whole&&(match ds with
  |[.int a,.int b]=>decide (1<=b)&&decide (Int.gcd a b=1)
  |[.int x,.int y,.int d]=>decide (1<=d)&&decide (Int.gcd (Int.gcd x y:Int) d=1)
  |_=>false)
 |_=>false
def JA (d:D) (n:Nat) (fs:vO_) (hn:n=2\/n=3) (h:thing d=true) (hs:∀ds,d = .tup ds->(∀x∈ds,thing x=true)/\ds.length<=sizeLine):jI [d,.int n] fs=some (.bl (P0 n d),fs):=by
 refine v5 (s:=#[[.v d,.v (.int n)],fs]) ?_;show fj (aj R4) br #[[.v d,.v (.int n)],fs]=_;cases d with
 |feed=>cases h
 |scr _=>cases h
 |fn _=>cases h
 |exc _ _=>cases h
 |non=>rfl
 |bl _=>rfl
 |int _=>rfl
 |str _=>rfl
 |lst _=>rfl
 |tup ds=>
  obtain⟨ht,hl⟩:=hs ds rfl;have cm:E8 (fun d=>some (.v d::[])) F6 (d7 br (a7 (dV 0) b9)) ds fs=some (ds.map (fun d=>.bl (whole d)),fs):=jQ (idx:=[]) [] fs ds fun x hx=>#[#[[.v x],fs],by simp![C4,B9,D8,D7,D3,D1,D6,sC x fs (ht x hx)],rfl]
  have al:=rb whole ds;by_cases hz:ds.length=n
  .by_cases U:ds.all whole=true
   .have J:(ds.length:Int)=(n:Int):=by omega
    have pre:∀rest:DM,d6 (j7 (u4 (t9 (o6 (k6 (F7 "tuple") (dL 0)))) (dB (a9 A2 (j6 (one j9) (a7 (dL 0) b9)) (dL 1)))) (i8 (dC (.bl false))) j8) (d6 (j7 (t9 (o6 (j6 (one fW) (a7 (l5 (K9 [] (T6 (dV 0)) F6 (d7 br (a7 (dV 0) b9)))) b9)))) (i8 (dC (.bl false))) j8) rest) #[[.v (.tup ds),.v (.int n)],fs]=rest #[[.v (.tup ds),.v (.int n)],fs]:=fun rest=>by
     rw[u5 (s1:=#[[.v (.tup ds),.v (.int n)],fs]) (by simp![C4,B9,D8,D7,D3,D1,D6,aq,F9,X5,J])];rw[u5 (s1:=#[[.v (.tup ds),.v (.int n)],fs]) (by simp![C4,B9,D8,D7,D3,D1,D6,K9,T6,hl,Q8,cm,fW,al,U])]
    unfold fj;rw[pre];rcases hn with rfl | rfl
    .obtain⟨d1,d2,rfl⟩:=DR hz
     .simp only[Oy,List.all_nil,Bool.and_true,MF] at U;obtain⟨a,rfl⟩:=fD U.1;obtain⟨c,rfl⟩:=fD U.2;refine w4 ?_;by_cases Y:1<=c
      .simp![C4,B9,D8,D7,D3,D1,D6,xx,Y,LC,aR,P0,whole];omega
      .simp![C4,B9,D8,D7,D3,D1,D6,xx,Y,P0,whole]
    .obtain⟨d1,d2,d3,rfl⟩:=Ex hz
     .simp only[Oy,List.all_nil,Bool.and_true,MF] at U;obtain⟨a,rfl⟩:=fD U.1;obtain⟨c,rfl⟩:=fD U.2.1;obtain⟨e,rfl⟩:=fD U.2.2;refine w4 ?_;by_cases Y:1<=e
      .simp![C4,B9,D8,D7,D3,D1,D6,nJ,Y,rL,aR,P0,whole];omega
      .simp![C4,B9,D8,D7,D3,D1,D6,nJ,Y,P0,whole]
   .have Z:ds.all whole=false:=by simpa using U
    have J:(ds.length:Int)=(n:Int):=by omega
    have:P0 n (.tup ds)=false:=by simp only[P0,Z,Bool.and_false,OH]
    rw[this];unfold fj;rw[u5 (s1:=#[[.v (.tup ds),.v (.int n)],fs]) (by simp![C4,B9,D8,D7,D3,D1,D6,aq,F9,X5,J])];refine K8 ?_;rw[Z] at al;simp![C4,B9,D8,D7,D3,D1,D6,K9,T6,hl,Q8,cm,fW,al]
  .have J:¬ (ds.length:Int)=(n:Int):=by omega
   have:P0 n (.tup ds)=false:=by simp only[P0,MK hz,OH]
   rw[this];unfold fj;refine K8 ?_;simp![C4,B9,D8,D7,D3,D1,D6,aq,F9,X5,J]
def KW (d:D):P0 3 d=G8 d:=by
 cases d with
 |tup ds=>
  match ds with
  |[]=>rfl
  |[d1]=>cases d1 <;> rfl
  |[d1,d2]=>simp[P0,G8]
  |[d1,d2,d3]=>
   cases d1 with
   |int x=>
    cases d2 with
    |int y=>
     cases d3 with
     |int z=>simp[P0,G8,whole]
     |_=>simp[P0,G8,whole]
    |_=>simp[P0,G8,whole]
   |_=>simp[P0,G8,whole]
  |d1::d2::d3::d4::r=>simp[P0,G8]
 |_=>rfl
abbrev jm:c8:=yL jI
def Th.subs {b:Nat}(h:Th b k d) (U:bk d<=1000000):∀ds,d = .tup ds->(∀x∈ds,thing x=true)/\ds.length<=sizeLine:=fun ds e=>by
 subst e;refine#[fun x J=>?_,?_]
 .cases k with
  |zero=>unfold Th at h;exact h.elim
  |succ k=>unfold Th at h;exact(Ths.mem h J).thing
 .have:=iu ds;rw[T5] at U;rw[MU];omega
def JX {b:Nat}(d:D) (fs:vO_) (h:Th b k d) (U:bk d<=1000000):jm [d] fs=some (.bl (G8 d),fs):=by
 refine v5 (s:=#[[.v d],fs]) ?_;show jX jI #[[.v d],fs]=_;have e:=JA d 3 fs (.inr rfl) h.thing (Th.subs h U);rw[KW] at e;have J:jI [d,.int 3] fs=some (.bl (G8 d),fs):=e;simp![jX,C4,B9,D8,D7,D3,D1,D6,J]
def mD {b:Nat}(h:Ps k a) (hk:k<=b):Th b 1 (pt a):=by
 unfold pt Th;exact Ths.of (by
  intro d J;simp only[xo,Mx,MI] at J;rcases J with rfl | rfl | rfl
  .unfold Th;exact h.x.mono hk
  .unfold Th;exact h.y.mono hk
  .unfold Th;exact h.l.mono hk)
end T
namespace DL
open PySem L2
def i9 {α:Type}(c:Bool) (l:List α):List (α × α):=l.zip (if c then l.drop 1++l.take 1 else l.drop 1)
def ak (p:D × D):D:=.tup [p.1,p.2]
def S9:D->Pt
 |.tup [.int x,.int y,.int d]=>(Rat.divInt x d,Rat.divInt y d)
 |_=>(0,0)
def IM {x y d:Int}(hd:1<=d) (U:Int.gcd (Int.gcd x y:Int) d=1):D.tup [.int x,.int y,.int d]=pt (Rat.divInt x d,Rat.divInt y d):=by
 have J:(d:Rat)≠0:=fun h=>by have:=Ow.mp h;omega
 have v:∀z:Int,(z:Rat)=Rat.divInt z d*(d:Rat):=fun z=>by rw[NS,Pr J]
 obtain⟨Y,Z,q3⟩:=nD (a:=(Rat.divInt x d,Rat.divInt y d)) ∅ U (v x) (v y);unfold pt;rw[<-Y,<-Z,<-q3]
def qV (h:G8 d=true):d=pt (S9 d):=by
 cases d with
 |tup ds=>
  match ds,h with
  |[.int x,.int y,.int c],h=>
   simp only[G8,MF,QA] at h;exact IM h.1 h.2
 |_=>cases h
def AQ {α β:Type}(f:α->β) (c:Bool) (l:List α):i9 c (l.map f)=(i9 c l).map fun p=>(f p.1,f p.2):=by
 unfold i9;cases c
 .simp only[Ob,Nr];rw[<-Ru,List.zip_map];rfl
 .simp only[MV];rw[<-Ru,<-List.map_take,<-Oz,List.zip_map];rfl
def aN {α:Type}(c:Bool) (l:List α):(i9 c l).length<=l.length:=by
 unfold i9;rw[QE];exact Qt ..
def nbs_mem {α:Type}{c:Bool}{l:List α}{p:α × α}(h:p∈i9 c l):p.1∈l/\p.2∈l:=by
 unfold i9 at h;obtain⟨h1,h2⟩:=Ol (a:=p.1) (b:=p.2) h;refine#[h1,?_];cases c
 .simp only[Ob,Nr] at h2;exact Pz h2
 .simp only[MV] at h2;rcases Mp.mp h2 with h | h
  .exact Pz h
  .exact QC h
theorem fN:∀(xs ys:vD_),List.zipWith S4 xs ys=(xs.zip ys).map ak
 |[],_=>by simp
 |_::_,[]=>by simp
 |x::xs,y::ys=>by
  rw[OU,List.zip_cons_cons,Mo,fN xs ys];rfl
def zk (a:Pt):S9 (pt a)=a:=by
 show (Rat.divInt (pX a) (pL a),Rat.divInt (pY a) (pL a))=a;rw[T.px_div,T.py_div]
def lo (c:Bool):Nat:=if c then 3 else 2
def hi (c:Bool):Nat:=if c then 8 else 9
def jv (ds:vD_):A0 ds (some 1) none=ds.drop 1:=by
 cases ds with
 |nil=>rfl
 |cons d r=>exact tQ (d::r) 1 (by simp)
def yz (ds:vD_):A0 ds none (some 1)=ds.take 1:=by
 cases ds with
 |nil=>rfl
 |cons d r=>exact yZ (d::r) 1 (by simp)
end DL
namespace T
open PySem L2 DL
def IG (ds:vD_) (c:Bool) (fs:vO_) (J:ds.length+1<=sizeLine):jT [.tup ds,.bl c] fs=some (.lst ((i9 c ds).map ak),fs):=by
 refine v5 (s:=#[[.v (.tup ds),.v (.bl c)],fs]) ?_;show bM #[[.v (.tup ds),.v (.bl c)],fs]=_;have h1:ds.length - 1+min 1 ds.length<=sizeLine:=by omega
 cases c
 .simp![bM,C4,B9,D8,D7,D3,D1,D6,D2,E7,E6,S0,bp,S7,jv,i9,fN]
 .simp![bM,C4,B9,D8,D7,D3,D1,D6,D2,E7,E6,S0,bp,S7,jv,yz,i9,fN,h1]
def JU {b:Nat}(h:∀d∈ds,Th b k d) (Z:ds.all G8=true):∀p∈ds.map S9,Ps b p:=fun p U=>by
 obtain⟨d,Y,rfl⟩:=ML.mp U;have e:=qV (Nb.mp Z d Y);have J:=h d Y;rw[e] at J;cases k with
 |zero=>unfold pt Th at J;exact J.elim
 |succ k=>
  simp only[pt,Th,Ths] at J;exact#[J.1,J.2.1,J.2.2.1]
end T
namespace DL
open PySem L2
def iz {α:Type}(c:Bool) (l:List α):(i9 c l).length=l.length - 1+(if c then min 1 l.length else 0):=by
 unfold i9;cases c
 .show (l.zip (l.drop 1)).length=l.length - 1+0;rw[QE,MH,QZ (Nat.sub_le ..)];rfl
 .show (l.zip (l.drop 1++l.take 1)).length=l.length - 1+min 1 l.length;rw[QE,MC,MH,Np];exact QZ ∅
def GW {α:Type}{c:Bool}{l:List α}(h:j<(i9 c l).length):∃a b,l[j]? = some a/\l[(j+1) % l.length]? = some b/\(i9 c l)[j]? = some (a,b):=by
 have U:=iz c l;have Z:j<l.length:=Mu h (aN c l);cases J:(i9 c l)[j]? with
 |none=>rw[List.getElem?_eq_none_iff] at J;omega
 |some p=>
  obtain⟨h1,h2⟩:=OT.mp (show (l.zip (if c then l.drop 1++l.take 1 else l.drop 1))[j]? = some p from J);refine#[p.1,p.2,h1,?_,rfl];cases c
  .simp only[Ob,Nr] at h2 U;rw[PH] at h2;rw[OA ∅,NO];exact h2
  .simp only[MV] at h2 U;by_cases Y:j+1<l.length
   .rw[NK (by rw[MH];omega),PH] at h2;rw[OA Y,NO];exact h2
   .have e:j+1=l.length:=by omega
    rw[NJ (by rw[MH];omega),MH,show j - (l.length - 1)=0 by omega,List.getElem?_take] at h2;rw[e,PJ];simpa using h2
end DL
namespace T
open PySem L2 DL
def tk (l:vT_) (i:Nat):Pt:=(l[i % l.length]?).getD (0,0)
def nr (h:0<l.length):l[i % l.length]? = some (tk l i):=by
 unfold tk;rw[ME (Ng _ h)];rfl
def X4 (h:i<l.length):l[i]? = some (tk l i):=by
 have:=nr (l:=l) (i:=i) ∅
 rwa [OA h] at this
def X7 (i:Nat) (h:0<l.length):tk l i∈l:=Om (nr (i:=i) h)
def xy (h:0<l.length) (hi:i<=l.length):(l++[tk l 0])[i]? = some (tk l i):=by
 rcases Nat.lt_or_eq_of_le hi with w | w
 .rw[NK w,X4 w]
 .subst w;rw[NJ (tx _),Nat.sub_self];show some (tk l 0)=_;unfold tk;rw[PJ,Nat.zero_mod]
def M6 (i:Nat):tk l (i % l.length)=tk l i:=by unfold tk;rw[Nat.mod_mod]
def CP (e:Y0 l=[p]):M4 l=[]:=by
 unfold M4 jJ;show (B3 w6 (Y0 l)).dropLast++(B3 w6 (Y0 l).reverse).dropLast=[];rw[e];rfl
def xZ (h:0<l.length):∃p r,Y0 l=p::r:=by
 cases e:Y0 l with
 |cons p r=>exact#[p,r,rfl]
 |nil=>
  have:=rowP_in.mpr (X7 (l:=l) 0 h);rw[e] at this;cases this
section
variable {C:vT_}(R:Rnd S p C)
include R
theorem cV:0<C.length:=by
 have:=R.hd;cases C with
 |nil=>cases this
 |cons a r=>simp
theorem zL:tk C 0=p:=by
 have:=R.hd;rw[List.head?_eq_getElem?,X4 (cV R)] at this;exact MB this
theorem fB (k:Nat):Nx S (tk C k) (tk C (k+1)):=by
 have J:=cV R;have hk:=Ng k J;have run:=R.run;rw[<-zL R] at run;have:=jz run (xy J (NI hk)) (xy J hk);rw[M6] at this;have e:tk C (k % C.length+1)=tk C (k+1):=by rw[<-M6,PL,M6]
 rw[e] at this;exact this
theorem Le (w:tk C i=tk C j):i % C.length=j % C.length:=by
 have h0:=cV R;have Z:∀i j,i<C.length->j<C.length->tk C i=tk C j->i=j:=fun i j hi J w=>by
  have nd:=R.nodup;have Y:=X4 hi;have U:=X4 J;rw[ME hi] at Y;rw[ME J] at U;rcases Nat.lt_trichotomy i j with q | q | q
  .exact absurd ((MB Y).trans (w.trans (MB U).symm)) (Rt.mp nd i j hi J q)
  .exact q
  .exact absurd ((MB U).trans (w.symm.trans (MB Y).symm)) (Rt.mp nd j i J hi q)
 exact Z _ _ (Ng _ h0) (Ng _ h0) (by rw[M6,M6];exact w)
theorem xD (h1:0<j) (h2:j<C.length):tk C (k+j)≠tk C k:=fun w=>by
 have J:=cV R;have:=Le R w;rw[<-PL] at this;have hk:=Ng k J;by_cases c:k % C.length+j<C.length
 .rw[OA c] at this;omega
 .rw[Nat.mod_eq_sub_mod ∅,OA ∅] at this;omega
theorem FK (k:Nat) (h1:2<=j) (h2:j<C.length):0<a8 (tk C k) (tk C (k+1)) (tk C (k+j)):=by
 have J:=cV R;have m:∀i,S (tk C i):=fun i=>R.mem _ (X7 i J)
 refine Hn (m _) (m _) (m _) (fB R k) (fB R (k+j)) (xD R ∅ h2) ?_;have:=xD R (k:=k+1) (j:=j - 1) ∅ ∅
 rwa [show k+1+(j - 1)=k+j by omega] at this
end
theorem sk (φ:Pt->Rat):∀(C:vT_),C≠[]->∃c∈C,∀x∈C,φ x<=φ c
 |[],h=>absurd rfl h
 |[a],_=>#[a,by simp,fun x J=>by rw[Mq.mp J];exact Nh]
 |a::b::r,_=>by
  obtain⟨c,U,h⟩:=sk φ (b::r) (by simp);by_cases q:φ a<=φ c
  .exact#[c,Mf _ U,fun x J=>by
    rcases xo.mp J with e | e
    .rw[e];exact q
    .exact h x e]
  .have q:φ c<=φ a:=by grind
   exact#[a,Mi ..,fun x J=>by
    rcases xo.mp J with e | e
    .rw[e];exact Nh
    .exact Rat.le_trans (h x e) q]
theorem JZ (hl:l.length<2 ^ 20) {b c:Pt}(Y:a∈l) (hb:b∈l) (Z:c∈l) (h:a8 a b c≠0):3<=(M4 l).length:=by
 have h0:0<l.length:=QF Y;obtain⟨p,r,e⟩:=xZ h0;have hr:r≠[]:=fun w=>by
  have U:∀q∈l,q=p:=fun q hq=>by
   have:=rowP_in.mpr hq;rw[e,w] at this;simpa using this
  rw[U a Y,U b hb,U c Z] at h;exact h (Y4 p p)
 have R:=zc hl e hr;have q0:=cV R;have N:=fB R 0;have N2:=fB R 1;rcases Nat.lt_or_ge (M4 l).length 3 with w | w
 .exfalso;have J:(M4 l).length=1\/(M4 l).length=2:=by omega
  rcases J with q | q
  .have:tk (M4 l) 1=tk (M4 l) 0:=by rw[<-M6 1,q]
   exact N.ne this
  .have e2:tk (M4 l) 2=tk (M4 l) 0:=by rw[<-M6 2,q]
   rw[e2] at N2;generalize tk (M4 l) 0=x at *;rw[PF] at N;generalize tk (M4 l) 1=y at *;have z:∀t∈l,a8 x y t=0:=fun t ht=>by
    have k1:=N.lf t ht;have k2:=N2.lf t ht;have:a8 y x t = -a8 x y t:=by unfold a8;grind
    grind
   exact h (vw N.ne (z a Y) (z b hb) (z c Z))
 .exact w
end T
namespace T
open DL
def N4 (u v:Pt):Rat:=u.1*v.2 - u.2*v.1
def C7 (a b:Pt):Pt:=(b.1 - a.1,b.2 - a.2)
def aY (a b c d:Pt):Rat:=(b.1 - a.1)*(c.1*d.2 - c.2*d.1) - (a.1*b.2 - a.2*b.1)*(d.1 - c.1)
def bF (a b c d:Pt):Rat:=(a.1*b.2 - a.2*b.1)*(c.2 - d.2) - (a.2 - b.2)*(c.1*d.2 - c.2*d.1)
def ae (a b c d:Pt):Pt:=(aY a b c d / N4 (C7 a b) (C7 c d),bF a b c d / N4 (C7 a b) (C7 c d))
end T
namespace T
open PySem L2 DL
def bK (A:vT_):Prop:=∀k,∀z∈A,0<=a8 (tk A k) (tk A (k+1)) z
def gv (d z:Pt):Rat:=d.1*z.2 - d.2*z.1
def rR {A:vT_}(h:a∈A):∃i,i<A.length/\tk A i=a:=by
 obtain⟨i,hi⟩:=OB h;have J:=(MT.mp hi).1;refine#[i,J,?_];rw[X4 J] at hi;exact MB hi
theorem az {d v:Pt}(Z:d≠(0,0)) (h:gv d v=0):∃t:Rat,v=(t*d.1,t*d.2):=by
 have n:0<d.1*d.1+d.2*d.2:=by
  have a:=W8 d.1;have b:=W8 d.2;by_cases z:d.1=0
  .have:d.2≠0:=fun y=>Z (MD z y)
   have:=ki this;grind
  .have:=ki z;grind
 have Y:d.1*d.1+d.2*d.2≠0:=by grind
 refine#[(v.1*d.1+v.2*d.2) / (d.1*d.1+d.2*d.2),?_];unfold gv at h;generalize J:d.1*d.1+d.2*d.2=N at *;have U:N*N⁻¹=1:=PM _ Y;refine MD ?_ ?_
 .show v.1=(v.1*d.1+v.2*d.2) / N*d.1;rw[MW];have e0:d.2*(d.1*v.2 - d.2*v.1)=0:=by rw[h,Oc]
  have e:(v.1*d.1+v.2*d.2)*d.1=v.1*N:=by rw[<-J];grind
  have:(v.1*d.1+v.2*d.2)*N⁻¹*d.1=(v.1*d.1+v.2*d.2)*d.1*N⁻¹:=by grind
  rw[this,e,OY,U,PN]
 .show v.2=(v.1*d.1+v.2*d.2) / N*d.2;rw[MW];have e0:d.1*(d.1*v.2 - d.2*v.1)=0:=by rw[h,Oc]
  have e:(v.1*d.1+v.2*d.2)*d.2=v.2*N:=by rw[<-J];grind
  have:(v.1*d.1+v.2*d.2)*N⁻¹*d.2=(v.1*d.1+v.2*d.2)*d.2*N⁻¹:=by grind
  rw[this,e,OY,U,PN]
theorem yM {A:vT_}{d J:Pt}(C:bK A) (nd:∀k,tk A (k+1)≠tk A k) (hd:d≠(0,0)) (ha:a∈A) (U:J∈A) (hz:z∈A) (mn:∀x∈A,gv d a<=gv d x) (e:gv d J=gv d a) (ne:J≠a) (off:gv d a<gv d z) :
  ∃k,∃s:Rat,0<s/\∀w,a8 (tk A k) (tk A (k+1)) w=s*(gv d w - gv d a):=by
 have h0:0<A.length:=QF ha;obtain⟨i,il,Z⟩:=rR ha;have Y:∀k,gv d (tk A k)=gv d a->gv d (tk A (k+1))=gv d a->∃k,∃s:Rat,0<s/\∀w,a8 (tk A k) (tk A (k+1)) w=s*(gv d w - gv d a):=fun k e1 e2=>by
  obtain⟨s,hs⟩:=az (v:=((tk A (k+1)).1 - (tk A k).1,(tk A (k+1)).2 - (tk A k).2)) hd (by unfold gv at *;grind);have s1:(tk A (k+1)).1 - (tk A k).1=s*d.1:=congrArg Prod.fst hs;have s2:(tk A (k+1)).2 - (tk A k).2=s*d.2:=congrArg Prod.snd hs;have f:∀w,a8 (tk A k) (tk A (k+1)) w=s*(gv d w - gv d a):=fun w=>by
   rw[<-e1];unfold a8 gv;rw[s1,s2];grind
  refine#[k,s,?_,f];have c:=C k z hz;rw[f] at c;refine ND.mp fun q=>?_
  by_cases s0:s=0
  .rw[s0] at s1 s2;exact nd k (MD (by grind) (by grind))
  .have:0 < -s*(gv d z - gv d a):=Mn (by grind) (by grind);grind
 by_cases q1:gv d (tk A (i+1))=gv d a
 .exact Y i (by rw[Z]) q1
 have ep:tk A (i+(A.length - 1)+1)=a:=by
  rw[show i+(A.length - 1)+1=i+A.length by omega,<-M6,Nat.add_mod_right,M6,Z]
 by_cases q2:gv d (tk A (i+(A.length - 1)))=gv d a
 .exact Y (i+(A.length - 1)) q2 (by rw[ep])
 exfalso;have g1:=mn _ (X7 (l:=A) (i+1) h0);have g2:=mn _ (X7 (l:=A) (i+(A.length - 1)) h0);have c1:=C i J U;have c2:=C (i+(A.length - 1)) J U;rw[Z] at c1;rw[ep] at c2;generalize tk A (i+1)=n at *;generalize tk A (i+(A.length - 1))=p at *;obtain⟨t,ht⟩:=az (v:=(J.1 - a.1,J.2 - a.2)) hd (by unfold gv at *;grind);have t1:J.1 - a.1=t*d.1:=congrArg Prod.fst ht;have t2:J.2 - a.2=t*d.2:=congrArg Prod.snd ht;have k1:a8 a n J = -(t*(gv d n - gv d a)):=by unfold a8 gv;rw[t1,t2];grind
 have k2:a8 p a J=t*(gv d p - gv d a):=by
  have:a8 p a J=(a.1 - p.1)*(J.2 - a.2) - (a.2 - p.2)*(J.1 - a.1):=by unfold a8;grind
  rw[this,t1,t2];unfold gv;grind
 rw[k1] at c1;rw[k2] at c2;have tz:t=0:=by
  by_cases tp:0<t
  .have:=Mn tp (show 0<gv d n - gv d a by grind);grind
  .by_cases tn:t<0
   .have:=Mn (show 0 < -t by grind) (show 0<gv d p - gv d a by grind);grind
   .grind
 rw[tz] at t1 t2;exact ne (MD (by grind) (by grind))
def bJ (A:vT_):Prop:=∃a b c,a∈A/\b∈A/\c∈A/\a8 a b c≠0
theorem qK {A:vT_}(h:bJ A) {d:Pt}(Z:d≠(0,0)) (mn:∀x∈A,gv d a<=gv d x):∃z∈A,gv d a<gv d z:=by
 obtain⟨x,y,w,Y,hy,hw,n⟩:=h;refine OC fun q=>n ?_
 have J:∀z∈A,gv d z=gv d a:=fun z U=>by
  have:=mn z U;have:¬ gv d a<gv d z:=fun t=>q #[z,U,t]
  grind
 obtain⟨t,ht⟩:=az (v:=(y.1 - x.1,y.2 - x.2)) Z (by have:=J x Y;have:=J y hy;unfold gv at *;grind);obtain⟨s,hs⟩:=az (v:=(w.1 - x.1,w.2 - x.2)) Z (by have:=J x Y;have:=J w hw;unfold gv at *;grind);have t1:y.1 - x.1=t*d.1:=congrArg Prod.fst ht;have t2:y.2 - x.2=t*d.2:=congrArg Prod.snd ht;have s1:w.1 - x.1=s*d.1:=congrArg Prod.fst hs;have s2:w.2 - x.2=s*d.2:=congrArg Prod.snd hs;unfold a8;rw[t1,t2,s1,s2];grind
def Ip (K:vT_) (p:Pt):Prop:=∀α β:Rat,∃k∈K,0<=α*(k.1 - p.1)+β*(k.2 - p.2)
def aZ (A B:vT_):List Pt:=A.flatMap fun a=>B.map fun b=>(a.1 - b.1,a.2 - b.2)
def diffs_in {A:vT_}{q:Pt}:q∈aZ A B↔∃a∈A,∃b∈B,q=(a.1 - b.1,a.2 - b.2):=by
 unfold aZ;rw[QG];constructor
 .rintro⟨a,J,h⟩;obtain⟨b,U,rfl⟩:=ML.mp h;exact#[a,J,b,U,rfl]
 .rintro⟨a,J,b,U,rfl⟩;exact#[a,J,ML.mpr #[b,U,rfl]]
def GQ (A B:vT_):(aZ A B).length=A.length*B.length:=by
 unfold aZ;induction A with
 |nil=>simp
 |cons a r J=>rw[OZ,MC,J,Mj,Mw,Nat.add_mul,Nat.one_mul,NO]
theorem uz (s:Nat->Rat):∀n:Nat,0<=s 1->s (n+2)<=0->∃i,1<=i/\i<=n+1/\0<=s i/\s (i+1)<=0
 |0,h1,h2=>#[1,by omega,by omega,h1,h2]
 |n+1,h1,h2=>by
  by_cases q:0<=s (n+2)
  .exact#[n+2,by omega,by omega,q,h2]
  .obtain⟨i,a,b,c,d⟩:=uz s n h1 (by grind);exact#[i,a,by omega,c,d]
theorem FX {A:vT_}(lA:A.length<=100) (lB:B.length<=100) (hB:B≠[]) (cA:bK A) (cB:bK B) (nA:∀k,tk A (k+1)≠tk A k) (nB:∀k,tk B (k+1)≠tk B k) (oA:bJ A) (oB:bJ B) :
  (∃p,Ip A p/\∀k,0<=a8 (tk B k) (tk B (k+1)) p)\/(∃k,∀z∈B,a8 (tk A k) (tk A (k+1)) z<0)\/∃k,∀z∈A,a8 (tk B k) (tk B (k+1)) z<0:=by
 obtain⟨b0,hb0⟩:=Sd B hB;have dl:(aZ A B).length<2 ^ 20:=by
  rw[GQ];have:A.length*B.length<=100*100:=PQ lA lB;omega
 have mh:3<=(M4 (aZ A B)).length:=by
  obtain⟨x,y,w,hx,hy,hw,n⟩:=oA;refine JZ dl (diffs_in.mpr #[x,hx,b0,hb0,rfl]) (diffs_in.mpr #[y,hy,b0,hb0,rfl]) (diffs_in.mpr #[w,hw,b0,hb0,rfl]) fun z=>n ?_
  rw[<-z];unfold a8;grind
 obtain⟨x0,hx0⟩:∃x,x∈aZ A B:=by
  obtain⟨x,y,w,hx,hy,hw,n⟩:=oA;exact#[_,diffs_in.mpr #[x,hx,b0,hb0,rfl]]
 obtain⟨q0,r0,er⟩:=xZ (QF hx0);have hr:r0≠[]:=fun w=>by
  rw[CP (by rw[er,w])] at mh;exact absurd mh #[]
 have R:=zc dl er hr;generalize M4 (aZ A B)=C at *;have h0:=cV R;have mem:∀i,∃a∈A,∃b∈B,tk C i=(a.1 - b.1,a.2 - b.2):=fun i=>diffs_in.mp (R.mem _ (X7 i h0))
 by_cases all:∀k,0<=a8 (tk C k) (tk C (k+1)) (0,0)
 .left;obtain⟨m,hm⟩:∃m,C.length=m+3:=#[C.length - 3,by omega]
  have last:tk C (m+2+1)=tk C 0:=by
   rw[<-M6 (m+2+1),hm,PJ]
  obtain⟨i,i1,i2,s1,s2⟩:=uz (fun i=>a8 (tk C 0) (tk C i) (0,0)) m (all 0) (by
   have:=all (m+2);rw[last] at this;have e:a8 (tk C (m+2)) (tk C 0) (0,0) = -a8 (tk C 0) (tk C (m+2)) (0,0):=by unfold a8;grind
   show a8 (tk C 0) (tk C (m+2)) (0,0)<=0;grind)
  have st:=FK R i (j:=m+3 - i) ∅ ∅;have e0:tk C (i+(m+3 - i))=tk C 0:=by
   rw[show i+(m+3 - i)=m+2+1 by omega,last]
  rw[e0] at st;have s0:=all i;obtain⟨U,ha0,J,hb0',E0⟩:=mem 0;obtain⟨Z,ha1,b1,hb1,E1⟩:=mem i;obtain⟨a2,ha2,b2,hb2,E2⟩:=mem (i+1);simp only[E0,E1,E2] at st s0 s1 s2;generalize hw0:a8 (Z.1 - b1.1,Z.2 - b1.2) (a2.1 - b2.1,a2.2 - b2.2) (0,0)=w0 at *;generalize hw2:a8 (U.1 - J.1,U.2 - J.2) (Z.1 - b1.1,Z.2 - b1.2) (0,0)=w2 at *;generalize hw1:a8 (U.1 - J.1,U.2 - J.2) (a2.1 - b2.1,a2.2 - b2.2) (0,0)=v1 at *;have W:a8 (Z.1 - b1.1,Z.2 - b1.2) (a2.1 - b2.1,a2.2 - b2.2) (U.1 - J.1,U.2 - J.2)=w0+w2 - v1:=by
   rw[<-hw0,<-hw2,<-hw1];unfold a8;grind
  rw[W] at st;have X:w0*(U.1 - J.1) + -v1*(Z.1 - b1.1)+w2*(a2.1 - b2.1)=0:=by
   rw[<-hw0,<-hw2,<-hw1];unfold a8;grind
  have Y:w0*(U.2 - J.2) + -v1*(Z.2 - b1.2)+w2*(a2.2 - b2.2)=0:=by
   rw[<-hw0,<-hw2,<-hw1];unfold a8;grind
  clear hw0 hw1 hw2 W;have wn:w0+w2 - v1≠0:=by grind
  have ic:(w0+w2 - v1)*(w0+w2 - v1)⁻¹=1:=PM _ wn;have ip:0<(w0+w2 - v1)⁻¹:=Pa.mpr st;generalize (w0+w2 - v1)⁻¹=n at *;refine#[(n*(w0*U.1 + -v1*Z.1+w2*a2.1),n*(w0*U.2 + -v1*Z.2+w2*a2.2)),fun α β=>?_,fun k=>?_]
  .refine OC fun q=>?_
   have q':∀z∈A,α*(z.1 - n*(w0*U.1 + -v1*Z.1+w2*a2.1))+β*(z.2 - n*(w0*U.2 + -v1*Z.2+w2*a2.2))<0:=fun z hz=>ND.mp fun t=>q #[z,hz,t]
   have u0:=q' U ha0;have u1:=q' Z ha1;have u2:=q' a2 ha2;generalize hf0:α*(U.1 - n*(w0*U.1 + -v1*Z.1+w2*a2.1))+β*(U.2 - n*(w0*U.2 + -v1*Z.2+w2*a2.2))=F0 at *;generalize hf1:α*(Z.1 - n*(w0*U.1 + -v1*Z.1+w2*a2.1))+β*(Z.2 - n*(w0*U.2 + -v1*Z.2+w2*a2.2))=F1 at *;generalize hf2:α*(a2.1 - n*(w0*U.1 + -v1*Z.1+w2*a2.1))+β*(a2.2 - n*(w0*U.2 + -v1*Z.2+w2*a2.2))=F2 at *;have sum:w0*F0 + -v1*F1+w2*F2=0:=by
    rw[<-hf0,<-hf1,<-hf2];have e1:(w0+w2 - v1)*n*(w0*U.1 + -v1*Z.1+w2*a2.1)=w0*U.1 + -v1*Z.1+w2*a2.1:=by rw[ic,Ox]
    have e2:(w0+w2 - v1)*n*(w0*U.2 + -v1*Z.2+w2*a2.2)=w0*U.2 + -v1*Z.2+w2*a2.2:=by rw[ic,Ox]
    grind
   have y0:=Ml s0 (show 0 <= -F0 by grind);have y1:=Ml (show 0 <= -v1 by grind) (show 0 <= -F1 by grind);have y2:=Ml s1 (show 0 <= -F2 by grind);have big:0<w0\/0 < -v1\/0<w2:=by
    by_cases z1:0<w0
    .exact .inl z1
    .by_cases z2:0 < -v1
     .exact .inr (.inl z2)
     .exact .inr (.inr (by grind))
   rcases big with z | z | z
   .have:=Mn z (show 0 < -F0 by grind);grind
   .have:=Mn z (show 0 < -F1 by grind);grind
   .have:=Mn z (show 0 < -F2 by grind);grind
  .have k0:=cB k J hb0';have k1:=cB k b1 hb1;have k2:=cB k b2 hb2;have px:n*(w0*U.1 + -v1*Z.1+w2*a2.1)=n*(w0*J.1 + -v1*b1.1+w2*b2.1):=by
    have:w0*U.1 + -v1*Z.1+w2*a2.1=w0*J.1 + -v1*b1.1+w2*b2.1:=by grind
    rw[this]
   have py:n*(w0*U.2 + -v1*Z.2+w2*a2.2)=n*(w0*J.2 + -v1*b1.2+w2*b2.2):=by
    have:w0*U.2 + -v1*Z.2+w2*a2.2=w0*J.2 + -v1*b1.2+w2*b2.2:=by grind
    rw[this]
   rw[px,py];have e:a8 (tk B k) (tk B (k+1)) (n*(w0*J.1 + -v1*b1.1+w2*b2.1),n*(w0*J.2 + -v1*b1.2+w2*b2.2))=n*(w0*a8 (tk B k) (tk B (k+1)) J + -v1*a8 (tk B k) (tk B (k+1)) b1+w2*a8 (tk B k) (tk B (k+1)) b2):=by
    generalize tk B k=u at *;generalize tk B (k+1)=v at *;have e1:(w0+w2 - v1)*n*u.1=u.1:=by rw[ic,Ox]
    have e2:(w0+w2 - v1)*n*u.2=u.2:=by rw[ic,Ox]
    unfold a8;grind
   rw[e];refine Ml (MS ip) ?_;have y0:=Ml s0 k0;have y1:=Ml (show 0 <= -v1 by grind) k1;have y2:=Ml s1 k2;grind
 .right;obtain⟨k,hk⟩:=Classical.not_forall.mp all;have hk:=ND.mp hk;have N:=fB R k;obtain⟨a,ha,b,hb,E1⟩:=mem k;obtain⟨a',ha',b',hb',E2⟩:=mem (k+1);rw[E1,E2] at hk N;have lf:∀x∈A,∀y∈B,0<=a8 (a.1 - b.1,a.2 - b.2) (a'.1 - b'.1,a'.2 - b'.2) (x.1 - y.1,x.2 - y.2):=fun x hx y hy=>N.lf _ (diffs_in.mpr #[x,hx,y,hy,rfl])
  generalize hd:((a'.1 - b'.1 - (a.1 - b.1),a'.2 - b'.2 - (a.2 - b.2)):Pt)=d at *;have d1:a'.1 - b'.1 - (a.1 - b.1)=d.1:=congrArg Prod.fst hd;have d2:a'.2 - b'.2 - (a.2 - b.2)=d.2:=congrArg Prod.snd hd;have dn:d≠(0,0):=fun z=>N.ne (by
   rw[z] at d1 d2;have d1:a'.1 - b'.1 - (a.1 - b.1)=0:=d1;have d2:a'.2 - b'.2 - (a.2 - b.2)=0:=d2;exact MD (by show a'.1 - b'.1=a.1 - b.1;grind) (by show a'.2 - b'.2=a.2 - b.2;grind))
  have cf:∀q:Pt,a8 (a.1 - b.1,a.2 - b.2) (a'.1 - b'.1,a'.2 - b'.2) q=gv d q - (gv d a - gv d b):=fun q=>by
   unfold a8 gv;rw[d1,d2];grind
  have all':∀x∈A,∀y∈B,gv d a - gv d b<=gv d x - gv d y:=fun x hx y hy=>by
   have:=lf x hx y hy;rw[cf] at this;unfold gv at *;grind
  have mA:∀x∈A,gv d a<=gv d x:=fun x hx=>by have:=all' x hx b hb;grind
  have mB:∀y∈B,gv d y<=gv d b:=fun y hy=>by have:=all' a ha y hy;grind
  have ab:gv d b<gv d a:=by
   rw[cf] at hk;have:gv d ((0,0):Pt)=0:=by unfold gv;grind
   grind
  have on:gv d a' - gv d b'=gv d a - gv d b:=by
   have:=cf (a'.1 - b'.1,a'.2 - b'.2);rw[ai] at this;unfold gv at *;grind
  have ea:gv d a'=gv d a:=by have:=mA a' ha';have:=mB b' hb';grind
  have eb:gv d b'=gv d b:=by grind
  by_cases q:a'=a
  .have qb:b'≠b:=fun w=>dn (MD (by rw[<-d1,q,w];show _=(0:Rat);grind) (by rw[<-d2,q,w];show _=(0:Rat);grind))
   have ng:∀z,gv (-d.1,-d.2) z = -gv d z:=fun z=>by unfold gv;grind
   have dn':((-d.1,-d.2):Pt)≠(0,0):=fun z=>dn (by
    have z1:-d.1=0:=congrArg Prod.fst z;have z2:-d.2=0:=congrArg Prod.snd z;exact MD (by show d.1=0;grind) (by show d.2=0;grind))
   have mB':∀y∈B,gv (-d.1,-d.2) b<=gv (-d.1,-d.2) y:=fun y hy=>by rw[ng,ng];have:=mB y hy;grind
   obtain⟨z,hz,oz⟩:=qK oB dn' mB';obtain⟨k,s,sp,f⟩:=yM cB nB dn' hb hb' hz mB' (by rw[ng,ng,eb]) qb oz;right;refine#[k,fun x hx=>?_];rw[f,ng,ng];have:=mA x hx;have:=Mn sp (show 0<gv d x - gv d b by grind);grind
  .obtain⟨z,hz,oz⟩:=qK oA dn mA;obtain⟨k,s,sp,f⟩:=yM cA nA dn ha ha' hz mA ea q oz;left;refine#[k,fun y hy=>?_];rw[f];have:=mB y hy;have:=Mn sp (show 0<gv d a - gv d y by grind);grind
theorem iA (a b u w:Pt) (s:Rat):a8 a b (u3 u w s)=(1 - s)*a8 a b u+s*a8 a b w:=by unfold a8 u3;grind
def xq (a b u w:Pt):Pt:=u3 u w (a8 a b u / (a8 a b u - a8 a b w))
theorem aQ {b u w:Pt}(h:a8 a b u*a8 a b w<0):∃s:Rat,0<s/\s<1/\xq a b u w=u3 u w s:=by
 refine#[_,?_,?_,rfl]
 .by_cases p:0<a8 a b u
  .have n:a8 a b w<0:=by
    refine ND.mp fun z=>?_
    have:=Ml (MS p) z;grind
   rw[MW];exact Mn p (Pa.mpr (by grind))
  .have p':a8 a b u<=0:=by grind
   have U:a8 a b u≠0:=fun z=>by rw[z,Nw] at h;exact absurd h (by decide +kernel)
   have n:0<a8 a b w:=by
    refine ND.mp fun z=>?_
    have:=Ml (show 0 <= -a8 a b u by grind) (show 0 <= -a8 a b w by grind);grind
   have e:a8 a b u / (a8 a b u - a8 a b w)=(-a8 a b u)*(a8 a b w - a8 a b u)⁻¹:=by
    have h1:a8 a b u - a8 a b w≠0:=by grind
    have h2:a8 a b w - a8 a b u≠0:=by grind
    rw[MW];grind
   rw[e];exact Mn (by grind) (Pa.mpr (by grind))
 .by_cases p:0<a8 a b u
  .have n:a8 a b w<0:=by
    refine ND.mp fun z=>?_
    have:=Ml (MS p) z;grind
   have J:0<a8 a b u - a8 a b w:=by grind
   have e:1 - a8 a b u / (a8 a b u - a8 a b w)=(-a8 a b w)*(a8 a b u - a8 a b w)⁻¹:=by
    have h1:a8 a b u - a8 a b w≠0:=by grind
    rw[MW];grind
   have:=Mn (show 0 < -a8 a b w by grind) (Pa.mpr J);rw[<-e] at this;grind
  .have p':a8 a b u<=0:=by grind
   have U:a8 a b u≠0:=fun z=>by rw[z,Nw] at h;exact absurd h (by decide +kernel)
   have n:0<a8 a b w:=by
    refine ND.mp fun z=>?_
    have:=Ml (show 0 <= -a8 a b u by grind) (show 0 <= -a8 a b w by grind);grind
   have J:0<a8 a b w - a8 a b u:=by grind
   have e:1 - a8 a b u / (a8 a b u - a8 a b w)=a8 a b w*(a8 a b w - a8 a b u)⁻¹:=by
    have h1:a8 a b u - a8 a b w≠0:=by grind
    have h2:a8 a b w - a8 a b u≠0:=by grind
    rw[MW];grind
   have:=Mn n (Pa.mpr J);rw[<-e] at this;grind
section
variable {C:vT_}(R:Rnd S p C) (h3:3<=C.length)
include R h3
end
def U8 {x y:Rat}(h1:0<x) (h2:0<y):0<x*y:=Mn h1 h2
def AF:D->D
 |.tup es=>.tup (es.drop 1++es.take 1)
 |d=>d
abbrev BR:DT:=dB (a9 (n8 (fun i j=>decide (j<i))) (dL 1) (Sj 0))
abbrev Bw:DM:=v3 0 1 (a7 (dV 1) (a7 (a9 C9 (dL 0) (dL 1)) b9))
def zH (fs:vO_) (r:Nat):∀(g:Nat),U2 BR Bw #[[.v (.int g),.v (.int r)],fs]=some (.next,#[[.v (.int (Nat.gcd g r)),.v (.int 0)],fs]):=by
 induction r using Nat.strongRecOn with
 |ind r Y=>
  intro g;by_cases h:r=0
  .subst h;rw[Nat.gcd_zero_right];exact rP (by simp![d9])
  .have e:((g:Int).fmod (r:Int))=((g % r:Nat):Int):=by rw[Po _ ∅];rfl
   have J:=Y (g % r) (Ng _ ∅) r;have U:Nat.gcd g r=Nat.gcd r (g % r):=by rw[Qv g r,Nat.gcd_rec,Qv]
   rw[U];refine vp (s1:=#[[.v (.int g),.v (.int r)],fs]) (s2:=#[[.v (.int r),.v (.int ((g % r:Nat):Int))],fs]) (by simp![d9];omega) ?_ J;rw[<-e];simp[v3,a7,b9,dV,a9,dL,C9,h]
abbrev Cb:c8:=LN
def BC (a b:Int) (fs:vO_):Cb [.int a,.int b] fs=some (.int (Int.gcd a b),fs):=by
 have J:=zH fs b.natAbs a.natAbs;refine v5 (s:=#[[.v (.int (Nat.gcd a.natAbs b.natAbs)),.v (.int 0)],fs]) ?_;show mQ #[[.v (.int a),.v (.int b)],fs]=_;unfold mQ;rw[u5 (s1:=#[[.v (.int a.natAbs),.v (.int b.natAbs)],fs]) (by simp![d9,Y5,ox])];rw[u5 J];refine w4 ?_;simp[dV,Int.gcd]
def B1 (d:D) (a:Str):Bool:=match d with
 |.str x=>decide (x=a)
 |_=>false
def eS {a:Str}(h:C5 d=true) (J:thing d=true) (U:C5 (.str a)=true):J6 d (.str a)=some (.bl (B1 d a)):=by
 simp only[J6,h,U,NR,MV];cases d with
 |feed=>cases J
 |scr _=>cases J
 |fn _=>cases J
 |exc _ _=>cases J
 |_=>simp[B1,D.py,PyData.eqv,Rk,h,U]
end T
namespace DL
open PySem L2
def nF (f:FS) (h:f.kind=2):f.tget 0=some (.lst (f.cells.map .int)):=by unfold FS.tget;rw[iR ∅,iO rfl]
def xC (f:FS) (h:f.kind=2):f.tget 1=some (.int f.pos):=by unfold FS.tget;rw[iR ∅,iR #[],iO rfl]
def zg (f:FS) (h:f.kind=2):f.tget 2=some (.int f.left):=by unfold FS.tget;rw[iR ∅,iR #[],iR #[],iO rfl]
def lJ (f:FS) (h:f.kind=2):f.tget 3=some (.int f.turn):=by unfold FS.tget;rw[iR ∅,iR #[],iR #[],iR #[],iO #[rfl,by omega]]
def uc (f:FS) (v:Int) (h:f.kind=2):f.tput 1 v=some { f with pos:=v }:=by unfold FS.tput;rw[iR ∅,iO rfl]
def qF (f:FS) (v:Int) (h:f.kind=2):f.tput 2 v=some { f with left:=v }:=by unfold FS.tput;rw[iR ∅,iR #[],iO rfl]
def HA (f:FS) (v:Int) (h:f.kind=2):f.tput 3 v=some { f with turn:=v }:=by unfold FS.tput;rw[iR ∅,iR #[],iR #[],iO #[rfl,by omega]]
end DL
namespace T
open PySem L2 DL
abbrev B0:c8:=xP
def Jn (f:FS) (J:Int) (hm:0<J) (hm2:J<2 ^ 100) (ht:0<=f.pos) (ht2:f.pos<2 ^ 40) (hu:0<=f.turn) (hu2:f.turn<2 ^ 40) (hk:f.kind=2) (hcn:f.cells≠[]) :
  ∃r f',B0 [.feed,.int J] (some f)=some (.int r,some f')/\0<=r/\r<J/\f.pos<=f'.pos/\f'.pos<=f.pos+1/\f'.turn=f.turn+1/\f'.kind=2/\f'.cells=f.cells:=by
 have dm:P9 J=true:=CZ ∅ ∅;have hne:J≠0:=by omega
 obtain⟨cs,ps,Y,U,kd⟩:=f;simp only at ht ht2 hu hu2 hk hcn ⊢;subst hk;have st0:T4 0 3 (a9 j5 (E5 0 3) (Sj 1)) #[[.v .feed,.v (.int J),.no,.no,.no,.no],some #[cs,ps,Y,U,2]]=some (.next,#[[.v .feed,.v (.int J),.no,.no,.no,.no],some #[cs,ps,Y,U+1,2]]):=by
  simp[T4,a9,E5,lJ,HA,dC,Sj,Sk,j5]
 by_cases hl:0<Y
 .refine#[Y.fmod J,#[cs,ps,Y.fdiv J,U+1,2],v5 (s:=#[[.v .feed,.v (.int J),.v (.int (Y.fmod J)),.no,.no,.no],some #[cs,ps,Y.fdiv J,U+1,2]]) ?_,(aM hm).1,(aM hm).2,by simp,by simp;omega,rfl,rfl,rfl];show bh #[[.v .feed,.v (.int J),.no,.no,.no,.no],some #[cs,ps,Y,U,2]]=_;unfold bh;rw[u5 st0];refine K8 ?_;simp[d6,w5,j4,a9,E5,T4,nF,xC,zg,uc,qF,dC,Sj,Sk,dL,dV,d8,j7,dB,n8,C9,N7,hl,hne,dm,i8,Option.bind]
 .have hc:0<cs.length:=Pb.mpr hcn;have hi:=aM (a:=ps) (b:=(cs.length:Int)) ∅;obtain⟨c,hg⟩:∃c:Int,C1 (cs.map D.int) (ps.fmod (cs.length:Int))=some (.int c):=by
   have:(ps.fmod (cs.length:Int)).toNat<cs.length:=by omega
   refine#[cs[(ps.fmod (cs.length:Int)).toNat],?_];rw[jV hi.1 (by rw[Mj];exact hi.2),Nq,ME this];rfl
  have hc1:=aM (a:=c) (b:=1000003) #[];have pre:∀rest:DM,d6 (T4 0 3 (a9 j5 (E5 0 3) (Sj 1))) (d6 (j7 (dB (a9 (n8 (fun i j=>decide (j<i))) (E5 0 2) (Sj 0))) (d6 (j4 (a9 C9 (E5 0 2) (dL 1)) (d8 2)) (d6 (T4 0 2 (a9 N7 (E5 0 2) (dL 1))) (i8 (dV 2)))) j8) (d6 (j4 (E5 0 1) (d8 3)) (d6 (T4 0 1 (a9 j5 (dL 3) (Sj 1))) (d6 (j4 (a9 d9 (E5 0 0) (a9 C9 (dL 3) (j6 (one j9) (a7 (E5 0 0) b9)))) (d8 4)) rest))))
    #[[.v .feed,.v (.int J),.no,.no,.no,.no],some #[cs,ps,Y,U,2]]=rest #[[.v .feed,.v (.int J),.no,.v (.int ps),.v (.int c),.no],some #[cs,ps+1,Y,U+1,2]]:=fun rest=>by
   rw[u5 st0];rw[u5 (s1:=#[[.v .feed,.v (.int J),.no,.no,.no,.no],some #[cs,ps,Y,U+1,2]]) (by simp[j7,dB,a9,E5,zg,dC,Sj,Sk,n8,hl,j8])];rw[u5 (s1:=#[[.v .feed,.v (.int J),.no,.v (.int ps),.no,.no],some #[cs,ps,Y,U+1,2]]) (by simp[j4,E5,xC,d8])];rw[u5 (s1:=#[[.v .feed,.v (.int J),.no,.v (.int ps),.no,.no],some #[cs,ps+1,Y,U+1,2]]) (by simp[T4,uc,a9,dL,dC,Sj,Sk,j5])];rw[u5 (s1:=#[[.v .feed,.v (.int J),.no,.v (.int ps),.v (.int c),.no],some #[cs,ps+1,Y,U+1,2]]) (by
    have hn:¬ (cs.length:Int)=0:=by omega
    simp[j4,a9,E5,nF,dL,j6,one,j9,a7,b9,C9,d9,d8,hcn,hg])]
  have Z:r8 (dB (a9 (n8 (fun i j=>decide (j<=i))) (dL 4) (a9 cU (Sj 10) (Sj 18)))) (dB (a9 (n8 (fun i j=>decide (i<j))) (dL 3) (j6 (one j9) (a7 (E5 0 0) b9)))) #[[.v .feed,.v (.int J),.no,.v (.int ps),.v (.int c),.no],some #[cs,ps+1,Y,U+1,2]] =
    some (decide (1000000000000000000<=c)&&decide (ps<(cs.length:Int)),#[[.v .feed,.v (.int J),.no,.v (.int ps),.v (.int c),.no],some #[cs,ps+1,Y,U+1,2]]):=by
   by_cases h1:1000000000000000000<=c
   .simp[r8,dB,a9,dL,dC,Sj,Sk,cU,n8,E5,nF,j6,one,j9,a7,b9,h1]
   .simp[r8,dB,a9,dL,dC,Sj,Sk,cU,n8,h1]
  by_cases hb:(decide (1000000000000000000<=c)&&decide (ps<(cs.length:Int)))=true
  .refine#[c.fmod J,#[cs,ps+1,c.fdiv J,U+1,2],v5 (s:=#[[.v .feed,.v (.int J),.no,.v (.int ps),.v (.int c),.no],some #[cs,ps+1,c.fdiv J,U+1,2]]) ?_,(aM hm).1,(aM hm).2,by simp;omega,by simp,rfl,rfl,rfl];show bh #[[.v .feed,.v (.int J),.no,.no,.no,.no],some #[cs,ps,Y,U,2]]=_;unfold bh;rw[pre];rw[hb] at Z;refine K8 ?_;rw[G1 Z];simp[d6,w5,T4,a9,dL,N7,dm,qF,i8,C9,hne]
  .have hb':(decide (1000000000000000000<=c)&&decide (ps<(cs.length:Int)))=false:=by simpa using hb
   have b1:A8 48271=true:=by decide
   have b2:A8 (c.fmod 1000003)=true:=ku ∅;have b3:A8 7919=true:=by decide
   have b4:A8 (U+1)=true:=ku ∅;have b5:A8 69621=true:=by decide
   have b6:A8 31=true:=by decide
   have b7:A8 (31*(U+1))=true:=ku ∅;have d64:P9 64=true:=by decide
   obtain⟨M,hM,m1,m2⟩:∃M:Int,(c.fmod 1000003*48271+7919*(U+1)+104729).fmod 2147483647=M/\0<=M/\M<2147483647:=#[_,rfl,aM #[]]
   have hD:=Rv M (show (0:Int)<=64 by decide);have b8:A8 (M.fdiv 64)=true:=ku (by rw[hD];omega);obtain⟨L,hL⟩:∃L:Int,(M.fdiv 64*69621+31*(U+1)*(U+1)+ps).fmod 2147483587=L:=#[_,rfl]
   refine#[(L.fdiv 64).fmod J,#[cs,ps+1,Y,U+1,2],v5 (s:=#[[.v .feed,.v (.int J),.no,.v (.int ps),.v (.int c),.v (.int L)],some #[cs,ps+1,Y,U+1,2]]) ?_,(aM hm).1,(aM hm).2,by simp;omega,by simp,rfl,rfl,rfl];show bh #[[.v .feed,.v (.int J),.no,.no,.no,.no],some #[cs,ps,Y,U,2]]=_;unfold bh;rw[pre];rw[hb'] at Z;rw[u5 (by rw[dU Z];rfl)];rw[u5 (s1:=#[[.v .feed,.v (.int J),.no,.v (.int ps),.v (.int c),.v (.int M)],some #[cs,ps+1,Y,U+1,2]]) (by
    simp[j4,a9,dL,dC,Sj,Sk,E5,lJ,d8,C9,o7,j5,b1,b2,b3,b4,hM])]
   rw[u5 (s1:=#[[.v .feed,.v (.int J),.no,.v (.int ps),.v (.int c),.v (.int L)],some #[cs,ps+1,Y,U+1,2]]) (by
    simp[j4,a9,dL,dC,Sj,Sk,E5,lJ,d8,C9,o7,j5,N7,b4,b5,b6,b7,b8,d64,hL])]
   simp[i8,a9,dL,dC,Sj,Sk,C9,N7,d64,hne]
def Fd4 (n:Nat) (f:FS):Prop:=0<=f.pos/\f.pos<=n/\0<=f.turn/\f.turn<=n/\f.kind=2/\f.cells≠[]
def Fd4.mono {n:Nat}{f:FS}(h:Fd4 n f) (J:n<=m):Fd4 m f:=#[h.1,by have:=h.2.1;omega,h.2.2.1,by have:=h.2.2.2.1;omega,h.2.2.2.2]
def J9 {n:Nat}{f:FS}(J:Int) (h:Fd4 n f) (hm:0<J:=by omega) (hn:n<2 ^ 30:=by omega) (U:J<2 ^ 100:=by omega) :
  ∃r f',B0 [.feed,.int J] (some f)=some (.int r,some f')/\0<=r/\r<J/\Fd4 (n+1) f':=by
 obtain⟨a1,a2,a3,a4,a5,Y⟩:=h;obtain⟨r,f',e,h0,h1,h2,h3,h4,h5,Z⟩:=Jn f J hm U a1 ∅ a3 ∅ a5 Y;exact#[r,f',e,h0,h1,by omega,by omega,by omega,by omega,h5,by rw[Z];exact Y]
def Jh (J:List Int):P4 J≠[]:=by
 unfold P4;cases J with
 |nil=>simp
 |cons n r=>simp
def BJ {J:List Int}(h:J.length<=63):(P4 J).length<=63:=by
 unfold P4;cases J with
 |nil=>simp
 |cons n r=>simpa using h
def IL (J:List Int) (h:J.length<=63):U9 [.scr J] none=some (.feed,some #[P4 J,0,0,0,2]):=by
 refine v5 (s:=#[[.v (.scr J)],some #[P4 J,0,0,0,2]]) ?_;show kY #[[.v (.scr J)],none]=_;have:=BJ h;simp[kY,i8,jf,this]
def Fd4.zero (J:List Int):Fd4 0 #[P4 J,0,0,0,2]:=#[by simp,by simp,by simp,by simp,rfl,Jh J]
def Th.part {b:Nat}(h:Th b k (.tup ds)):∀d∈ds,Th b k d:=fun d J=>by
 cases k with
 |zero=>unfold Th at h;exact h.elim
 |succ k=>unfold Th at h;exact Th.mono (tx _) d ∅ (Ths.mem h J)
def Q0 {i j:Int}(h1:A8 i=true) (h2:A8 j=true):o7 (.int i) (.int j)=some (.int (i*j)):=by simp[o7,h1,h2]
def yr (a b:Int) (fs:vO_):iQ [.int a,.int b] fs=some (.int (Int.gcd a b),fs):=BC a b fs
abbrev bZ:c8:=uC iQ
def mK (x y d:Int) (fs:vO_) (J:d≠0) (h:Bd k d) (hk:k<=8000):bZ [.int x,.int y,.int d] fs=some (pt (Rat.divInt x d,Rat.divInt y d),fs):=by
 obtain⟨p0,p1,p2,p3⟩:=jG x y d J;have dg:=vI (x:=x) (y:=y) J h hk;have Y:=yr x y fs;have e2:=yr (Int.gcd x y:Int) d fs;refine v5 (s:=#[[.v (.int x),.v (.int y),.v (.int d),.v (.int (if d<0 then -(Int.gcd (Int.gcd x y:Int) d:Int) else (Int.gcd (Int.gcd x y:Int) d:Int)))],fs]) ?_;show kR iQ #[[.v (.int x),.v (.int y),.v (.int d),.no],fs]=_;unfold kR;rw[u5 (s1:=#[[.v (.int x),.v (.int y),.v (.int d),.v (.int (Int.gcd (Int.gcd x y:Int) d))],fs]) (by simp![d9,Y,e2])];rw[u5 (s1:=#[[.v (.int x),.v (.int y),.v (.int d),.v (.int (if d<0 then -(Int.gcd (Int.gcd x y:Int) d:Int) else (Int.gcd (Int.gcd x y:Int) d:Int)))],fs]) (by
  by_cases U:d<0
  .simp![d9,U]
  .simp![d9,U])]
 generalize hg:(if d<0 then -(Int.gcd (Int.gcd x y:Int) d:Int) else (Int.gcd (Int.gcd x y:Int) d:Int))=gg at *;refine w4 ?_;unfold pt;rw[<-p1,<-p2,<-p3];have Z:(3:Nat)<=sizeLine:=by decide
 simp![d9,N7,dg,Z]
end T
namespace DL
open PySem L2
def gY {α:Type}{xs:List α}{x:α}(h:xs[i]? = some x):C1 xs (i:Int)=some x:=by
 have hi:=(MT.mp h).1;rw[jV ∅ ∅];simpa using h
end DL
namespace T
open PySem L2 DL
def dq:List D:=[.non,.bl true,.bl false,.int 0,.int 1,.int (-1),.int 2,.str "",.str "a",.str "meet",.str "apart",.str "one",.str "other",.tup [],.lst [],.tup [.int 0],.tup [.int 0,.int 0,.int 1],.tup [.int 1,.int 2],
 .tup [.int 2,.int 4,.int 2],.tup [.int 0,.int 0,.int 0],.tup [.int 1,.int 1,.int (-1)],.tup [.tup [.int 0,.int 0,.int 1]],.tup [.str "one",.int 0],.int 1000000000000000000000000000000000000000]
def HY:∀d∈dq,Th 131 2 d/\DL.bk d<=7:=by
 intro d J;have i:∀z:Int,z.natAbs<8->Bd 131 z:=fun z h=>(show Bd 3 z from qB h).mono #[]
 have U:U6 "one" := eI (by decide +kernel);simp only[dq,xo,Mx,MI] at J;rcases J with rfl | rfl | rfl | rfl | rfl | rfl | rfl | rfl | rfl | rfl | rfl | rfl | rfl | rfl | rfl | rfl | rfl | rfl | rfl | rfl | rfl | rfl | rfl | rfl
 all_goals first
  | exact#[by unfold Th;trivial,by decide]
  | exact#[by unfold Th;exact i _ #[],by decide]
  | exact#[by unfold Th;exact Bd.lit (by decide +kernel),by decide]
  | exact#[by unfold Th;exact eI (by decide +kernel),by decide +kernel]
  | exact#[by simp only[Th,Ths,and_true,true_and];exact i _ #[],by decide]
  | exact#[by simp only[Th,Ths,and_true,true_and];exact#[i _ #[],i _ #[]],by decide]
  | exact#[by simp only[Th,Ths,and_true,true_and];exact#[i _ #[],i _ #[],i _ #[]],by decide]
  | exact#[by simp only[Th,Ths,and_true,true_and];exact#[U,i _ #[]],by decide +kernel]
  | exact#[by simp only[Th,Ths],by decide]
abbrev aK:c8:=yw B0
def hX {n:Nat}{f:FS}(h:Fd4 n f) (hn:n<2 ^ 29):∃d f',aK [.feed] (some f)=some (d,some f')/\Th 131 2 d/\DL.bk d<=7/\Fd4 (n+1) f':=by
 obtain⟨r,f1,Z,a1,a2,h1⟩:=J9 24 h;obtain⟨d,hd,Y⟩:=aF (xs:=dq) a1 (by show r<24;exact a2);obtain⟨t1,t2⟩:=HY d hd;refine#[d,f1,v5 (s:=#[[.v .feed,.own dq],some f1]) ?_,t1,t2,h1];show kL B0 #[[.v .feed,.no],some f]=_;have s1:(1:Nat)<=sizeLine:=by decide
 have s2:(2:Nat)<=sizeLine:=by decide
 have s3:(3:Nat)<=sizeLine:=by decide
 have s6:(6:Nat)<=sizeLine:=by decide
 have J:(18:Nat)<=sizeLine:=by decide
 have U:(24:Nat)<=sizeLine:=by decide
 simp only[dq] at Y;simp![kL,C4,B9,D8,D7,D3,D1,D6,E4,V0,W9,cU,s1,s2,s3,s6,J,U,Z,Y,dq]
abbrev L4 (N:Nat):c8:=nW aK B0 N
def jo {N n:Nat}{f:FS}(d:D) (h:Fd4 n f) (hn:n<2 ^ 28) (U:d = .non\/(∃ds,d = .lst ds)\/(∃c,d = .bl c)\/∃x,d = .str x):∃d' f',L4 (N+1) [.feed,d] (some f)=some (d',some f')/\Th 131 2 d'/\DL.bk d'<=7/\Fd4 (n+4) f':=by
 obtain⟨r,f1,J,Z,Y,h1⟩:=J9 8 h;obtain⟨d',f',e,t,b,h'⟩:=hX h1 ∅;refine#[d',f',v5 (s:=#[[.v .feed,.v d,.no,.v (.int r),.no],some f']) ?_,t,b,h'.mono ∅];show S3 aK B0 (L4 N) #[[.v .feed,.v d,.no,.no,.no],some f]=_;rcases U with rfl | ⟨ds,rfl⟩ | ⟨c,rfl⟩ | ⟨x,rfl⟩
 .simp![S3,C4,B9,D8,D7,D3,D1,D6,Ej,F9,e,J]
 .simp![S3,C4,B9,D8,D7,D3,D1,D6,Et,F9,e,J]
 .simp![S3,C4,B9,D8,D7,D3,D1,D6,Dz,F9,e,J]
 .simp![S3,C4,B9,D8,D7,D3,D1,D6,Eb,F9,e,J]
def Ha {N n b:Nat}{f:FS}(i:Int) (hi:Bd b i) (hb:131<=b) (hb2:b<=1000) (h:Fd4 n f) (hn:n<2 ^ 28):∃d' f',L4 (N+1) [.feed,.int i] (some f)=some (d',some f')/\Th (b+1) 2 d'/\DL.bk d'<=b+8/\Fd4 (n+4) f':=by
 obtain⟨r,f1,e1,a1,a2,h1⟩:=J9 8 h;have J:Bd 1 1:=Bd.lit #[];have s6:(6:Nat)<=sizeLine:=by decide
 have z1:A8 2=true:=by decide
 have z2:A8 i=true:=hi.bits ∅;have ll:=FG hi ∅;have lg:i.natAbs.log2<1920:=dY #[] (hi.mono ∅);have l2:(toString i:Str).length<=sizeLine:=Mm ll (by rw[MU];omega);have ps:eJ (.int i)=some (.str (toString i)):=by simp only[eJ];rw[iO #[lg,l2]]
 have as:=GH i;generalize (PySem.Str.ofString (toString i))=T at *;by_cases Z:r<6
 .obtain⟨x,Y,hq⟩:=aF (xs:=[D.int (i+1),D.int (i - 1),D.int (0 - i),D.bl (decide (i=1)),D.int (2*i),D.str T]) a1 (by show r<6;exact Z);refine#[x,f1,v5 (s:=#[[.v .feed,.v (.int i),.no,.v (.int r),.no],some f1]) ?_,?_,?_,h1.mono ∅]
  .show S3 aK B0 (L4 N) #[[.v .feed,.v (.int i),.no,.no,.no],some f]=_;have U:=hq;rw[Int.zero_sub] at U;simp![S3,C4,B9,D8,D7,D3,D1,D6,rm,F9,e1,Z,aR,o7,z1,z2,ps,s6,U]
  .simp only[xo,Mx,MI] at Y;rcases Y with rfl | rfl | rfl | rfl | rfl | rfl
   .unfold Th;exact(hi.add J).mono ∅
   .unfold Th;exact(hi.sub J).mono ∅
   .unfold Th;rw[Int.zero_sub];exact hi.neg.mono ∅
   .unfold Th;trivial
   .unfold Th;have:(2:Int)*i=i+i:=by omega
    rw[this];exact(hi.add hi).mono ∅
   .unfold Th;exact as
  .simp only[xo,Mx,MI] at Y;rcases Y with rfl | rfl | rfl | rfl | rfl | rfl
   .rw[gw];omega
   .rw[gw];omega
   .rw[gw];omega
   .rw[zX];omega
   .rw[gw];omega
   .rw[hJ];omega
 .obtain⟨d',f',e,t,bb,h'⟩:=hX h1 ∅;refine#[d',f',v5 (s:=#[[.v .feed,.v (.int i),.no,.v (.int r),.no],some f']) ?_,Th.mono ∅ _ (tx _) t,by omega,h'.mono ∅];show S3 aK B0 (L4 N) #[[.v .feed,.v (.int i),.no,.no,.no],some f]=_;simp![S3,C4,B9,D8,D7,D3,D1,D6,rm,F9,e1,Z,e]
abbrev mr:DM:=(d6 (j4 (d7 B0 (a7 (dV 0) (a7 (Sj 8) b9))) (d8 3)) (d6 (j7 (r8 (o6 (k6 (F7 "tuple") (dL 1))) (dB (a9 (n8 (fun i j=>decide (i<j))) (dL 3) (Sj 6)))) (d6 (j4 (d7 B0 (a7 (dV 0) (a7 (a9 j5 (j6 (one j9) (a7 (dL 1) b9)) (Sj 1)) b9))) (d8 2)) (d6 (E4 4 (n9 (a7 (l5 (S0 (one dk) (a7 (dL 1) b9))) (a7 (a9 j5 (D2 (dL 1) E6 (E7 (dL 2))) (D2 (dL 1) (E7 (a9 j5 (dL 2) (Sj 1))) E6)) (a7 (a9 j5 (D2 (dL 1) E6 (E7 (a9 j5 (dL 2) (Sj 1)))) (D2 (dL 1) (E7 (dL 2)) E6)) (a7 (jC (dL 1) (k6 o8 (Sj 1))) b9)))))) (i8 (a9 d9 (l5 (V0 W9 (dL 4) (l5 (n9 (a7 (a9 j5 (D2 (dL 1) (E7 (Sj 1)) E6) (D2 (dL 1) E6 (E7 (Sj 1)))) (a7 (a9 j5 (dL 1) (i7 (a7 (d7 aK (a7 (dV 0) b9)) b9))) b9)))))) (dL 3))))) j8) (d6 (j7 (r8 (o6 (k6 (F7 "int") (dL 1))) (r8 (t9 (o6 (k6 (F7 "bool") (dL 1)))) (dB (a9 (n8 (fun i j=>decide (i<j))) (dL 3) (Sj 6))))) (i8 (a9 d9 (l5 (n9 (a7 (a9 j5 (dL 1) (Sj 1)) (a7 (a9 o9 (dL 1) (Sj 1)) (a7 (a9 o9 (Sj 0) (dL 1)) (a7 (a9 J6 (dL 1) (Sj 1)) (a7 (a9 o7 (Sj 2) (dL 1)) (a7 (j6 (one eJ) (a7 (dL 1) b9)) b9)))))))) (dL 3))) j8) (i8 (d7 aK (a7 (dV 0) b9))))))
def Gy {n b:Nat}{f:FS}(ds:vD_) (U:Th b (k+1) (.tup ds)) (hb:131<=b) (hb2:b<=1000) (hs:F5 ds<=100000) (h:Fd4 n f) (hn:n<2 ^ 28) (x2:Sl) :
  ∃d' f' s',mr #[[.v .feed,.v (.tup ds),x2,.no,.no],some f]=some (.ret d',s')/\s'.fs=some f'/\Th b (k+3) d'/\DL.bk d'<=2*F5 ds+8/\Fd4 (n+3) f':=by
 obtain⟨r,f1,e1,a1,a2,h1⟩:=J9 8 h;have hl:=iu ds;have hm:∀d∈ds,Th b k d:=fun d m=>Ths.mem (by unfold Th at U;exact U) m
 have um:∀d∈ds,Th b (k+2) d:=fun d U=>Th.mono (tx _) d ∅ (hm d U)
 have Z:∀{es:vD_},(∀d∈es,Th b (k+2) d)->Th b (k+3) (.tup es):=fun he=>by
  unfold Th;exact Ths.of he
 by_cases hr:r<6
 .obtain⟨p,f2,e2,p1,p2,h2⟩:=J9 ((ds.length:Int)+1) h1 ∅ ∅ ∅;obtain⟨d',f3,e3,t,bd,h3⟩:=hX h2 ∅;have c2:ds.length+1<=sizeLine:=by rw[MU];omega
  have cc:∀a b c d,(A0 ds a b).length+(A0 ds c d).length<=sizeLine:=fun a b c d=>by
   have:=yt ds a b;have:=yt ds c d;rw[MU];omega
  have J:∀{a b c d:Option Int},∀x∈A0 ds a b++A0 ds c d,Th _ (k+2) x:=fun x hx=>by
   rcases Mp.mp hx with z | z
   .exact um x (sU z)
   .exact um x (sU z)
  have Y:∀a b c d,DL.bk (.tup (A0 ds a b++A0 ds c d))<=2*F5 ds+8:=fun a b c d=>by
   rw[T5,af];have:=uF ds a b;have:=uF ds c d;omega
  obtain⟨y,hy,hq⟩:=aF (xs:=[D.lst ds,D.tup (A0 ds none (some p)++A0 ds (some (p+1)) none),D.tup (A0 ds none (some (p+1))++A0 ds (some p) none),D.tup ds.reverse,D.tup (A0 ds (some 1) none++A0 ds none (some 1)),D.tup (ds++[d'])]) a1 (by show r<6;exact hr);refine#[y,f3,#[[.v .feed,.v (.tup ds),.v (.int p),.v (.int r),.own [D.lst ds,D.tup (A0 ds none (some p)++A0 ds (some (p+1)) none),D.tup (A0 ds none (some (p+1))++A0 ds (some p) none),D.tup ds.reverse]],some f3],?_,rfl,?_,?_,h3]
  .have s4:(4:Nat)<=sizeLine:=by decide
   have s6:(6:Nat)<=sizeLine:=by decide
   have s1:(1:Nat)<=sizeLine:=by decide
   have q1:=cc none (some p) (some (p+1)) none;have q2:=cc none (some (p+1)) (some p) none;have q3:=cc (some 1) none none (some 1);unfold mr;rw[u5 (s1:=#[[.v .feed,.v (.tup ds),x2,.v (.int r),.no],some f1]) (by simp![d9,e1])];refine K8 ?_;rw[G1 (s1:=#[[.v .feed,.v (.tup ds),x2,.v (.int r),.no],some f1]) (by simp![d9,aq,F9,hr])];rw[u5 (s1:=#[[.v .feed,.v (.tup ds),.v (.int p),.v (.int r),.no],some f2]) (by simp![d9,e2])];rw[u5 (s1:=#[[.v .feed,.v (.tup ds),.v (.int p),.v (.int r),.own [D.lst ds,D.tup (A0 ds none (some p)++A0 ds (some (p+1)) none),D.tup (A0 ds none (some (p+1))++A0 ds (some p) none),D.tup ds.reverse]],some f2]) (by
    simp![d9,E4,S0,dk,D2,E7,E6,jC,q1,q2,s4])]
   refine w4 ?_;generalize A0 ds none (some p)++A0 ds (some (p+1)) none=A at *;generalize A0 ds none (some (p+1))++A0 ds (some p) none=B at *;simp![C4,B9,D8,D7,D3,D1,D6,V0,W9,D2,E7,E6,q3,c2,e3,s1,sD,s4,s6,hq]
  .simp only[xo,Mx,MI] at hy;rcases hy with rfl | rfl | rfl | rfl | rfl | rfl
   .unfold Th;exact Ths.of um
   .exact Z J
   .exact Z J
   .exact Z fun d U=>um d (PB.mp U)
   .exact Z J
   .exact Z fun d U=>by
     rcases Mp.mp U with z | z
     .exact um d z
     .rw[Mq.mp z];exact Th.mono ∅ _ ∅ t
  .simp only[xo,Mx,MI] at hy;rcases hy with rfl | rfl | rfl | rfl | rfl | rfl
   .rw[zh];omega
   .exact Y _ _ _ _
   .exact Y _ _ _ _
   .rw[T5,qW];omega
   .exact Y _ _ _ _
   .rw[T5,af,M8,aU];omega
 .obtain⟨d',f2,e2,t,bd,h2⟩:=hX h1 ∅;refine#[d',f2,#[[.v .feed,.v (.tup ds),x2,.v (.int r),.no],some f2],?_,rfl,Th.mono ∅ _ ∅ t,by omega,h2.mono ∅];simp![mr,d9,aq,F9,e1,e2,hr]
theorem kr:∀(N:Nat) {n b k:Nat}{f:FS}(d:D),k<N->N<=64->Th b k d->131<=b->b<=1000->bk d<=100000->Fd4 n f->n+4*(k+1)<2 ^ 27 ->
  ∃d' f',L4 N [.feed,d] (some f)=some (d',some f')/\Th (b+1) (k+2) d'/\bk d'<=2*bk d+b+10/\Fd4 (n+4*(k+1)) f'
 |0,n,b,k,f,d,hk,_,_,_,_,_,_,_=>by omega
 |N+1,n,b,k,f,.feed,hk,hN,h,_,_,_,_,_=>by unfold Th at h;exact h.elim
 |N+1,n,b,k,f,.scr _,hk,hN,h,_,_,_,_,_=>by unfold Th at h;exact h.elim
 |N+1,n,b,k,f,.fn _,hk,hN,h,_,_,_,_,_=>by unfold Th at h;exact h.elim
 |N+1,n,b,k,f,.exc _ _,hk,hN,h,_,_,_,_,_=>by unfold Th at h;exact h.elim
 |N+1,n,b,k,f,.non,hk,hN,h,hb,hb2,hs,hf,hn=>by
  obtain⟨d',f',e,t,s,g⟩:=jo (N:=N) .non hf ∅ (.inl rfl);exact#[d',f',e,Th.mono ∅ _ ∅ t,by omega,g.mono ∅]
 |N+1,n,b,k,f,.lst ds,hk,hN,h,hb,hb2,hs,hf,hn=>by
  obtain⟨d',f',e,t,s,g⟩:=jo (N:=N) (.lst ds) hf ∅ (.inr (.inl #[ds,rfl]));exact#[d',f',e,Th.mono ∅ _ ∅ t,by omega,g.mono ∅]
 |N+1,n,b,k,f,.bl c,hk,hN,h,hb,hb2,hs,hf,hn=>by
  obtain⟨d',f',e,t,s,g⟩:=jo (N:=N) (.bl c) hf ∅ (.inr (.inr (.inl #[c,rfl])));exact#[d',f',e,Th.mono ∅ _ ∅ t,by omega,g.mono ∅]
 |N+1,n,b,k,f,.str x,hk,hN,h,hb,hb2,hs,hf,hn=>by
  obtain⟨d',f',e,t,s,g⟩:=jo (N:=N) (.str x) hf ∅ (.inr (.inr (.inr #[x,rfl])));exact#[d',f',e,Th.mono ∅ _ ∅ t,by omega,g.mono ∅]
 |N+1,n,b,k,f,.int i,hk,hN,h,hb,hb2,hs,hf,hn=>by
  unfold Th at h;obtain⟨d',f',e,t,s,g⟩:=Ha (N:=N) i h hb hb2 hf ∅;exact#[d',f',e,Th.mono ∅ _ ∅ t,by omega,g.mono ∅]
 |N+1,n,b,0,f,.tup ds,hk,hN,h,_,_,_,_,_=>by unfold Th at h;exact h.elim
 |N+1,n,b,k+1,f,.tup ds,hk,hN,h,hb,hb2,hs,hf,hn=>by
  have U:=CW ds h ∅ ∅;rw[T5] at hs ⊢;have J:∀{m:Nat}{g:FS}(x2:Sl),Fd4 m g->m<2 ^ 28->j7 (r8 (o6 (k6 (F7 "tuple") (dL 1))) (r8 (dB (a9 A2 (dL 1) (i7 b9))) (dB (a9 (n8 (fun i j=>decide (j<i))) (d7 B0 (a7 (dV 0) (a7 (Sj 6) b9))) (Sj 0))))) (d6 (j4 (d7 B0 (a7 (dV 0) (a7 (j6 (one j9) (a7 (dL 1) b9)) b9))) (d8 2)) (i8 (a9 j5 (a9 j5 (D2 (dL 1) E6 (E7 (dL 2))) (i7 (a7 (d7 (L4 N) (a7 (dV 0) (a7 (a9 d9 (dL 1) (dL 2)) b9))) b9))) (D2 (dL 1) (E7 (a9 j5 (dL 2) (Sj 1))) E6)))) j8
    #[[.v .feed,.v (.tup ds),.no,.no,.no],some f]=some (.next,#[[.v .feed,.v (.tup ds),x2,.no,.no],some g])->∃d' f',L4 (N+1) [.feed,.tup ds] (some f)=some (d',some f')/\Th b (k+3) d'/\bk d'<=2*F5 ds+8/\Fd4 (m+3) f':=by
   intro m g x2 hg hm e;obtain⟨d',f',s',Z,e2,t,s,q⟩:=Gy ds h hb hb2 hs hg hm x2;refine#[d',f',?_,t,s,q];rw[<-e2];refine v5 ?_;show S3 aK B0 (L4 N) #[[.v .feed,.v (.tup ds),.no,.no,.no],some f]=_;unfold S3;rw[u5 e];exact Z
  have s0:(0:Nat)<=sizeLine:=by decide
  by_cases hz:ds=[]
  .rw[MA hz] at U;obtain⟨d',f',e,t,s,q⟩:=J .no hf ∅ (by simp![C4,B9,D8,D7,D3,D1,D6,aq,F9,U]);exact#[d',f',e,Th.mono ∅ _ ∅ t,by omega,q.mono ∅]
  .rw[MK hz] at U;obtain⟨r,f1,Z,a1,a2,h1⟩:=J9 6 hf;by_cases hr:0<r
   .have hlen:0<ds.length:=by cases ds with | nil=>exact absurd rfl hz | cons _ _=>simp
    have hbl:=iu ds;obtain⟨p,f2,e2,p1,p2,h2⟩:=J9 (ds.length:Int) h1 ∅ ∅ ∅;obtain⟨P,rfl⟩:=Px p1;have Y:P<ds.length:=by omega
    have hat:C1 ds (P:Int)=some ds[P]:=by rw[jV ∅ p2];simp[Y]
    have hc:Th b k ds[P]:=Ths.mem (by unfold Th at h;exact h) (NZ Y);have hcb:=Cj (NZ Y);obtain⟨c',f3,e3,t3,s3,h3⟩:=kr N ds[P] ∅ ∅ hc hb hb2 ∅ h2 ∅;have k1:A0 ds none (some (P:Int))=ds.take P:=yZ ds P ∅;have k2:A0 ds (some ((P:Int)+1)) none=ds.drop (P+1):=by
     have:=tQ ds (P+1) ∅
     rwa [Int.natCast_add] at this
    have l1:(ds.take P).length+1<=sizeLine:=by rw[Np,MU];omega
    have l2:(ds.take P++[c']).length+(ds.drop (P+1)).length<=sizeLine:=by
     rw[MC,Np,MH,MU];simp;omega
    have s1:(1:Nat)<=sizeLine:=by decide
    refine#[.tup (ds.take P++[c']++ds.drop (P+1)),f3,v5 (s:=#[[.v .feed,.v (.tup ds),.v (.int P),.no,.no],some f3]) ?_,?_,?_,h3.mono ∅]
    .show S3 aK B0 (L4 N) #[[.v .feed,.v (.tup ds),.no,.no,.no],some f]=_;unfold S3;refine K8 ?_;rw[G1 (s1:=#[[.v .feed,.v (.tup ds),.no,.no,.no],some f1]) (by simp![C4,B9,D8,D7,D3,D1,D6,aq,F9,U,Z,hr])];rw[u5 (s1:=#[[.v .feed,.v (.tup ds),.v (.int P),.no,.no],some f2]) (by simp![C4,B9,D8,D7,D3,D1,D6,e2])];refine w4 ?_;simp only[MC,Np,MH,NM] at l1 l2;simp![C4,B9,D8,D7,D3,D1,D6,D2,E7,E6,k1,k2,hat,e3,s1,l1,l2]
    .have hm:∀d∈ds,Th b k d:=fun d m=>Ths.mem (by unfold Th at h;exact h) m
     unfold Th;refine Ths.of fun d hd=>?_
     rcases Mp.mp hd with z | z
     .rcases Mp.mp z with z | z
      .exact Th.mono ∅ d ∅ (hm d (QC z))
      .rw[Mq.mp z];exact t3
     .exact Th.mono ∅ d ∅ (hm d (Pz z))
    .rw[T5,af,af,M8,aU];have q1:=af (ds.take P) (ds.drop P);rw[OX,RD Y,M8] at q1;omega
   .obtain⟨d',f',e,t,s,q⟩:=J .no h1 ∅ (by simp![C4,B9,D8,D7,D3,D1,D6,aq,F9,U,Z,hr]);exact#[d',f',e,Th.mono ∅ _ ∅ t,by omega,q.mono ∅]
end T
namespace DL
open PySem L2
def AD (ds:vD_):PyData.eqv (D.py (.lst ds)) (D.py (.lst []))=decide (ds=[]):=by
 cases ds with
 |nil=>rfl
 |cons d r=>simp[D.py,D.pys,PyData.eqv,PyData.eqvAll]
def gF {b:Nat}(ds:vD_) (h:∀d∈ds,Th b k d) (Y:b<=1920) (hk:k+1<=64):A2 (.lst ds) (.lst [])=some (.bl (!decide (ds=[]))):=by
 have t:Th b (k+1) (.lst ds):=by unfold Th;exact Ths.of h
 have J:=(Th.ok Y _ t).eq hk;have U:C5 (.lst [])=true:=by decide +kernel
 have:A2 (.lst ds) (.lst [])=if C5 (.lst ds)&&C5 (.lst []) then some (.bl (!PyData.eqv (D.py (.lst ds)) (D.py (.lst [])))) else none:=rfl
 rw[this,J,U,AD];rfl
end DL
namespace T
open PySem L2 DL
def Y9 (S:vD_):D->D
 |.int k=>.tup [(S[k.toNat]?).getD .non,(S[(k.toNat+1) % S.length]?).getD .non]
 |_=>.non
def FQ (S:vD_) (fs:vO_):∀d∈B5 0 S.length,∃s,i7 (a7 (a9 d9 (dL 1) (dL 0)) (a7 (a9 d9 (dL 1) (a9 C9 (a9 j5 (dL 0) (Sj 1)) (j6 (one j9) (a7 (dL 1) b9)))) b9)) #[.v d::[.v (.tup S)],fs]=some (Y9 S d,s)/\s.fs=fs:=by
 intro d hd;obtain⟨i,hi⟩:=OB hd;obtain⟨rfl,Y⟩:=eV hi;rw[Rw];have J:(i+1) % S.length<S.length:=Ng _ ∅;have a1:C1 S (i:Int)=some S[i]:=gY (xs:=S) (i:=i) (x:=S[i]) (by rw[ME ∅]);have fm:((i:Int)+1).fmod (S.length:Int)=(((i+1) % S.length:Nat):Int):=by
  rw[Po _ ∅];simp
 have Z:C1 S (((i:Int)+1).fmod (S.length:Int))=some S[(i+1) % S.length]:=by
  rw[fm];exact gY (xs:=S) (i:=(i+1) % S.length) (x:=S[(i+1) % S.length]) (by rw[ME J])
 have n0:¬ (S.length:Int)=0:=by omega
 refine#[#[[.v (.int (i:Int)),.v (.tup S)],fs],?_,rfl];have U:Y9 S (.int (i:Int)) = .tup [S[i],S[(i+1) % S.length]]:=by
  simp only[Y9,Nz];rw[ME ∅,ME J];rfl
 rw[U];have pm:C9 (.int ((i:Int)+1)) (.int (S.length:Int))=some (.int (((i:Int)+1).fmod (S.length:Int))):=by simp only[C9,ne_eq,n0,not_false_eq_true,MV]
 generalize S[i]=x at *;generalize S[(i+1) % S.length]=y at *;generalize ((i:Int)+1).fmod (S.length:Int)=z at *;simp![C4,B9,D8,D7,D3,D1,D6,a1,Z,pm,sD]
def wW (ds:vD_):(B5 0 ds.length).map (Y9 ds)=(i9 true ds).map ak:=by
 have U:(i9 true ds).length=ds.length:=by
  rw[iz];simp only[MV];omega
 apply List.ext_getElem?;intro i;by_cases hi:i<(i9 true ds).length
 .obtain⟨a,b,Y,Z,q3⟩:=GW hi;have u:(B5 0 ds.length)[i]? = some (.int (i:Int)):=by
   unfold B5;rw[Nq,List.getElem?_range ∅];simp
  rw[Nq,u,Nq,q3];simp only[Qe,Y9,Nz,Y,Z];rfl
 .have J:(i9 true ds).length<=i:=by omega
  rw[Se (by rw[Mj];unfold B5;rw[Mj,List.length_range];omega)];rw[Se (by rw[Mj];exact J)]
def ES (ds:vD_) (fs:vO_) (hl:ds.length<=1000000):R5 [.tup ds] fs=some (.lst ((i9 true ds).map ak),fs):=by
 have J:=jQ (idx:=[0]) (g:=Y9 ds) [.v (.tup ds)] fs (B5 0 ds.length) (FQ ds fs);rw[wW] at J;have Z:R9 [.int (ds.length:Int)]=some (B5 0 ds.length):=cT ∅;have hz:(B5 0 ds.length).length<=sizeLine:=by
  unfold B5;rw[Mj,List.length_range,MU];omega
 have U:a7 (j6 (one j9) (a7 (dL 0) b9)) b9 #[[.v (.tup ds)],fs]=some ([.int (ds.length:Int)],#[[.v (.tup ds)],fs]):=by
  simp![d9]
 have hr:V4 (a7 (j6 (one j9) (a7 (dL 0) b9)) b9) #[[.v (.tup ds)],fs]=some (B5 0 ds.length,#[[.v (.tup ds)],fs]):=by
  unfold V4;rw[U,Mh];show (R9 [.int (ds.length:Int)]).map _=_;rw[Z];rfl
 have hc:K9 [0] (V4 (a7 (j6 (one j9) (a7 (dL 0) b9)) b9)) F6 (i7 (a7 (a9 d9 (dL 1) (dL 0)) (a7 (a9 d9 (dL 1) (a9 C9 (a9 j5 (dL 0) (Sj 1)) (j6 (one j9) (a7 (dL 1) b9)))) b9))) #[[.v (.tup ds)],fs]=some ((i9 true ds).map ak,#[[.v (.tup ds)],fs]):=by
  unfold K9;rw[hr,Mh];simp only[iO hz];have Y:Q8 [0] [Sl.v (.tup ds)]=[.v (.tup ds)]:=rfl;rw[Y,J];rfl
 refine v5 (s:=#[[.v (.tup ds)],fs]) ?_;show fY #[[.v (.tup ds)],fs]=_;unfold fY;refine w4 ?_;generalize (K9 [0] (V4 (a7 (j6 (one j9) (a7 (dL 0) b9)) b9)) F6 (i7 (a7 (a9 d9 (dL 1) (dL 0)) (a7 (a9 d9 (dL 1) (a9 C9 (a9 j5 (dL 0) (Sj 1)) (j6 (one j9) (a7 (dL 1) b9)))) b9))))=F at *;generalize (i9 true ds).map ak=W at *;simp[l5,hc]
def bP {i:Int}(h:C1 ds i=some d):d9 (.lst ds) (.int i)=some d:=(B9 ds i).trans h
def cr (a b:Pt):Rat:=a.1*b.2 - a.2*b.1
def mG {a:Int}{g:Nat}:(a.fdiv (g:Int)).natAbs<=a.natAbs:=by
 rw[Rv _ ∅];exact Sf a g
def Jx (x y:Int) {d:Int}(h:1<=d):(pX (Rat.divInt x d,Rat.divInt y d)).natAbs<=x.natAbs/\(pY (Rat.divInt x d,Rat.divInt y d)).natAbs<=y.natAbs/\(pL (Rat.divInt x d,Rat.divInt y d)).natAbs<=d.natAbs:=by
 obtain⟨U,p1,p2,J⟩:=jG x y d ∅;rw[iR ∅] at p1 p2 J;rw[<-p1,<-p2,<-J];exact#[mG,mG,mG]
abbrev Y8:c8:=qD bZ
def Ie {i j:Nat}{f:DA}{s s1 s2:DS}{a b:D}(h:f s=some ([a,b],s1)) (e:{ s1 with sl:=(s1.sl.set i (.v a)).set j (.v b) }=s2):v3 i j f s=some (.next,s2):=by
 unfold v3;rw[h,<-e];rfl
def oh {i:Nat}{f:DA}{s s1 s2:DS}{ds:vD_}(h:f s=some (ds,s1)) (hi:i<s1.sl.length) (e:{ s1 with sl:=s1.sl.set i (.own ds) }=s2):E4 i f s=some (.next,s2):=by
 unfold E4;rw[h,Mh,iO hi,<-e]
def kv {s:DS}(h:f s=some (ds,s1)) (hz:ds.length<=sizeLine):n9 f s=some (ds,s1):=by
 unfold n9;rw[h,Mh,iO hz]
def yE {s:DS}(h:f s=some (ds,s1)) (hz:ds.length<=sizeLine):i7 f s=some (.tup ds,s1):=by
 unfold i7;rw[h,Mh,iO hz]
def eG {p q:DE}{s:DS}{x:D}{w:Bool}(h1:p s=some (x,s1)) (h2:q s1=some (y,s2)) (h3:A2 x y=some (.bl w)):dB (a9 A2 p q) s=some (w,s2):=by
 unfold dB;rw[f9 h1 h2 h3];rfl
def kg {a b:DT}{s:DS}(h1:a s=some (false,s1)) (h2:b s1=some (false,s2)):u4 a b s=some (false,s2):=by
 unfold u4;rw[h1,Mh];exact h2
def M3 {p:List D->Option D}{a:DA}{s:DS}{xs:vD_}(J:a s=some (xs,s1)) (U:p xs=some d):j6 p a s=some (d,s1):=by
 unfold j6;rw[J,Mh,U];rfl
def eE {s:DS}(h:f s=some (ds,s1)):l5 f s=some (.lst ds,s1):=by
 unfold l5;rw[h];rfl
abbrev eC (x y l:Int):D:=.tup [.int x,.int y,.int l]
def tR {x y l U J Y:Int}(fs:vO_) (hx:Bd k x) (hy:Bd k y) (hl:Bd k l) (hx':Bd k U) (Z:Bd k J) (hl':Bd k Y) (hk:k<=2000):kK [eC x y l,eC U J Y] fs=some (eC (y*Y - l*J) (l*U - x*Y) (x*J - y*U),fs):=by
 have b1:=hx.bits ∅;have b2:=hy.bits ∅;have b3:=hl.bits ∅;have c1:=hx'.bits ∅;have c2:=Z.bits ∅;have c3:=hl'.bits ∅;refine v5 (s:=#[[.v (eC x y l),.v (eC U J Y)],fs]) (w4 ?_);exact zA (f9 (f9 (f9 rfl rfl rfl) (f9 rfl rfl rfl) (P6 b2 c3)) (f9 (f9 rfl rfl rfl) (f9 rfl rfl rfl) (P6 b3 c2)) rfl) (f9 (f9 (f9 rfl rfl rfl) (f9 rfl rfl rfl) (P6 b3 c1)) (f9 (f9 rfl rfl rfl) (f9 rfl rfl rfl) (P6 b1 c3)) rfl) (f9 (f9 (f9 rfl rfl rfl) (f9 rfl rfl rfl) (P6 b1 c2)) (f9 (f9 rfl rfl rfl) (f9 rfl rfl rfl) (P6 b2 c1)) rfl)
abbrev cx:c8:=xw kK
def M1 (a b:Pt):Int:=pY a*pL b - pL a*pY b
def M5 (a b:Pt):Int:=pL a*pX b - pX a*pL b
def Q2 (a b:Pt):Int:=pX a*pY b - pY a*pX b
abbrev E3 (a b:Pt):D:=eC (M1 a b) (M5 a b) (Q2 a b)
def jB {b:Pt}(J:Ps k a) (U:Ps k b):Bd (k+k+1) (M1 a b)/\Bd (k+k+1) (M5 a b)/\Bd (k+k+1) (Q2 a b):=
 #[((J.y.mul U.l).sub (J.l.mul U.y)).mono ∅,((J.l.mul U.x).sub (J.x.mul U.l)).mono ∅,((J.x.mul U.y).sub (J.y.mul U.x)).mono ∅]
def sJ {b:Pt}(fs:vO_) (J:Ps k a) (U:Ps k b) (hk:k<=900):cx [pt a,pt b] fs=some (E3 a b,fs):=by
 have e:=tR fs J.x J.y J.l U.x U.y U.l ∅;exact v5 (s:=#[[.v (pt a),.v (pt b)],fs]) (w4 (u7 rfl e))
theorem vc {q a b:Rat}(Y:q≠0) (U:b≠0):(q*a) / (q*b)=a / b:=by
 have J:q*b≠0:=fun z=>by
  rcases MM.mp z with z | z
  .exact Y z
  .exact U z
 have Z:=Pr (a:=q*a) J;have e2:=Pr (a:=a) U;have:(q*a / (q*b) - a / b)*(q*b)=0:=by grind
 rcases MM.mp this with z | z
 .grind
 .exact absurd z J
theorem rV {b c d:Pt}(U:N4 (C7 a b) (C7 c d)≠0):M1 a b*M5 c d - M5 a b*M1 c d≠0/\(Rat.divInt (M5 a b*Q2 c d - Q2 a b*M5 c d) (M1 a b*M5 c d - M5 a b*M1 c d),Rat.divInt (Q2 a b*M1 c d - M1 a b*Q2 c d) (M1 a b*M5 c d - M5 a b*M1 c d))=ae a b c d:=by
 have P:(pL a:Rat)*pL b*(pL c*pL d)≠0:=fun z=>by
  rcases MM.mp z with z | z
  .rcases MM.mp z with z | z
   .exact dR a z
   .exact dR b z
  .rcases MM.mp z with z | z
   .exact dR c z
   .exact dR d z
 have J:((M1 a b*M5 c d - M5 a b*M1 c d:Int):Rat)=((pL a:Rat)*pL b*(pL c*pL d))*N4 (C7 a b) (C7 c d):=by
  unfold M1 M5 N4 C7;simp only[NB,My,U4,T8];grind
 have Z:((M5 a b*Q2 c d - Q2 a b*M5 c d:Int):Rat)=((pL a:Rat)*pL b*(pL c*pL d))*aY a b c d:=by
  unfold M5 Q2 aY;simp only[NB,My,U4,T8];grind
 have Y:((Q2 a b*M1 c d - M1 a b*Q2 c d:Int):Rat)=((pL a:Rat)*pL b*(pL c*pL d))*bF a b c d:=by
  unfold M1 Q2 bF;simp only[NB,My,U4,T8];grind
 refine#[fun z=>?_,?_]
 .rw[z] at J;rcases MM.mp J.symm with q | q
  .exact P q
  .exact U q
 .unfold ae;rw[NS,NS,J,Z,Y,vc P U,vc P U]
def Eg {b c d:Pt}(ha:Ps k a) (hb:Ps k b) (hc:Ps k c) (hd:Ps k d) (hW:N4 (C7 a b) (C7 c d)≠0):PtS (4*k+3) (ae a b c d):=by
 obtain⟨h1,h2,h3⟩:=jB ha hb;obtain⟨J,U,Z⟩:=jB hc hd;obtain⟨Y,q⟩:=rV hW;rw[<-q];exact#[Sz.of_divInt Y (((h2.mul Z).sub (h3.mul U)).mono ∅) (((h1.mul U).sub (h2.mul J)).mono ∅),Sz.of_divInt Y (((h3.mul J).sub (h1.mul Z)).mono ∅) (((h1.mul U).sub (h2.mul J)).mono ∅)]
abbrev bI:c8:=wM FL kK
def JI {b c d:Pt}(fs:vO_) (ha:Ps k a) (hb:Ps k b) (Z:Ps k c) (hd:Ps k d) (hk:k<=400) (hW:N4 (C7 a b) (C7 c d)≠0):bI [E3 a b,E3 c d] fs=some (pt (ae a b c d),fs):=by
 obtain⟨h1,h2,h3⟩:=jB ha hb;obtain⟨J,U,g3⟩:=jB Z hd;have e:=tR fs h1 h2 h3 J U g3 ∅;obtain⟨Y,q⟩:=rV hW;have l:=zQ (M5 a b*Q2 c d - Q2 a b*M5 c d) (Q2 a b*M1 c d - M1 a b*Q2 c d) (M1 a b*M5 c d - M5 a b*M1 c d) fs Y ((h1.mul U).sub (h2.mul J)) ∅;rw[q] at l;exact v5 (s:=#[[.v (E3 a b),.v (E3 c d)],fs]) (w4 (u7 (D9 (u7 rfl e) rfl) l))
def xQ (x:Rat):A8 (l7 x)=true:=by
 unfold l7;split
 .decide
 .split <;> decide
theorem ql (a b u w:Pt):N4 (C7 a b) (C7 u w)=a8 a b w - a8 a b u:=by unfold N4 C7 a8;grind
theorem Gg {b u w:Pt}(h:a8 a b u*a8 a b w<0):N4 (C7 a b) (C7 u w)≠0/\ae a b u w=xq a b u w:=by
 have U:a8 a b w - a8 a b u≠0:=fun z=>by
  have e:a8 a b w=a8 a b u:=by grind
  rw[e] at h;have:=W8 (a8 a b u);grind
 refine#[by rw[ql];exact U,?_];have J:a8 a b u - a8 a b w≠0:=by grind
 unfold ae xq u3;rw[ql];have s:a8 a b u / (a8 a b u - a8 a b w) = -a8 a b u / (a8 a b w - a8 a b u):=by
  rw[MW,MW];grind
 rw[s];refine MD ?_ ?_
 .show aY a b u w / (a8 a b w - a8 a b u)=u.1 + -a8 a b u / (a8 a b w - a8 a b u)*(w.1 - u.1);have e:aY a b u w=u.1*(a8 a b w - a8 a b u) - a8 a b u*(w.1 - u.1):=by unfold aY a8;grind
  rw[e,MW,MW];generalize a8 a b w - a8 a b u=W at *;grind
 .show bF a b u w / (a8 a b w - a8 a b u)=u.2 + -a8 a b u / (a8 a b w - a8 a b u)*(w.2 - u.2);have e:bF a b u w=u.2*(a8 a b w - a8 a b u) - a8 a b u*(w.2 - u.2):=by unfold bF a8;grind
  rw[e,MW,MW];generalize a8 a b w - a8 a b u=W at *;grind
theorem X9 (x:Rat):l7 x = -1↔x<0:=by
 unfold l7;by_cases h:0<x
 .rw[iO h];exact#[fun z=>absurd z #[],fun z=>by grind]
 .rw[iR h];by_cases h2:x<0
  .rw[iO h2];exact#[fun _=>h2,fun _=>rfl]
  .rw[iR h2];exact#[fun z=>absurd z #[],fun z=>absurd z h2]
theorem rH (x:Rat):(0<x/\l7 x=1)\/(x<0/\l7 x = -1)\/(x=0/\l7 x=0):=by
 unfold l7;by_cases h:0<x
 .rw[iO h];exact .inl #[h,rfl]
 .rw[iR h];by_cases h2:x<0
  .rw[iO h2];exact .inr (.inl #[h2,rfl])
  .rw[iR h2];exact .inr (.inr #[by grind,rfl])
theorem R0 (x y:Rat):l7 x*l7 y = -1↔x*y<0:=by
 rcases rH x with ⟨a,e⟩ | ⟨a,e⟩ | ⟨a,e⟩ <;> rcases rH y with ⟨b,J⟩ | ⟨b,J⟩ | ⟨b,J⟩ <;> rw[e,J]
 .have:=Mn a b;exact#[fun z=>absurd z #[],fun z=>by grind]
 .have:=Mn a (show 0 < -y by grind);exact#[fun _=>by grind,fun _=>rfl]
 .rw[b];exact#[fun z=>absurd z #[],fun z=>by grind]
 .have:=Mn (show 0 < -x by grind) b;exact#[fun _=>by grind,fun _=>rfl]
 .have:=Mn (show 0 < -x by grind) (show 0 < -y by grind);exact#[fun z=>absurd z #[],fun z=>by grind]
 .rw[b];exact#[fun z=>absurd z #[],fun z=>by grind]
 .rw[a];exact#[fun z=>absurd z #[],fun z=>by grind]
 .rw[a];exact#[fun z=>absurd z #[],fun z=>by grind]
 .rw[a];exact#[fun z=>absurd z #[],fun z=>by grind]
def L0 (a b:Pt) (q:Pt × Pt):List Pt:=(if l7 (a8 a b q.1) = -1 then [] else [q.1])++(if l7 (a8 a b q.1)*l7 (a8 a b q.2) = -1 then [xq a b q.1 q.2] else [])
def A7 (a b:Pt) (J:List (Pt × Pt)):List Pt:=J.flatMap (L0 a b)
def pj (a b:Pt) (q:Pt × Pt):(L0 a b q).length<=2:=by
 unfold L0;rw[MC];split <;> split <;> simp
theorem mf (a b:Pt):∀qs:List (Pt × Pt),(A7 a b qs).length<=2*qs.length
 |[]=>tx _
 |q::r=>by
  have h:=mf a b r;have h1:=pj a b q;unfold A7 at *;rw[OZ,MC,Mw];omega
abbrev L5:c8:=xR jT
abbrev gO:c8:=wR M7 bI cx L5
abbrev qS (x0:Sl) (a b:Pt) (ln:D) (acc:vT_) (x5 x6 x7:Sl) (fs:vO_):DS:=#[[x0,.v (pt a),.v (pt b),.v ln,.own (acc.map pt),x5,x6,x7],fs]
def IK {b u w:Pt}(Y x7:Sl) (U:vT_) (fs:vO_) (ha:PtS 120 a) (hb:PtS 120 b) (hu:PtS 120 u) (hw:PtS 120 w) (hl:U.length<=1000) :
  jr M7 bI cx L5 (qS Y a b (E3 a b) U (.v (pt u)) (.v (pt w)) x7 fs)=some (.next,qS Y a b (E3 a b) (U++L0 a b (u,w)) (.v (pt u)) (.v (pt w)) (.v (.int (l7 (a8 a b u)))) fs):=by
 have t1:=kN a b u fs ha.ps hb.ps hu.ps #[];have t2:=kN a b w fs ha.ps hb.ps hw.ps #[];have bits1:=xQ (a8 a b u);have Z:=xQ (a8 a b w);have ls:∀l:List Pt,l.length<=1001->(l.map pt).length<sizeLine:=fun l h=>by rw[Mj];exact Nc h #[]
 unfold jr;rw[u5 (s1:=qS Y a b (E3 a b) U (.v (pt u)) (.v (pt w)) (.v (.int (l7 (a8 a b u)))) fs) (B7 (u7 rfl t1) rfl)];have c1:dB (a9 A2 (dL 7) (k6 o8 (Sj 1))) (qS Y a b (E3 a b) U (.v (pt u)) (.v (pt w)) (.v (.int (l7 (a8 a b u)))) fs)=some (!decide (l7 (a8 a b u) = -1),qS Y a b (E3 a b) U (.v (pt u)) (.v (pt w)) (.v (.int (l7 (a8 a b u)))) fs):=D4 (f9 rfl rfl (X5 _ (-1)));have st:∀J:List Pt,J.length<=1001->j7 (dB (a9 J6 (a9 o7 (dL 7) (d7 M7 (a7 (dV 1) (a7 (dV 2) (a7 (dV 6) b9))))) (k6 o8 (Sj 1)))) (J0 4 (d7 bI (a7 (dV 3) (a7 (d7 cx (a7 (dV 5) (a7 (dV 6) b9))) b9)))) j8 (qS Y a b (E3 a b) J (.v (pt u)) (.v (pt w)) (.v (.int (l7 (a8 a b u)))) fs)
   = some (.next,qS Y a b (E3 a b) (J++(if l7 (a8 a b u)*l7 (a8 a b w) = -1 then [xq a b u w] else [])) (.v (pt u)) (.v (pt w)) (.v (.int (l7 (a8 a b u)))) fs):=fun J h1=>by
  have c2:dB (a9 J6 (a9 o7 (dL 7) (d7 M7 (a7 (dV 1) (a7 (dV 2) (a7 (dV 6) b9))))) (k6 o8 (Sj 1))) (qS Y a b (E3 a b) J (.v (pt u)) (.v (pt w)) (.v (.int (l7 (a8 a b u)))) fs)=some (decide (l7 (a8 a b u)*l7 (a8 a b w) = -1),qS Y a b (E3 a b) J (.v (pt u)) (.v (pt w)) (.v (.int (l7 (a8 a b u)))) fs):=
   D4 (f9 (f9 rfl (u7 rfl t2) (P6 bits1 Z)) rfl (aR _ (-1)))
  by_cases h:l7 (a8 a b u)*l7 (a8 a b w) = -1
  .rw[MA h] at c2;rw[G1 c2,iO h];obtain⟨q1,q2⟩:=Gg ((R0 _ _).mp h);have e1:=sJ fs hu.ps hw.ps #[];have e2:=JI fs ha.ps hb.ps hu.ps hw.ps #[] q1;rw[q2] at e2;have:=U7 (i:=4) (s:=qS Y a b (E3 a b) J (.v (pt u)) (.v (pt w)) (.v (.int (l7 (a8 a b u)))) fs) (s1:=qS Y a b (E3 a b) J (.v (pt u)) (.v (pt w)) (.v (.int (l7 (a8 a b u)))) fs) (ds:=J.map pt) (ds0:=J.map pt) (d:=pt (xq a b u w)) (f:=d7 bI (a7 (dV 3) (a7 (d7 cx (a7 (dV 5) (a7 (dV 6) b9))) b9))) rfl (u7 (A3 rfl (A3 (u7 rfl e1) rfl)) e2) rfl (ls J h1);rw[this];show _=some (Fl.next,qS Y a b (E3 a b) (J++[xq a b u w]) (.v (pt u)) (.v (pt w)) (.v (.int (l7 (a8 a b u)))) fs);unfold qS;rw[Oz];rfl
  .rw[MK h] at c2;rw[dU c2,iR h,MQ];rfl
 unfold L0;by_cases h:l7 (a8 a b u) = -1
 .rw[MA h] at c1;rw[u5 (E9 c1),st U ∅];show _=some (Fl.next,qS Y a b (E3 a b) (U++((if l7 (a8 a b u) = -1 then [] else [u])++_)) _ _ _ fs);rw[iO h,Nk]
 .rw[MK h] at c1;have ap:j7 (dB (a9 A2 (dL 7) (k6 o8 (Sj 1)))) (J0 4 (dV 5)) j8 (qS Y a b (E3 a b) U (.v (pt u)) (.v (pt w)) (.v (.int (l7 (a8 a b u)))) fs)=some (.next,qS Y a b (E3 a b) (U++[u]) (.v (pt u)) (.v (pt w)) (.v (.int (l7 (a8 a b u)))) fs):=by
   rw[G1 c1];have:=U7 (i:=4) (s:=qS Y a b (E3 a b) U (.v (pt u)) (.v (pt w)) (.v (.int (l7 (a8 a b u)))) fs) (s1:=qS Y a b (E3 a b) U (.v (pt u)) (.v (pt w)) (.v (.int (l7 (a8 a b u)))) fs) (ds:=U.map pt) (ds0:=U.map pt) (d:=pt u) (f:=dV 5) rfl rfl rfl (ls U ∅);rw[this];unfold qS;rw[Oz];rfl
  rw[u5 ap,st (U++[u]) (by rw[MC,NM];omega)];show _=some (Fl.next,qS Y a b (E3 a b) (U++((if l7 (a8 a b u) = -1 then [] else [u])++_)) _ _ _ fs);rw[iR h,NL]
theorem tZ {b:Pt}(J:Sl) (fs:vO_) (U:PtS 120 a) (Y:PtS 120 b):∀(qs:List (Pt × Pt)) (acc:vT_) (x5 x6 x7:Sl),(∀q∈qs,PtS 120 q.1/\PtS 120 q.2)->acc.length+2*qs.length<=1000->∃y5 y6 y7,A9 (p9 2 (l8 (d8 5) (l8 (d8 6) t6))) (jr M7 bI cx L5) (qs.map fun q=>.tup [pt q.1,pt q.2]) (qS J a b (E3 a b) acc x5 x6 x7 fs)=some (.next,qS J a b (E3 a b) (acc++A7 a b qs) y5 y6 y7 fs)
 |[],acc,x5,x6,x7,_,_=>#[x5,x6,x7,by unfold A7;rw[List.flatMap_nil,MQ];rfl]
 |q::r,acc,x5,x6,x7,h,hl=>by
  obtain⟨h1,h2⟩:=h q (Mi ..);rw[Mw] at hl;have l1:=pj a b q;obtain⟨y5,y6,y7,e⟩:=tZ J fs U Y r (acc++L0 a b q) (.v (pt q.1)) (.v (pt q.2)) (.v (.int (l7 (a8 a b q.1)))) (fun z Z=>h z (Mf _ Z)) (by rw[MC];omega);refine#[y5,y6,y7,?_];rw[Mo,Q1 (s1:=qS J a b (E3 a b) acc (.v (pt q.1)) (.v (pt q.2)) x7 fs) rfl (IK J x7 acc fs U Y h1 h2 ∅),e];unfold A7;rw[OZ,NL]
def cj {fd:vT_}(J:0<fd.length) (q:Pt × Pt):q∈i9 true fd↔∃k,q=(tk fd k,tk fd (k+1)):=by
 have l2:(fd.drop 1++fd.take 1).length=fd.length:=by rw[MC,MH,Np];omega
 have Y:∀i,i<fd.length->(fd.drop 1++fd.take 1)[i]? = some (tk fd (i+1)):=fun i hi=>by
  by_cases c:i+1<fd.length
  .rw[NK (by rw[MH];omega),PH,NO 1 i,X4 c]
  .have ei:i+1=fd.length:=by omega
   rw[NJ (by rw[MH];omega),MH,show i - (fd.length - 1)=0 by omega,PX #[],X4 J];rw[<-M6 (i+1),ei,PJ]
 unfold i9;simp only[MV];constructor
 .intro h;obtain⟨i,hi⟩:=OB h;have U:=(MT.mp hi).1;rw[QE,l2,Nat.min_self] at U;rw[OT] at hi;refine#[i,MD ?_ ?_]
  .have:=hi.1;rw[X4 U] at this;exact(MB this).symm
  .have:=hi.2;rw[Y i U] at this;exact(MB this).symm
 .rintro⟨k,rfl⟩;have Z:=Ng k J;refine Om (i:=k % fd.length) (OT.mpr #[nr J,?_]);rw[Y _ Z];show some (tk fd (k % fd.length+1))=some (tk fd (k+1));rw[<-M6 (k % fd.length+1),PL,M6]
def gK (K:vT_):Prop:=∀q∈i9 true K,∀k∈K,0<=a8 q.1 q.2 k
theorem bf {b o w:Pt}(h:a8 a b o*a8 a b w<0):a8 a b (xq a b o w)=0:=by
 have n:a8 a b o - a8 a b w≠0:=fun z=>by
  have e:a8 a b w=a8 a b o:=by grind
  rw[e] at h;have:=W8 (a8 a b o);grind
 unfold xq;rw[iA];generalize a8 a b o=x at *;generalize a8 a b w=y at *;have J:(x - y)*(x - y)⁻¹=1:=PM _ n;rw[MW];grind
section
variable {K:vT_}{b:Pt}
def nR {k:Pt}(hk:k∈A7 a b (i9 true K)):(k∈K/\0<=a8 a b k)\/∃q∈i9 true K,a8 a b q.1*a8 a b q.2<0/\k=xq a b q.1 q.2:=by
 unfold A7 at hk;obtain⟨q,J,hk⟩:=QG.mp hk;unfold L0 at hk;rcases Mp.mp hk with w | w
 .by_cases c:l7 (a8 a b q.1) = -1
  .rw[iO c] at w;cases w
  .rw[iR c] at w;rw[Mq.mp w];exact .inl #[(nbs_mem J).1,NH.mp fun z=>c ((X9 _).mpr z)]
 .by_cases c:l7 (a8 a b q.1)*l7 (a8 a b q.2) = -1
  .rw[iO c] at w;exact .inr #[q,J,(R0 _ _).mp c,Mq.mp w]
  .rw[iR c] at w;cases w
theorem ir {u v:Pt}(h:∀k∈K,0<=a8 u v k):∀k∈A7 a b (i9 true K),0<=a8 u v k:=fun k hk=>by
 rcases nR hk with ⟨m,_⟩ | ⟨q,J,c,rfl⟩
 .exact h k m
 .obtain⟨s,s0,s1,e⟩:=aQ c;rw[e,iA];have Y:=Ml (show 0<=1 - s by grind) (h _ (nbs_mem J).1);have U:=Ml (MS s0) (h _ (nbs_mem J).2);grind
def mO:∀k∈A7 a b (i9 true K),0<=a8 a b k:=fun k hk=>by
 rcases nR hk with ⟨_,m⟩ | ⟨q,_,c,rfl⟩
 .exact m
 .rw[bf c];exact Nh
def nV {k:Pt}(hk:k∈K):∃w,(k,w)∈i9 true K:=by
 obtain⟨i,hi⟩:=OB hk;have U:=(MT.mp hi).1;have:i<(i9 true K).length:=by rw[iz,iO rfl];omega
 have e:=ME this;have z:=e;unfold i9 at z;have J:=(OT.mp z).1;rw[hi] at J;refine#[((i9 true K)[i]).2,?_];have:(i9 true K)[i]=(k,((i9 true K)[i]).2):=MD (MB J).symm rfl;rw[<-this];exact NZ _
def iq {k:Pt}(hk:k∈K) (h:0<=a8 a b k):k∈A7 a b (i9 true K):=by
 obtain⟨w,J⟩:=nV hk;refine QG.mpr #[_,J,?_];unfold L0;refine MX _ ?_;show k∈(if l7 (a8 a b k) = -1 then [] else [k]);rw[iR fun z=>absurd ((X9 _).mp z) (NH.mpr h)];simp
def lN (J:q∈i9 true K) (c:a8 a b q.1*a8 a b q.2<0):xq a b q.1 q.2∈A7 a b (i9 true K):=by
 refine QG.mpr #[q,J,?_];unfold L0;refine MO _ ?_;rw[iO ((R0 _ _).mpr c)];simp
end
def T9 (G:Pt->Pt->Prop):Option Pt->List Pt->Prop
 |_,[]=>True
 |pv,x::r=>(∀z,pv=some z->G z x)/\T9 G (some x) r
def V1:Option Pt->List Pt->Option Pt
 |pv,[]=>pv
 |_,x::r=>V1 (some x) r
theorem mX (G:Pt->Pt->Prop):∀(l m:vT_) (pv:Option Pt),T9 G pv l->T9 G (V1 pv l) m->T9 G pv (l++m)
 |[],m,pv,_,h=>h
 |x::r,m,pv,h1,h2=>#[h1.1,mX G r m (some x) h1.2 h2]
theorem ly:∀(l m:vT_) (pv:Option Pt),V1 pv (l++m)=V1 (V1 pv l) m
 |[],m,pv=>rfl
 |x::r,m,pv=>ly r m (some x)
def Z7:Pt->List (Pt × Pt)->Pt->Prop
 |o,[],e=>o=e
 |o,q::r,e=>q.1=o/\Z7 q.2 r e
theorem kF:∀(r:vT_) (o e:Pt),Z7 o ((o::r).zip (r++[e])) e
 |[],o,e=>#[rfl,rfl]
 |x::r,o,e=>#[rfl,kF r x e]
def gs (x:Pt) (r:vT_):i9 true (x::r)=(x::r).zip (r++[x]):=rfl
theorem nM (G:Pt->Pt->Prop):∀(r:vT_) (x e:Pt),T9 G (some x) r->(∀z,V1 (some x) r=some z->G z e)->∀q∈(x::r).zip (r++[e]),G q.1 q.2
 |[],x,e,_,h,q,hq=>by
  have:q=(x,e):=by simpa using hq
  rw[this];exact h x rfl
 |y::r,x,e,h1,h2,q,hq=>by
  rcases xo.mp hq with rfl | hq
  .exact h1.1 x rfl
  .exact nM G r y e h1.2 h2 q hq
section
variable {K:vT_}{b:Pt}(ab:a≠b) (C:gK K)
def cY (K:vT_) (a b r s:Pt):Prop:=∀k∈A7 a b (i9 true K),0<=a8 r s k
def Lv (K:vT_) (a b z:Pt):Prop:=∀s∈A7 a b (i9 true K),a8 a b s=0->cY K a b z s
def iK (K:vT_) (a b:Pt) (J:Option Pt) (o:Pt):Prop:=∀z,J=some z->(0<=a8 a b o->cY K a b z o)/\(a8 a b o<0->Lv K a b z)
include ab C
theorem pU (hq:q∈i9 true K) {x:Pt}{s:Rat}(ex:x=u3 q.1 q.2 s) (U:a8 a b x=0) (h:a8 a b q.2<a8 a b q.1):Lv K a b x:=by
 intro t ht h0 k hk;have f:=ir (fun k hk=>C q hq k hk) t ht;have J:=mO k hk;have D:((b.1 - a.1,b.2 - a.2):Pt)≠(0,0):=fun z=>ab (by
  have z1:b.1 - a.1=0:=congrArg Prod.fst z;have z2:b.2 - a.2=0:=congrArg Prod.snd z;exact MD (by grind) (by grind))
 obtain⟨m,Y⟩:=az (v:=(t.1 - x.1,t.2 - x.2)) D (by unfold gv a8 at *;grind);have m1:t.1 - x.1=m*(b.1 - a.1):=congrArg Prod.fst Y;have m2:t.2 - x.2=m*(b.2 - a.2):=congrArg Prod.snd Y;have Z:a8 x t k=m*a8 a b k:=by
  have:a8 x t k=(t.1 - x.1)*(k.2 - x.2) - (t.2 - x.2)*(k.1 - x.1):=rfl;rw[this,m1,m2];unfold a8 at U ⊢;have:m*((b.1 - a.1)*(x.2 - a.2) - (b.2 - a.2)*(x.1 - a.1))=0:=by rw[U,Oc]
  grind
 have e2:a8 q.1 q.2 t=m*(a8 a b q.1 - a8 a b q.2):=by
  have z:a8 q.1 q.2 t=(q.2.1 - q.1.1)*(t.2 - x.2) - (q.2.2 - q.1.2)*(t.1 - x.1):=by
   rw[ex];unfold a8 u3;grind
  rw[z,m1,m2];unfold a8;grind
 rw[e2] at f;have mp:0<=m:=NH.mp fun z=>by
  have:=Mn (show 0 < -m by grind) (show 0<a8 a b q.1 - a8 a b q.2 by grind);grind
 rw[Z];exact Ml mp J
theorem Jt (hq:q∈i9 true K) {pv:Option Pt}(I:iK K a b pv q.1):T9 (cY K a b) pv (L0 a b q)/\iK K a b (V1 pv (L0 a b q)) q.2:=by
 have F:∀k∈A7 a b (i9 true K),0<=a8 q.1 q.2 k:=ir (fun k hk=>C q hq k hk);obtain⟨m1,m2⟩:=nbs_mem hq;unfold L0;by_cases U:a8 a b q.1<0
 .rw[iO ((X9 _).mpr U),Nk];by_cases Y:0<a8 a b q.2
  .have c:a8 a b q.1*a8 a b q.2<0:=by
    have:=Mn (show 0 < -a8 a b q.1 by grind) Y;grind
   rw[iO ((R0 _ _).mpr c)];obtain⟨s,s0,s1,e⟩:=aQ c;refine#[#[fun z J=>((I z J).2 U) _ (lN hq c) (bf c),trivial],fun z J=>?_];cases J;refine#[fun _ k hk=>?_,fun n=>absurd Y (by grind)];rw[e];have:a8 (u3 q.1 q.2 s) q.2 k=(1 - s)*a8 q.1 q.2 k:=by unfold a8 u3;grind
   rw[this];exact Ml (by grind) (F k hk)
  .have Z:¬ l7 (a8 a b q.1)*l7 (a8 a b q.2) = -1:=fun z=>by
    have:=(R0 _ _).mp z;have:=Ml (show 0 <= -a8 a b q.1 by grind) (show 0 <= -a8 a b q.2 by grind);grind
   rw[iR Z];refine#[trivial,fun z J=>#[fun n=>?_,fun n=>(I z J).2 U]];have z0:a8 a b q.2=0:=by grind
   exact(I z J).2 U _ (iq m2 n) z0
 .rw[iR fun z=>U ((X9 _).mp z)];have U:0<=a8 a b q.1:=by grind
  by_cases Y:0<=a8 a b q.2
  .have Z:¬ l7 (a8 a b q.1)*l7 (a8 a b q.2) = -1:=fun z=>by
    have:=(R0 _ _).mp z;have:=Ml U Y;grind
   rw[iR Z,MQ];refine#[#[fun z J=>(I z J).1 U,trivial],fun z J=>?_];cases J;exact#[fun _=>F,fun n=>absurd Y (by grind)]
  .have Y:a8 a b q.2<0:=by grind
   by_cases oz:a8 a b q.1=0
   .have Z:¬ l7 (a8 a b q.1)*l7 (a8 a b q.2) = -1:=fun z=>by
     have:=(R0 _ _).mp z;rw[oz,Nw] at this;exact absurd this (by decide +kernel)
    rw[iR Z,MQ];refine#[#[fun z J=>(I z J).1 U,trivial],fun z J=>?_];cases J;exact#[fun n=>absurd Y (by grind),fun _=>pU ab C hq (s:=0) (by rw[ck]) oz (by grind)]
   .have c:a8 a b q.1*a8 a b q.2<0:=by
     have:=Mn (show 0<a8 a b q.1 by grind) (show 0 < -a8 a b q.2 by grind);grind
    rw[iO ((R0 _ _).mpr c)];obtain⟨s,s0,s1,e⟩:=aQ c;refine#[#[fun z J=>(I z J).1 U,#[fun z J=>?_,trivial]],fun z J=>?_]
    .cases J;intro k hk;rw[e];have:a8 q.1 (u3 q.1 q.2 s) k=s*a8 q.1 q.2 k:=by unfold a8 u3;grind
     rw[this];exact Ml (MS s0) (F k hk)
    .cases J;exact#[fun n=>absurd Y (by grind),fun _=>pU ab C hq e (bf c) (by grind)]
theorem oP:∀(es:List (Pt × Pt)) (o e:Pt) (pv:Option Pt),(∀q∈es,q∈i9 true K)->Z7 o es e->iK K a b pv o->T9 (cY K a b) pv (es.flatMap (L0 a b))/\iK K a b (V1 pv (es.flatMap (L0 a b))) e
 |[],o,e,pv,_,p,I=>by
  have p:o=e:=p;subst p;exact#[trivial,I]
 |q::r,o,e,pv,hq,p,I=>by
  obtain⟨p1,p2⟩:=p;subst p1;obtain⟨J,I1⟩:=Jt ab C (hq q (Mi ..)) I;obtain⟨Y,Z⟩:=oP r q.2 e _ (fun z U=>hq z (Mf _ U)) p2 I1;rw[OZ];exact#[mX _ _ _ _ J Y,by rw[ly];exact Z]
theorem Dw:gK (A7 a b (i9 true K)):=by
 cases K with
 |nil=>intro q J;cases J
 |cons o r=>
  have P:Z7 o (i9 true (o::r)) o:=by rw[gs];exact kF r o o
  obtain⟨U,I1⟩:=oP ab C _ o o none (fun q J=>J) P (fun z Z=>by cases Z);obtain⟨Y,_⟩:=oP ab C _ o o _ (fun q J=>J) P I1;have U:T9 (cY (o::r) a b) none (A7 a b (i9 true (o::r))):=U;have Y:T9 (cY (o::r) a b) (V1 none (A7 a b (i9 true (o::r)))) (A7 a b (i9 true (o::r))):=Y;intro q J;show cY (o::r) a b q.1 q.2;cases e:A7 a b (i9 true (o::r)) with
  |nil=>rw[e] at J;cases J
  |cons x t=>
   rw[e] at J U Y;rw[gs] at J;exact nM _ t x x U.2 (fun z Z=>Y.1 z Z) q J
end
theorem mV {P:Pt->Prop}:∀(es:List (Pt × Pt)) (o e:Pt),Z7 o es e->(∀q∈es,P q.1->P q.2)->P o->(∀q∈es,P q.1)/\P e
 |[],o,e,p,_,h=>by
  have p:o=e:=p;subst p;exact#[fun q U=>(by cases U),h]
 |q::r,o,e,p,st,h=>by
  obtain⟨p1,p2⟩:=p;subst p1;obtain⟨a,b⟩:=mV r q.2 e p2 (fun z J=>st z (Mf _ J)) (st q (Mi ..) h);refine#[fun z J=>?_,b];rcases xo.mp J with rfl | J
  .exact h
  .exact a z J
theorem uB {P:Pt->Prop}:∀(es:List (Pt × Pt)) (o e:Pt),Z7 o es e->(∀q∈es,P q.1->P q.2)->(∃q∈es,P q.1)->P e
 |[],o,e,_,_,⟨q,hq,_⟩=>by cases hq
 |q::r,o,e,p,st,⟨z,J,h⟩=>by
  obtain⟨p1,p2⟩:=p;have U:∀q∈r,P q.1->P q.2:=fun z J=>st z (Mf _ J)
  rcases xo.mp J with rfl | J
  .exact(mV r _ e p2 U (st _ (Mi ..) h)).2
  .exact uB r q.2 e p2 U #[z,J,h]
def rO {P:Pt->Prop}{K:vT_}{x y:Pt}(J:x∈K) (px:P x) (hy:y∈K) (py:¬ P y):∃q∈i9 true K,P q.1/\¬ P q.2:=by
 cases K with
 |nil=>cases J
 |cons o r=>
  refine OC fun n=>?_
  have st:∀q∈i9 true (o::r),P q.1->P q.2:=fun q Z h=>OC fun z=>n #[q,Z,h,z]
  have U:Z7 o (i9 true (o::r)) o:=by rw[gs];exact kF r o o
  obtain⟨w,hw⟩:=nV J;obtain⟨v,Y⟩:=nV hy;have po:=uB _ o o U st #[_,hw,px];exact py ((mV _ o o U st po).1 _ Y)
section
variable {K:vT_}{b:Pt}
theorem fK {A l α β:Rat}{x:Pt}{e:Pt->Rat}(I:Ip K p) (Z:0<=a8 a b p) (Y:0<l) (hx:α*(x.1 - p.1)+β*(x.2 - p.2)<0)
  (J:∀z,e z=A*a8 a b z - l*(α*(z.1 - x.1)+β*(z.2 - x.2))) (pos:∀k∈K,0<=e k) (U:∀k∈K,0<=a8 a b k->α*(k.1 - p.1)+β*(k.2 - p.2)<0):False:=by
 by_cases hA:0<=A
 .obtain⟨k,hk,q⟩:=I α β;by_cases h:0<=a8 a b k
  .have:=U k hk h;grind
  .have z:=pos k hk;rw[J] at z;have t:=Ml hA (show 0 <= -a8 a b k by grind);have:α*(k.1 - x.1)+β*(k.2 - x.2)<=0:=NH.mp fun w=>by
    have:=Mn Y w;grind
   grind
 .obtain⟨k,hk,q⟩:=I (A*(b.2 - a.2)+l*α) (-A*(b.1 - a.1)+l*β);have z:=pos k hk;have ep:e p<0:=by
   rw[J];have t:=Ml (show 0 <= -A by grind) Z;have u:=Mn Y (show 0 < -(α*(x.1 - p.1)+β*(x.2 - p.2)) by grind);grind
  have d:(A*(b.2 - a.2)+l*α)*(k.1 - p.1)+(-A*(b.1 - a.1)+l*β)*(k.2 - p.2) = -(e k - e p):=by
   rw[J,J];unfold a8;grind
  rw[d] at q;grind
theorem Bg (ab:a≠b) (C:gK K) (I:Ip K p) (hp:0<=a8 a b p):Ip (A7 a b (i9 true K)) p:=by
 intro α β;refine OC fun n=>?_
 have Y:∀k∈A7 a b (i9 true K),α*(k.1 - p.1)+β*(k.2 - p.2)<0:=fun k hk=>ND.mp fun z=>n #[k,hk,z]
 have U:∀k∈K,0<=a8 a b k->α*(k.1 - p.1)+β*(k.2 - p.2)<0:=fun k hk h=>Y k (iq hk h)
 obtain⟨u,hu,cu⟩:∃u∈K,0<=a8 a b u:=by
  obtain⟨k,hk,q⟩:=I (-(b.2 - a.2)) (b.1 - a.1);refine#[k,hk,?_];have:a8 a b k=a8 a b p+(-(b.2 - a.2)*(k.1 - p.1)+(b.1 - a.1)*(k.2 - p.2)):=by unfold a8;grind
  grind
 obtain⟨v,hv,cv⟩:∃v∈K,¬ 0<=a8 a b v:=by
  obtain⟨k,hk,q⟩:=I α β;exact#[k,hk,fun z=>by have:=U k hk z;grind]
 have D:((b.1 - a.1,b.2 - a.2):Pt)≠(0,0):=fun z=>ab (by
  have z1:b.1 - a.1=0:=congrArg Prod.fst z;have z2:b.2 - a.2=0:=congrArg Prod.snd z;exact MD (by grind) (by grind))
 obtain⟨q,Z,q1,q2⟩:=rO (P:=fun z=>0<=a8 a b z) hu cu hv cv;have q2:a8 a b q.2<0:=by grind
 obtain⟨x,s,ex,hx,mx⟩:∃x s,x=u3 q.1 q.2 s/\a8 a b x=0/\x∈A7 a b (i9 true K):=by
  by_cases z:a8 a b q.1=0
  .exact#[q.1,0,by rw[ck],z,iq (nbs_mem Z).1 q1]
  .have c:a8 a b q.1*a8 a b q.2<0:=by
    have:=Mn (show 0<a8 a b q.1 by grind) (show 0 < -a8 a b q.2 by grind);grind
   obtain⟨s,_,_,e⟩:=aQ c;exact#[_,s,e,bf c,lN Z c]
 obtain⟨r,hr,r1,r2⟩:=rO (P:=fun z=>¬ 0<=a8 a b z) hv cv hu (fun z=>z cu);have r1:a8 a b r.1<0:=by grind
 have r2:0<=a8 a b r.2:=OC r2;obtain⟨y,t,ey,hy,my⟩:∃y s,y=u3 r.1 r.2 s/\a8 a b y=0/\y∈A7 a b (i9 true K):=by
  by_cases z:a8 a b r.2=0
  .exact#[r.2,1,by rw[km],z,iq (nbs_mem hr).2 r2]
  .have c:a8 a b r.1*a8 a b r.2<0:=by
    have:=Mn (show 0 < -a8 a b r.1 by grind) (show 0<a8 a b r.2 by grind);grind
   obtain⟨s,_,_,e⟩:=aQ c;exact#[_,s,e,bf c,lN hr c]
 have fx:=Y x mx;have fy:=Y y my;have J:∀(q:Pt × Pt) (x:Pt) (s:Rat),x=u3 q.1 q.2 s->a8 a b x=0->∀z,-(α*(b.1 - a.1)+β*(b.2 - a.2))*a8 q.1 q.2 z=(-(α*(q.2.1 - q.1.1)+β*(q.2.2 - q.1.2)))*a8 a b z+(a8 a b q.2 - a8 a b q.1)*(α*(z.1 - x.1)+β*(z.2 - x.2)):=fun q x s e h z=>by
  have e1:a8 q.1 q.2 z=(q.2.1 - q.1.1)*(z.2 - x.2) - (q.2.2 - q.1.2)*(z.1 - x.1):=by rw[e];unfold a8 u3;grind
  have e2:a8 a b z=(b.1 - a.1)*(z.2 - x.2) - (b.2 - a.2)*(z.1 - x.1):=by
   have:a8 a b z=a8 a b x+((b.1 - a.1)*(z.2 - x.2) - (b.2 - a.2)*(z.1 - x.1)):=by unfold a8;grind
   rw[this,h,QD]
  have e3:a8 a b q.2 - a8 a b q.1=(b.1 - a.1)*(q.2.2 - q.1.2) - (b.2 - a.2)*(q.2.1 - q.1.1):=by unfold a8;grind
  rw[e1,e2,e3];grind
 generalize hδ:-(α*(b.1 - a.1)+β*(b.2 - a.2))=δ at *;by_cases dp:0<δ
 .refine fK (A:=-(α*(q.2.1 - q.1.1)+β*(q.2.2 - q.1.2))) (l:=a8 a b q.1 - a8 a b q.2) (x:=x) (e:=fun z=>δ*a8 q.1 q.2 z) I hp (by grind) fx (fun z=>?_) (fun k hk=>Ml (MS dp) (C q Z k hk)) U;rw[J q x s ex hx z];grind
 .by_cases dn:δ<0
  .refine fK (A:=α*(r.2.1 - r.1.1)+β*(r.2.2 - r.1.2)) (l:=a8 a b r.2 - a8 a b r.1) (x:=y) (e:=fun z=>-δ*a8 r.1 r.2 z) I hp (by grind) fy (fun z=>?_) (fun k hk=>Ml (by grind) (C r hr k hk)) U;have:=J r y t ey hy z;grind
  .have dz:δ=0:=by grind
   obtain⟨c,hc⟩:=az (v:=(β,-α)) D (by unfold gv;grind);have c1:β=c*(b.1 - a.1):=congrArg Prod.fst hc;have c2:-α=c*(b.2 - a.2):=congrArg Prod.snd hc;have f:∀z:Pt,α*(z.1 - x.1)+β*(z.2 - x.2)=c*a8 a b z:=fun z=>by
    have e2:a8 a b z=(b.1 - a.1)*(z.2 - x.2) - (b.2 - a.2)*(z.1 - x.1):=by
     have:a8 a b z=a8 a b x+((b.1 - a.1)*(z.2 - x.2) - (b.2 - a.2)*(z.1 - x.1)):=by unfold a8;grind
     rw[this,hx,QD]
    have c3:α = -(c*(b.2 - a.2)):=by grind
    rw[e2,c1,c3];grind
   have cp:0<c:=by
    have:=f p;refine ND.mp fun z=>?_
    have:=Ml (show 0 <= -c by grind) hp;grind
   obtain⟨k,hk,w⟩:=I α β;by_cases h:0<=a8 a b k
   .have:=U k hk h;grind
   .have:=Mn cp (show 0 < -a8 a b k by grind);have:=f k;grind
end
def L8 (A:vT_) (es:List (Pt × Pt)):List Pt:=es.foldl (fun K e=>A7 e.1 e.2 (i9 true K)) A
theorem ym :∀(es:List (Pt × Pt)) (A:vT_),gK A->Ip A p->(∀e∈es,e.1≠e.2/\0<=a8 e.1 e.2 p) ->
  Ip (L8 A es) p/\(∀u v,(∀k∈A,0<=a8 u v k)->∀k∈L8 A es,0<=a8 u v k)/\∀e∈es,∀k∈L8 A es,0<=a8 e.1 e.2 k
 |[],A,_,I,_=>#[I,fun u v h=>h,fun e U=>(by cases U)]
 |e::r,A,C,I,h=>by
  obtain⟨h1,h2⟩:=h e (Mi ..);obtain⟨a,b,c⟩:=ym r (A7 e.1 e.2 (i9 true A)) (Dw h1 C) (Bg h1 C I h2) fun z J=>h z (Mf _ J)
  refine#[a,fun u v q=>b u v (ir q),fun z J=>?_];rcases xo.mp J with rfl | J
  .exact b _ _ mO
  .exact c z J
def Km {A:vT_}(h:bK A):gK A:=fun q U k hk=>by
 have J:0<A.length:=QF hk;obtain⟨i,rfl⟩:=(cj J q).mp U;exact h i k hk
def vW {A:vT_}(U:bK A) (hB:B≠[]) (Z:∀k,tk B (k+1)≠tk B k) (I:Ip A p) (hp:∀k,0<=a8 (tk B k) (tk B (k+1)) p) :
  ∃k r,L8 A (i9 true B)=k::r/\(∀i,0<=a8 (tk A i) (tk A (i+1)) k)/\∀i,0<=a8 (tk B i) (tk B (i+1)) k:=by
 have J:0<B.length:=Pb.mpr hB;obtain⟨a,b,c⟩:=ym (i9 true B) A (Km U) I (fun e Y=>by
  obtain⟨i,rfl⟩:=(cj J e).mp Y;exact#[fun z=>Z i z.symm,hp i])
 obtain⟨k,hk,_⟩:=a 0 0;cases e:L8 A (i9 true B) with
 |nil=>rw[e] at hk;cases hk
 |cons x r=>
  refine#[x,r,rfl,fun i=>b _ _ (fun k hk=>U i k hk) x (by rw[e];exact Mi ..),fun i=>?_];exact c (tk B i,tk B (i+1)) ((cj J _).mpr #[i,rfl]) x (by rw[e];exact Mi ..)
def V9 (Ls:List (Pt × Pt)) (r s:Pt):Prop:=∃c∈Ls,c.1≠c.2/\a8 c.1 c.2 r=0/\a8 c.1 c.2 s=0
section
variable {K:vT_}{b:Pt}(ab:a≠b) (hL:(a,b)∈Ls) (O:∀q∈i9 true K,V9 Ls q.1 q.2)
def ie (Ls:List (Pt × Pt)) (a b:Pt) (J:Option Pt) (o:Pt):Prop:=∀z,J=some z->(0<=a8 a b o->V9 Ls z o)/\(a8 a b o<0->a8 a b z=0)
include ab hL O
theorem Iy (hq:q∈i9 true K) {pv:Option Pt}(I:ie Ls a b pv q.1):T9 (V9 Ls) pv (L0 a b q)/\ie Ls a b (V1 pv (L0 a b q)) q.2:=by
 obtain⟨c,hc,cn,c1,c2⟩:=O q hq;have sub:∀s:Rat,a8 c.1 c.2 (u3 q.1 q.2 s)=0:=fun s=>by rw[iA,c1,c2];grind
 have Y:∀{r s:Pt},a8 a b r=0->a8 a b s=0->V9 Ls r s:=fun h1 h2=>#[(a,b),hL,ab,h1,h2]
 unfold L0;by_cases U:a8 a b q.1<0
 .rw[iO ((X9 _).mpr U),Nk];by_cases Z:0<a8 a b q.2
  .have c:a8 a b q.1*a8 a b q.2<0:=by
    have:=Mn (show 0 < -a8 a b q.1 by grind) Z;grind
   rw[iO ((R0 _ _).mpr c)];obtain⟨s,s0,s1,e⟩:=aQ c;refine#[#[fun z J=>Y ((I z J).2 U) (bf c),trivial],fun z J=>?_];cases J;exact#[fun _=>#[_,hc,cn,by rw[e];exact sub s,c2],fun n=>absurd Z (by grind)]
  .have nc:¬ l7 (a8 a b q.1)*l7 (a8 a b q.2) = -1:=fun z=>by
    have:=(R0 _ _).mp z;have:=Ml (show 0 <= -a8 a b q.1 by grind) (show 0 <= -a8 a b q.2 by grind);grind
   rw[iR nc];exact#[trivial,fun z J=>#[fun n=>Y ((I z J).2 U) (by grind),fun _=>(I z J).2 U]]
 .rw[iR fun z=>U ((X9 _).mp z)];have U:0<=a8 a b q.1:=by grind
  by_cases Z:0<=a8 a b q.2
  .have nc:¬ l7 (a8 a b q.1)*l7 (a8 a b q.2) = -1:=fun z=>by
    have:=(R0 _ _).mp z;have:=Ml U Z;grind
   rw[iR nc,MQ];refine#[#[fun z J=>(I z J).1 U,trivial],fun z J=>?_];cases J;exact#[fun _=>#[_,hc,cn,c1,c2],fun n=>absurd Z (by grind)]
  .have Z:a8 a b q.2<0:=by grind
   by_cases oz:a8 a b q.1=0
   .have nc:¬ l7 (a8 a b q.1)*l7 (a8 a b q.2) = -1:=fun z=>by
     have:=(R0 _ _).mp z;rw[oz,Nw] at this;exact absurd this (by decide +kernel)
    rw[iR nc,MQ];refine#[#[fun z J=>(I z J).1 U,trivial],fun z J=>?_];cases J;exact#[fun n=>absurd Z (by grind),fun _=>oz]
   .have c':a8 a b q.1*a8 a b q.2<0:=by
     have:=Mn (show 0<a8 a b q.1 by grind) (show 0 < -a8 a b q.2 by grind);grind
    rw[iO ((R0 _ _).mpr c')];obtain⟨s,s0,s1,e⟩:=aQ c';refine#[#[fun z J=>(I z J).1 U,#[fun z J=>?_,trivial]],fun z J=>?_]
    .cases J;exact#[_,hc,cn,c1,by rw[e];exact sub s]
    .cases J;exact#[fun n=>absurd Z (by grind),fun _=>bf c']
theorem oj:∀(es:List (Pt × Pt)) (o e:Pt) (pv:Option Pt),(∀q∈es,q∈i9 true K)->Z7 o es e->ie Ls a b pv o->T9 (V9 Ls) pv (es.flatMap (L0 a b))/\ie Ls a b (V1 pv (es.flatMap (L0 a b))) e
 |[],o,e,pv,_,p,I=>by
  have p:o=e:=p;subst p;exact#[trivial,I]
 |q::r,o,e,pv,hq,p,I=>by
  obtain⟨p1,p2⟩:=p;subst p1;obtain⟨J,I1⟩:=Iy ab hL O (hq q (Mi ..)) I;obtain⟨Y,Z⟩:=oj r q.2 e _ (fun z U=>hq z (Mf _ U)) p2 I1;rw[OZ];exact#[mX _ _ _ _ J Y,by rw[ly];exact Z]
theorem vV:∀q∈i9 true (A7 a b (i9 true K)),V9 Ls q.1 q.2:=by
 cases K with
 |nil=>intro q J;cases J
 |cons o r=>
  have P:Z7 o (i9 true (o::r)) o:=by rw[gs];exact kF r o o
  obtain⟨U,I1⟩:=oj ab hL O _ o o none (fun q J=>J) P (fun z Z=>by cases Z);obtain⟨Y,_⟩:=oj ab hL O _ o o _ (fun q J=>J) P I1;have U:T9 (V9 Ls) none (A7 a b (i9 true (o::r))):=U;have Y:T9 (V9 Ls) (V1 none (A7 a b (i9 true (o::r)))) (A7 a b (i9 true (o::r))):=Y;intro q J;cases e:A7 a b (i9 true (o::r)) with
  |nil=>rw[e] at J;cases J
  |cons x t=>
   rw[e] at J U Y;rw[gs] at J;exact nM _ t x x U.2 (fun z Z=>Y.1 z Z) q J
end
theorem Fm {b c d q:Pt}(Y:N4 (C7 a b) (C7 c d)≠0) (h1:a8 a b q=0) (h2:a8 c d q=0):ae a b c d=q:=by
 have k1:aY a b c d=q.1*N4 (C7 a b) (C7 c d):=by
  unfold a8 at h1 h2;unfold aY N4 C7;have U:(d.1 - c.1)*((b.1 - a.1)*(q.2 - a.2) - (b.2 - a.2)*(q.1 - a.1))=0:=by rw[h1,Oc]
  have J:(b.1 - a.1)*((d.1 - c.1)*(q.2 - c.2) - (d.2 - c.2)*(q.1 - c.1))=0:=by rw[h2,Oc]
  show (b.1 - a.1)*(c.1*d.2 - c.2*d.1) - (a.1*b.2 - a.2*b.1)*(d.1 - c.1)=q.1*((b.1 - a.1)*(d.2 - c.2) - (b.2 - a.2)*(d.1 - c.1));grind
 have k2:bF a b c d=q.2*N4 (C7 a b) (C7 c d):=by
  unfold a8 at h1 h2;unfold bF N4 C7;have U:(d.2 - c.2)*((b.1 - a.1)*(q.2 - a.2) - (b.2 - a.2)*(q.1 - a.1))=0:=by rw[h1,Oc]
  have J:(b.2 - a.2)*((d.1 - c.1)*(q.2 - c.2) - (d.2 - c.2)*(q.1 - c.1))=0:=by rw[h2,Oc]
  show (a.1*b.2 - a.2*b.1)*(c.2 - d.2) - (a.2 - b.2)*(c.1*d.2 - c.2*d.1)=q.2*((b.1 - a.1)*(d.2 - c.2) - (b.2 - a.2)*(d.1 - c.1));grind
 unfold ae;rw[k1,k2,MW,MW,OY,OY,PM _ Y,PN,PN]
theorem KJ {b u w c d:Pt}(h:a8 a b u*a8 a b w<0) (cd:c≠d) (Y:a8 c d u=0) (U:a8 c d w=0):N4 (C7 a b) (C7 c d)≠0/\xq a b u w=ae a b c d:=by
 obtain⟨s,_,_,e⟩:=aQ h;have D:((d.1 - c.1,d.2 - c.2):Pt)≠(0,0):=fun z=>cd (by
  have z1:d.1 - c.1=0:=congrArg Prod.fst z;have z2:d.2 - c.2=0:=congrArg Prod.snd z;exact MD (by grind) (by grind))
 obtain⟨t,J⟩:=az (v:=(w.1 - u.1,w.2 - u.2)) D (by unfold gv a8 at *;grind);have Z:w.1 - u.1=t*(d.1 - c.1):=congrArg Prod.fst J;have t2:w.2 - u.2=t*(d.2 - c.2):=congrArg Prod.snd J;have W:N4 (C7 a b) (C7 c d)≠0:=fun z=>by
  have k:a8 a b w - a8 a b u=t*N4 (C7 a b) (C7 c d):=by
   have:a8 a b w - a8 a b u=(b.1 - a.1)*(w.2 - u.2) - (b.2 - a.2)*(w.1 - u.1):=by unfold a8;grind
   rw[this,Z,t2];unfold N4 C7;grind
  rw[z,Oc] at k;have e:a8 a b w=a8 a b u:=by grind
  rw[e] at h;have:=W8 (a8 a b u);grind
 refine#[W,(Fm W (bf h) ?_).symm];rw[e,iA,Y,U];grind
def sF {K:vT_}{b:Pt}(J:∀c∈Ls,Ps k c.1/\Ps k c.2) (hL:(a,b)∈Ls) (O:∀q∈i9 true K,V9 Ls q.1 q.2) (hm:4*k+3<=m) (Y:∀z∈K,PtS m z):∀z∈A7 a b (i9 true K),PtS m z:=fun z Z=>by
 rcases nR Z with ⟨w,_⟩ | ⟨q,hq,c,rfl⟩
 .exact Y z w
 .obtain⟨l,U,ln,l1,l2⟩:=O q hq;obtain⟨W,e⟩:=KJ c ln l1 l2;rw[e];exact(Eg (J _ hL).1 (J _ hL).2 (J l U).1 (J l U).2 W).mono hm
def DF (ds:vD_) (c:Bool) (fs:vO_) (J:ds.length+1<=sizeLine):jT [.lst ds,.bl c] fs=some (.lst ((i9 c ds).map ak),fs):=by
 refine v5 (s:=#[[.v (.lst ds),.v (.bl c)],fs]) ?_;show bM #[[.v (.lst ds),.v (.bl c)],fs]=_;have h1:ds.length - 1+min 1 ds.length<=sizeLine:=by omega
 cases c
 .simp! only[]
 .simp! only[yz,h1]
def dh {t:D->DS->Option DS}{b:DM}{x:D}{r:vD_}{s:DS}(h1:t d s=some s1) (h2:b s1=some (.ret x,s2)):A9 t b (d::r) s=some (.ret x,s2):=by simp[A9,h1,h2]
def pq (q:Pt × Pt):D:=.tup [pt q.1,pt q.2]
def jD (K:vT_):(i9 true (K.map pt)).map ak=(i9 true K).map pq:=by
 rw[AQ,List.map_map];rfl
def lX (K:vT_) (fs:vO_) (J:K.length<=1000):L5 [.tup (K.map pt)] fs=some (.lst ((i9 true K).map pq),fs):=by
 have e:=IG (K.map pt) true fs (by rw[Mj];exact Mm (by omega:K.length+1<=1001) #[]);rw[jD] at e;exact v5 (s:=#[[.v (.tup (K.map pt))],fs]) (w4 (u7 rfl e))
def AU (K:vT_) (fs:vO_) (J:K.length<=1000):L5 [.lst (K.map pt)] fs=some (.lst ((i9 true K).map pq),fs):=by
 have e:=DF (K.map pt) true fs (by rw[Mj];exact Mm (by omega:K.length+1<=1001) #[]);rw[jD] at e;exact v5 (s:=#[[.v (.lst (K.map pt))],fs]) (w4 (u7 rfl e))
def EY {b:Pt}{K:vT_}(fs:vO_) (Y:PtS 120 a) (Z:PtS 120 b) (U:∀p∈K,PtS 120 p) (hl:K.length<=400):gO [.lst (K.map pt),pt a,pt b] fs=some (.lst ((A7 a b (i9 true K)).map pt),fs):=by
 have nl:=aN true K;obtain⟨y5,y6,y7,e⟩:=tZ (.v (.lst (K.map pt))) fs Y Z (i9 true K) [] .no .no .no (fun q J=>#[U _ (nbs_mem J).1,U _ (nbs_mem J).2]) (by rw[NQ];omega);rw[Nk] at e;have s:=sJ fs Y.ps Z.ps #[];refine v5 (s:=#[[.v (.lst (K.map pt)),.v (pt a),.v (pt b),.v (E3 a b),.v (.lst ((A7 a b (i9 true K)).map pt)),y5,y6,y7],fs]) ?_;show ke M7 bI cx L5 #[[.v (.lst (K.map pt)),.v (pt a),.v (pt b),.no,.no,.no,.no,.no],fs]=_;unfold ke;rw[u5 (s1:=#[[.v (.lst (K.map pt)),.v (pt a),.v (pt b),.v (E3 a b),.no,.no,.no,.no],fs]) (B7 (u7 rfl s) rfl)];rw[u5 (s1:=qS (.v (.lst (K.map pt))) a b (E3 a b) [] .no .no .no fs) (Y7 (i:=4) (s1:=#[[.v (.lst (K.map pt)),.v (pt a),.v (pt b),.v (E3 a b),.no,.no,.no,.no],fs]) (ds:=[]) rfl (by show 4<8;decide))];rw[u5 ((dJ (ds:=(i9 true K).map fun q=>.tup [pt q.1,pt q.2]) (u7 rfl (AU K fs ∅))).trans e)];exact w4 rfl
def N6 (A:vT_) (p:Pt):Bool:=(i9 true A).all fun q=>!decide (l7 (a8 q.1 q.2 p) = -1)
abbrev cO:c8:=vh M7 L5
theorem rC (J:Sl) (fs:vO_) (U:Ps k p) (hk:k<=2000):∀(qs:List (Pt × Pt)) (x2 x3:Sl),(∀q∈qs,Ps k q.1/\Ps k q.2)->∃y2 y3,A9 (p9 2 (l8 (d8 2) (l8 (d8 3) t6))) (jb M7 L5) (qs.map pq) #[[J,.v (pt p),x2,x3],fs]=some (if qs.all (fun q=>!decide (l7 (a8 q.1 q.2 p) = -1)) then .next else .ret (.bl false),#[[J,.v (pt p),y2,y3],fs])
 |[],x2,x3,_=>#[x2,x3,rfl]
 |q::r,x2,x3,h=>by
  obtain⟨h1,h2⟩:=h q (Mi ..);have t:=kN q.1 q.2 p fs h1 h2 U hk;have c:dB (a9 J6 (d7 M7 (a7 (dV 2) (a7 (dV 3) (a7 (dV 1) b9)))) (k6 o8 (Sj 1))) #[[J,.v (pt p),.v (pt q.1),.v (pt q.2)],fs]=some (decide (l7 (a8 q.1 q.2 p) = -1),#[[J,.v (pt p),.v (pt q.1),.v (pt q.2)],fs]):=D4 (f9 (u7 rfl t) rfl (aR _ (-1)));rw[Mo,Oy];by_cases n:l7 (a8 q.1 q.2 p) = -1
  .rw[MA n] at c ⊢;refine#[.v (pt q.1),.v (pt q.2),?_];have B:jb M7 L5 #[[J,.v (pt p),.v (pt q.1),.v (pt q.2)],fs]=some (.ret (.bl false),#[[J,.v (pt p),.v (pt q.1),.v (pt q.2)],fs]):=(G1 c).trans (w4 rfl);rw[dh (s1:=#[[J,.v (pt p),.v (pt q.1),.v (pt q.2)],fs]) rfl B];rfl
  .rw[MK n] at c ⊢;obtain⟨y2,y3,e⟩:=rC J fs U hk r (.v (pt q.1)) (.v (pt q.2)) fun z Y=>h z (Mf _ Y)
   refine#[y2,y3,?_];rw[Q1 (s1:=#[[J,.v (pt p),.v (pt q.1),.v (pt q.2)],fs]) rfl (E9 c),e];rfl
def Gx {A:vT_}(fs:vO_) (hp:Ps k p) (hA:∀z∈A,Ps k z) (hk:k<=2000) (U:A.length<=1000):cO [.tup (A.map pt),pt p] fs=some (.bl (N6 A p),fs):=by
 obtain⟨Y,Z,e⟩:=rC (.v (.tup (A.map pt))) fs hp hk (i9 true A) .no .no fun q J=>#[hA _ (nbs_mem J).1,hA _ (nbs_mem J).2]
 refine v5 (s:=#[[.v (.tup (A.map pt)),.v (pt p),Y,Z],fs]) ?_;show ij M7 L5 #[[.v (.tup (A.map pt)),.v (pt p),.no,.no],fs]=_;unfold ij N6;have f:=(dJ (b:=jb M7 L5) (t:=p9 2 (l8 (d8 2) (l8 (d8 3) t6))) (f:=d7 L5 (a7 (dV 0) b9)) (s:=#[[.v (.tup (A.map pt)),.v (pt p),.no,.no],fs]) (s1:=#[[.v (.tup (A.map pt)),.v (pt p),.no,.no],fs]) (ds:=(i9 true A).map pq) (u7 rfl (lX A fs U))).trans e;cases c:(i9 true A).all fun q=>!decide (l7 (a8 q.1 q.2 p) = -1) with
 |true=>
  rw[c,iO rfl] at f;rw[u5 f];exact w4 rfl
 |false=>
  rw[c,iR Mk] at f;exact K8 f
abbrev fM:c8:=wI cO
def c7 (A:vT_):D:=.tup (A.map pt)
theorem yS (J:Sl) (fs:vO_) (U:Ps k p) (hk:k<=2000):∀(Ss:List (List Pt)) (x2:Sl),(∀A∈Ss,A.length<=1000/\∀z∈A,Ps k z)->∃y2,A9 (d8 2) (ji cO) (Ss.map c7) #[[J,.v (pt p),x2],fs]=some (if Ss.any (N6 · p) then .ret (.bl true) else .next,#[[J,.v (pt p),y2],fs])
 |[],x2,_=>#[x2,rfl]
 |A::r,x2,h=>by
  obtain⟨h1,h2⟩:=h A (Mi ..);have t:=Gx fs U h2 hk h1;rw[Mo,List.any_cons];have c:o6 (d7 cO (a7 (dV 2) (a7 (dV 1) b9))) #[[J,.v (pt p),.v (c7 A)],fs]=some (N6 A p,#[[J,.v (pt p),.v (c7 A)],fs]):=K4 (u7 rfl t);cases n:N6 A p with
  |true=>
   rw[n] at c;refine#[.v (c7 A),?_];have B:ji cO #[[J,.v (pt p),.v (c7 A)],fs]=some (.ret (.bl true),#[[J,.v (pt p),.v (c7 A)],fs]):=(G1 c).trans (w4 rfl);rw[dh (s1:=#[[J,.v (pt p),.v (c7 A)],fs]) rfl B];rfl
  |false=>
   rw[n] at c;obtain⟨y2,e⟩:=yS J fs U hk r (.v (c7 A)) fun z Y=>h z (Mf _ Y)
   refine#[y2,?_];rw[Q1 (s1:=#[[J,.v (pt p),.v (c7 A)],fs]) rfl (E9 c),e];rfl
def yP (fs:vO_) (U:Ps k p) (Y:∀A∈Ss,A.length<=1000/\∀z∈A,Ps k z) (hk:k<=2000):fM [.tup (Ss.map c7),pt p] fs=some (.bl (Ss.any (N6 · p)),fs):=by
 obtain⟨J,e⟩:=yS (.v (.tup (Ss.map c7))) fs U hk Ss .no Y;refine v5 (s:=#[[.v (.tup (Ss.map c7)),.v (pt p),J],fs]) ?_;show ju cO #[[.v (.tup (Ss.map c7)),.v (pt p),.no],fs]=_;unfold ju;have f:=(dD (b:=ji cO) (t:=d8 2) (f:=dV 0) (s:=#[[.v (.tup (Ss.map c7)),.v (pt p),.no],fs]) (s1:=#[[.v (.tup (Ss.map c7)),.v (pt p),.no],fs]) (ds:=Ss.map c7) rfl).trans e;cases c:Ss.any (N6 · p) with
 |true=>
  rw[c,iO rfl] at f;exact K8 f
 |false=>
  rw[c,iR Mk] at f;rw[u5 f];exact w4 rfl
def N0 (A:vT_) (i:Nat) (B:vT_):Bool:=B.all fun z=>decide (l7 (a8 (tk A i) (tk A (i+1)) z) = -1)
abbrev V7:c8:=sO M7 L5
theorem sM {u v:Pt}(J x1 x2:Sl) (fs:vO_) (Y:Ps k u) (U:Ps k v) (hk:k<=2000):∀(B:vT_) (x4:Sl),(∀z∈B,Ps k z)->∃y4,A9 (d8 4) (jg M7 L5) (B.map pt) #[[J,x1,x2,.v (pq (u,v)),x4],fs]=some (if B.all (fun z=>decide (l7 (a8 u v z) = -1)) then .next else .ret (.bl false),#[[J,x1,x2,.v (pq (u,v)),y4],fs])
 |[],x4,_=>#[x4,rfl]
 |z::r,x4,h=>by
  have t:=kN u v z fs Y U (h z (Mi ..)) hk;have c:dB (a9 A2 (d7 M7 (a7 (Sk 3 0) (a7 (Sk 3 1) (a7 (dV 4) b9)))) (k6 o8 (Sj 1))) #[[J,x1,x2,.v (pq (u,v)),.v (pt z)],fs]=some (!decide (l7 (a8 u v z) = -1),#[[J,x1,x2,.v (pq (u,v)),.v (pt z)],fs]):=D4 (f9 (u7 (A3 (f9 (x:=pq (u,v)) rfl rfl rfl) (A3 (f9 (x:=pq (u,v)) rfl rfl rfl) rfl)) t) rfl (X5 _ (-1)));rw[Mo,Oy];by_cases n:l7 (a8 u v z) = -1
  .rw[MA n] at c ⊢;obtain⟨y4,e⟩:=sM J x1 x2 fs Y U hk r (.v (pt z)) fun z Z=>h z (Mf _ Z)
   refine#[y4,?_];rw[Q1 (s1:=#[[J,x1,x2,.v (pq (u,v)),.v (pt z)],fs]) rfl (E9 c),e];rfl
  .rw[MK n] at c ⊢;refine#[.v (pt z),?_];have B:jg M7 L5 #[[J,x1,x2,.v (pq (u,v)),.v (pt z)],fs]=some (.ret (.bl false),#[[J,x1,x2,.v (pq (u,v)),.v (pt z)],fs]):=(G1 c).trans (w4 rfl);rw[dh (s1:=#[[J,x1,x2,.v (pq (u,v)),.v (pt z)],fs]) rfl B];rfl
def mZ {A:vT_}(h:i<A.length):(i9 true A)[i]? = some (tk A i,tk A (i+1)):=by
 have U:i<(i9 true A).length:=by rw[iz,iO rfl];omega
 have l2:(A.drop 1++A.take 1).length=A.length:=by rw[MC,MH,Np];omega
 unfold i9;rw[iO rfl,OT];refine#[X4 h,?_];by_cases c:i+1<A.length
 .rw[NK (by rw[MH];omega),PH,NO 1 i,X4 c]
 .have J:i+1=A.length:=by omega
  rw[NJ (by rw[MH];omega),MH,show i - (A.length - 1)=0 by omega,PX #[],X4 ∅];rw[<-M6 (i+1),J,PJ]
def tG {A:vT_}(fs:vO_) (hA:∀z∈A,Ps k z) (hB:∀z∈B,Ps k z) (hk:k<=2000) (hi:i<A.length) (U:A.length<=1000):V7 [c7 A,.int (i:Int),c7 B] fs=some (.bl (N0 A i B),fs):=by
 have J:0<A.length:=by omega
 obtain⟨Y,e⟩:=sM (.v (c7 A)) (.v (.int (i:Int))) (.v (c7 B)) fs (hA _ (X7 (l:=A) i J)) (hA _ (X7 (l:=A) (i+1) J)) hk B .no hB;refine v5 (s:=#[[.v (c7 A),.v (.int (i:Int)),.v (c7 B),.v (pq (tk A i,tk A (i+1))),Y],fs]) ?_;show iE M7 L5 #[[.v (c7 A),.v (.int (i:Int)),.v (c7 B),.no,.no],fs]=_;unfold iE N0;have Z:d9 (.lst ((i9 true A).map pq)) (.int (i:Int))=some (pq (tk A i,tk A (i+1))):=(B9 _ _).trans (pb (by rw[Nq,mZ hi];rfl));rw[u5 (s1:=#[[.v (c7 A),.v (.int (i:Int)),.v (c7 B),.v (pq (tk A i,tk A (i+1))),.no],fs]) (B7 (f9 (u7 rfl (lX A fs U)) rfl Z) rfl)];have f:=(dD (b:=jg M7 L5) (t:=d8 4) (f:=dV 2) (s:=#[[.v (c7 A),.v (.int (i:Int)),.v (c7 B),.v (pq (tk A i,tk A (i+1))),.no],fs]) (s1:=#[[.v (c7 A),.v (.int (i:Int)),.v (c7 B),.v (pq (tk A i,tk A (i+1))),.no],fs]) (ds:=B.map pt) rfl).trans e;cases c:B.all (fun z=>decide (l7 (a8 (tk A i) (tk A (i+1)) z) = -1)) with
 |true=>
  rw[c,iO rfl] at f;rw[u5 f];exact w4 rfl
 |false=>
  rw[c,iR Mk] at f;exact K8 f
structure ShC (A:vT_):Prop where
 cv:bK A
 ne:∀k,tk A (k+1)≠tk A k
 nc:bJ A
 lo:3<=A.length
 hi:A.length<=6
 sz:∀z∈A,Ps 8 z/\PtS 35 z
def ShC.ps {A:vT_}(h:ShC A):∀z∈A,Ps 70 z:=fun z J=>(h.sz z J).1.mono #[]
def G2 (A B:vT_) (lo:Nat):Nat->Option Nat
 |0=>none
 |m+1=>if N0 A lo B then some lo else G2 A B (lo+1) m
def JM:Option Nat->D
 |none=>.non
 |some i=>.int (i:Int)
abbrev gr:c8:=tF V7
def EN (lo:Nat) (n:Nat):B5 (lo:Int) (n+1) = .int (lo:Int)::B5 ((lo+1:Nat):Int) n:=by
 unfold B5;rw[RH,Mo,List.map_map];rw[List.cons.injEq];refine#[by simp,List.map_congr_left fun i _=>?_];show D.int ((lo:Int)+((i+1:Nat):Int))=D.int (((lo+1:Nat):Int)+(i:Int));congr 1;omega
section
variable {A:vT_}(hA:ShC A) (hB:ShC B) (fs:vO_)
include hA hB
theorem tu:∀(m lo:Nat) (x2:Sl),lo+m<=A.length->∃y2,A9 (d8 2) (kA V7) (B5 (lo:Int) m) #[[.v (c7 A),.v (c7 B),x2],fs]=some ((match G2 A B lo m with | some i=>.ret (.int (i:Int)) | none=>.next),#[[.v (c7 A),.v (c7 B),y2],fs])
 |0,lo,x2,_=>#[x2,rfl]
 |m+1,lo,x2,h=>by
  have t:=tG fs hA.ps hB.ps #[] (i:=lo) ∅ (by have:=hA.hi;omega);rw[EN];unfold G2;have c:o6 (d7 V7 (a7 (dV 0) (a7 (dV 2) (a7 (dV 1) b9)))) #[[.v (c7 A),.v (c7 B),.v (.int (lo:Int))],fs]=some (N0 A lo B,#[[.v (c7 A),.v (c7 B),.v (.int (lo:Int))],fs]):=K4 (u7 rfl t);cases n:N0 A lo B with
  |true=>
   rw[n] at c;refine#[.v (.int (lo:Int)),?_];have J:kA V7 #[[.v (c7 A),.v (c7 B),.v (.int (lo:Int))],fs]=some (.ret (.int (lo:Int)),#[[.v (c7 A),.v (c7 B),.v (.int (lo:Int))],fs]):=(G1 c).trans (w4 rfl);rw[dh (s1:=#[[.v (c7 A),.v (c7 B),.v (.int (lo:Int))],fs]) rfl J];rfl
  |false=>
   rw[n] at c;obtain⟨y2,e⟩:=tu m (lo+1) (.v (.int (lo:Int))) ∅;refine#[y2,?_];rw[Q1 (s1:=#[[.v (c7 A),.v (c7 B),.v (.int (lo:Int))],fs]) rfl (E9 c),e];rfl
theorem vH:gr [c7 A,c7 B] fs=some (JM (G2 A B 0 A.length),fs):=by
 obtain⟨U,e⟩:=tu hA hB fs A.length 0 .no ∅;refine v5 (s:=#[[.v (c7 A),.v (c7 B),U],fs]) ?_;show iy V7 #[[.v (c7 A),.v (c7 B),.no],fs]=_;unfold iy;have hi:=hA.hi;have J:j6 (one j9) (a7 (dL 0) b9) #[[.v (c7 A),.v (c7 B),.no],fs]=some (.int (A.length:Int),#[[.v (c7 A),.v (c7 B),.no],fs]):=by
  refine jh (x:=c7 A) rfl ?_;show some (D.int ((A.map pt).length:Nat))=_;rw[Mj]
 have f:=(kG (b:=kA V7) (t:=d8 2) (f:=a7 (j6 (one j9) (a7 (dL 0) b9)) b9) (A3 J rfl) (cT ∅)).trans e;cases c:G2 A B 0 A.length with
 |some i=>
  rw[c] at f;exact K8 f
 |none=>
  rw[c] at f;rw[u5 f];exact w4 rfl
end
def D5 (A B:vT_):D:=match G2 A B 0 A.length with
 |some i=>.tup [.str "one",.int (i:Int)]
 |none=>match G2 B A 0 B.length with
  |some i=>.tup [.str "other",.int (i:Int)]
  |none=>.non
abbrev Q3:c8:=sX gr
def Kk {A:vT_}(hA:ShC A) (hB:ShC B) (fs:vO_):Q3 [c7 A,c7 B] fs=some (D5 A B,fs):=by
 have J:=vH hA hB fs;have U:=vH hB hA fs;unfold D5;cases Y:G2 A B 0 A.length with
 |some i=>
  rw[Y] at J;refine v5 (s:=#[[.v (c7 A),.v (c7 B),.v (.int (i:Int))],fs]) ?_;show aP gr #[[.v (c7 A),.v (c7 B),.no],fs]=_;unfold aP;rw[u5 (s1:=#[[.v (c7 A),.v (c7 B),.v (.int (i:Int))],fs]) (B7 (u7 rfl J) rfl)];exact K8 ((G1 (s1:=#[[.v (c7 A),.v (c7 B),.v (.int (i:Int))],fs]) (D4 (f9 rfl rfl rfl))).trans (w4 (T1 rfl rfl)))
 |none=>
  rw[Y] at J;cases Z:G2 B A 0 B.length with
  |some i=>
   rw[Z] at U;refine v5 (s:=#[[.v (c7 A),.v (c7 B),.v (.int (i:Int))],fs]) ?_;show aP gr #[[.v (c7 A),.v (c7 B),.no],fs]=_;unfold aP;rw[u5 (s1:=#[[.v (c7 A),.v (c7 B),.v .non],fs]) (B7 (u7 rfl J) rfl)];rw[u5 (s1:=#[[.v (c7 A),.v (c7 B),.v .non],fs]) (E9 (D4 (f9 rfl rfl rfl)))];rw[u5 (s1:=#[[.v (c7 A),.v (c7 B),.v (.int (i:Int))],fs]) (B7 (u7 rfl U) rfl)];exact K8 ((G1 (s1:=#[[.v (c7 A),.v (c7 B),.v (.int (i:Int))],fs]) (D4 (f9 rfl rfl rfl))).trans (w4 (T1 rfl rfl)))
  |none=>
   rw[Z] at U;refine v5 (s:=#[[.v (c7 A),.v (c7 B),.v .non],fs]) ?_;show aP gr #[[.v (c7 A),.v (c7 B),.no],fs]=_;unfold aP;rw[u5 (s1:=#[[.v (c7 A),.v (c7 B),.v .non],fs]) (B7 (u7 rfl J) rfl)];rw[u5 (s1:=#[[.v (c7 A),.v (c7 B),.v .non],fs]) (E9 (D4 (f9 rfl rfl rfl)))];rw[u5 (s1:=#[[.v (c7 A),.v (c7 B),.v .non],fs]) (B7 (u7 rfl U) rfl)];rw[u5 (s1:=#[[.v (c7 A),.v (c7 B),.v .non],fs]) (E9 (D4 (f9 rfl rfl rfl)))];exact w4 rfl
theorem zq {A:vT_}:∀(m lo:Nat),G2 A B lo m=none->∀i,lo<=i->i<lo+m->N0 A i B=false
 |0,lo,_,i,h1,h2=>by omega
 |m+1,lo,h,i,h1,h2=>by
  unfold G2 at h;cases c:N0 A lo B with
  |true=>rw[c,iO rfl] at h;cases h
  |false=>
   rw[c,iR Mk] at h;by_cases q:i=lo
   .rw[q];exact c
   .exact zq m (lo+1) h i ∅ ∅
theorem oS {A:vT_}:∀(m lo i:Nat),G2 A B lo m=some i->lo<=i/\i<lo+m/\N0 A i B=true
 |0,lo,i,h=>by cases h
 |m+1,lo,i,h=>by
  unfold G2 at h;cases c:N0 A lo B with
  |true=>
   rw[c,iO rfl] at h;cases h;exact#[tx _,by omega,c]
  |false=>
   rw[c,iR Mk] at h;obtain⟨a,b,d⟩:=oS m (lo+1) i h;exact#[by omega,by omega,d]
def Cn {A:vT_}(h:N0 A i B=false):¬ ∀z∈B,a8 (tk A i) (tk A (i+1)) z<0:=fun q=>by
 have:N0 A i B=true:=by
  unfold N0;rw[Nb];exact fun z J=>MA ((X9 _).mpr (q z J))
 rw[this] at h;cases h
def BB {A:vT_}(hA:ShC A) (hB:ShC B) (h1:G2 A B 0 A.length=none) (h2:G2 B A 0 B.length=none):∃p,Ip A p/\∀k,0<=a8 (tk B k) (tk B (k+1)) p:=by
 have a3:=hA.lo;have Z:=hB.lo;have J:∀{A B:vT_},0<A.length->G2 A B 0 A.length=none->¬ ∃k,∀z∈B,a8 (tk A k) (tk A (k+1)) z<0:=fun {A B} Y h ⟨k,hk⟩=>by
  have m:=Ng k Y;refine Cn (zq _ 0 h (k % A.length) ∅ ∅) fun z U=>?_
  have:=hk z U;rw[M6,<-M6 (k % A.length+1),PL,M6];exact this
 rcases FX (by have:=hA.hi;omega) (by have:=hB.hi;omega) (Pb.mp ∅) hA.cv hB.cv hA.ne hB.ne hA.nc hB.nc with q | q | q
 .exact q
 .exact absurd q (J ∅ h1)
 .exact absurd q (J ∅ h2)
abbrev P2:c8:=vE gO L5
theorem rG (J x1:Sl) (fs:vO_) (hS:∀c∈Ls,Ps 8 c.1/\Ps 8 c.2):∀(es:List (Pt × Pt)) (K:vT_) (x2 x3 x4:Sl),(x2 = .own (K.map pt)\/x2 = .v (.lst (K.map pt)))->(∀e∈es,e∈Ls/\e.1≠e.2)->(∀q∈i9 true K,V9 Ls q.1 q.2)->(∀z∈K,PtS 35 z)->K.length*2 ^ es.length<=400 ->
  ∃y2 y3 y4,A9 (p9 2 (l8 (d8 3) (l8 (d8 4) t6))) (mW gO L5) (es.map pq) #[[J,x1,x2,x3,x4],fs]=some (.next,#[[J,x1,y2,y3,y4],fs])/\(y2 = .own ((L8 K es).map pt)\/y2 = .v (.lst ((L8 K es).map pt)))/\∀z∈L8 K es,PtS 35 z
 |[],K,x2,x3,x4,h,_,_,U,_=>#[x2,x3,x4,rfl,h,U]
 |e::r,K,x2,x3,x4,h,he,O,U,hl=>by
  obtain⟨eL,en⟩:=he e (Mi ..);obtain⟨s1,s2⟩:=hS e eL;have Z:∀{z:Pt},Ps 8 z->PtS 120 z:=fun {z} h=>by
   have b1:=h.x;have b3:=h.l;have b2:=h.y
   refine#[?_,?_]
   .rw[<-px_div z];exact(Sz.of_divInt (kS z) b1 b3).mono #[]
   .rw[<-py_div z];exact(Sz.of_divInt (kS z) b2 b3).mono #[]
  have Y:K.length<=400:=Mm (Sg _ (Nat.pow_pos #[])) hl;have c:=EY fs (Z s1) (Z s2) (fun z hz'=>(U z hz').mono #[]) Y;have O':=vV en eL O;have z':=sF (m:=35) hS eL O #[] U;have l1:=mf e.1 e.2 (i9 true K);have l2:=aN true K;obtain⟨y2,y3,y4,q,hy,sz⟩:=rG J x1 fs hS r (A7 e.1 e.2 (i9 true K)) (.v (.lst ((A7 e.1 e.2 (i9 true K)).map pt))) (.v (pt e.1)) (.v (pt e.2)) (.inr rfl) (fun z U=>he z (Mf _ U)) O' z' (by
   rw[Mw,Qu] at hl;refine Mm (Nat.mul_le_mul_right (2 ^ r.length) (show (A7 e.1 e.2 (i9 true K)).length<=K.length*2 by omega)) ?_;rw[Nat.mul_assoc,Qb 2];exact hl)
  refine#[y2,y3,y4,?_,hy,sz];have st:mW gO L5 #[[J,x1,x2,.v (pt e.1),.v (pt e.2)],fs]=some (.next,#[[J,x1,.v (.lst ((A7 e.1 e.2 (i9 true K)).map pt)),.v (pt e.1),.v (pt e.2)],fs]):=by
   rcases h with rfl | rfl
   .exact B7 (cS (sl':=[J,x1,.v (.lst (K.map pt)),.v (pt e.1),.v (pt e.2)]) rfl c) rfl
   .exact B7 (u7 rfl c) rfl
  rw[Mo,Q1 (s1:=#[[J,x1,x2,.v (pt e.1),.v (pt e.2)],fs]) rfl st,q]
def La {A:vT_}(hA:ShC A) (hB:ShC B) (h1:G2 A B 0 A.length=none) (h2:G2 B A 0 B.length=none) (fs:vO_):∃p,P2 [c7 A,c7 B] fs=some (pt p,fs)/\Ps 70 p/\(∀i,0<=a8 (tk A i) (tk A (i+1)) p)/\∀i,0<=a8 (tk B i) (tk B (i+1)) p:=by
 obtain⟨p0,I,hp⟩:=BB hA hB h1 h2;have b3:=hB.lo;have a3:=hA.lo;obtain⟨k,r,e,c1,c2⟩:=vW hA.cv (Pb.mp ∅) hB.ne I hp;have nl:=aN true B;have J:∀{A:vT_},ShC A->∀q∈i9 true A,q.1≠q.2/\Ps 8 q.1/\Ps 8 q.2:=fun {A} hA q U=>by
  have h0:0<A.length:=by have:=hA.lo;omega
  refine#[?_,(hA.sz _ (nbs_mem U).1).1,(hA.sz _ (nbs_mem U).2).1];obtain⟨i,rfl⟩:=(cj h0 q).mp U;exact fun z=>hA.ne i z.symm
 obtain⟨y2,y3,y4,q,Z,sz⟩:=rG (Ls:=i9 true A++i9 true B) (.v (c7 A)) (.v (c7 B)) fs (fun c hc=>by
   rcases Mp.mp hc with w | w
   .exact(J hA c w).2
   .exact(J hB c w).2) (i9 true B) A (.own (A.map pt)) .no .no (.inl rfl) (fun e Y=>#[MO _ Y,(J hB e Y).1]) (fun q U=>#[q,MX _ U,(J hA q U).1,Y4 _ _,ai _ _]) (fun z hz=>(hA.sz z hz).2) (by
   have h6:(i9 true B).length<=6:=by have:=hB.hi;omega
   have:A.length*2 ^ (i9 true B).length<=6*2 ^ 6:=PQ hA.hi (Pp #[] h6);omega)
 refine#[k,?_,(sz k (by rw[e];exact Mi ..)).ps,c1,c2];refine v5 (s:=#[[.v (c7 A),.v (c7 B),y2,y3,y4],fs]) ?_;show oq gO L5 #[[.v (c7 A),.v (c7 B),.no,.no,.no],fs]=_;unfold oq;have hi:=hA.hi;rw[u5 (s1:=#[[.v (c7 A),.v (c7 B),.own (A.map pt),.no,.no],fs]) (Y7 (i:=2) (s1:=#[[.v (c7 A),.v (c7 B),.no,.no,.no],fs]) (ds:=A.map pt) rfl (by show 2<5;decide))];rw[u5 ((dJ (s1:=#[[.v (c7 A),.v (c7 B),.own (A.map pt),.no,.no],fs]) (ds:=(i9 true B).map pq) (u7 rfl (lX B fs (by have:=hB.hi;omega)))).trans q)];rw[e] at Z;have ix:d9 (.lst ((k::r).map pt)) (.int 0)=some (pt k):=(B9 _ _).trans (pb (n:=0) (by rw[Mo];rfl));rcases Z with rfl | rfl
 .exact w4 (f9 (x:=.lst ((k::r).map pt)) rfl rfl ix)
 .exact w4 (f9 (x:=.lst ((k::r).map pt)) rfl rfl ix)
structure MeP (A B:vT_) (p:Pt):Prop where
 sz:Ps 70 p
 a:∀i,0<=a8 (tk A i) (tk A (i+1)) p
 b:∀i,0<=a8 (tk B i) (tk B (i+1)) p
def bQ (p:Pt):D:=.tup [.str "meet",pt p]
abbrev S8:c8:=xV P2 Q3
def DG {A:vT_}(h:D5 A B = .non):G2 A B 0 A.length=none/\G2 B A 0 B.length=none:=by
 unfold D5 at h;cases J:G2 A B 0 A.length with
 |some i=>rw[J] at h;cases h
 |none=>
  cases U:G2 B A 0 B.length with
  |some i=>rw[J,U] at h;cases h
  |none=>exact#[rfl,rfl]
def Dx {A:vT_}(h:D5 A B ≠ .non):∃ds,D5 A B = .tup ds:=by
 unfold D5 at *;cases J:G2 A B 0 A.length with
 |some i=>exact#[_,rfl]
 |none=>
  cases U:G2 B A 0 B.length with
  |some i=>exact#[_,rfl]
  |none=>rw[J,U] at h;exact absurd rfl h
abbrev L9 (x0 x1 x2:Sl) (A:vT_) (row:vD_) (x5 x6:Sl) (fs:vO_):DS:=#[[x0,x1,x2,.v (c7 A),.own row,x5,x6],fs]
theorem yK {A:vT_}(hA:ShC A) (J x1 x2:Sl) (fs:vO_):∀(Os:List (List Pt)) (row:vD_) (x5 x6:Sl),(∀B∈Os,ShC B)->row.length+Os.length<=100 ->
  ∃fl y5 y6 row',A9 (d8 5) (bw P2 Q3) (Os.map c7) (L9 J x1 x2 A row x5 x6 fs)=some (fl,L9 J x1 x2 A row' y5 y6 fs)/\((fl = .next/\row'=row++Os.map (D5 A)/\∀B∈Os,D5 A B ≠ .non)\/∃B∈Os,∃p,fl = .ret (bQ p)/\MeP A B p)
 |[],row,x5,x6,_,_=>#[.next,x5,x6,row,rfl,.inl #[rfl,by rw[NX,MQ],fun B hB=>by cases hB]]
 |B::r,row,x5,x6,h,hl=>by
  have hB:=h B (Mi ..);have e:=Kk hA hB fs;rw[Mw] at hl;by_cases q:D5 A B = .non
  .obtain⟨q1,q2⟩:=DG q;obtain⟨p,c,s,c1,c2⟩:=La hA hB q1 q2 fs;rw[q] at e;refine#[.ret (bQ p),.v (c7 B),.v .non,row,?_,.inr #[B,Mi ..,p,rfl,s,c1,c2]];have st:bw P2 Q3 (L9 J x1 x2 A row (.v (c7 B)) x6 fs)=some (.ret (bQ p),L9 J x1 x2 A row (.v (c7 B)) (.v .non) fs):=by
    unfold bw;rw[u5 (s1:=L9 J x1 x2 A row (.v (c7 B)) (.v .non) fs) (B7 (u7 rfl e) rfl)];exact K8 ((G1 (s1:=L9 J x1 x2 A row (.v (c7 B)) (.v .non) fs) (D4 (f9 rfl rfl rfl))).trans (w4 (T1 rfl (u7 rfl c))))
   rw[Mo,dh (s1:=L9 J x1 x2 A row (.v (c7 B)) x6 fs) rfl st]
  .obtain⟨ds,hd⟩:=Dx q;obtain⟨fl,y5,y6,row',f,g⟩:=yK hA J x1 x2 fs r (row++[D5 A B]) (.v (c7 B)) (.v (D5 A B)) (fun z U=>h z (Mf _ U)) (by rw[MC,NM];omega);refine#[fl,y5,y6,row',?_,?_]
   .have st:bw P2 Q3 (L9 J x1 x2 A row (.v (c7 B)) x6 fs)=some (.next,L9 J x1 x2 A (row++[D5 A B]) (.v (c7 B)) (.v (D5 A B)) fs):=by
     unfold bw;rw[u5 (s1:=L9 J x1 x2 A row (.v (c7 B)) (.v (D5 A B)) fs) (B7 (u7 rfl e) rfl)];rw[hd];rw[u5 (s1:=L9 J x1 x2 A row (.v (c7 B)) (.v (.tup ds)) fs) (E9 (D4 (f9 rfl rfl rfl)))];exact U7 (i:=4) (s:=L9 J x1 x2 A row (.v (c7 B)) (.v (.tup ds)) fs) (s1:=L9 J x1 x2 A row (.v (c7 B)) (.v (.tup ds)) fs) (ds:=row) (ds0:=row) (d:=.tup ds) (f:=dV 6) rfl rfl rfl (Nc (by omega:row.length<=100) #[])
    rw[Mo,Q1 (s1:=L9 J x1 x2 A row (.v (c7 B)) x6 fs) rfl st,f]
   .rcases g with ⟨Y,g2,g3⟩ | ⟨B',Z,p,Y,g2⟩
    .refine .inl #[Y,by rw[g2,NL];rfl,fun z U=>?_];rcases xo.mp U with rfl | U
     .exact q
     .exact g3 z U
    .exact .inr #[B',Mf _ Z,p,Y,g2]
abbrev O9 (Ss Os:List (List Pt)) (rows:vD_) (x3 x4 x5 x6:Sl) (fs:vO_):DS:=#[[.v (.tup (Ss.map c7)),.v (.tup (Os.map c7)),.own rows,x3,x4,x5,x6],fs]
def R7 (Os:List (List Pt)) (A:vT_):D:=.tup (Os.map (D5 A))
theorem qY (hO:∀B∈Os,ShC B) (lO:Os.length<=50) (fs:vO_):∀(Rs:List (List Pt)) (rows:vD_) (x3 x4 x5 x6:Sl),(∀A∈Rs,ShC A)->rows.length+Rs.length<=100 ->
  ∃fl y3 y4 y5 y6 rows',A9 (d8 3) (bG P2 Q3) (Rs.map c7) (O9 Ss Os rows x3 x4 x5 x6 fs)=some (fl,O9 Ss Os rows' y3 y4 y5 y6 fs)/\((fl = .next/\rows'=rows++Rs.map (R7 Os)/\∀A∈Rs,∀B∈Os,D5 A B ≠ .non)\/∃A∈Rs,∃B∈Os,∃p,fl = .ret (bQ p)/\MeP A B p)
 |[],rows,x3,x4,x5,x6,_,_=>#[.next,x3,x4,x5,x6,rows,rfl,.inl #[rfl,by rw[NX,MQ],fun A hA=>by cases hA]]
 |A::r,rows,x3,x4,x5,x6,h,hl=>by
  have hA:=h A (Mi ..);rw[Mw] at hl;obtain⟨fl,y5,y6,J,f,g⟩:=yK hA (.v (.tup (Ss.map c7))) (.v (.tup (Os.map c7))) (.own rows) fs Os [] x5 x6 hO (by rw[NQ];omega);have U:bG P2 Q3 (O9 Ss Os rows (.v (c7 A)) x4 x5 x6 fs)=d6 (G5 (dV 1) (d8 5) (bw P2 Q3)) (J0 2 (j6 (one U3) (a7 (dL 4) b9))) (L9 (.v (.tup (Ss.map c7))) (.v (.tup (Os.map c7))) (.own rows) A [] x5 x6 fs):=by
   unfold bG;rw[u5 (s1:=L9 (.v (.tup (Ss.map c7))) (.v (.tup (Os.map c7))) (.own rows) A [] x5 x6 fs) (Y7 (i:=4) (s1:=O9 Ss Os rows (.v (c7 A)) x4 x5 x6 fs) (ds:=[]) rfl (by show 4<7;decide))]
  have fo:=(dD (b:=bw P2 Q3) (t:=d8 5) (f:=dV 1) (s:=L9 (.v (.tup (Ss.map c7))) (.v (.tup (Os.map c7))) (.own rows) A [] x5 x6 fs) (s1:=L9 (.v (.tup (Ss.map c7))) (.v (.tup (Os.map c7))) (.own rows) A [] x5 x6 fs) (ds:=Os.map c7) rfl).trans f;rcases g with ⟨g1,Z,g3⟩ | ⟨B,hB,p,g1,Z⟩
  .subst g1;rw[Nk] at Z;subst Z;obtain⟨fl,z3,z4,z5,z6,rows',q,w⟩:=qY hO lO fs r (rows++[R7 Os A]) (.v (c7 A)) (.own (Os.map (D5 A))) y5 y6 (fun z Y=>h z (Mf _ Y)) (by rw[MC,NM];omega);refine#[fl,z3,z4,z5,z6,rows',?_,?_]
   .have st:bG P2 Q3 (O9 Ss Os rows (.v (c7 A)) x4 x5 x6 fs)=some (.next,O9 Ss Os (rows++[R7 Os A]) (.v (c7 A)) (.own (Os.map (D5 A))) y5 y6 fs):=by
     rw[U,u5 fo];exact U7 (i:=2) (s:=L9 (.v (.tup (Ss.map c7))) (.v (.tup (Os.map c7))) (.own rows) A (Os.map (D5 A)) y5 y6 fs) (s1:=L9 (.v (.tup (Ss.map c7))) (.v (.tup (Os.map c7))) (.own rows) A (Os.map (D5 A)) y5 y6 fs) (ds:=rows) (ds0:=rows) (d:=R7 Os A) rfl (jh (x:=.lst (Os.map (D5 A))) rfl rfl) rfl (Nc (by omega:rows.length<=100) #[])
    rw[Mo,Q1 (s1:=O9 Ss Os rows (.v (c7 A)) x4 x5 x6 fs) rfl st,q]
   .rcases w with ⟨w1,w2,w3⟩ | ⟨A',hA',B,hB,p,w1,w2⟩
    .refine .inl #[w1,by rw[w2,NL];rfl,fun z Y=>?_];rcases xo.mp Y with rfl | Y
     .exact g3
     .exact w3 z Y
    .exact .inr #[A',Mf _ hA',B,hB,p,w1,w2]
  .subst g1;refine#[.ret (bQ p),.v (c7 A),.own J,y5,y6,rows,?_,.inr #[A,Mi ..,B,hB,p,rfl,Z]];have st:bG P2 Q3 (O9 Ss Os rows (.v (c7 A)) x4 x5 x6 fs)=some (.ret (bQ p),O9 Ss Os rows (.v (c7 A)) (.own J) y5 y6 fs):=by
    rw[U];exact K8 fo
   rw[Mo,dh (s1:=O9 Ss Os rows (.v (c7 A)) x4 x5 x6 fs) rfl st]
def Di (Ss Os:List (List Pt)):D:=.tup [.str "apart",.tup (Ss.map (R7 Os))]
def vR (hS:∀A∈Ss,ShC A) (hO:∀B∈Os,ShC B) (lS:Ss.length<=50) (lO:Os.length<=50) (fs:vO_) :
  (S8 [.tup (Ss.map c7),.tup (Os.map c7)] fs=some (Di Ss Os,fs)/\∀A∈Ss,∀B∈Os,D5 A B ≠ .non)\/∃A∈Ss,∃B∈Os,∃p,S8 [.tup (Ss.map c7),.tup (Os.map c7)] fs=some (bQ p,fs)/\MeP A B p:=by
 obtain⟨fl,y3,y4,y5,y6,J,f,g⟩:=qY (Ss:=Ss) hO lO fs Ss [] .no .no .no .no hS (by rw[NQ];omega);have fo:=(dD (b:=bG P2 Q3) (t:=d8 3) (f:=dV 0) (s:=O9 Ss Os [] .no .no .no .no fs) (s1:=O9 Ss Os [] .no .no .no .no fs) (ds:=Ss.map c7) rfl).trans f;have U:dW P2 Q3 #[[.v (.tup (Ss.map c7)),.v (.tup (Os.map c7)),.no,.no,.no,.no,.no],fs]=d6 (G5 (dV 0) (d8 3) (bG P2 Q3)) (i8 (i7 (a7 (dC (.str "apart")) (a7 (j6 (one U3) (a7 (dL 2) b9)) b9)))) (O9 Ss Os [] .no .no .no .no fs):=by
  unfold dW;rw[u5 (s1:=O9 Ss Os [] .no .no .no .no fs) (Y7 (i:=2) (s1:=#[[.v (.tup (Ss.map c7)),.v (.tup (Os.map c7)),.no,.no,.no,.no,.no],fs]) (ds:=[]) rfl (by show 2<7;decide))]
 rcases g with ⟨Z,Y,g3⟩ | ⟨A,hA,B,hB,p,Z,Y⟩
 .subst Z;rw[Nk] at Y;subst Y;refine .inl #[v5 (s:=O9 Ss Os (Ss.map (R7 Os)) y3 y4 y5 y6 fs) ?_,g3];show dW P2 Q3 #[[.v (.tup (Ss.map c7)),.v (.tup (Os.map c7)),.no,.no,.no,.no,.no],fs]=_;rw[U,u5 fo];exact w4 (T1 rfl (jh (x:=.lst (Ss.map (R7 Os))) rfl rfl))
 .subst Z;refine .inr #[A,hA,B,hB,p,v5 (s:=O9 Ss Os J y3 y4 y5 y6 fs) ?_,Y];show dW P2 Q3 #[[.v (.tup (Ss.map c7)),.v (.tup (Os.map c7)),.no,.no,.no,.no,.no],fs]=_;rw[U];exact K8 fo
def u9 {a b:DM}{s:DS}{r:Option (Fl × DS)}(h:a s=some (.next,s1)) (k:b s1=r):d6 a b s=r:=(u5 h).trans k
def cR {p:D->Option D}{a:DE}{s:DS}{x z:D}(h1:a s=some (x,s1)) (h3:p x=some z):k6 p a s=some (z,s1):=by
 simp[k6,h1,h3]
def Ly (a:Pt):G8 (pt a)=true:=by
 show (decide (1<=pL a)&&decide (Int.gcd (Int.gcd (pX a) (pY a):Int) (pL a)=1))=true;have:=dH a;rw[MA ∅,MA (JG a)];rfl
def lH {a b:DE}{s:DS}{r:Option (D × DS)}(h1:a s=some (.bl true,s1)) (h2:b s1=r):v7 a b s=r:=by
 unfold v7;rw[D4 h1];exact h2
def Cy {p:D->D->Option D}{fa fb fc:DE}{s:DS}{x z w:D}(h1:fa s=some (x,s)) (h2:fb s=some (y,s)) (h3:p x y=some (.bl true)) (J:fc s=some (z,s)) (U:p' y z=some w):bR p p' fa fb fc s=some (w,s):=by
 unfold bR;rw[h1,Mh,h2,Mh,h3,Mh];show ((fc s).bind fun w=>(p' y w.1).map fun d=>(d,w.2))=_;rw[J,Mh,U];rfl
def qU (i:Int):A2 (.int i) (.int i)=some (.bl false):=by rw[X5,MA rfl];rfl
def qJ {x:D}{fs:vO_}(h:dL i #[sl,fs]=some (.tup [x,y],#[sl,fs])):u4 (t9 (o6 (k6 (F7 "tuple") (dL i)))) (dB (a9 A2 (j6 (one j9) (a7 (dL i) b9)) (Sj 2))) #[sl,fs]=some (false,#[sl,fs]):=
 kg (O5 (b:=true) (K4 (cR h rfl))) (eG (M3 (A3 h rfl) rfl) rfl rfl)
abbrev gP:c8:=rX jm
def tB {A:vT_}(h:∀i,0<=a8 (tk A i) (tk A (i+1)) p):N6 A p=true:=by
 unfold N6;rw[Nb];intro q J;obtain⟨i,hi⟩:=OB J;have U:i<A.length:=by
  have:=(MT.mp hi).1;exact Mu this (aN true A)
 rw[mZ U] at hi;cases hi;rw[Bool.not_eq_true',Sh,X9];exact NH.mpr (h i)
abbrev gN:c8:=vJ br
abbrev aL:c8:=xJ V7 gN
inductive PpI (A B:vT_):D->Prop
 | one {i:Nat}(h:i<A.length) (p:N0 A i B=true):PpI A B (.tup [.str "one",.int (i:Int)])
 | oth {i:Nat}(h:i<B.length) (p:N0 B i A=true):PpI A B (.tup [.str "other",.int (i:Int)])
def uU {A:vT_}(h:D5 A B ≠ .non):PpI A B (D5 A B):=by
 unfold D5 at *;cases J:G2 A B 0 A.length with
 |some i=>
  obtain⟨_,b,d⟩:=oS _ _ _ J;exact .one ∅ d
 |none=>
  cases U:G2 B A 0 B.length with
  |some i=>
   obtain⟨_,b,d⟩:=oS _ _ _ U;exact .oth ∅ d
  |none=>rw[J,U] at h;exact absurd rfl h
theorem wL {n:Int}{r:Rat}(h:X0 n=l7 r):(n<0↔r<0)/\(n=0↔r=0)/\(0<n↔0<r):=by
 unfold X0 l7 at h;by_cases a:0<n
 .by_cases b:0<r
  .exact#[by constructor <;> intro <;> grind,by constructor <;> intro <;> grind,by simp[a,b]]
  .rw[iO a,iR b] at h;split at h <;> omega
 .by_cases b:0<r
  .rw[iR a,iO b] at h;split at h <;> omega
  .rw[iR a,iR b] at h;by_cases c:n<0
   .by_cases d:r<0
    .exact#[by simp[c,d],by constructor <;> intro <;> grind,by simp[a,b]]
    .rw[iO c,iR d] at h;omega
   .by_cases d:r<0
    .rw[iR c,iO d] at h;omega
    .exact#[by simp[c,d],by constructor <;> intro <;> grind,by simp[a,b]]
theorem Dg (A B:Pt):X0 (pX A*pL B - pX B*pL A)=l7 (A.1 - B.1):=jN (c:=(pL A:Rat)*pL B) (U8 (L6 A) (L6 B)) (by
 rw[NB,My,My,U4,U4];grind)
theorem IB (A B:Pt):X0 (pY A*pL B - pY B*pL A)=l7 (A.2 - B.2):=jN (c:=(pL A:Rat)*pL B) (U8 (L6 A) (L6 B)) (by
 rw[NB,My,My,T8,T8];grind)
abbrev K7 (A B P:Pt):Int:=pX A*(pY B*pL P - pL B*pY P) - pY A*(pX B*pL P - pL B*pX P)+pL A*(pX B*pY P - pY B*pX P)
theorem LX (A B P:Pt):X0 (K7 A B P)=l7 (a8 A B P):=jN (c:=(pL A:Rat)*pL B*pL P) (U8 (U8 (L6 A) (L6 B)) (L6 P)) (by
 unfold K7 a8;simp only[NB,QB,My,U4,T8];grind)
theorem Ae (A B:Pt):(decide (pX A*pL B - pX B*pL A<0)||(decide (pX A*pL B - pX B*pL A=0)&&decide (pY A*pL B<pY B*pL A)))=v8 A B:=by
 obtain⟨h1,h2,_⟩:=wL (Dg A B);obtain⟨J,_,_⟩:=wL (IB A B);unfold v8;congr 1
 .rw[Ry,h1];constructor <;> intro <;> grind
 .congr 1
  .rw[Ry,h2];constructor <;> intro <;> grind
  .rw[Ry];constructor
   .intro h;have:=J.mp ∅;grind
   .intro h;have:=J.mpr (by grind);omega
def Bs {x y z u v w:Int}(fs:vO_) (m1:o7 (.int x) (.int w)=some (.int (x*w))) (m2:o7 (.int u) (.int z)=some (.int (u*z))) (m3:o7 (.int y) (.int w)=some (.int (y*w))) (m4:o7 (.int v) (.int z)=some (.int (v*z))) :
  cE [.tup [.int x,.int y,.int z],.tup [.int u,.int v,.int w]] fs=some (.bl (decide (x*w - u*z<0)||(decide (x*w - u*z=0)&&decide (y*w<v*z))),fs):=by
 refine v5 (s:=#[[.v (.tup [.int x,.int y,.int z]),.v (.tup [.int u,.int v,.int w]),.v (.int (x*w - u*z))],fs]) ?_;show jF #[[.v (.tup [.int x,.int y,.int z]),.v (.tup [.int u,.int v,.int w]),.no],fs]=_;unfold jF;rw[u5 (s1:=#[[.v (.tup [.int x,.int y,.int z]),.v (.tup [.int u,.int v,.int w]),.v (.int (x*w - u*z))],fs]) (B7 (f9 (f9 rfl rfl m1) (f9 rfl rfl m2) rfl) rfl)];refine w4 ?_;generalize x*w - u*z=n;by_cases h1:n<0
 .simp![C4,B9,D8,D7,D3,D1,D6,h1]
 .by_cases h2:n=0
  .subst h2;simp![C4,B9,D8,D7,D3,D1,D6,aR,KN,zG,zP,m3,m4]
  .simp![C4,B9,D8,D7,D3,D1,D6,h1,h2,aR]
def Lk (A B:Pt) (fs:vO_) (hA:Ps k A) (hB:Ps k B) (hk:k<=1000):cE [pt A,pt B] fs=some (.bl (v8 A B),fs):=by
 have b:∀{i:Int},Bd k i->A8 i=true:=fun h=>h.bits ∅
 rw[<-Ae];exact Bs fs (Q0 (b hA.x) (b hB.l)) (Q0 (b hB.x) (b hA.l)) (Q0 (b hA.y) (b hB.l)) (Q0 (b hB.y) (b hA.l))
def Gv {x y z u v w a b c:Int}(hj:j<=400) (hx:Bd j x) (hy:Bd j y) (hz:Bd j z) (Y:Bd j u) (J:Bd j v) (hw:Bd j w) (U:Bd j a) (Z:Bd j b) (hc:Bd j c) (fs:vO_) :
  Z3 [.tup [.int x,.int y,.int z],.tup [.int u,.int v,.int w],.tup [.int a,.int b,.int c]] fs=some (.int (x*(v*c - w*b) - y*(u*c - w*a)+z*(u*b - v*a)),fs):=by
 have m:∀{i l:Int},Bd j i->Bd j l->o7 (.int i) (.int l)=some (.int (i*l)):=fun h1 h2=>Q0 (h1.bits ∅) (h2.bits ∅)
 have q:∀{i l k n:Int},Bd j i->Bd j l->Bd j k->Bd j n->A8 (i*l - k*n)=true:=fun h1 h2 h3 h4=>((h1.mul h2).sub (h3.mul h4)).bits ∅
 have mq:∀{e i l k n:Int},Bd j e->Bd j i->Bd j l->Bd j k->Bd j n->o7 (.int e) (.int (i*l - k*n))=some (.int (e*(i*l - k*n))):=fun h0 h1 h2 h3 h4=>Q0 (h0.bits ∅) (q h1 h2 h3 h4)
 refine v5 (s:=#[[.v (.tup [.int x,.int y,.int z]),.v (.tup [.int u,.int v,.int w]),.v (.tup [.int a,.int b,.int c]),.v (.int (x*(v*c - w*b))),.v (.int (y*(u*c - w*a)))],fs]) ?_;show ja #[[.v (.tup [.int x,.int y,.int z]),.v (.tup [.int u,.int v,.int w]),.v (.tup [.int a,.int b,.int c]),.no,.no],fs]=_;unfold ja;rw[u5 (s1:=#[[.v (.tup [.int x,.int y,.int z]),.v (.tup [.int u,.int v,.int w]),.v (.tup [.int a,.int b,.int c]),.v (.int (x*(v*c - w*b))),.no],fs])
  (B7 (f9 rfl (f9 (f9 rfl rfl (m J hc)) (f9 rfl rfl (m hw Z)) rfl) (mq hx J hc hw Z)) rfl),
  u5 (s1:=#[[.v (.tup [.int x,.int y,.int z]),.v (.tup [.int u,.int v,.int w]),.v (.tup [.int a,.int b,.int c]),.v (.int (x*(v*c - w*b))),.v (.int (y*(u*c - w*a)))],fs])
  (B7 (f9 rfl (f9 (f9 rfl rfl (m Y hc)) (f9 rfl rfl (m hw U)) rfl) (mq hy Y hc hw U)) rfl)]
 exact w4 (f9 (f9 rfl rfl rfl) (f9 rfl (f9 (f9 rfl rfl (m Y Z)) (f9 rfl rfl (m J U)) rfl) (mq hz Y Z J U)) rfl)
def js (A B P:Pt) (fs:vO_) (hA:Ps k A) (hB:Ps k B) (J:Ps k P) (hk:k<=400):Z3 [pt A,pt B,pt P] fs=some (.int (K7 A B P),fs):=
 Gv hk hA.x hA.y hA.l hB.x hB.y hB.l J.x J.y J.l fs
def nbs_mem {A:vT_}(U:q∈i9 true A):∃i,i<A.length/\q=(tk A i,tk A (i+1)):=by
 obtain⟨i,hi⟩:=OB U;have J:i<A.length:=Mu (MT.mp hi).1 (aN true A);rw[mZ J] at hi;exact#[i,J,(MB hi).symm]
def FY (K:vT_) (fs:vO_) (J:K.length<=1000):R5 [c7 K] fs=some (.lst ((i9 true K).map pq),fs):=by
 have e:=ES (K.map pt) fs (by rw[Mj];omega);rw[jD] at e;exact e
def eR {n:Nat}(h:ds.length=n):one j9 [.tup ds]=some (.int (n:Int)):=by
 show some (D.int (ds.length:Int))=_;rw[h]
def pw {a b:DE}{s:DS}(h1:a s=some (.bl false,s1)):v7 a b s=some (.bl false,s1):=by
 unfold v7;rw[D4 h1];rfl
def Jr {p:D->D->Option D}{fa fb fc:DE}{s:DS}{x:D}(h1:fa s=some (x,s)) (h2:fb s=some (y,s)) (h3:p x y=some (.bl false)):bR p p' fa fb fc s=some (.bl false,s):=by
 unfold bR;rw[h1,Mh,h2,Mh,h3,Mh]
def bW (n:Nat):D->Bool
 |.int i=>decide (0<=i)&&decide (i<(n:Int))
 |_=>false
def Cd {n:Nat}(h:bW n d=true):∃i:Nat,d = .int (i:Int)/\i<n:=by
 cases d with
 |int i=>
  simp only[bW,MF,PR] at h;exact#[i.toNat,by rw[Int.toNat_of_nonneg h.1],by omega]
 |_=>cases h
def Kc {A:vT_}(h:thing d=true) (fs:vO_):gN [c7 A,d] fs=some (.bl (bW A.length d),fs):=by
 have e:br [d] fs=some (.bl (whole d),fs):=sC d fs h;have l:one j9 [c7 A]=some (.int (A.length:Int)):=by
  show some (D.int ((A.map pt).length:Int))=_;rw[Mj]
 generalize c7 A=S at *;refine v5 (s:=#[[.v S,.v d],fs]) (w4 ?_);cases d with
 |int i=>
  refine lH (u7 rfl e) ?_;by_cases J:0<=i
  .have U:n8 (fun i j=>decide (i<=j)) (.int 0) (.int i)=some (.bl true):=by
    show some (D.bl (decide ((0:Int)<=i)))=_;rw[MA J]
   refine(Cy rfl rfl U (M3 rfl l) (w:=.bl (decide (i<(A.length:Int)))) rfl).trans ?_;simp only[bW,MA J,Ov];rfl
  .have U:n8 (fun i j=>decide (i<=j)) (.int 0) (.int i)=some (.bl false):=by
    show some (D.bl (decide ((0:Int)<=i)))=_;rw[MK J]
   refine(Jr rfl rfl U).trans ?_;simp only[bW,MK J,OH];rfl
 |feed=>cases h
 |scr _=>cases h
 |fn _=>cases h
 |exc _ _=>cases h
 |_=>exact pw (u7 rfl e)
def P8 (A:vT_) (d:D) (B:vT_):Bool:=bW A.length d&&match d with
 |.int i=>N0 A i.toNat B
 |_=>false
def N8 (A B:vT_):D->Bool
 |.tup [x,y]=>if B1 x "one" = true then P8 A y B else if B1 x "other" = true then P8 B y A else false
 |_=>false
def qq {A B:vT_}(hA:ShC A) (hB:ShC B) {a b c:DE}{s:DS}{d:D}(h:thing d=true) (Y:a s=some (c7 A,s)) (U:b s=some (d,s)) (ec:c s=some (c7 B,s)) (fs:s.fs=s.fs:=rfl):v7 (d7 gN (a7 a (a7 b b9))) (d7 V7 (a7 a (a7 b (a7 c b9)))) s=some (.bl (P8 A d B),s):=by
 have J:=Kc (A:=A) h s.fs;by_cases q:bW A.length d=true
 .obtain⟨i,rfl,Z⟩:=Cd q;rw[q] at J;have e2:=tG s.fs hA.ps hB.ps #[] Z (by have:=hA.hi;omega);refine(lH (u7 (A3 Y (A3 U rfl)) J) (u7 (A3 Y (A3 U (A3 ec rfl))) e2)).trans ?_;simp only[P8,q,Ov,Nz]
 .rw[Nl] at q;rw[q] at J;refine(pw (u7 (A3 Y (A3 U rfl)) J)).trans ?_;simp only[P8,q,OH]
def W6:D->Bool
 |.tup [_,_]=>true
 |_=>false
def dS (h:W6 d=true):∃x y,d = .tup [x,y]:=by
 cases d with
 |tup ds=>
  match ds,h with
  |[x,y],_=>exact#[x,y,rfl]
 |_=>cases h
def qP {fs:vO_}(J:thing d=true) (Y:W6 d=false) (h:dL i #[sl,fs]=some (d,#[sl,fs])):u4 (t9 (o6 (k6 (F7 "tuple") (dL i)))) (dB (a9 A2 (j6 (one j9) (a7 (dL i) b9)) (Sj 2))) #[sl,fs]=some (true,#[sl,fs]):=by
 cases d with
 |tup ds=>
  have U:A2 (.int (ds.length:Int)) (.int 2)=some (.bl true):=by
   rw[X5,MK];rfl;intro q;have:ds.length=2:=by omega
   match ds,this with
   |[x,y],_=>cases Y
  exact lP (O5 (b:=true) (K4 (cR h rfl))) (eG (M3 (A3 h rfl) rfl) rfl U)
 |feed=>cases J
 |scr _=>cases J
 |fn _=>cases J
 |exc _ _=>cases J
 |_=>exact mi (O5 (b:=false) (K4 (cR h rfl)))
def eQ {a:Str}(h:U6 a):C5 (.str a)=true:=(Ok.str (wX h)).eq #[]
def rM:U6 "one" := eI (by decide +kernel)
def ug:U6 "other" := eI (by decide +kernel)
def mC:U6 "meet" := eI (by decide +kernel)
def xg:U6 "apart" := eI (by decide +kernel)
def fU {b:Nat}(h:Th b k d) (J:b<=1900) (hk:k<=60):C5 d=true:=(Th.ok ∅ _ h).eq ∅
def DY {A:vT_}(hA:ShC A) (hB:ShC B) {b:Nat}(h:Th b k d) (hb:b<=1900) (hk:k<=60) (fs:vO_):aL [c7 A,c7 B,d] fs=some (.bl (N8 A B d),fs):=by
 have ht:=h.thing;by_cases c:W6 d=true
 .obtain⟨x,y,rfl⟩:=dS c;have Z:=Th.part h x (by simp);have hy:=Th.part h y (by simp);have q1:=eS (fU Z hb hk) Z.thing (eQ rM);have q2:=eS (fU Z hb hk) Z.thing (eQ ug);have e1:=qq hA hB (a:=dV 0) (b:=Sk 2 1) (c:=dV 1) (s:=#[[.v (c7 A),.v (c7 B),.v (.tup [x,y])],fs]) hy.thing rfl (f9 rfl rfl rfl) rfl;have e2:=qq hB hA (a:=dV 1) (b:=Sk 2 1) (c:=dV 0) (s:=#[[.v (c7 A),.v (c7 B),.v (.tup [x,y])],fs]) hy.thing rfl (f9 rfl rfl rfl) rfl;have v:N8 A B (.tup [x,y])=if B1 x "one" = true then P8 A y B else if B1 x "other" = true then P8 B y A else false:=rfl
  generalize N8 A B (.tup [x,y])=z at *;generalize c7 A=X at *;generalize c7 B=Y at *;refine v5 (s:=#[[.v X,.v Y,.v (.tup [x,y])],fs]) ?_;show fA V7 gN #[[.v X,.v Y,.v (.tup [x,y])],fs]=_;unfold fA;refine u9 (E9 (qJ rfl)) ?_;by_cases U:B1 x "one" = true
  .rw[U] at q1;rw[v,iO U];exact K8 ((G1 (D4 (f9 (f9 rfl rfl rfl) rfl q1))).trans (w4 e1))
  .rw[v,iR U];rw[Nl] at U;rw[U] at q1;refine u9 (E9 (D4 (f9 (f9 rfl rfl rfl) rfl q1))) ?_;by_cases J:B1 x "other" = true
   .rw[J] at q2;rw[iO J];exact K8 ((G1 (D4 (f9 (f9 rfl rfl rfl) rfl q2))).trans (w4 e2))
   .rw[iR J];rw[Nl] at J;rw[J] at q2;exact u9 (E9 (D4 (f9 (f9 rfl rfl rfl) rfl q2))) (w4 rfl)
 .rw[Nl] at c;have v:N8 A B d=false:=by
   cases d with
   |tup ds=>
    match ds,c with
    |[],_=>rfl
    |[_],_=>rfl
    |_::_::_::_,_=>rfl
   |_=>rfl
  rw[v];generalize c7 A=X at *;generalize c7 B=Y at *;refine v5 (s:=#[[.v X,.v Y,.v d],fs]) ?_;show fA V7 gN #[[.v X,.v Y,.v d],fs]=_;unfold fA;exact K8 ((G1 (qP ht c rfl)).trans (w4 rfl))
def CT (a b p:Pt):0<=K7 a b p↔l7 (a8 a b p) ≠ -1:=by
 have e:=LX a b p;rw[<-e];unfold X0;constructor
 .intro h;rcases Int.lt_or_eq_of_le h with q | q
  .rw[iO q];decide
  .rw[iR ∅,iR ∅];decide
 .intro h;rcases Qy (K7 a b p) 0 with q | q
  .rw[iR ∅,iO q] at h;exact absurd rfl h
  .exact q
def LP {b:Nat}(h:Th b k d) (J:G8 d=true):∃p,d=pt p/\Ps b p:=by
 have:=JU (ds:=[d]) (fun x U=>by rw[Mq.mp U];exact h) (by simp[J]) (S9 d) (by simp);exact#[_,qV J,this]
def kU {n:Nat}{b:DM}{fs:vO_}{s:DS}(h:b #[ds.map .v++List.replicate (n - ds.length) .no,fs]=some (.ret d,s)):Z6 n b ds fs=some (.inl d,s.fs):=by simp[Z6,h]
def ek {n:Nat}{b:DM}{es:vD_}{fs:vO_}{s:DS}(h:b #[ds.map .v++List.replicate (n - ds.length) .no,fs]=some (.thr c es,s)):Z6 n b ds fs=some (.inr (c,es),s.fs):=by simp[Z6,h]
def wQ {t:DA}{s:DS}(h:t s=some (ds,s1)):X6 c t s=some (.thr c ds,s1):=by simp[X6,h]
def bE {a b:DM}{s:DS}(h:a s=some (.thr c ds,s1)):d6 a b s=some (.thr c ds,s1):=by simp[d6,h,w5]
def mN {m:J8}{s:DS}{xs:vD_}{fs:vO_}{r:Rx}(h1:f s=some (xs,#[sl,fs])) (h2:m xs fs=some (r,fs')):bT m f s=some (r,#[sl,fs']):=by simp[bT,h1,h2]
def dE {c:DT}{w:Str}{t:DA}{b:DM}{s:DS}(h:c s=some (true,s1)) (k:t s1=some (ds,s2)):j7 c (X6 w t) b s=some (.thr w ds,s2):=(G1 h).trans (wQ k)
def uM {t:D->DS->Option DS}{b:DM}{es:vD_}{r:vD_}{s:DS}(h1:t d s=some s1) (h2:b s1=some (.thr c es,s2)):A9 t b (d::r) s=some (.thr c es,s2):=by simp[A9,h1,h2]
def aX (w:Str) (k:Nat):Fl:=.thr "NoPaper" [.str w,.int (k:Int)]
def V2 (Os:List (List Pt)) (A:vT_):D->Option Str
 |.tup ds=>if ds.length=Os.length then if (List.zipWith (N8 A) Os ds).all id=true then none else some "pair" else some "rows"
 |_=>some "rows"
def jW (Os:List (List Pt)) (A:vT_) (ds:vD_):V2 Os A (.tup ds)=if ds.length=Os.length then if (List.zipWith (N8 A) Os ds).all id=true then (none:Option Str) else some (("pair" : Str)) else some (("rows" : Str)):=rfl
def T2 (Os:List (List Pt)):List (List Pt)->List D->Nat->Option (Str × Nat)
 |A::Ss,r::rs,k=>match V2 Os A r with
  |some w=>some (w,k)
  |none=>T2 Os Ss rs (k+1)
 |_,_,_=>none
def qi:Option (Str × Nat)->Fl
 |none=>.next
 |some (w,k)=>aX w k
theorem vm {A:vT_}(hA:ShC A) {b:Nat}(hb:b<=1900) (hj:j<=60) (U x1 x2 J:Sl) (fs:vO_) (Z:∀x1 x2 J x5 x6:Sl,a9 d9 (dL 0) (dL 3) #[[U,x1,x2,.v (.int (k:Int)),J,x5,x6],fs]=some (c7 A,#[[U,x1,x2,.v (.int (k:Int)),J,x5,x6],fs])):∀(Os:List (List Pt)) (ds:vD_) (x5 x6:Sl),(∀B∈Os,ShC B)->(∀d∈ds,Th b j d) ->
  ∃y5 y6,A9 (p9 2 (l8 (d8 5) (l8 (d8 6) t6))) (uY aL) (List.zipWith S4 ds (Os.map c7)) #[[U,x1,x2,.v (.int (k:Int)),J,x5,x6],fs]=some (if (List.zipWith (N8 A) Os ds).all id=true then .next else aX "pair" k,#[[U,x1,x2,.v (.int (k:Int)),J,y5,y6],fs])
 |[],ds,x5,x6,_,_=>#[x5,x6,by cases ds <;> rfl]
 |_::_,[],x5,x6,_,_=>#[x5,x6,rfl]
 |B::r,d::ds,x5,x6,h,hd=>by
  have hB:=h B (Mi ..);have e:=DY hA hB (hd d (Mi ..)) hb hj fs;obtain⟨y5,y6,f⟩:=vm hA hb hj U x1 x2 J fs Z r ds (.v d) (.v (c7 B)) (fun z Y=>h z (Mf _ Y)) fun z Y=>hd z (Mf _ Y)
  rw[Mo,OU,OU,Oy];by_cases c:N8 A B d=true
  .refine#[y5,y6,?_];rw[c] at e;rw[c];exact(Q1 (s1:=#[[U,x1,x2,.v (.int (k:Int)),J,.v d,.v (c7 B)],fs]) rfl (E9 (O5 (b:=true) (K4 (u7 (A3 (Z ..) rfl) e))))).trans f
  .rw[Nl] at c;rw[c] at e;rw[c];refine#[.v d,.v (c7 B),?_];exact uM (s1:=#[[U,x1,x2,.v (.int (k:Int)),J,.v d,.v (c7 B)],fs]) rfl ((G1 (O5 (b:=false) (K4 (u7 (A3 (Z ..) rfl) e)))).trans (wQ rfl))
def Js {t:D->DS->Option DS}{b:DM}{s:DS}{xs ys:vD_}(h:f s=some ([.tup xs,.tup ys],s1)):fg f t b s=A9 t b (List.zipWith S4 xs ys) s1:=by
 unfold fg;rw[h];rfl
def El {A:vT_}(hA:ShC A) {b:Nat}(hb:b<=1900) (hj:j<=60) (hO:∀B∈Os,ShC B) {X R r:D}(fs:vO_) (hr:Th b j r) (ix:d9 X (.int (k:Int))=some (c7 A)) (U Y:Sl) :
  ∃y5 y6,jw aL #[[.v X,.v (.tup (Os.map c7)),.v R,.v (.int (k:Int)),.v r,U,Y],fs]=some ((match V2 Os A r with | some w=>aX w k | none=>.next),#[[.v X,.v (.tup (Os.map c7)),.v R,.v (.int (k:Int)),.v r,y5,y6],fs]):=by
 have J:=hr.thing;have lo:one j9 [.tup (Os.map c7)]=some (.int (Os.length:Int)):=eR (by rw[Mj]);cases r with
 |tup ds=>
  obtain⟨y5,y6,f⟩:=vm hA hb hj (.v X) (.v (.tup (Os.map c7))) (.v R) (.v (.tup ds)) (k:=k) fs (fun _ _ _ _ _=>f9 rfl rfl ix) Os ds U Y hO fun d hd=>Th.part hr d hd
  by_cases c:ds.length=Os.length
  .have Z:one j9 [.tup ds]=some (.int (Os.length:Int)):=eR c;refine#[y5,y6,?_];have v:(match V2 Os A (.tup ds) with | some w=>aX w k | none=>.next)=if (List.zipWith (N8 A) Os ds).all id=true then .next else aX "pair" k:=by
    rw[jW,iO c];by_cases q:(List.zipWith (N8 A) Os ds).all id=true
    .rw[iO q,iO q]
    .rw[iR q,iR q]
   rw[v];exact u9 (E9 (kg (O5 (b:=true) (K4 (cR rfl rfl))) (eG (M3 rfl Z) (M3 rfl lo) (qU _)))) ((Js rfl).trans f)
  .have Z:one j9 [.tup ds]=some (.int (ds.length:Int)):=eR rfl;have ne:A2 (.int (ds.length:Int)) (.int (Os.length:Int))=some (.bl true):=by
    rw[X5,MK ∅];rfl
   refine#[U,Y,?_];have v:(match V2 Os A (.tup ds) with | some w=>aX w k | none=>.next)=aX "rows" k:=by
    rw[jW,iR c]
   rw[v];exact bE (dE (lP (O5 (b:=true) (K4 (cR rfl rfl))) (eG (M3 rfl Z) (M3 rfl lo) ne)) rfl)
 |feed=>cases J
 |scr _=>cases J
 |fn _=>cases J
 |exc _ _=>cases J
 |_=>exact#[U,Y,bE (dE (mi (O5 (b:=false) (K4 (cR rfl rfl)))) rfl)]
theorem xX {b q:Nat}(Z:b<=1900) (U:q<=60) (Y:∀B∈Os,ShC B) {X R:D}(fs:vO_):∀(Ss:List (List Pt)) (rs:vD_) (j:Nat) (x3 x4 x5 x6:Sl),(∀A∈Ss,ShC A)->(∀r∈rs,Th b q r)->(∀i A,Ss[i]? = some A->d9 X (.int ((j+i:Nat):Int))=some (c7 A))->rs.length=Ss.length ->
  ∃y3 y4 y5 y6,A9 (p9 2 (l8 (d8 3) (l8 (d8 4) t6))) (jw aL) ((rs.zipIdx j).map fun p=>.tup [.int (p.2:Int),p.1]) #[[.v X,.v (.tup (Os.map c7)),.v R,x3,x4,x5,x6],fs]=some (qi (T2 Os Ss rs j),#[[.v X,.v (.tup (Os.map c7)),.v R,y3,y4,y5,y6],fs])
 |[],[],j,x3,x4,x5,x6,_,_,_,_=>#[x3,x4,x5,x6,rfl]
 |A::Ss,r::rs,j,x3,x4,x5,x6,hS,hr,hi,hl=>by
  obtain⟨y5,y6,e⟩:=El (hS A (Mi ..)) Z U Y (X:=X) (R:=R) fs (hr r (Mi ..)) (hi 0 A rfl) x5 x6;rw[QW,Mo];unfold T2;cases w:V2 Os A r with
  |some w'=>
   rw[w] at e;exact#[_,_,y5,y6,uM (s1:=#[[.v X,.v (.tup (Os.map c7)),.v R,.v (.int (j:Int)),.v r,x5,x6],fs]) rfl e]
  |none=>
   rw[w] at e;obtain⟨z3,z4,z5,z6,f⟩:=xX Z U Y (X:=X) (R:=R) fs Ss rs (j+1) (.v (.int (j:Int))) (.v r) y5 y6 (fun z J=>hS z (Mf _ J)) (fun z J=>hr z (Mf _ J)) (fun i B hB=>by
    have:=hi (i+1) B (by rw[QT];exact hB);rw[show j+1+i=j+(i+1) by omega];exact this) (by simpa using hl)
   exact#[z3,z4,z5,z6,(Q1 (s1:=#[[.v X,.v (.tup (Os.map c7)),.v R,.v (.int (j:Int)),.v r,x5,x6],fs]) rfl e).trans f]
def eN:Option (Str × Nat)->Rx
 |none=>.inl (.bl true)
 |some (w,k)=>.inr ("NoPaper",[.str w,.int (k:Int)])
def cK (Ss Os:List (List Pt)) (rs:vD_):Option (Str × Nat):=if rs.length=Ss.length then T2 Os Ss rs 0 else some ("rows",0)
abbrev fO:J8:=wz aL
def Ib (hS:∀A∈Ss,ShC A) (hO:∀B∈Os,ShC B) {b q:Nat}(hb:b<=1900) (hq:q<=60) {rs:vD_}(hr:∀r∈rs,Th b q r) (fs:vO_):fO [.tup (Ss.map c7),.tup (Os.map c7),.tup rs] fs=some (eN (cK Ss Os rs),fs):=by
 have ls:one j9 [.tup (Ss.map c7)]=some (.int (Ss.length:Int)):=eR (by rw[Mj]);have U:one j9 [.tup rs]=some (.int (rs.length:Int)):=eR rfl;by_cases c:rs.length=Ss.length
 .have v:cK Ss Os rs=T2 Os Ss rs 0:=by unfold cK;rw[iO c]
  rw[v];obtain⟨Z,y4,Y,J,e⟩:=xX hb hq hO (X:=.tup (Ss.map c7)) (R:=.tup rs) fs Ss rs 0 .no .no .no .no hS hr (fun i A hA=>by
   rw[PF];exact(C4 _ _).trans (jZ (by rw[Nq,hA];rfl))) c
  rw[c] at U;have s1:∀r:DM,d6 (j7 (dB (a9 A2 (j6 (one j9) (a7 (dL 2) b9)) (j6 (one j9) (a7 (dL 0) b9)))) (X6 "NoPaper" (a7 (dC (.str "rows")) (a7 (Sj 0) b9))) j8) r #[[.v (.tup (Ss.map c7)),.v (.tup (Os.map c7)),.v (.tup rs),.no,.no,.no,.no],fs]=r #[[.v (.tup (Ss.map c7)),.v (.tup (Os.map c7)),.v (.tup rs),.no,.no,.no,.no],fs]:=fun r=>u9 (E9 (eG (M3 rfl U) (M3 rfl ls) (qU _))) rfl
  have f:dQ (a7 (dV 2) b9) (p9 2 (l8 (d8 3) (l8 (d8 4) t6))) (jw aL) #[[.v (.tup (Ss.map c7)),.v (.tup (Os.map c7)),.v (.tup rs),.no,.no,.no,.no],fs]=some (qi (T2 Os Ss rs 0),#[[.v (.tup (Ss.map c7)),.v (.tup (Os.map c7)),.v (.tup rs),Z,y4,Y,J],fs]):=(IY rfl).trans e;cases w:T2 Os Ss rs 0 with
  |none=>
   rw[w] at f;refine kU (s:=#[[.v (.tup (Ss.map c7)),.v (.tup (Os.map c7)),.v (.tup rs),Z,y4,Y,J],fs]) ?_;show cz aL #[[.v (.tup (Ss.map c7)),.v (.tup (Os.map c7)),.v (.tup rs),.no,.no,.no,.no],fs]=_;unfold cz;rw[s1];exact u9 f (w4 rfl)
  |some wk=>
   rw[w] at f;refine ek (s:=#[[.v (.tup (Ss.map c7)),.v (.tup (Os.map c7)),.v (.tup rs),Z,y4,Y,J],fs]) ?_;show cz aL #[[.v (.tup (Ss.map c7)),.v (.tup (Os.map c7)),.v (.tup rs),.no,.no,.no,.no],fs]=_;unfold cz;rw[s1];exact bE f
 .have v:cK Ss Os rs=some (("rows" : Str),0):=by unfold cK;rw[iR c]
  rw[v];have ne:A2 (.int (rs.length:Int)) (.int (Ss.length:Int))=some (.bl true):=by
   rw[X5,MK ∅];rfl
  refine ek (s:=#[[.v (.tup (Ss.map c7)),.v (.tup (Os.map c7)),.v (.tup rs),.no,.no,.no,.no],fs]) ?_;show cz aL #[[.v (.tup (Ss.map c7)),.v (.tup (Os.map c7)),.v (.tup rs),.no,.no,.no,.no],fs]=_;unfold cz;exact bE (dE (eG (M3 rfl U) (M3 rfl ls) ne) rfl)
def ag (Ss Os:List (List Pt)) (p:Pt):Option (Str × Nat):=if (Ss.any (N6 · p)&&Os.any (N6 · p))=true then none else some ("place",0)
abbrev gI:J8:=zd fM
def Io (hS:∀A∈Ss,ShC A) (hO:∀B∈Os,ShC B) (J:70<=k) (hk:k<=400) (hp:Ps k p) (fs:vO_):gI [.tup (Ss.map c7),.tup (Os.map c7),pt p] fs=some (eN (ag Ss Os p),fs):=by
 have g:∀{Ss:List (List Pt)},(∀A∈Ss,ShC A)->∀A∈Ss,A.length<=1000/\∀z∈A,Ps k z:=fun h A hA=>#[by have:=(h A hA).hi;omega,fun z hz=>((h A hA).ps z hz).mono J]
 have U:=yP fs hp (g hS) ∅;have Z:=yP fs hp (g hO) ∅;unfold ag;generalize D.tup (Ss.map c7)=X at *;generalize D.tup (Os.map c7)=Y at *;generalize Ss.any (N6 · p)=u at *;generalize Os.any (N6 · p)=v at *;cases u with
 |false=>
  refine ek (s:=#[[.v X,.v Y,.v (pt p)],fs]) ?_;show cD fM #[[.v X,.v Y,.v (pt p)],fs]=_;unfold cD;exact bE (dE (mi (O5 (b:=false) (K4 (u7 rfl U)))) rfl)
 |true=>
  cases v with
  |false=>
   refine ek (s:=#[[.v X,.v Y,.v (pt p)],fs]) ?_;show cD fM #[[.v X,.v Y,.v (pt p)],fs]=_;unfold cD;exact bE (dE (lP (O5 (b:=true) (K4 (u7 rfl U))) (O5 (b:=false) (K4 (u7 rfl Z)))) rfl)
  |true=>
   refine kU (s:=#[[.v X,.v Y,.v (pt p)],fs]) ?_;show cD fM #[[.v X,.v Y,.v (pt p)],fs]=_;unfold cD;exact u9 (E9 (kg (O5 (b:=true) (K4 (u7 rfl U))) (O5 (b:=true) (K4 (u7 rfl Z))))) (w4 rfl)
def fF:D->Bool
 |.tup _=>true
 |_=>false
def Hz (h:thing y=true):F7 "tuple" y=some (.bl (fF y)):=by
 cases y with
 |feed=>cases h
 |scr _=>cases h
 |fn _=>cases h
 |exc _ _=>cases h
 |_=>rfl
def cM:D->Bool
 |.tup [x,y]=>if B1 x "meet" = true then G8 y else (B1 x "apart" && fF y)
 |_=>false
def mz (c:W6 d=false):cM d=false:=by
 cases d with
 |tup ds=>
  match ds,c with
  |[],_=>rfl
  |[_],_=>rfl
  |_::_::_::_,_=>rfl
 |_=>rfl
def Hw {x:D}(h:bk (.tup [x,y])<=m):bk x<=m/\bk y<=m:=by
 rw[T5,M8,M8,aU] at h;omega
def Bh {b:Nat}(h:Th b k d) (hb:b<=1900) (hk:k<=60) (hs:bk d<=1000000) (fs:vO_):gP [d] fs=some (.bl (cM d),fs):=by
 have ht:=h.thing;by_cases c:W6 d=true
 .obtain⟨x,y,rfl⟩:=dS c;have Y:=Th.part h x (by simp);have hy:=Th.part h y (by simp);have Z:=eS (fU Y hb hk) Y.thing (eQ mC);have q2:=eS (fU Y hb hk) Y.thing (eQ xg);have e:=JX y fs hy (Hw hs).2;have t:=Hz hy.thing;have v:cM (.tup [x,y])=if B1 x "meet" = true then G8 y else (B1 x "apart" && fF y):=rfl
  rw[v];refine v5 (s:=#[[.v (.tup [x,y])],fs]) ?_;show fJ jm #[[.v (.tup [x,y])],fs]=_;unfold fJ;refine u9 (E9 (qJ rfl)) ?_;by_cases U:B1 x "meet" = true
  .rw[U] at Z;rw[iO U];exact K8 ((G1 (D4 (f9 (f9 rfl rfl rfl) rfl Z))).trans (w4 (u7 (A3 (f9 rfl rfl rfl) rfl) e)))
  .rw[iR U];rw[Nl] at U;rw[U] at Z;refine u9 (E9 (D4 (f9 (f9 rfl rfl rfl) rfl Z))) (w4 ?_);by_cases J:B1 x "apart" = true
   .rw[J] at q2;rw[J,Ov];exact lH (f9 (f9 rfl rfl rfl) rfl q2) (cR (f9 rfl rfl rfl) t)
   .rw[Nl] at J;rw[J] at q2;rw[J,OH];exact pw (f9 (f9 rfl rfl rfl) rfl q2)
 .rw[Nl] at c;rw[mz c];refine v5 (s:=#[[.v d],fs]) ?_;show fJ jm #[[.v d],fs]=_;unfold fJ;exact K8 ((G1 (qP ht c rfl)).trans (w4 rfl))
def gL (Ss Os:List (List Pt)):D->Option (Str × Nat)
 |.tup rs=>cK Ss Os rs
 |_=>some ("shape",0)
def cZ (Ss Os:List (List Pt)):D->Option (Str × Nat)
 |.tup [x,y]=>if B1 x "meet" = true then (if G8 y=true then ag Ss Os (S9 y) else some ("shape",0)) else if B1 x "apart" = true then gL Ss Os y else some ("shape",0)
 |_=>some ("shape",0)
def yj (c:cM d=false):cZ Ss Os d=some (("shape" : Str),0):=by
 by_cases t:W6 d=true
 .obtain⟨x,y,rfl⟩:=dS t;have v:cM (.tup [x,y])=if B1 x "meet" = true then G8 y else (B1 x "apart" && fF y):=rfl
  rw[v] at c;show (if B1 x "meet" = true then (if G8 y=true then ag Ss Os (S9 y) else some (("shape" : Str),0)) else if B1 x "apart" = true then gL Ss Os y else some (("shape" : Str),0))=_;by_cases U:B1 x "meet" = true
  .rw[iO U] at c ⊢;rw[c,iR Mk]
  .rw[iR U] at c ⊢;by_cases J:B1 x "apart" = true
   .rw[iO J];rw[J,Ov] at c;cases y with
    |tup Y=>cases c
    |_=>rfl
   .rw[iR J]
 .rw[Nl] at t;cases d with
  |tup ds=>
   match ds,t with
   |[],_=>rfl
   |[_],_=>rfl
   |_::_::_::_,_=>rfl
  |_=>rfl
def iD:Option (Str × Nat)->Fl
 |none=>.ret (.bl true)
 |some (w,k)=>aX w k
abbrev jc:J8:=wD fO gI gP
def xn {m:J8}{t:DA}{fs:vO_}{s:DS}{xs:vD_}{o:Option (Str × Nat)}(h1:t s=some (xs,#[sl,fs])) (h2:m xs fs=some (eN o,fs')):eP (bT m t) s=some (iD o,#[sl,fs']):=by
 unfold eP;rw[mN h1 h2];cases o with
 |none=>rfl
 |some J=>rfl
def qC {n:Nat}{b:DM}{fs:vO_}{o:Option (Str × Nat)}{s:DS}(h:b #[ds.map .v++List.replicate (n - ds.length) .no,fs]=some (iD o,s)):Z6 n b ds fs=some (eN o,s.fs):=by
 cases o with
 |none=>exact kU h
 |some J=>exact ek h
def zM {a c:DM}{s:DS}{o:Option (Str × Nat)}(h:a s=some (iD o,s1)):d6 a c s=some (iD o,s1):=by
 cases o with
 |none=>exact K8 h
 |some J=>exact bE h
def Gj (hS:∀A∈Ss,ShC A) (hO:∀B∈Os,ShC B) {b:Nat}(h:Th b k d) (h70:70<=b) (hb:b<=400) (hk:k<=60) (hs:bk d<=1000000) (fs:vO_):jc [.tup (Ss.map c7),.tup (Os.map c7),d] fs=some (eN (cZ Ss Os d),fs):=by
 have J:=Bh h ∅ hk hs fs;by_cases c:cM d=true
 .rw[c] at J;have t2:W6 d=true:=by
   by_cases t:W6 d=true
   .exact t
   .rw[Nl] at t;rw[mz t] at c;cases c
  obtain⟨x,y,rfl⟩:=dS t2;have hx:=Th.part h x (by simp);have hy:=Th.part h y (by simp);have q1:=eS (fU hx ∅ hk) hx.thing (eQ mC);have v:cM (.tup [x,y])=if B1 x "meet" = true then G8 y else (B1 x "apart" && fF y):=rfl
  rw[v] at c;have tv:cZ Ss Os (.tup [x,y])=(if B1 x "meet" = true then (if G8 y=true then ag Ss Os (S9 y) else some (("shape" : Str),0)) else if B1 x "apart" = true then gL Ss Os y else some (("shape" : Str),0)):=rfl;rw[tv];by_cases Z:B1 x "meet" = true
  .rw[iO Z] at c ⊢;rw[iO c];rw[Z] at q1;obtain⟨p,rfl,hp⟩:=LP hy c;have ep:S9 (pt p)=p:=zk p;rw[ep];have e1:=Io hS hO h70 hb hp fs;generalize D.tup (Ss.map c7)=X at *;generalize D.tup (Os.map c7)=Y at *;refine qC (s:=#[[.v X,.v Y,.v (.tup [x,pt p])],fs]) ?_;show cG fO gI gP #[[.v X,.v Y,.v (.tup [x,pt p])],fs]=_;unfold cG;exact u9 (E9 (O5 (b:=true) (K4 (u7 rfl J)))) (zM ((G1 (D4 (f9 (f9 rfl rfl rfl) rfl q1))).trans (xn (A3 rfl (A3 rfl (A3 (f9 rfl rfl rfl) rfl))) e1)))
  .rw[iR Z] at c ⊢;have U:=Z;rw[Nl] at U;rw[U] at q1;rw[MF] at c;rw[iO c.1];cases y with
   |tup rs=>
    have e1:=Ib hS hO (b:=b) (q:=k) ∅ hk (fun r hr=>Th.part hy r hr) fs (rs:=rs);show _=some (eN (cK Ss Os rs),fs);generalize D.tup (Ss.map c7)=X at *;generalize D.tup (Os.map c7)=Y at *;refine qC (s:=#[[.v X,.v Y,.v (.tup [x,.tup rs])],fs]) ?_;show cG fO gI gP #[[.v X,.v Y,.v (.tup [x,.tup rs])],fs]=_;unfold cG;exact u9 (E9 (O5 (b:=true) (K4 (u7 rfl J)))) (u9 (E9 (D4 (f9 (f9 rfl rfl rfl) rfl q1))) (xn (A3 rfl (A3 rfl (A3 (f9 rfl rfl rfl) rfl))) e1))
   |_=>exact absurd c.2 Mk
 .rw[Nl] at c;rw[c] at J;rw[yj c];generalize D.tup (Ss.map c7)=X at *;generalize D.tup (Os.map c7)=Y at *;refine ek (s:=#[[.v X,.v Y,.v d],fs]) ?_;show cG fO gI gP #[[.v X,.v Y,.v d],fs]=_;unfold cG;exact bE (dE (O5 (b:=false) (K4 (u7 rfl J))) rfl)
def iB (A:vT_) (p:Pt):Prop:=∀k,0<=a8 (tk A k) (tk A (k+1)) p
theorem rD {A:vT_}(nc:bJ A) {e m:Pt}(U:e≠(0,0)) (h:∀z∈A,gv e z=gv e m):False:=by
 obtain⟨x,y,w,Z,hy,hw,n⟩:=nc;obtain⟨t,J⟩:=az (v:=(y.1 - x.1,y.2 - x.2)) U (by have:=h x Z;have:=h y hy;unfold gv at *;grind);obtain⟨s,Y⟩:=az (v:=(w.1 - x.1,w.2 - x.2)) U (by have:=h x Z;have:=h w hw;unfold gv at *;grind);have t1:y.1 - x.1=t*e.1:=congrArg Prod.fst J;have t2:y.2 - x.2=t*e.2:=congrArg Prod.snd J;have s1:w.1 - x.1=s*e.1:=congrArg Prod.fst Y;have s2:w.2 - x.2=s*e.2:=congrArg Prod.snd Y;refine n ?_;unfold a8;rw[t1,t2,s1,s2];grind
def qI {x y:Rat}(J:x≠0) (h:x*y=0):y=0:=by
 rcases MM.mp h with q | q
 .exact absurd q J
 .exact q
theorem uw {A:vT_}(nc:bJ A) {m e:Pt}{α β:Rat}(he:e≠(0,0)) (lf:∀z∈A,0<=gv e (z.1 - m.1,z.2 - m.2)) (mx:∀z∈A,α*z.1+β*z.2<=α*m.1+β*m.2) (hw:α*m.1+β*m.2<α*p.1+β*p.2) (J:0<=gv e (p.1 - m.1,p.2 - m.2)) (h0:α*e.1+β*e.2=0):False:=by
 refine rD nc he (m:=m) fun z hz=>?_
 have a:=lf z hz;have b:=mx z hz;unfold gv at a J ⊢;have a:0<=e.1*(z.2 - m.2) - e.2*(z.1 - m.1):=a;have J:0<=e.1*(p.2 - m.2) - e.2*(p.1 - m.1):=J;generalize hG:e.1*(z.2 - m.2) - e.2*(z.1 - m.1)=G at *;generalize hW:e.1*(p.2 - m.2) - e.2*(p.1 - m.1)=W at *;generalize U:α*(p.1 - m.1)+β*(p.2 - m.2)=F;generalize Y:α*(z.1 - m.1)+β*(z.2 - m.2)=Z;have F0:0<F:=by rw[<-U];grind
 have Z0:Z<=0:=by rw[<-Y];grind
 have k1:e.1*(F*G - Z*W)=0:=by
  rw[<-U,<-hG,<-Y,<-hW];grind
 have k2:e.2*(F*G - Z*W)=0:=by
  rw[<-U,<-hG,<-Y,<-hW];grind
 have k:F*G - Z*W=0:=by
  by_cases c:e.1=0
  .refine qI (fun q=>he (MD c q)) k2
  .exact qI c k1
 have w:=Ml (show 0 <= -Z by grind) J;have g:G=0:=by
  by_cases c:0<G
  .have:=Mn F0 c;grind
  .grind
 grind
theorem vS {A:vT_}(cv:bK A) (ne:∀k,tk A (k+1)≠tk A k) (nc:bJ A) (hp:iB A p):Ip A p:=by
 intro α β;refine OC fun hn=>?_
 have hn:∀k∈A,α*(k.1 - p.1)+β*(k.2 - p.2)<0:=fun k hk=>ND.mp fun t=>hn #[k,hk,t]
 have hA:A≠[]:=by
  obtain⟨a,_,_,ha,_⟩:=nc;exact List.ne_nil_of_mem ha
 have h0:0<A.length:=Pb.mpr hA;obtain⟨m,hm,Y⟩:=sk (fun z=>α*z.1+β*z.2) A hA;obtain⟨j,hj,ej⟩:=rR hm;obtain⟨i,hi⟩:∃i,tk A (i+1)=m:=#[j+A.length - 1,by
  rw[show j+A.length - 1+1=j+A.length by omega,<-M6,Nat.add_mod_right,M6,ej]]
 have wp:=hn m hm;have p1:=hp i;have p2:=hp (i+1);have n1:=ne i;have n2:=ne (i+1);have m1:=Y _ (X7 i h0);have m2:=Y _ (X7 (i+1+1) h0);have l1:=fun z J=>cv i z J
 have l2:=fun z J=>cv (i+1) z J
 have l3:=l1 _ (X7 (i+1+1) h0);rw[hi] at p1 p2 n1 n2 l1 l2 l3;generalize tk A i=a at *;generalize tk A (i+1+1)=b at *;have Y:∀z∈A,α*z.1+β*z.2<=α*m.1+β*m.2:=Y;have m1:α*a.1+β*a.2<=α*m.1+β*m.2:=m1;have m2:α*b.1+β*b.2<=α*m.1+β*m.2:=m2;have u0:((m.1 - a.1,m.2 - a.2):Pt)≠(0,0):=fun q=>n1 (MD (by have:m.1 - a.1=0:=congrArg Prod.fst q;grind) (by have:m.2 - a.2=0:=congrArg Prod.snd q;grind))
 have v0:((b.1 - m.1,b.2 - m.2):Pt)≠(0,0):=fun q=>n2 (MD (by have:b.1 - m.1=0:=congrArg Prod.fst q;grind) (by have:b.2 - m.2=0:=congrArg Prod.snd q;grind))
 have lu:∀z:Pt,a8 a m z=gv (m.1 - a.1,m.2 - a.2) (z.1 - m.1,z.2 - m.2):=fun z=>by unfold a8 gv;grind
 have lv:∀z:Pt,a8 m b z=gv (b.1 - m.1,b.2 - m.2) (z.1 - m.1,z.2 - m.2):=fun z=>by unfold a8 gv;grind
 have U:=uw nc (p:=p) (α:=α) (β:=β) u0 (fun z J=>by rw[<-lu];exact l1 z J) Y (by grind) (by rw[<-lu];exact p1);have V:=uw nc (p:=p) (α:=α) (β:=β) v0 (fun z J=>by rw[<-lv];exact l2 z J) Y (by grind) (by rw[<-lv];exact p2);have U:0<α*(m.1 - a.1)+β*(m.2 - a.2):=by
  by_cases c:α*(m.1 - a.1)+β*(m.2 - a.2)=0
  .exact(U c).elim
  .grind
 have V:α*(b.1 - m.1)+β*(b.2 - m.2)<0:=by
  by_cases c:α*(b.1 - m.1)+β*(b.2 - m.2)=0
  .exact(V c).elim
  .grind
 have W:0<α*(p.1 - m.1)+β*(p.2 - m.2):=by grind
 have key:a8 a m b*(α*(p.1 - m.1)+β*(p.2 - m.2))+a8 m b p*(α*(m.1 - a.1)+β*(m.2 - a.2)) - a8 a m p*(α*(b.1 - m.1)+β*(b.2 - m.2))=0:=by
  unfold a8;grind
 have k1:=Ml l3 (MS W);have k2:=Ml p2 (MS U);have k3:=Ml p1 (show 0 <= -(α*(b.1 - m.1)+β*(b.2 - m.2)) by grind);have z2:a8 m b p*(α*(m.1 - a.1)+β*(m.2 - a.2))=0:=by grind
 have z3:a8 a m p*(α*(b.1 - m.1)+β*(b.2 - m.2))=0:=by grind
 have q2:a8 m b p=0:=by
  rcases MM.mp z2 with q | q
  .exact q
  .grind
 have q3:a8 a m p=0:=by
  rcases MM.mp z3 with q | q
  .exact q
  .grind
 refine rD nc u0 (m:=m) fun z J=>?_
 have e1:a8 a m z*(α*(p.1 - m.1)+β*(p.2 - m.2)) - a8 m p z*(α*(m.1 - a.1)+β*(m.2 - a.2))=a8 a m p*(α*(z.1 - m.1)+β*(z.2 - m.2)):=by
  unfold a8;grind
 have e2:a8 m b z*(α*(p.1 - m.1)+β*(p.2 - m.2)) - a8 m p z*(α*(b.1 - m.1)+β*(b.2 - m.2))=a8 m b p*(α*(z.1 - m.1)+β*(z.2 - m.2)):=by
  unfold a8;grind
 rw[q3,Nw] at e1;rw[q2,Nw] at e2;have f1:=Ml (l1 z J) (MS W);have f2:=Ml (l2 z J) (MS W);have g0:a8 m p z=0:=by
  by_cases c:0<a8 m p z
  .have:=Mn c (show 0 < -(α*(b.1 - m.1)+β*(b.2 - m.2)) by grind);grind
  .by_cases c':a8 m p z<0
   .have:=Mn (show 0 < -a8 m p z by grind) U;grind
   .grind
 rw[g0,Nw] at e1;have Z:a8 a m z=0:=by
  rcases MM.mp (show a8 a m z*(α*(p.1 - m.1)+β*(p.2 - m.2))=0 by grind) with q | q
  .exact q
  .grind
 rw[lu] at Z;unfold gv at Z ⊢;have Z:(m.1 - a.1)*(z.2 - m.2) - (m.2 - a.2)*(z.1 - m.1)=0:=Z;show (m.1 - a.1)*z.2 - (m.2 - a.2)*z.1=(m.1 - a.1)*m.2 - (m.2 - a.2)*m.1;grind
def Mt (A B:vT_):Prop:=∃p,iB A p/\iB B p
theorem uI:∀(es:List (Pt × Pt)) (A:vT_),
  (∀u v,(∀k∈A,0<=a8 u v k)->∀k∈L8 A es,0<=a8 u v k)/\∀e∈es,∀k∈L8 A es,0<=a8 e.1 e.2 k
 |[],A=>#[fun u v h=>h,fun e U=>(Mx U).elim]
 |e::r,A=>by
  obtain⟨b,c⟩:=uI r (A7 e.1 e.2 (i9 true A));refine#[fun u v q=>b u v (ir q),fun z J=>?_];rcases xo.mp J with rfl | J
  .exact b _ _ mO
  .exact c z J
section
variable {A:vT_}(hA:ShC A) (hB:ShC B)
include hA hB
theorem KS:Mt A B↔L8 A (i9 true B)≠[]:=by
 have b0:0<B.length:=by have:=hB.lo;omega
 constructor
 .rintro⟨p,h1,h2⟩ q;obtain⟨k,r,e,_⟩:=vW hA.cv (Pb.mp b0) hB.ne (vS hA.cv hA.ne hA.nc h1) h2;rw[q] at e;cases e
 .intro h;obtain⟨k,hk⟩:=Sd _ h;obtain⟨b,c⟩:=uI (i9 true B) A;exact#[k,fun i=>b _ _ (fun z J=>hA.cv i z J) k hk,fun i=>c (tk B i,tk B (i+1)) ((cj b0 _).mpr #[i,rfl]) k hk]
theorem vY (h:N0 A i B=true):¬ Mt A B:=by
 rintro⟨p,h1,h2⟩;have I:=vS hB.cv hB.ne hB.nc h2;have Y:=h1 i;have J:∀z∈B,a8 (tk A i) (tk A (i+1)) z<0:=fun z J=>(X9 _).mp (Nv (Nb.mp h z J))
 generalize tk A i=u at *;generalize tk A (i+1)=v at *;obtain⟨b,U,q⟩:=I (-(v.2 - u.2)) (v.1 - u.1);have w:=J b U;unfold a8 at *;grind
end
def Mt.symm {A:vT_}(h:Mt A B):Mt B A:=by
 obtain⟨p,h1,h2⟩:=h;exact#[p,h2,h1]
def uN {A:vT_}(hA:ShC A) (h:N6 A p=true):iB A p:=fun i=>by
 have J:0<A.length:=by have:=hA.lo;omega
 have q:=Nb.mp h _ ((cj J (tk A i,tk A (i+1))).mpr #[i,rfl]);have q:(!decide (l7 (a8 (tk A i) (tk A (i+1)) p) = -1))=true:=q;rw[Bool.not_eq_true',Sh,X9] at q;exact NH.mp q
def Ho {A:vT_}(hA:ShC A) (hB:ShC B) (h:N8 A B d=true):¬ Mt A B:=by
 have J:∀{A B:vT_}{y:D},P8 A y B=true->∃i,N0 A i B=true:=fun {A B y} h=>by
  unfold P8 at h;rw[MF] at h;cases y with
  |int i=>exact#[_,h.2]
  |_=>exact(Mk h.2).elim
 have Y:W6 d=true:=by
  cases d with
  |tup ds=>
   match ds,h with
   |[],h=>exact(Mk h).elim
   |[_],h=>exact(Mk h).elim
   |[_,_],_=>rfl
   |_::_::_::_,h=>exact(Mk h).elim
  |_=>exact(Mk h).elim
 obtain⟨x,y,rfl⟩:=dS Y;have h:(if B1 x "one" = true then P8 A y B else if B1 x "other" = true then P8 B y A else false)=true:=h;by_cases c:B1 x "one" = true
 .rw[iO c] at h;obtain⟨i,q⟩:=J h;exact vY hA hB q
 .rw[iR c] at h;by_cases U:B1 x "other" = true
  .rw[iO U] at h;obtain⟨i,q⟩:=J h;exact fun w=>vY hB hA q w.symm
  .rw[iR U] at h;cases h
theorem yU {A:vT_}:∀(Os:List (List Pt)) (ds:vD_),ds.length=Os.length->(List.zipWith (N8 A) Os ds).all id=true->∀B∈Os,∃d,N8 A B d=true
 |[],_,_,_=>fun B hB=>(Mx hB).elim
 |_::_,[],h,_=>by cases h
 |B::r,d::ds,h,q=>by
  rw[OU,Oy,MF] at q;intro C J;rcases xo.mp J with rfl | J
  .exact#[d,q.1]
  .exact yU r ds (Nat.succ.inj h) q.2 C J
def Dj {A:vT_}(hA:ShC A) (U:∀B∈Os,ShC B) {r:D}(h:V2 Os A r=none):∀B∈Os,¬ Mt A B:=fun B hB=>by
 cases r with
 |tup ds=>
  rw[jW] at h;by_cases c:ds.length=Os.length
  .rw[iO c] at h;by_cases J:(List.zipWith (N8 A) Os ds).all id=true
   .obtain⟨d,q⟩:=yU Os ds c J B hB;exact Ho hA (U B hB) q
   .rw[iR J] at h;cases h
  .rw[iR c] at h;cases h
 |_=>cases h
theorem wq (U:∀B∈Os,ShC B):∀(Ss:List (List Pt)) (rs:vD_) (k:Nat),(∀A∈Ss,ShC A)->rs.length=Ss.length->T2 Os Ss rs k=none->∀A∈Ss,∀B∈Os,¬ Mt A B
 |[],_,_,_,_,_=>fun A hA=>(Mx hA).elim
 |_::_,[],_,_,h,_=>by cases h
 |A::Ss,r::rs,k,hS,h,q=>by
  have q:(match V2 Os A r with | some w=>some (w,k) | none=>T2 Os Ss rs (k+1))=none:=q;cases c:V2 Os A r with
  |some w=>rw[c] at q;cases q
  |none=>
   rw[c] at q;intro C J;rcases xo.mp J with rfl | J
   .exact Dj (hS _ (Mi ..)) U c
   .exact wq U Ss rs (k+1) (fun z Y=>hS z (Mf _ Y)) (Nat.succ.inj h) q C J
def eW (Ss Os:List (List Pt)):Prop:=∃A∈Ss,∃B∈Os,Mt A B
open Classical in
def F8 (Ss Os:List (List Pt)):Str:=if eW Ss Os then "meet" else "apart"
def xp (Z:∀A∈Ss,ShC A) (hO:∀B∈Os,ShC B) (h:cZ Ss Os d=none):∃y,d = .tup [.str (F8 Ss Os),y]:=by
 have sf:W6 d=true:=by
  by_cases t:W6 d=true
  .exact t
  .rw[Nl] at t;rw[yj (mz t)] at h;cases h
 obtain⟨x,y,rfl⟩:=dS sf;have h:(if B1 x "meet" = true then (if G8 y=true then ag Ss Os (S9 y) else some (("shape" : Str),0)) else if B1 x "apart" = true then gL Ss Os y else some (("shape" : Str),0))=none:=h;have es:∀{x:D}{w:Str},B1 x w=true->x = .str w:=fun {x w} q=>by
  cases x with
  |str v=>exact congrArg D.str (Nv q)
  |_=>cases q
 by_cases c:B1 x "meet" = true
 .rw[iO c] at h;by_cases U:G8 y=true
  .rw[iO U] at h;unfold ag at h;by_cases J:(Ss.any (N6 · (S9 y))&&Os.any (N6 · (S9 y)))=true
   .rw[MF,Od,Od] at J;obtain⟨⟨A,hA,a⟩,B,hB,b⟩:=J;have m:eW Ss Os:=#[A,hA,B,hB,_,uN (Z A hA) a,uN (hO B hB) b]
    refine#[y,?_];rw[es c,show F8 Ss Os = "meet" from iO m]
   .rw[iR J] at h;cases h
  .rw[iR U] at h;cases h
 .rw[iR c] at h;by_cases U:B1 x "apart" = true
  .rw[iO U] at h;cases y with
   |tup Y=>
    have h:(if Y.length=Ss.length then T2 Os Ss Y 0 else some (("rows" : Str),0))=none:=h;by_cases J:Y.length=Ss.length
    .rw[iO J] at h;have m:¬ eW Ss Os:=fun ⟨A,hA,B,hB,q⟩=>wq hO Ss Y 0 Z J h A hA B hB q
     refine#[.tup Y,?_];rw[es U,show F8 Ss Os = "apart" from iR m]
    .rw[iR J] at h;cases h
   |_=>cases h
  .rw[iR U] at h;cases h
end T
namespace T
open PySem L2 DL
abbrev IP:=Int × Int
structure Nt where
 a:Int
 b:Int
 c:Int
 d:Int
 x:Int
 y:Int
 l:Int
def G4 (n:Nt):D:=.tup [.int n.a,.int n.b,.int n.c,.int n.d,.int n.x,.int n.y,.int n.l]
structure NtOk (n:Nt):Prop where
 a:0<=n.a/\n.a<=3
 b:-4<=n.b/\n.b<=1
 c:0<=n.c/\n.c<=4
 d:0<=n.d/\n.d<=3
 x:-9<=n.x/\n.x<=9
 y:-9<=n.y/\n.y<=9
 l:1<=n.l/\n.l<=7
 det:0<n.a*n.d - n.b*n.c
def nX (n:Nt) (z:IP):Int:=n.a*z.1+n.b*z.2+n.x
def nY (n:Nt) (z:IP):Int:=n.c*z.1+n.d*z.2+n.y
def nP (n:Nt) (z:IP):Pt:=(Rat.divInt (nX n z) n.l,Rat.divInt (nY n z) n.l)
structure InU (z:IP):Prop where
 u:0<=z.1/\z.1<=27
 v:0<=z.2/\z.2<=13
def jL {p q m k:Int}(h1:-m<=p/\p<=m) (h2:0<=q/\q<=k):-(m*k)<=p*q/\p*q<=m*k:=by
 have a:=Si h1.1 h2.1;have b:=Si h1.2 h2.1;have c:=Rn h2.2 (show 0<=m by omega);rw[Int.neg_mul] at a;omega
def yg {z:IP}(h:NtOk n) (hz:InU z):(nX n z).natAbs<2 ^ 8:=by
 have h1:=jL (m:=3) (k:=27) #[by have:=h.a;omega,h.a.2] hz.u;have h2:=jL (m:=4) (k:=13) #[h.b.1,by have:=h.b;omega] hz.v;have:=h.x;unfold nX;omega
def wH {z:IP}(h:NtOk n) (hz:InU z):(nY n z).natAbs<2 ^ 8:=by
 have h1:=jL (m:=4) (k:=27) #[by have:=h.c;omega,h.c.2] hz.u;have h2:=jL (m:=3) (k:=13) #[by have:=h.d;omega,h.d.2] hz.v;have:=h.y;unfold nY;omega
def oy {x g:Int}(J:0<g) (h:x.natAbs<2 ^ k):Bd k (x.fdiv g):=by
 rw[Rv _ ∅];exact Nc (Sf x g) h
def KO {z:IP}(h:NtOk n) (hz:InU z):Ps 8 (nP n z)/\PtS 35 (nP n z):=by
 have Y:n.l≠0:=by have:=h.l;omega
 have U:n.l.natAbs<2 ^ 8:=by have:=h.l;omega
 obtain⟨g0,Z,e2,e3⟩:=jG (nX n z) (nY n z) n.l Y;have ng:¬ n.l<0:=by have:=h.l;omega
 rw[iR ng] at g0 Z e2 e3;have J:0<(Int.gcd (Int.gcd (nX n z) (nY n z):Int) n.l:Int):=by omega
 refine#[#[?_,?_,?_],?_,?_]
 .show Bd 8 (pX (Rat.divInt (nX n z) n.l,Rat.divInt (nY n z) n.l));rw[<-Z];exact oy J (yg h hz)
 .show Bd 8 (pY (Rat.divInt (nX n z) n.l,Rat.divInt (nY n z) n.l));rw[<-e2];exact oy J (wH h hz)
 .show Bd 8 (pL (Rat.divInt (nX n z) n.l,Rat.divInt (nY n z) n.l));rw[<-e3];exact oy J U
 .exact(Sz.of_divInt Y (yg h hz) U).mono #[]
 .exact(Sz.of_divInt Y (wH h hz) U).mono #[]
def R6 (p q r:IP):Int:=(q.1 - p.1)*(r.2 - p.2) - (q.2 - p.2)*(r.1 - p.1)
theorem JQ {n:Nt}(h:NtOk n) (p q r:IP):a8 (nP n p) (nP n q) (nP n r)=((n.a*n.d - n.b*n.c:Int):Rat) / ((n.l:Rat)*n.l)*(R6 p q r:Rat):=by
 have J:(n.l:Rat)≠0:=by
  have:=h.l;intro z;have:n.l=0:=by exact_mod_cast z
  omega
 unfold a8 nP nX nY R6;simp only[NS];simp only[NB,My,QB];grind
def BX {n:Nt}(h:NtOk n):(0:Rat)<((n.a*n.d - n.b*n.c:Int):Rat) / ((n.l:Rat)*n.l):=by
 have J:(0:Rat)<(n.l:Rat):=by
  have:=h.l
  exact_mod_cast (show 0<n.l by omega)
 have U:(0:Rat)<((n.a*n.d - n.b*n.c:Int):Rat):=by exact_mod_cast h.det
 rw[MW];exact Mn U (Pa.mpr (Mn J J))
def C6 (l:List IP) (i:Nat):IP:=(l[i % l.length]?).getD (0,0)
def bO (F:List IP):Bool:=decide (3<=F.length)&&decide (F.length<=6)&&(List.range F.length).all (fun k=>F.all (fun z=>decide (0<=R6 (C6 F k) (C6 F (k+1)) z))&&decide (C6 F (k+1)≠C6 F k))&&decide (0<R6 (C6 F 0) (C6 F 1) (C6 F 2))&&F.all fun z=>decide (0<=z.1)&&decide (z.1<=8)&&decide (0<=z.2)&&decide (z.2<=8)
def J7 (w h:Int):List (List IP):=[[(0,0),(w,0),(w,h),(0,h)],[(0,0),(w,0),(0,h)],[(0,0),(w,0),(w,h)],[(0,0),(w,h),(0,h)],[(0,0),(w+1,1),(1,h+1)],[(0,0),(w,0),(w,h),(0,h)],[(0,h),(w,0),(2*w,h),(w,2*h)],[(0,1),(1,0),(w+1,0),(w+2,1),(w+1,2),(1,2)]]
def Hk:((List.range 4).all fun w=>(List.range 4).all fun h=>(J7 ((w:Int)+1) ((h:Int)+1)).all bO)=true:=by decide +kernel
def Fy {w h:Int}(hw:1<=w/\w<=4) (Z:1<=h/\h<=4) (U:F∈J7 w h):bO F=true:=by
 have k:=Nb.mp Hk (w.toNat - 1) (Oe.mpr ∅);have k:=Nb.mp k (h.toNat - 1) (Oe.mpr ∅);have J:((w.toNat - 1:Nat):Int)+1=w:=by omega
 have Y:((h.toNat - 1:Nat):Int)+1=h:=by omega
 rw[J,Y] at k;exact Nb.mp k F U
def eK (x y:Int) (z:IP):IP:=(z.1+x,z.2+y)
def Je (x y:Int) (p q r:IP):R6 (eK x y p) (eK x y q) (eK x y r)=R6 p q r:=by
 unfold R6 eK;show (q.1+x - (p.1+x))*(r.2+y - (p.2+y)) - (q.2+y - (p.2+y))*(r.1+x - (p.1+x))=_;rw[show q.1+x - (p.1+x)=q.1 - p.1 by omega,show r.2+y - (p.2+y)=r.2 - p.2 by omega,show q.2+y - (p.2+y)=q.2 - p.2 by omega,show r.1+x - (p.1+x)=r.1 - p.1 by omega]
def P7 (n:Nt) (x y:Int) (z:IP):Pt:=nP n (eK x y z)
def jq {x y:Int}{F:List IP}(h:3<=F.length) (i:Nat):tk (F.map (P7 n x y)) i=P7 n x y (C6 F i):=by
 unfold tk C6;rw[Mj,Nq,ME (Ng _ ∅)];rfl
def GG (F:List IP) (i:Nat):C6 F (i % F.length)=C6 F i:=by
 unfold C6;rw[Nat.mod_mod]
def Br (F:List IP) (i:Nat):C6 F (i % F.length+1)=C6 F (i+1):=by
 unfold C6;rw[PL]
def nN {F:List IP}(h:3<=F.length) (i:Nat):C6 F i∈F:=by
 unfold C6;rw[ME (Ng _ ∅)];exact NZ _
theorem II {x y:Int}{F:List IP}(hn:NtOk n) (hF:bO F=true) (hx:0<=x/\x<=19) (hy:0<=y/\y<=5):ShC (F.map (P7 n x y)):=by
 unfold bO at hF;simp only[MF,PR] at hF;obtain⟨⟨⟨⟨h3,h6⟩,hk⟩,h0⟩,Y⟩:=hF;have ps:=BX hn;have U:∀p q r:IP,a8 (P7 n x y p) (P7 n x y q) (P7 n x y r)=((n.a*n.d - n.b*n.c:Int):Rat) / ((n.l:Rat)*n.l)*(R6 p q r:Rat):=fun p q r=>by
  unfold P7;rw[JQ hn,Je]
 have K:∀k,(∀z∈F,0<=R6 (C6 F k) (C6 F (k+1)) z)/\C6 F (k+1)≠C6 F k:=fun k=>by
  have q:=Nb.mp hk (k % F.length) (Oe.mpr (Ng _ ∅));rw[MF,GG,Br] at q;exact#[fun z Y=>Nv (Nb.mp q.1 z Y),Nv q.2]
 have inj:∀p q:IP,P7 n x y p=P7 n x y q->∀a b:IP,R6 a b p=R6 a b q:=fun p q e a b=>by
  have e1:=U a b p;have e2:=U a b q;rw[e,e2] at e1;have e3:((R6 a b q:Int):Rat)=((R6 a b p:Int):Rat):=by
   have Z:=Rat.ne_of_gt ps;generalize ((n.a*n.d - n.b*n.c:Int):Rat) / ((n.l:Rat)*n.l)=c at *;have:=congrArg (fun t=>c⁻¹*t) e1;simp only[<-OY,Rat.inv_mul_cancel _ Z,Ox] at this;exact this
  exact_mod_cast e3.symm
 refine#[?_,?_,?_,by rw[Mj];exact h3,by rw[Mj];exact h6,?_]
 .intro k z J;obtain⟨w,hw,rfl⟩:=ML.mp J;rw[jq h3,jq h3,U];exact Ml (MS ps) (by exact_mod_cast (K k).1 w hw)
 .intro k e;rw[jq h3,jq h3] at e;have i:=inj _ _ e;have i1:=i (C6 F k) ((C6 F k).1+1,(C6 F k).2);have i2:=i (C6 F k) ((C6 F k).1,(C6 F k).2+1);unfold R6 at i1 i2;simp only at i1 i2;refine(K k).2 (MD ?_ ?_)
  .grind
  .grind
 .refine#[P7 n x y (C6 F 0),P7 n x y (C6 F 1),P7 n x y (C6 F 2),ML.mpr #[_,nN h3 0,rfl],ML.mpr #[_,nN h3 1,rfl],ML.mpr #[_,nN h3 2,rfl],?_];rw[U];have:(0:Rat)<(R6 (C6 F 0) (C6 F 1) (C6 F 2):Rat):=by exact_mod_cast h0
  exact Rat.ne_of_gt (Mn ps this)
 .intro z J;obtain⟨w,hw,rfl⟩:=ML.mp J;have q:=Nb.mp Y w hw;simp only[MF,PR] at q;obtain⟨⟨⟨q1,q2⟩,q3⟩,q4⟩:=q;exact KO hn #[by show 0<=w.1+x/\w.1+x<=27;omega,by show 0<=w.2+y/\w.2+y<=13;omega]
def tj {K:vT_}(h:ShC K) (i:Nat) (hi:i<K.length):ShC (K.drop i++K.take i):=by
 have l:(K.drop i++K.take i).length=K.length:=by
  rw[MC,MH,Np];omega
 have m:∀z,z∈K.drop i++K.take i↔z∈K:=fun z=>by
  rw[Mp,Or.comm,<-Mp,OX]
 have t:∀k,tk (K.drop i++K.take i) k=tk K (i+k):=fun k=>by
  unfold tk;rw[l];have kl:=Ng k (show 0<K.length by omega);rw[<-Nat.add_mod_mod];generalize k % K.length=j at *;by_cases c:j<K.length - i
  .rw[NK (by rw[MH];exact c),PH,OA (show i+j<K.length by omega)]
  .rw[NJ (by rw[MH];omega),MH,PX ∅];rw[Nat.mod_eq_sub_mod ∅,OA ∅];rw[show i+j - K.length=j - (K.length - i) by omega]
 refine#[?_,?_,?_,by rw[l];exact h.lo,by rw[l];exact h.hi,fun z J=>h.sz z ((m z).mp J)]
 .intro k z J;rw[t,t];exact h.cv (i+k) z ((m z).mp J)
 .intro k;rw[t,t];exact h.ne (i+k)
 .obtain⟨a,b,c,U,Y,Z,q⟩:=h.nc;exact#[a,b,c,(m a).mpr U,(m b).mpr Y,(m c).mpr Z,q]
def netsI:List (Int × Int × Int × Int):=[(1,0,0,1),(1,-1,1,1),(3,-4,4,3),(1,1,0,1),(0,-1,1,0),(2,1,1,1)]
def q4 (q:Int × Int × Int × Int):D:=.tup [.int q.1,.int q.2.1,.int q.2.2.1,.int q.2.2.2]
def JV:∀q∈netsI,(0<=q.1/\q.1<=3)/\(-4<=q.2.1/\q.2.1<=1)/\(0<=q.2.2.1/\q.2.2.1<=4)/\(0<=q.2.2.2/\q.2.2.2<=3)/\0<q.1*q.2.2.2 - q.2.1*q.2.2.1:=by decide
abbrev mH:c8:=qr B0
def EM {n:Nat}{f:FS}(h:Fd4 n f) (hn:n<2 ^ 28):∃t f',mH [.feed] (some f)=some (G4 t,some f')/\NtOk t/\Fd4 (n+4) f':=by
 obtain⟨r1,f1,e1,a1,a2,h1⟩:=J9 6 h;obtain⟨z,hz,hq⟩:=aF (xs:=netsI.map q4) a1 (by show r1<6;exact a2);obtain⟨q,Y,rfl⟩:=ML.mp hz;obtain⟨J,f2,e2,b1,b2,h2⟩:=J9 19 h1;obtain⟨U,f3,e3,c1,c2,h3⟩:=J9 19 h2;obtain⟨r4,Z,e4,d1,d2,h4⟩:=J9 4 h3;obtain⟨w,hw,hr⟩:=aF (xs:=[(1:Int),2,3,7].map D.int) d1 (by show r4<4;exact d2);obtain⟨l,hl,rfl⟩:=ML.mp hw;obtain⟨g1,g2,g3,g4,g5⟩:=JV q Y;have lb:1<=l/\l<=7:=(by decide:∀l∈[(1:Int),2,3,7],1<=l/\l<=7) l hl;refine#[#[q.1,q.2.1,q.2.2.1,q.2.2.2,J - 9,U - 9,l],Z,v5 (s:=#[[.v .feed,.own (netsI.map q4),.v (q4 q),.v (.int (J - 9)),.v (.int (U - 9))],some Z]) ?_,#[g1,g2,g3,g4,by show -9<=J - 9/\J - 9<=9;omega,by show -9<=U - 9/\U - 9<=9;omega,lb,g5],h4];show jM B0 #[[.v .feed,.no,.no,.no,.no],some f]=_;unfold jM;refine u9 (s1:=#[[.v .feed,.own (netsI.map q4),.no,.no,.no],some f]) (Y7 (i:=1) (s1:=#[[.v .feed,.no,.no,.no,.no],some f]) (ds:=netsI.map q4) rfl (by show 1<5;decide)) ?_;refine u9 (s1:=#[[.v .feed,.own (netsI.map q4),.v (q4 q),.no,.no],some f1]) (B7 (f9 rfl (G9 rfl e1) (bP hq)) rfl) ?_;refine u9 (s1:=#[[.v .feed,.own (netsI.map q4),.v (q4 q),.v (.int (J - 9)),.no],some f2]) (B7 (f9 (G9 rfl e2) rfl rfl) rfl) ?_;refine u9 (s1:=#[[.v .feed,.own (netsI.map q4),.v (q4 q),.v (.int (J - 9)),.v (.int (U - 9))],some f3]) (B7 (f9 (G9 rfl e3) rfl rfl) rfl) ?_;exact w4 (f9 (x:=q4 q) (y:=.tup [.int (J - 9),.int (U - 9),.int l]) rfl (yE (D9 rfl (D9 rfl (D9 (f9 (x:=.lst ([(1:Int),2,3,7].map D.int)) rfl (G9 rfl e4) (bP hr)) rfl))) (by show 3<=sizeLine;decide)) rfl)
abbrev cW:c8:=ub bZ
def dP {i j:Int}(hi:i.natAbs<2 ^ 10) (J:j.natAbs<2 ^ 10):o7 (.int i) (.int j)=some (.int (i*j)):=Q0 (Bd.bits (k:=10) hi #[]) (Bd.bits (k:=10) J #[])
def AR {t:Nt}(J:NtOk t) {z:IP}(hz:InU z) (fs:vO_):cW [G4 t,.int z.1,.int z.2] fs=some (pt (nP t z),fs):=by
 have hu:=hz.u;have hv:=hz.v;have hl:=J.l;have m1:=dP (i:=t.a) (j:=z.1) (by have:=J.a;omega) ∅;have m2:=dP (i:=t.b) (j:=z.2) (by have:=J.b;omega) ∅;have m3:=dP (i:=t.c) (j:=z.1) (by have:=J.c;omega) ∅;have m4:=dP (i:=t.d) (j:=z.2) (by have:=J.d;omega) ∅;have w:=mK (k:=8) (nX t z) (nY t z) t.l fs ∅ (show t.l.natAbs<2 ^ 8 by omega) #[];have i0:d9 (G4 t) (.int 0)=some (.int t.a):=rfl;have i1:d9 (G4 t) (.int 1)=some (.int t.b):=rfl;have i2:d9 (G4 t) (.int 2)=some (.int t.c):=rfl;have i3:d9 (G4 t) (.int 3)=some (.int t.d):=rfl;have Y:d9 (G4 t) (.int 4)=some (.int t.x):=rfl;have U:d9 (G4 t) (.int 5)=some (.int t.y):=rfl;have Z:d9 (G4 t) (.int 6)=some (.int t.l):=rfl;generalize G4 t=N at *;refine v5 (s:=#[[.v N,.v (.int z.1),.v (.int z.2),.v (.int (nX t z))],fs]) ?_;show kO bZ #[[.v N,.v (.int z.1),.v (.int z.2),.no],fs]=_;unfold kO;exact u9 (s1:=#[[.v N,.v (.int z.1),.v (.int z.2),.v (.int (nX t z))],fs]) (B7 (f9 (f9 (f9 (f9 rfl rfl i0) rfl m1) (f9 (f9 rfl rfl i1) rfl m2) rfl) (f9 rfl rfl Y) rfl) rfl)
  (w4 (u7 (A3 rfl (A3 (f9 (f9 (f9 (f9 rfl rfl i2) rfl m3) (f9 (f9 rfl rfl i3) rfl m4) rfl) (f9 rfl rfl U) rfl) (A3 (f9 rfl rfl Z) rfl))) w))
def av (z:IP):D:=.tup [.int z.1,.int z.2]
def C3 (F:List IP):D:=.tup (F.map av)
abbrev cX:c8:=uf B0
def rF {p:D->D->Option (List D)}{a b:DE}{s:DS}{x:D}{z:vD_}(h1:a s=some (x,s1)) (h2:b s1=some (y,s2)) (h3:p x y=some z):V0 p a b s=some (z,s2):=by
 unfold V0;rw[h1,Mh,h2,Mh,h3];rfl
def FC {n:Nat}{f:FS}(h:Fd4 n f) (hn:n<2 ^ 28):∃F f',cX [.feed] (some f)=some (C3 F,some f')/\bO F=true/\Fd4 (n+3) f':=by
 obtain⟨J,f1,e1,a1,a2,h1⟩:=J9 4 h;obtain⟨Y,U,e2,b1,b2,h2⟩:=J9 4 h1;obtain⟨r3,f3,e3,c1,c2,h3⟩:=J9 8 h2;obtain⟨z,hz,Z⟩:=aF (xs:=(J7 (1+J) (1+Y)).map C3) c1 (by show r3<8;exact c2);obtain⟨F,hF,rfl⟩:=ML.mp hz;refine#[F,f3,?_,Fy ∅ ∅ hF,h3];have m1:=dP (i:=2) (j:=1+J) #[] ∅;have m2:=dP (i:=2) (j:=1+Y) #[] ∅;have hf:(J7 (1+J) (1+Y)).map C3=((J7 (1+J) (1+Y)).take 6).map C3++[C3 [(0,1+Y),(1+J,0),(2*(1+J),1+Y),(1+J,2*(1+Y))]]++[C3 [(0,1),(1,0),(1+J+1,0),(1+J+2,1),(1+J+1,2),(1,2)]]:=rfl;rw[hf] at Z;have w1:∀s,v3 1 2 (a7 (a9 j5 (Sj 1) (d7 B0 (a7 (dV 0) (a7 (Sj 4) b9)))) (a7 (a9 j5 (Sj 1) (d7 B0 (a7 (dV 0) (a7 (Sj 4) b9)))) b9)) #[[.v .feed,.no,.no,s],some f]=some (.next,#[[.v .feed,.v (.int (1+J)),.v (.int (1+Y)),s],some U]):=fun s=>Ie (D9 (f9 rfl (G9 rfl e1) rfl) (D9 (f9 rfl (G9 rfl e2) rfl) rfl)) rfl
 generalize 1+J=w at *;generalize 1+Y=v at *;refine v5 (s:=#[[.v .feed,.v (.int w),.v (.int v),.own (((J7 w v).take 6).map C3++[C3 [(0,v),(w,0),(2*w,v),(w,2*v)]]++[C3 [(0,1),(1,0),(w+1,0),(w+2,1),(w+1,2),(1,2)]])],some f3]) ?_;show kh B0 #[[.v .feed,.no,.no,.no],some f]=_;unfold kh;refine u9 (w1 _) ?_;refine u9 (s1:=#[[.v .feed,.v (.int w),.v (.int v),.own (((J7 w v).take 3).map C3)],some U]) (Y7 (i:=3) (s1:=#[[.v .feed,.v (.int w),.v (.int v),.no],some U]) (ds:=((J7 w v).take 3).map C3) rfl (by show 3<4;decide)) ?_;refine u9 (s1:=#[[.v .feed,.v (.int w),.v (.int v),.own (((J7 w v).take 6).map C3)],some U]) (Y7 (i:=3) (s1:=#[[.v .feed,.v (.int w),.v (.int v),.own (((J7 w v).take 3).map C3)],some U]) (ds:=((J7 w v).take 6).map C3) (rF (x:=.lst (((J7 w v).take 3).map C3)) (y:=.lst (((J7 w v).drop 3).take 3 |>.map C3)) rfl rfl rfl) (by show 3<4;decide)) ?_;refine u9 (s1:=#[[.v .feed,.v (.int w),.v (.int v),.own (((J7 w v).take 6).map C3++[C3 [(0,v),(w,0),(2*w,v),(w,2*v)]])],some U]) (U7 (i:=3) (s:=#[[.v .feed,.v (.int w),.v (.int v),.own (((J7 w v).take 6).map C3)],some U]) (s1:=#[[.v .feed,.v (.int w),.v (.int v),.own (((J7 w v).take 6).map C3)],some U]) (ds:=((J7 w v).take 6).map C3) (ds0:=((J7 w v).take 6).map C3) (d:=C3 [(0,v),(w,0),(2*w,v),(w,2*v)]) rfl
  (yE (A3 (x:=av (0,v)) rfl (A3 (x:=av (w,0)) rfl (A3 (x:=av (2*w,v)) (T1 (f9 rfl rfl m1) rfl) (A3 (x:=av (w,2*v)) (T1 rfl (f9 rfl rfl m2)) rfl)))) (by show 4<=sizeLine;decide)) rfl (by show 6<sizeLine;decide)) ?_
 refine u9 (s1:=#[[.v .feed,.v (.int w),.v (.int v),.own (((J7 w v).take 6).map C3++[C3 [(0,v),(w,0),(2*w,v),(w,2*v)]]++[C3 [(0,1),(1,0),(w+1,0),(w+2,1),(w+1,2),(1,2)]])],some U]) (U7 (i:=3) (s:=#[[.v .feed,.v (.int w),.v (.int v),.own (((J7 w v).take 6).map C3++[C3 [(0,v),(w,0),(2*w,v),(w,2*v)]])],some U]) (s1:=#[[.v .feed,.v (.int w),.v (.int v),.own (((J7 w v).take 6).map C3++[C3 [(0,v),(w,0),(2*w,v),(w,2*v)]])],some U]) (ds:=((J7 w v).take 6).map C3++[C3 [(0,v),(w,0),(2*w,v),(w,2*v)]]) (ds0:=((J7 w v).take 6).map C3++[C3 [(0,v),(w,0),(2*w,v),(w,2*v)]]) (d:=C3 [(0,1),(1,0),(w+1,0),(w+2,1),(w+1,2),(1,2)]) rfl rfl rfl (by show 7<sizeLine;decide)) ?_;exact w4 (f9 rfl (G9 rfl e3) (bP Z))
abbrev fT:c8:=yC cE
def uK {f:DE}{lo hi:DO}{s J:DS}{ds:List DL.D}{l h:Option Int}(e:f s=some (.lst ds,s1)) (U:lo s1=some (l,s2)) (Y:hi s2=some (h,J)):D2 f lo hi s=some (.lst (A0 ds l h),J):=by
 unfold D2;rw[e,Mh,U,Mh,Y];rfl
def xk {K:vT_}(Z:∀z∈K,Ps 8 z) (h3:3<=K.length) (h6:K.length<=6) (fs:vO_):∃i,i<K.length/\fT [.lst (K.map pt)] fs=some (c7 (K.drop i++K.take i),fs):=by
 obtain⟨s',e,i,J,y2,rfl⟩:=fQ (t:=d8 2) (b:=qH cE) (fun _ s=>∃i:Nat,i<K.length/\∃Y,s=#[[.v (.lst (K.map pt)),.v (.int (i:Int)),Y],fs]) (B5 0 K.length) 0 #[[.v (.lst (K.map pt)),.v (.int ((0:Nat):Int)),.no],fs] #[0,by omega,_,rfl] (by
  rintro j d s hd ⟨i,J,Y,rfl⟩;obtain⟨rfl,U⟩:=eV hd;rw[Rw];have gi:d9 (.lst (K.map pt)) (.int (i:Int))=some (pt K[i]):=bP (jZ (by rw[Nq,ME J];rfl));have gj:d9 (.lst (K.map pt)) (.int (j:Int))=some (pt K[j]):=bP (jZ (by rw[Nq,ME U];rfl));have w:=Lk (k:=8) K[j] K[i] fs (Z _ (NZ U)) (Z _ (NZ J)) #[];generalize v8 K[j] K[i]=b at *;have c:o6 (d7 cE (a7 (a9 d9 (dL 0) (dL 2)) (a7 (a9 d9 (dL 0) (dL 1)) b9))) #[[.v (.lst (K.map pt)),.v (.int (i:Int)),.v (.int (j:Int))],fs]=some (b,#[[.v (.lst (K.map pt)),.v (.int (i:Int)),.v (.int (j:Int))],fs]):=K4 (u7 (A3 (f9 rfl rfl gj) (A3 (f9 rfl rfl gi) rfl)) w);cases b with
  |true=>exact#[_,#[[.v (.lst (K.map pt)),.v (.int (j:Int)),.v (.int (j:Int))],fs],rfl,.inl ((G1 c).trans (B7 rfl rfl)),j,U,_,rfl]
  |false=>exact#[_,_,rfl,.inl (E9 c),i,J,_,rfl])
 have r:R9 [.int (K.length:Int)]=some (B5 0 K.length):=cT ∅;have ln:one j9 [.lst (K.map pt)]=some (.int (K.length:Int)):=by
  show some (D.int ((K.map pt).length:Int))=_;rw[Mj]
 have c1:A0 (K.map pt) (some (i:Int)) none=(K.drop i).map pt:=by
  unfold A0;rw[HT.sIx_nat,HT.sIx_none,Mj,Pn ∅,Sb (by rw[MH,Mj];omega),Ru]
 have c2:A0 (K.map pt) none (some (i:Int))=(K.take i).map pt:=by
  unfold A0;rw[HT.sIx_nat,HT.sIx_none,Mj,Pn ∅,Qh,Pl,List.map_take]
 have ad:j5 (.lst ((K.drop i).map pt)) (.lst ((K.take i).map pt))=some (.lst ((K.drop i++K.take i).map pt)):=by
  show (if ((K.drop i).map pt).length+((K.take i).map pt).length<=sizeLine then some (D.lst ((K.drop i).map pt++(K.take i).map pt)) else none)=_;rw[Mj,Mj,MH,Np,iO (Mm (by omega:_<=12) #[]),Oz]
 refine#[i,J,v5 (s:=#[[.v (.lst (K.map pt)),.v (.int (i:Int)),y2],fs]) ?_];show jE cE #[[.v (.lst (K.map pt)),.no,.no],fs]=_;unfold jE;refine u9 (s1:=#[[.v (.lst (K.map pt)),.v (.int ((0:Nat):Int)),.no],fs]) (B7 rfl rfl) ?_;refine u9 ((kG (s1:=#[[.v (.lst (K.map pt)),.v (.int ((0:Nat):Int)),.no],fs]) (A3 (M3 rfl ln) rfl) r).trans e) ?_;exact w4 (M3 (A3 (f9 (x:=.lst ((K.drop i).map pt)) (y:=.lst ((K.take i).map pt)) (by rw[<-c1];exact uK rfl rfl rfl) (by rw[<-c2];exact uK rfl rfl rfl) ad) rfl) rfl)
abbrev lj:c8:=vB B0 fT cX cW
def DW {A:vT_}(h:ShC A):Ok 2 24 (c7 A):=by
 have:=OkL.all (k:=1) (n:=3) (ds:=A.map pt) fun d U=>by
  obtain⟨z,J,rfl⟩:=ML.mp U;exact Ok.pt (h.ps z J)
 refine(Ok.tup this).mono #[] ?_;have:=h.hi;rw[Mj];omega
def IC (h:∀A∈Ss,ShC A):OkL 2 (Ss.length*25) (Ss.map c7):=by
 have:=OkL.all (k:=2) (n:=24) (ds:=Ss.map c7) fun d U=>by
  obtain⟨z,J,rfl⟩:=ML.mp U;exact DW (h z J)
 rw[Mj] at this;exact this
def Bi (h:C5 (.lst (d::ds))=true):A2 (.lst (d::ds)) (.lst [])=some (.bl true):=by
 show (if C5 (.lst (d::ds))&&C5 (.lst []) then some (D.bl (!PyData.eqv (D.lst (d::ds)).py (D.lst []).py)) else none)=_;rw[h,iO (show (true&&C5 (.lst []))=true from rfl)];rfl
theorem vi {t:Nt}(J:NtOk t) {x y:Int}(hx:0<=x/\x<=19) (Z:0<=y/\y<=5) (U:Q8 [1,6,7] sl=[.v (G4 t),.v (.int x),.v (.int y)]) (fs:vO_):∀F:List IP,(∀z∈F,(0<=z.1/\z.1<=8)/\(0<=z.2/\z.2<=8))->E8 (mk2 [1,6,7] sl) F6 (d7 cW (a7 (dV 2) (a7 (a9 j5 (dL 0) (dL 3)) (a7 (a9 j5 (dL 1) (dL 4)) b9)))) (F.map av) fs=some ((F.map (P7 t x y)).map pt,fs)
 |[],_=>rfl
 |z::r,h=>by
  have Y:=h z (Mi ..);have e:=AR J (z:=eK x y z) #[by show 0<=z.1+x/\z.1+x<=27;omega,by show 0<=z.2+y/\z.2+y<=13;omega] fs;have i:=vi J hx Z U fs r fun z Y=>h z (Mf _ Y)
  have m:mk2 [1,6,7] sl (av z)=some [.v (.int z.1),.v (.int z.2),.v (G4 t),.v (.int x),.v (.int y)]:=by
   show some (Sl.v (.int z.1) :: .v (.int z.2)::Q8 [1,6,7] sl)=_;rw[U]
  rw[Mo,E8,m,Mh,show F6 #[[.v (.int z.1),.v (.int z.2),.v (G4 t),.v (.int x),.v (.int y)],fs]=some (true,#[[.v (.int z.1),.v (.int z.2),.v (G4 t),.v (.int x),.v (.int y)],fs]) from rfl,Mh,iO rfl,u7 (A3 rfl (A3 (f9 rfl rfl rfl) (A3 (f9 rfl rfl rfl) rfl))) e,Mh,i];rfl
abbrev G6 (t:Nt) (x2:Sl) (far:Int) (Ss:List (List Pt)) (x5 x6 x7 x8:Sl) (f:FS):DS:=#[[.v .feed,.v (G4 t),x2,.v (.int far),.own (Ss.map c7),x5,x6,x7,x8],some f]
def AS {F:List IP}(h:bO F=true):F.length<=6/\∀z∈F,(0<=z.1/\z.1<=8)/\(0<=z.2/\z.2<=8):=by
 unfold bO at h;simp only[MF,PR] at h;refine#[h.1.1.1.2,fun z J=>?_];have q:=Nb.mp h.2 z J;simp only[MF,PR] at q;omega
def Gd {n:Nat}{f:FS}(h:Fd4 n f) (hn:n<2 ^ 27) {t:Nt}(ht:NtOk t) {far:Int}(hf:0<=far/\far<=14) (hS:∀A∈Ss,ShC A) (hl:Ss.length<=9) (x2 J x6 x7 x8:Sl) :
  ∃A y6 y7 y8 f',ShC A/\di B0 fT cX cW (G6 t x2 far Ss J x6 x7 x8 f)=some (.next,G6 t x2 far (Ss++[A]) J y6 y7 y8 f')/\Fd4 (n+6) f':=by
 obtain⟨U,f1,e1,a1,a2,h1⟩:=J9 6 h;obtain⟨Z,f2,e2,b1,b2,h2⟩:=J9 6 h1;obtain⟨F,f3,e3,hF,h3⟩:=FC h2 ∅;obtain⟨r4,f4,e4,d1,d2,h4⟩:=J9 9 h3;obtain⟨l6,hz⟩:=AS hF;have sc:=II (x:=far+U) (y:=Z) ht hF ∅ ∅;have K3:=sc.lo;have K6:=sc.hi;obtain⟨i,il,bg⟩:=xk (K:=F.map (P7 t (far+U) Z)) (fun z hz=>(sc.sz z hz).1) K3 K6 (some f3);obtain⟨i',il',bg'⟩:=xk (K:=F.map (P7 t (far+U) Z)) (fun z hz=>(sc.sz z hz).1) K3 K6 (some f4);have row:=vi ht (x:=far+U) (y:=Z) ∅ ∅ (sl:=[.v .feed,.v (G4 t),x2,.v (.int far),.own (Ss.map c7),J,.v (.int (far+U)),.v (.int Z),x8]) rfl (some f3) F hz;generalize hK:F.map (P7 t (far+U) Z)=K at *;have s1:j4 (i7 (a7 (a9 j5 (dL 3) (d7 B0 (a7 (dV 0) (a7 (Sj 6) b9)))) (a7 (d7 B0 (a7 (dV 0) (a7 (Sj 6) b9))) b9))) (p9 2 (l8 (d8 6) (l8 (d8 7) t6))) (G6 t x2 far Ss J x6 x7 x8 f)=some (.next,G6 t x2 far Ss J (.v (.int (far+U))) (.v (.int Z)) x8 f2):=
  B7 (T1 (f9 rfl (G9 rfl e1) rfl) (G9 rfl e2)) rfl
 have it:T6 (d7 cX (a7 (dV 0) b9)) (G6 t x2 far Ss J (.v (.int (far+U))) (.v (.int Z)) x8 f2)=some (F.map av,G6 t x2 far Ss J (.v (.int (far+U))) (.v (.int Z)) x8 f3):=by
  unfold T6;rw[G9 rfl e3];rfl
 have lz:(F.map av).length<=sizeLine:=by rw[Mj];exact Mm l6 #[]
 have s2:E4 8 (bV [1,6,7] (T6 (d7 cX (a7 (dV 0) b9))) F6 (d7 cW (a7 (dV 2) (a7 (a9 j5 (dL 0) (dL 3)) (a7 (a9 j5 (dL 1) (dL 4)) b9))))) (G6 t x2 far Ss J (.v (.int (far+U))) (.v (.int Z)) x8 f2)=some (.next,G6 t x2 far Ss J (.v (.int (far+U))) (.v (.int Z)) (.own (K.map pt)) f3):=
  Y7 (i:=8) (s1:=G6 t x2 far Ss J (.v (.int (far+U))) (.v (.int Z)) x8 f3) (ds:=K.map pt) (GU it lz row) (by show 8<9;decide)
 generalize Sl.v (.int (far+U))=X at *;generalize Sl.v (.int Z)=Y at *;have lsz:∀m:Nat,(Ss.map c7).length<sizeLine:=fun _=>by rw[Mj];exact Nc hl #[]
 have apd:∀A,Ss.map c7++[c7 A]=(Ss++[A]).map c7:=fun A=>by rw[Oz];rfl
 cases Ss with
 |nil=>
  refine#[K.drop i++K.take i,X,Y,.v (.lst (K.map pt)),f3,tj sc i il,?_,h3.mono ∅];unfold di;refine u9 s1 (u9 s2 ?_);rw[dU (rz (D4 (f9 (x:=.lst []) (y:=.lst []) rfl rfl rfl)))];exact U7 (i:=4) (s:=G6 t x2 far [] J X Y (.own (K.map pt)) f3) (s1:=G6 t x2 far [] J X Y (.v (.lst (K.map pt))) f3) (ds:=[]) (ds0:=[]) (d:=c7 (K.drop i++K.take i)) rfl (cS rfl bg) rfl (by show 0<sizeLine;decide)
 |cons B r=>
  have ne:=Bi (d:=c7 B) (ds:=r.map c7) (Ok.eq (Ok.lst (IC hS)) #[]);have cq:dB (a9 A2 (dL 4) (l5 (n9 b9))) (G6 t x2 far (B::r) J X Y (.own (K.map pt)) f3)=some (true,G6 t x2 far (B::r) J X Y (.own (K.map pt)) f3):=D4 (f9 (x:=.lst (c7 B::r.map c7)) (y:=.lst []) rfl rfl ne);have c9:dB (a9 J6 (d7 B0 (a7 (dV 0) (a7 (Sj 9) b9))) (Sj 0)) (G6 t x2 far (B::r) J X Y (.own (K.map pt)) f3)=some (decide (r4=0),G6 t x2 far (B::r) J X Y (.own (K.map pt)) f4):=D4 (f9 (G9 rfl e4) rfl (aR r4 0));by_cases z:r4=0
  .rw[MA z] at c9;refine#[B,X,Y,.own (K.map pt),f4,hS B (Mi ..),?_,h4.mono ∅];unfold di;refine u9 s1 (u9 s2 ?_);rw[G1 (nC cq c9)];refine Eq.trans (U7 (i:=4) (s:=G6 t x2 far (B::r) J X Y (.own (K.map pt)) f4) (s1:=G6 t x2 far (B::r) J X Y (.own (K.map pt)) f4) (ds:=(B::r).map c7) (ds0:=(B::r).map c7) (d:=c7 B) rfl (f9 rfl rfl (bP (jZ (j:=0) rfl))) rfl (lsz 0)) ?_;show some (Fl.next,(#[[.v .feed,.v (G4 t),x2,.v (.int far),.own ((B::r).map c7++[c7 B]),J,X,Y,.own (K.map pt)],some f4]:DS))=_;rw[apd]
  .rw[MK z] at c9;refine#[K.drop i'++K.take i',X,Y,.v (.lst (K.map pt)),f4,tj sc i' il',?_,h4.mono ∅];unfold di;refine u9 s1 (u9 s2 ?_);rw[dU (nC cq c9)];refine Eq.trans (U7 (i:=4) (s:=G6 t x2 far (B::r) J X Y (.own (K.map pt)) f4) (s1:=G6 t x2 far (B::r) J X Y (.v (.lst (K.map pt))) f4) (ds:=(B::r).map c7) (ds0:=(B::r).map c7) (d:=c7 (K.drop i'++K.take i')) rfl (cS rfl bg') rfl (lsz 0)) ?_;show some (Fl.next,(#[[.v .feed,.v (G4 t),x2,.v (.int far),.own ((B::r).map c7++[c7 (K.drop i'++K.take i')]),J,X,Y,.v (.lst (K.map pt))],some f4]:DS))=_;rw[apd]
structure PpS (Ss:List (List Pt)):Prop where
 sh:∀A∈Ss,ShC A
 lo:1<=Ss.length
 hi:Ss.length<=2
def uo {n:Nat}{f:FS}(h:Fd4 n f) (hn:n<2 ^ 26) {t:Nt}(ht:NtOk t) {far:Int}(hf:0<=far/\far<=14):∃Ss f',lj [.feed,G4 t,.int 2,.int far] (some f)=some (.tup (Ss.map c7),some f')/\PpS Ss/\Fd4 (n+13) f':=by
 obtain⟨r,f1,e1,a1,a2,h1⟩:=J9 2 h;obtain⟨k,rfl⟩:=Px a1;have el:((1+k:Nat):Int)=1+(k:Int):=by omega
 obtain⟨s',e,Ss,x5,U,Y,J,f',rfl,Z,hl,h'⟩:=fQ (t:=d8 5) (b:=di B0 fT cX cW) (fun i s=>∃Ss x5 U Y J f',s=G6 t (.v (.int 2)) far Ss x5 U Y J f'/\(∀A∈Ss,ShC A)/\Ss.length=i/\Fd4 (n+1+6*i) f') (B5 0 (1+k)) 0
  (G6 t (.v (.int 2)) far [] .no .no .no .no f1) #[[],_,_,_,_,f1,rfl,fun A hA=>(by cases hA),rfl,h1] (by
   rintro i d s hd ⟨Ss,x5,U,Y,J,f2,rfl,Z,hl,h2⟩;obtain⟨rfl,il⟩:=eV hd;rw[PF] at *;obtain⟨A,y6,y7,y8,f3,hA,e,h3⟩:=Gd h2 ∅ ht hf Z ∅ (.v (.int 2)) (.v (.int (0+(i:Int)))) U Y J;exact#[G6 t (.v (.int 2)) far Ss (.v (.int (0+(i:Int)))) U Y J f2,_,rfl,.inl e,Ss++[A],_,_,_,_,f3,rfl,fun B hB=>by
    rcases Mp.mp hB with q | q
    .exact Z B q
    .rw[Mq.mp q];exact hA,by rw[MC,NM,hl],h3.mono ∅])
 rw[PF,cP] at hl h';have r1:R9 [.int (1+(k:Int))]=some (B5 0 (1+k)):=by rw[<-el];exact cT ∅
 refine#[Ss,f',v5 (s:=G6 t (.v (.int 2)) far Ss x5 U Y J f') ?_,#[Z,by omega,by omega],h'.mono ∅];show oX B0 fT cX cW #[[.v .feed,.v (G4 t),.v (.int 2),.v (.int far),.no,.no,.no,.no,.no],some f]=_;unfold oX;refine u9 (s1:=G6 t (.v (.int 2)) far [] .no .no .no .no f) (Y7 (i:=4) (s1:=#[[.v .feed,.v (G4 t),.v (.int 2),.v (.int far),.no,.no,.no,.no,.no],some f]) (ds:=[]) rfl (by show 4<9;decide)) ?_;refine u9 ((kG (s1:=G6 t (.v (.int 2)) far [] .no .no .no .no f1) (D9 (f9 rfl (G9 rfl e1) rfl) rfl) r1).trans e) ?_;exact w4 (M3 rfl rfl)
abbrev V6:c8:=tM lj B0 mH
def Ez {n:Nat}{f:FS}(h:Fd4 n f) (hn:n<2 ^ 25):∃Ss Os f',V6 [.feed] (some f)=some (.tup [.tup (Ss.map c7),.tup (Os.map c7)],some f')/\PpS Ss/\PpS Os/\Fd4 (n+40) f':=by
 obtain⟨t,f1,e1,J,h1⟩:=EM h ∅;obtain⟨Ss,Z,e2,hS,h2⟩:=uo h1 ∅ J (far:=0) #[];obtain⟨r,f3,e3,a1,a2,h3⟩:=J9 5 h2;obtain⟨w,hw,hr⟩:=aF (xs:=[(0:Int),2,5,9,14].map D.int) a1 (by show r<5;exact a2);obtain⟨far,Y,rfl⟩:=ML.mp hw;have fb:0<=far/\far<=14:=(by decide:∀l∈[(0:Int),2,5,9,14],0<=l/\l<=14) far Y;obtain⟨Os,U,e4,hO,h4⟩:=uo h3 ∅ J fb;refine#[Ss,Os,U,v5 (s:=#[[.v .feed,.v (G4 t),.v (.tup (Ss.map c7))],some U]) ?_,hS,hO,h4.mono ∅];show kH lj B0 mH #[[.v .feed,.no,.no],some f]=_;unfold kH;refine u9 (s1:=#[[.v .feed,.v (G4 t),.no],some f1]) (B7 (G9 rfl e1) rfl) ?_;refine u9 (s1:=#[[.v .feed,.v (G4 t),.v (.tup (Ss.map c7))],some Z]) (B7 (G9 rfl e2) rfl) ?_;exact w4 (T1 rfl (cS (sl':=[.v .feed,.v (G4 t),.v (.tup (Ss.map c7))]) (fs':=some f3) (D9 rfl (D9 rfl (D9 rfl (D9 (f9 (x:=.lst ([(0:Int),2,5,9,14].map D.int)) rfl (G9 rfl e3) (bP hr)) rfl)))) e4))
def Fp (S:vD_) (fs:vO_):∀d∈B5 0 S.length,∃s,i7 (a7 (a9 d9 (dL 1) (dL 0)) (a7 (a9 d9 (dL 1) (a9 C9 (a9 j5 (dL 0) (Sj 1)) (j6 (one j9) (a7 (dL 1) b9)))) b9)) #[.v d::[.v (.lst S)],fs]=some (Y9 S d,s)/\s.fs=fs:=by
 intro d hd;obtain⟨i,hi⟩:=OB hd;obtain⟨rfl,Y⟩:=eV hi;rw[Rw];have J:(i+1) % S.length<S.length:=Ng _ ∅;have a1:d9 (.lst S) (.int (i:Int))=some S[i]:=(B9 _ _).trans (gY (xs:=S) (i:=i) (x:=S[i]) (by rw[ME ∅]));have fm:((i:Int)+1).fmod (S.length:Int)=(((i+1) % S.length:Nat):Int):=by
  rw[Po _ ∅];simp
 have Z:d9 (.lst S) (.int (((i+1) % S.length:Nat):Int))=some S[(i+1) % S.length]:=(B9 _ _).trans (gY (xs:=S) (i:=(i+1) % S.length) (x:=S[(i+1) % S.length]) (by rw[ME J]));have n0:¬ (S.length:Int)=0:=by omega
 have U:Y9 S (.int (i:Int)) = .tup [S[i],S[(i+1) % S.length]]:=by
  simp only[Y9,Nz];rw[ME ∅,ME J];rfl
 rw[U];have pm:C9 (.int ((i:Int)+1)) (.int (S.length:Int))=some (.int (((i+1) % S.length:Nat):Int)):=by simp only[C9,ne_eq,n0,not_false_eq_true,MV,fm]
 exact#[_,T1 (f9 rfl rfl a1) (f9 rfl (f9 (f9 rfl rfl rfl) (M3 rfl rfl) pm) Z),rfl]
def BP (ds:vD_) (fs:vO_) (hl:ds.length<=1000000):R5 [.lst ds] fs=some (.lst ((i9 true ds).map ak),fs):=by
 have J:=jQ (idx:=[0]) (g:=Y9 ds) [.v (.lst ds)] fs (B5 0 ds.length) (Fp ds fs);rw[wW] at J;have U:R9 [.int (ds.length:Int)]=some (B5 0 ds.length):=cT ∅;have Z:(B5 0 ds.length).length<=sizeLine:=by rw[cP,MU];omega
 have Y:V4 (a7 (j6 (one j9) (a7 (dL 0) b9)) b9) #[[.v (.lst ds)],fs]=some (B5 0 ds.length,#[[.v (.lst ds)],fs]):=by
  unfold V4;rw[show a7 (j6 (one j9) (a7 (dL 0) b9)) b9 #[[.v (.lst ds)],fs]=some ([.int (ds.length:Int)],#[[.v (.lst ds)],fs]) from A3 (M3 rfl rfl) rfl,Mh];show (R9 [.int (ds.length:Int)]).map _=_;rw[U];rfl
 refine v5 (s:=#[[.v (.lst ds)],fs]) ?_;show fY #[[.v (.lst ds)],fs]=_;unfold fY;exact w4 (eE (kX Y Z J))
def Bk (K:vT_) (fs:vO_) (J:K.length<=1000):R5 [.lst (K.map pt)] fs=some (.lst ((i9 true K).map pq),fs):=by
 have e:=BP (K.map pt) fs (by rw[Mj];omega);rw[jD] at e;exact e
theorem hU (A B P:Pt):((K7 A B P:Int):Rat)=a8 A B P*((pL A:Rat)*pL B*pL P):=by
 unfold K7 a8;simp only[NB,QB,My,U4,T8];grind
def qf {x b:Int}{y:Rat}(U:b≠0) (h:y*(b:Rat)=(x:Rat)):Rat.divInt x b=y:=by
 have J:(b:Rat)≠0:=fun z=>U (Ow.mp z)
 rw[NS,<-h,MW,OY,PM _ J,PN]
def Bd.det {b c:Pt}(Y:Ps k a) (U:Ps k b) (J:Ps k c):Bd (3*k+4) (K7 a b c):=by
 have q:∀{e i l m n:Int},Bd k e->Bd k i->Bd k l->Bd k m->Bd k n->Bd (3*k+1) (e*(i*l - m*n)):=fun Z h1 h2 h3 h4=>(Z.mul ((h1.mul h2).sub (h3.mul h4))).mono ∅
 exact(((q Y.x U.y J.l U.l J.y).sub (q Y.y U.x J.l U.l J.x)).add (q Y.l U.x J.y U.y J.x)).mono ∅
abbrev bL:c8:=pd bZ Z3
def oE {i j k l:Int}(h1:A8 i=true) (h2:A8 j=true) (h3:A8 k=true) (J:A8 l=true) {a b c d:DE}{t:DS}(Z:a t=some (.int i,t)) (Y:b t=some (.int j,t)) (h7:c t=some (.int k,t)) (U:d t=some (.int l,t)):a9 o9 (a9 o7 a b) (a9 o7 c d) t=some (.int (i*j - k*l),t):=
 f9 (f9 Z Y (Q0 h1 h2)) (f9 h7 U (Q0 h3 J)) rfl
def HE {m1 m2:c8}{A B r:D}{x y z u v w f s:Int}{fs:vO_}(Z:m2 [A,B,.tup [.int x,.int y,.int z]] fs=some (.int f,fs)) (e2:m2 [A,B,.tup [.int u,.int v,.int w]] fs=some (.int s,fs)) (J:A8 f=true) (U:A8 s=true) (hx:A8 x=true) (hy:A8 y=true) (hz:A8 z=true) (hu:A8 u=true) (Y:A8 v=true) (hw:A8 w=true)
  (e3:m1 [.int (s*x - f*u),.int (s*y - f*v),.int (s*z - f*w)] fs=some (r,fs)):pd m1 m2 [A,B,.tup [.int x,.int y,.int z],.tup [.int u,.int v,.int w]] fs=some (r,fs):=by
 refine v5 (s:=#[[.v A,.v B,.v (.tup [.int x,.int y,.int z]),.v (.tup [.int u,.int v,.int w]),.v (.int f),.v (.int s),.v (.int (s*x - f*u))],fs]) ?_;show jS m1 m2 #[[.v A,.v B,.v (.tup [.int x,.int y,.int z]),.v (.tup [.int u,.int v,.int w]),.no,.no,.no],fs]=_;unfold jS;refine u9 (s1:=#[[.v A,.v B,.v (.tup [.int x,.int y,.int z]),.v (.tup [.int u,.int v,.int w]),.v (.int f),.v (.int s),.no],fs]) (sH (A3 (u7 rfl Z) (A3 (u7 rfl e2) rfl)) rfl) ?_;refine u9 (s1:=#[[.v A,.v B,.v (.tup [.int x,.int y,.int z]),.v (.tup [.int u,.int v,.int w]),.v (.int f),.v (.int s),.v (.int (s*x - f*u))],fs]) (B7 (oE U hx J hu rfl (f9 rfl rfl rfl) rfl (f9 rfl rfl rfl)) rfl) ?_;exact w4 (u7 (A3 rfl (A3 (oE U hy J Y rfl (f9 rfl rfl rfl) rfl (f9 rfl rfl rfl)) (A3 (oE U hz J hw rfl (f9 rfl rfl rfl) rfl (f9 rfl rfl rfl)) rfl))) e3)
theorem Ks {b c d:Pt}(fs:vO_) (Y:Ps k a) (Z:Ps k b) (J:Ps k c) (U:Ps k d) (hk:k<=400) (h:a8 a b c*a8 a b d<0):bL [pt a,pt b,pt c,pt d] fs=some (pt (xq a b c d),fs):=by
 have d1:=Bd.det Y Z J;have d2:=Bd.det Y Z U;have e1:=hU a b c;have e2:=hU a b d;have w1:=js a b c fs Y Z J hk;have w2:=js a b d fs Y Z U hk;have la:=L6 a;have lb:=L6 b;have lc:=L6 c;have ld:=L6 d;generalize K7 a b c=f at *;generalize K7 a b d=s at *;have ne:a8 a b c - a8 a b d≠0:=fun z=>by
  have:a8 a b c=a8 a b d:=by grind
  rw[this] at h;have:=W8 (a8 a b d);grind
 have hs:a8 a b c / (a8 a b c - a8 a b d)*(a8 a b c - a8 a b d)=a8 a b c:=Pr ne;have K:0<(pL a:Rat)*pL b*pL c*pL d:=U8 (U8 (U8 la lb) lc) ld;have bt:((s*pL c - f*pL d:Int):Rat)=((pL a:Rat)*pL b*pL c*pL d)*(a8 a b d - a8 a b c):=by
  rw[NB,My,My,e1,e2];grind
 have b0:s*pL c - f*pL d≠0:=fun z=>by
  rw[z] at bt;rcases MM.mp bt.symm with q | q
  .grind
  .exact ne (by grind)
 have bb:Bd (2000) (s*pL c - f*pL d):=((d2.mul J.l).sub (d1.mul U.l)).mono ∅;refine HE w1 w2 (d1.bits ∅) (d2.bits ∅) (J.x.bits ∅) (J.y.bits ∅) (J.l.bits ∅) (U.x.bits ∅) (U.y.bits ∅) (U.l.bits ∅) ?_;rw[mK _ _ _ fs b0 bb #[]];have x1:Rat.divInt (s*pX c - f*pX d) (s*pL c - f*pL d)=(xq a b c d).1:=by
  refine qf b0 ?_;rw[bt,NB,My,My,e1,e2,U4,U4];show (c.1+a8 a b c / (a8 a b c - a8 a b d)*(d.1 - c.1))*_=_;generalize a8 a b c / (a8 a b c - a8 a b d)=t at *;grind
 have x2:Rat.divInt (s*pY c - f*pY d) (s*pL c - f*pL d)=(xq a b c d).2:=by
  refine qf b0 ?_;rw[bt,NB,My,My,e1,e2,T8,T8];show (c.2+a8 a b c / (a8 a b c - a8 a b d)*(d.2 - c.2))*_=_;generalize a8 a b c / (a8 a b c - a8 a b d)=t at *;grind
 rw[x1,x2]
theorem Mc (a b c d:Pt):K7 a b c*K7 a b d<0↔l7 (a8 a b c)*l7 (a8 a b d) = -1:=by
 rw[R0];have J:=hU a b c;have U:=hU a b d;have K:0<((pL a:Rat)*pL b*pL c)*((pL a:Rat)*pL b*pL d):=U8 (U8 (U8 (L6 a) (L6 b)) (L6 c)) (U8 (U8 (L6 a) (L6 b)) (L6 d));generalize K7 a b c=f at *;generalize K7 a b d=s at *;have e:((f*s:Int):Rat)=a8 a b c*a8 a b d*(((pL a:Rat)*pL b*pL c)*((pL a:Rat)*pL b*pL d)):=by
  rw[My,J,U];grind
 generalize ((pL a:Rat)*pL b*pL c)*((pL a:Rat)*pL b*pL d)=M at *;generalize a8 a b c*a8 a b d=x at *;rw[<-Rat.intCast_lt_intCast,e];constructor
 .intro h;refine ND.mp fun q=>?_
  have:=Ml q (MS K);have h:x*M<0:=h;grind
 .intro h;have:=Mn (show 0 < -x by grind) K;show x*M<0;grind
abbrev qT (x0:Sl) (a b:Pt) (acc:vT_) (x4 x5 x6 x7:Sl) (fs:vO_):DS:=#[[x0,.v (pt a),.v (pt b),.own (acc.map pt),x4,x5,x6,x7],fs]
def wZ {f:DE}{U Z Y x6 x7:Sl}{b:Pt}{J:vT_}{fs:vO_}(h:f (qT U a b J Z Y x6 x7 fs)=some (pt z,qT U a b J Z Y x6 x7 fs)) (hl:J.length<=10000):J0 3 f (qT U a b J Z Y x6 x7 fs)=some (.next,qT U a b (J++[z]) Z Y x6 x7 fs):=by
 rw[U7 (i:=3) (s1:=qT U a b J Z Y x6 x7 fs) (ds:=J.map pt) (ds0:=J.map pt) (d:=pt z) rfl h rfl (by rw[Mj,MU];omega)];unfold qT;rw[Oz];rfl
abbrev eo:c8:=xj bL Z3 R5
def Aa {b u w:Pt}(U x6 x7:Sl) (J:vT_) (fs:vO_) (Y:Ps k a) (Z:Ps k b) (hu:Ps k u) (hw:Ps k w) (hk:k<=400) (hl:J.length+2<=10000) :
  nq bL Z3 R5 (qT U a b J (.v (pt u)) (.v (pt w)) x6 x7 fs)=some (.next,qT U a b (J++L0 a b (u,w)) (.v (pt u)) (.v (pt w)) (.v (.int (K7 a b u))) (.v (.int (K7 a b w))) fs):=by
 have e1:=js a b u fs Y Z hu hk;have e2:=js a b w fs Y Z hw hk;have d1:=Bd.det Y Z hu;have d2:=Bd.det Y Z hw;have s1:=CT a b u;have s2:=Mc a b u w;have cr:=fun h=>Ks fs Y Z hu hw hk ((R0 _ _).mp h)
 have b1:A8 (K7 a b u)=true:=d1.bits ∅;have b2:A8 (K7 a b w)=true:=d2.bits ∅;generalize bL=m at *;generalize Z3=m2 at *;generalize K7 a b u=f at *;generalize K7 a b w=s at *;refine u9 (s1:=qT U a b J (.v (pt u)) (.v (pt w)) (.v (.int f)) (.v (.int s)) fs) (sH (A3 (u7 rfl e1) (A3 (u7 rfl e2) rfl)) rfl) ?_;have p1:∀J:List Pt,dB (a9 (n8 (fun i j=>decide (j<=i))) (dL 6) (Sj 0)) (qT U a b J (.v (pt u)) (.v (pt w)) (.v (.int f)) (.v (.int s)) fs)=some (decide (0<=f),qT U a b J (.v (pt u)) (.v (pt w)) (.v (.int f)) (.v (.int s)) fs):=fun J=>D4 (f9 rfl rfl rfl)
 have p2:∀J:List Pt,dB (a9 (n8 (fun i j=>decide (i<j))) (a9 o7 (dL 6) (dL 7)) (Sj 0)) (qT U a b J (.v (pt u)) (.v (pt w)) (.v (.int f)) (.v (.int s)) fs)=some (decide (f*s<0),qT U a b J (.v (pt u)) (.v (pt w)) (.v (.int f)) (.v (.int s)) fs):=fun J=>D4 (f9 (f9 rfl rfl (Q0 b1 b2)) rfl rfl)
 have st:∀J:List Pt,J.length<=10000->j7 (dB (a9 (n8 (fun i j=>decide (i<j))) (a9 o7 (dL 6) (dL 7)) (Sj 0))) (J0 3 (d7 m (a7 (dV 1) (a7 (dV 2) (a7 (dV 4) (a7 (dV 5) b9)))))) j8 (qT U a b J (.v (pt u)) (.v (pt w)) (.v (.int f)) (.v (.int s)) fs)=some (.next,qT U a b (J++(if l7 (a8 a b u)*l7 (a8 a b w) = -1 then [xq a b u w] else [])) (.v (pt u)) (.v (pt w)) (.v (.int f)) (.v (.int s)) fs):=fun J h=>by
  have p2:=p2 J;by_cases c:l7 (a8 a b u)*l7 (a8 a b w) = -1
  .rw[MA (s2.mpr c)] at p2;rw[G1 p2,iO c];exact wZ (u7 rfl (cr c)) h
  .rw[MK (fun z=>c (s2.mp z))] at p2;rw[E9 p2,iR c,MQ]
 have p1:=p1 J;show _=some (Fl.next,qT U a b (J++((if l7 (a8 a b u) = -1 then [] else [u])++_)) _ _ _ _ fs);by_cases c:l7 (a8 a b u) = -1
 .rw[MK (fun z=>s1.mp z c)] at p1;rw[iO c,Nk];exact u9 (E9 p1) (st J ∅)
 .rw[MA (s1.mpr c)] at p1;rw[iR c,<-NL];exact u9 ((G1 p1).trans (wZ rfl ∅)) (st _ (by rw[MC,NM];omega))
theorem yd {b:Pt}(J:Sl) (fs:vO_) (U:Ps k a) (Y:Ps k b) (hk:k<=400):∀(qs:List (Pt × Pt)) (acc:vT_) (x4 x5 x6 x7:Sl),(∀q∈qs,Ps k q.1/\Ps k q.2)->acc.length+2*qs.length<=10000->∃y4 y5 y6 y7,A9 (p9 2 (l8 (d8 4) (l8 (d8 5) t6))) (nq bL Z3 R5) (qs.map pq) (qT J a b acc x4 x5 x6 x7 fs)=some (.next,qT J a b (acc++A7 a b qs) y4 y5 y6 y7 fs)
 |[],acc,x4,x5,x6,x7,_,_=>#[x4,x5,x6,x7,by unfold A7;rw[List.flatMap_nil,MQ];rfl]
 |q::r,acc,x4,x5,x6,x7,h,hl=>by
  obtain⟨h1,h2⟩:=h q (Mi ..);rw[Mw] at hl;have l1:=pj a b q;obtain⟨y4,y5,y6,y7,e⟩:=yd J fs U Y hk r (acc++L0 a b q) (.v (pt q.1)) (.v (pt q.2)) (.v (.int (K7 a b q.1))) (.v (.int (K7 a b q.2))) (fun z Z=>h z (Mf _ Z)) (by rw[MC];omega);refine#[y4,y5,y6,y7,?_];rw[Mo,Q1 (s1:=qT J a b acc (.v (pt q.1)) (.v (pt q.2)) x6 x7 fs) rfl (Aa J x6 x7 acc fs U Y h1 h2 hk ∅),e];unfold A7;rw[OZ,NL]
def Ek {b:Pt}{K:vT_}(fs:vO_) (Y:Ps k a) (hb:Ps k b) (hk:k<=400) (U:∀p∈K,Ps k p) (hl:K.length<=400):eo [.lst (K.map pt),pt a,pt b] fs=some (.lst ((A7 a b (i9 true K)).map pt),fs):=by
 have nl:=aN true K;obtain⟨y4,y5,y6,Z,e⟩:=yd (.v (.lst (K.map pt))) fs Y hb hk (i9 true K) [] .no .no .no .no (fun q J=>#[U _ (DL.nbs_mem J).1,U _ (DL.nbs_mem J).2]) (by rw[NQ];omega);rw[Nk] at e;have ed:=Bk K fs ∅;refine v5 (s:=#[[.v (.lst (K.map pt)),.v (pt a),.v (pt b),.v (.lst ((A7 a b (i9 true K)).map pt)),y4,y5,y6,Z],fs]) ?_;show kj bL Z3 R5 #[[.v (.lst (K.map pt)),.v (pt a),.v (pt b),.no,.no,.no,.no,.no],fs]=_;unfold kj;generalize bL=m1 at *;generalize Z3=m2 at *;generalize R5=m3 at *;refine u9 (s1:=qT (.v (.lst (K.map pt))) a b [] .no .no .no .no fs) rfl ?_;exact u9 ((dJ (ds:=(i9 true K).map pq) (u7 rfl ed)).trans e) (w4 rfl)
abbrev N9:c8:=uD eo R5
theorem yb (J x1:Sl) (fs:vO_) (hS:∀c∈Ls,Ps 8 c.1/\Ps 8 c.2):∀(es:List (Pt × Pt)) (K:vT_) (x2 x3 x4:Sl),(x2 = .own (K.map pt)\/x2 = .v (.lst (K.map pt)))->(∀e∈es,e∈Ls/\e.1≠e.2)->(∀q∈i9 true K,V9 Ls q.1 q.2)->(∀z∈K,PtS 35 z)->K.length*2 ^ es.length<=400 ->
  ∃y2 y3 y4,A9 (p9 2 (l8 (d8 3) (l8 (d8 4) t6))) (lK eo R5) (es.map pq) #[[J,x1,x2,x3,x4],fs]=some (.next,#[[J,x1,y2,y3,y4],fs])/\(y2 = .own ((L8 K es).map pt)\/y2 = .v (.lst ((L8 K es).map pt)))/\∀z∈L8 K es,PtS 35 z
 |[],K,x2,x3,x4,h,_,_,U,_=>#[x2,x3,x4,rfl,h,U]
 |e::r,K,x2,x3,x4,h,he,O,U,hl=>by
  obtain⟨eL,en⟩:=he e (Mi ..);obtain⟨s1,s2⟩:=hS e eL;have Y:K.length<=400:=Mm (Sg _ (Nat.pow_pos #[])) hl;have c:=Ek (k:=70) fs (s1.mono #[]) (s2.mono #[]) #[] (fun z Z=>(U z Z).ps) Y;have O':=vV en eL O;have z':=sF (m:=35) hS eL O #[] U;have l1:=mf e.1 e.2 (i9 true K);have l2:=aN true K;obtain⟨y2,y3,y4,q,hy,sz⟩:=yb J x1 fs hS r (A7 e.1 e.2 (i9 true K)) (.v (.lst ((A7 e.1 e.2 (i9 true K)).map pt))) (.v (pt e.1)) (.v (pt e.2)) (.inr rfl) (fun z U=>he z (Mf _ U)) O' z' (by
   rw[Mw,Qu] at hl;refine Mm (Nat.mul_le_mul_right (2 ^ r.length) (show (A7 e.1 e.2 (i9 true K)).length<=K.length*2 by omega)) ?_;rw[Nat.mul_assoc,Qb 2];exact hl)
  refine#[y2,y3,y4,?_,hy,sz];have st:lK eo R5 #[[J,x1,x2,.v (pt e.1),.v (pt e.2)],fs]=some (.next,#[[J,x1,.v (.lst ((A7 e.1 e.2 (i9 true K)).map pt)),.v (pt e.1),.v (pt e.2)],fs]):=by
   rcases h with rfl | rfl
   .exact B7 (cS (sl':=[J,x1,.v (.lst (K.map pt)),.v (pt e.1),.v (pt e.2)]) rfl c) rfl
   .exact B7 (u7 rfl c) rfl
  rw[Mo,Q1 (s1:=#[[J,x1,x2,.v (pt e.1),.v (pt e.2)],fs]) rfl st,q]
def AB {A:vT_}(hA:ShC A) (hB:ShC B) (fs:vO_):N9 [c7 A,c7 B] fs=some (.lst ((L8 A (i9 true B)).map pt),fs)/\∀z∈L8 A (i9 true B),PtS 35 z:=by
 have J:∀{A:vT_},ShC A->∀q∈i9 true A,q.1≠q.2/\Ps 8 q.1/\Ps 8 q.2:=fun {A} hA q U=>by
  have h0:0<A.length:=by have:=hA.lo;omega
  refine#[?_,(hA.sz _ (DL.nbs_mem U).1).1,(hA.sz _ (DL.nbs_mem U).2).1];obtain⟨i,rfl⟩:=(cj h0 q).mp U;exact fun z=>hA.ne i z.symm
 have nl:=aN true B;have hi:=hA.hi;obtain⟨y2,y3,y4,q,Z,sz⟩:=yb (Ls:=i9 true A++i9 true B) (.v (c7 A)) (.v (c7 B)) fs (fun c hc=>by
   rcases Mp.mp hc with w | w
   .exact(J hA c w).2
   .exact(J hB c w).2) (i9 true B) A (.own (A.map pt)) .no .no (.inl rfl) (fun e Y=>#[MO _ Y,(J hB e Y).1]) (fun q U=>#[q,MX _ U,(J hA q U).1,Y4 _ _,ai _ _]) (fun z hz=>(hA.sz z hz).2) (by
   have h6:(i9 true B).length<=6:=by have:=hB.hi;omega
   have:A.length*2 ^ (i9 true B).length<=6*2 ^ 6:=PQ hA.hi (Pp #[] h6);omega)
 refine#[?_,sz];have ed:=FY B fs (by have:=hB.hi;omega);refine v5 (s:=#[[.v (c7 A),.v (c7 B),.v (.lst ((L8 A (i9 true B)).map pt)),y3,y4],fs]) ?_;show ou eo R5 #[[.v (c7 A),.v (c7 B),.no,.no,.no],fs]=_;unfold ou;generalize eo=m1 at *;generalize R5=m3 at *;refine u9 (s1:=#[[.v (c7 A),.v (c7 B),.own (A.map pt),.no,.no],fs]) (Y7 (i:=2) (s1:=#[[.v (c7 A),.v (c7 B),.no,.no,.no],fs]) (ds:=A.map pt) rfl (by show 2<5;decide)) ?_;refine u9 ((dJ (s1:=#[[.v (c7 A),.v (c7 B),.own (A.map pt),.no,.no],fs]) (ds:=(i9 true B).map pq) (u7 rfl ed)).trans q) ?_;rcases Z with rfl | rfl
 .exact w4 rfl
 .exact w4 rfl
structure PK (kx kz:Nat) (p:Pt):Prop where
 x:Bd kx (pX p)
 y:Bd kx (pY p)
 l:Bd kz (pL p)
def IT {Y J:Nat}(x y d:Int) (fs:vO_) (hd:1<=d) (bx:Bd Y x) (U:Bd Y y) (Z:Bd J d) (hk:J<=100):∃p,bZ [.int x,.int y,.int d] fs=some (pt p,fs)/\PK Y J p:=by
 obtain⟨l1,l2,l3⟩:=Jx x y hd;exact#[_,mK x y d fs ∅ Z ∅,Nc l1 bx,Nc l2 U,Nc l3 Z]
def An {kx U lx Y n:Nat}{A B:Pt}(hA:PK kx U A) (hB:PK lx Y B) (h1:kx+Y<=n) (h2:lx+U<=n) (hn:n<=90) (hz:U+Y<=50) (fs:vO_):∃M,Y8 [pt A,pt B] fs=some (pt M,fs)/\PK (n+1) (2+U+Y) M:=by
 have b2:Bd 2 2:=Bd.lit #[];have J:∀{k:Nat}{i:Int},Bd k i->k<=1000->A8 i=true:=fun h h'=>h.bits ∅
 have m1:=Q0 (J hA.x ∅) (J hB.l ∅);have m2:=Q0 (J hB.x ∅) (J hA.l ∅);have m3:=Q0 (J hA.y ∅) (J hB.l ∅);have m4:=Q0 (J hB.y ∅) (J hA.l ∅);have m5:=Q0 (J b2 ∅) (J hA.l ∅);have Z:=b2.mul hA.l;have m6:=Q0 (J Z ∅) (J hB.l ∅);have bX:Bd (n+1) (pX A*pL B+pX B*pL A):=((hA.x.mul hB.l).mono h1).add ((hB.x.mul hA.l).mono h2) |>.mono ∅
 have bY:Bd (n+1) (pY A*pL B+pY B*pL A):=((hA.y.mul hB.l).mono h1).add ((hB.y.mul hA.l).mono h2) |>.mono ∅
 have bD:Bd (2+U+Y) (2*pL A*pL B):=Z.mul hB.l;have dp:0<2*pL A*pL B:=Int.mul_pos (Int.mul_pos #[] (dH A)) (dH B);obtain⟨M,e,hM⟩:=IT (pX A*pL B+pX B*pL A) (pY A*pL B+pY B*pL A) (2*pL A*pL B) fs ∅ bX bY bD ∅;refine#[M,?_,hM];refine v5 (s:=#[[.v (pt A),.v (pt B),.v (.int (pX A*pL B+pX B*pL A))],fs]) ?_;show gX bZ #[[.v (pt A),.v (pt B),.no],fs]=_;unfold gX;rw[u5 (s1:=#[[.v (pt A),.v (pt B),.v (.int (pX A*pL B+pX B*pL A))],fs]) (B7 (f9 (f9 rfl rfl m1) (f9 rfl rfl m2) rfl) rfl)];exact w4 (fq (s1:=#[[.v (pt A),.v (pt B),.v (.int (pX A*pL B+pX B*pL A))],fs]) (D9 rfl (D9 (f9 (f9 rfl rfl m3) (f9 rfl rfl m4) rfl) (D9 (f9 (f9 rfl rfl m5) rfl m6) rfl))) e)
def Wd (d:D):Prop:=∃(w:Str) (i:Int),(w = "one" \/ w = "other")/\0<=i/\i<6/\d = .tup [.str w,.int i]
def Wd.th (h:Wd d):Th 131 1 d:=by
 obtain⟨w,i,U,Y,h1,rfl⟩:=h;have J:Bd 131 i:=(qB ∅:Bd 3 i).mono #[];rcases U with rfl | rfl
 .simp only[Th,Ths];exact#[rM,J,trivial]
 .simp only[Th,Ths];exact#[ug,J,trivial]
def pC {f:DE}{t:D->DS->Option DS}{b:DM}{s:DS}(h1:f s=some (.tup ds,s1)):G5 f t b s=A9 t b ds s1:=by
 unfold G5;rw[h1];rfl
def Wr (m:Nat) (r:D):Prop:=∃ds,r = .tup ds/\(∀d∈ds,Wd d)/\ds.length=m
theorem Wr.th {r:D}(h:Wr m r):Th 131 2 r:=by
 obtain⟨ds,rfl,h,_⟩:=h;show Ths 131 1 ds;exact Ths.of fun d J=>(h d J).th
def ye {w:Str}:A2 (.str w) (.str w)=some (.bl false):=by
 have:A2 (.str w) (.str w)=some (.bl (!decide (w=w))):=rfl;rw[this,MA rfl];rfl
def DU {A:vT_}(hA:ShC A) (hB:ShC B) (h:PpI A B d):Wd d:=by
 have:=hA.hi;have:=hB.hi;cases h with
 |@one i h p=>exact#["one",(i:Int),.inl rfl,by omega,by omega,rfl]
 |@oth i h p=>exact#["other",(i:Int),.inr rfl,by omega,by omega,rfl]
def Cc {R:vD_}(h:∀r∈R,Wr Os.length r):Th 131 4 (.tup [.str "apart",.tup R]):=by
 show Th 131 3 (.str "apart")/\Th 131 3 (.tup R)/\True;refine#[?_,?_,trivial]
 .show U6 "apart";exact xg
 .show Ths 131 2 R;exact Ths.of fun r J=>(h r J).th
abbrev W5:c8:=mw jc
def tW:Option (Str × Nat)->Bool
 |none=>true
 |_=>false
def GJ {b h:DM}{s:DS}(h1:b s=some (.next,s1)):df cs b h s=some (.next,s1):=by simp[df,h1]
def Bp {b h:DM}{s:DS}{r:Option (Fl × DS)}(h1:b s=some (.thr c ds,s1)) (J:cs.contains c=true) (h2:h s1=r):df cs b h s=r:=by
 unfold df;rw[h1,Mh];show (if cs.contains c=true then _ else none)=_;rw[iO J,h2]
def vv (hS:∀A∈Ss,ShC A) (U:∀B∈Os,ShC B) {b:Nat}(h:Th b k d) (J:70<=b) (hb:b<=400) (hk:k<=60) (Z:bk d<=1000000) (fs:vO_):W5 [.tup (Ss.map c7),.tup (Os.map c7),d] fs=some (.bl (tW (cZ Ss Os d)),fs):=by
 have e:=Gj hS U h J hb hk Z fs;generalize cZ Ss Os d=o at *;generalize D.tup (Ss.map c7)=X at *;generalize D.tup (Os.map c7)=Y at *;show mw jc [X,Y,d] fs=_;generalize jc=m at *;cases o with
 |none=>
  refine v5 (s:=#[[.v X,.v Y,.v d,.v (.bl true)],fs]) ?_;show fG m #[[.v X,.v Y,.v d,.no],fs]=_;unfold fG;refine u9 (s1:=#[[.v X,.v Y,.v d,.v (.bl false)],fs]) rfl (u9 (s1:=#[[.v X,.v Y,.v d,.v (.bl true)],fs]) (GJ ?_) rfl);unfold ik gZ;rw[mN (sl:=[.v X,.v Y,.v d,.v (.bl false)]) rfl e];rfl
 |some wk=>
  obtain⟨w,n⟩:=wk;refine v5 (s:=#[[.v X,.v Y,.v d,.v (.bl false)],fs]) ?_;show fG m #[[.v X,.v Y,.v d,.no],fs]=_;unfold fG;refine u9 (s1:=#[[.v X,.v Y,.v d,.v (.bl false)],fs]) rfl (u9 (s1:=#[[.v X,.v Y,.v d,.v (.bl false)],fs]) (Bp (s1:=#[[.v X,.v Y,.v d,.v (.bl false)],fs]) (c := "NoPaper") (ds:=[.str w,.int (n:Int)]) ?_ (by rfl) rfl) rfl);unfold ik gZ;rw[mN (sl:=[.v X,.v Y,.v d,.v (.bl false)]) rfl e];rfl
def tf {s:DS}{R:vD_}(h:fi s=some (ds,s1)) (hz:ds.length<=sizeLine) (c:E8 (fun d=>some (.v d::Q8 idx s1.sl)) fc fe ds s1.fs=some (R,fs')):K9 idx fi fc fe s=some (R,{ s1 with fs:=fs' }):=by
 unfold K9;rw[h,Mh];simp only[iO hz,c,Qe]
def kn {mk:D->Option (List Sl)}{x:D}{r R:vD_}{fs:vO_}{s:DS}(h1:mk d=some sl) (h2:fe #[sl,fs]=some (x,s)) (h3:E8 mk F6 fe r s.fs=some (R,fs')):E8 mk F6 fe (d::r) fs=some (x::R,fs'):=by
 rw[E8,h1,Mh,show F6 #[sl,fs]=some (true,#[sl,fs]) from rfl,Mh,iO rfl,h2,Mh,h3];rfl
def Ii (h:i<2) {j:Int}(U:0<=j) (h1:j<4) {w:D}(J:[D.str "one",.str "other"][i]? = some w):Wd (.tup [w,.int j]):=by
 match i,h with
 |0,_=>cases J;exact#["one",j,.inl rfl,U,by omega,rfl]
 |1,_=>cases J;exact#["other",j,.inr rfl,U,by omega,rfl]
theorem xT:∀(ds:vD_) {n:Nat}{f:FS},Fd4 n f->n+2*ds.length<2 ^ 28->∃R f',E8 (fun d=>some (.v d::[.v .feed])) F6 (i7 (a7 (a9 d9 (l5 (n9 (a7 (dC (.str "one")) (a7 (dC (.str "other")) b9)))) (d7 B0 (a7 (dV 1) (a7 (Sj 2) b9)))) (a7 (d7 B0 (a7 (dV 1) (a7 (Sj 4) b9))) b9))) ds (some f)=some (R,some f')/\(∀r∈R,Wd r)/\R.length=ds.length/\Fd4 (n+2*ds.length) f'
 |[],n,f,h,_=>#[[],f,rfl,fun r J=>(Mx J).elim,rfl,h]
 |d::ds,n,f,h,hn=>by
  rw[Mw] at hn;obtain⟨r1,f1,e1,a1,a2,h1⟩:=J9 2 h;obtain⟨r2,f2,Z,U,b2,h2⟩:=J9 4 h1;obtain⟨R,f3,e3,Y,c2,h3⟩:=xT ds h2 ∅;obtain⟨i,rfl⟩:=Px a1;have hi:i<2:=by omega
  obtain⟨w,hw⟩:∃w,[D.str "one",.str "other"][i]? = some w:=#[_,ME hi]
  have ix:d9 (.lst [.str "one",.str "other"]) (.int (i:Int))=some w:=(B9 _ _).trans (pb hw);have l2:(2:Nat)<=sizeLine:=by decide
  refine#[.tup [w,.int r2]::R,f3,kn rfl (T1 (f9 (eE (kv (D9 rfl (D9 rfl rfl)) l2)) (G9 rfl e1) ix) (G9 rfl Z)) e3,?_,by rw[Mw,Mw,c2],h3.mono (by rw[Mw];omega)];intro r J;rcases xo.mp J with rfl | J
  .exact Ii hi U b2 hw
  .exact Y r J
abbrev S6:c8:=xA B0
theorem uR (Z:Os.length<=2) (X:D):∀(Ss:List (List Pt)) {n:Nat}{f:FS}(rows:vD_) (x4 x5:Sl),Fd4 n f->n+Ss.length*4<2 ^ 28->rows.length+Ss.length<=50 ->
  ∃R y4 y5 f',A9 (d8 4) (lG B0) (Ss.map c7) #[[.v .feed,.v X,.v (.tup (Os.map c7)),.own rows,x4,x5],some f]=some (.next,#[[.v .feed,.v X,.v (.tup (Os.map c7)),.own (rows++R),y4,y5],some f'])/\(∀r∈R,Wr Os.length r)/\R.length=Ss.length/\Fd4 (n+Ss.length*4) f'
 |[],n,f,rows,x4,x5,h,_,_=>#[[],x4,x5,f,by rw[MQ];rfl,fun r hr=>(Mx hr).elim,rfl,h]
 |A::Ss,n,f,rows,x4,x5,h,hn,hl=>by
  rw[Mw] at hn hl;obtain⟨r,f1,e1,c1,U,h1⟩:=xT (Os.map c7) h (by rw[Mj];omega);rw[Mj] at U h1;obtain⟨R,y4,y5,f2,e2,d1,d2,h2⟩:=uR Z X Ss (rows++[.tup r]) (.v (c7 A)) (.own r) (h1.mono (show n+2*Os.length<=n+4 by omega)) ∅ (by rw[MC,NM];omega);have lz:(Os.map c7).length<=sizeLine:=by rw[Mj,MU];omega
  have tp:one U3 [.lst r]=some (.tup r):=rfl;have st:lG B0 #[[.v .feed,.v X,.v (.tup (Os.map c7)),.own rows,.v (c7 A),x5],some f]=some (.next,#[[.v .feed,.v X,.v (.tup (Os.map c7)),.own (rows++[.tup r]),.v (c7 A),.own r],some f1]):=by
   generalize Os.map c7=Y at *;exact u9 (s1:=#[[.v .feed,.v X,.v (.tup Y),.own rows,.v (c7 A),.own r],some f1]) (oh (tf (s1:=#[[.v .feed,.v X,.v (.tup Y),.own rows,.v (c7 A),x5],some f]) rfl lz e1) (by decide:5<6) rfl) (U7 (i:=3) (s1:=#[[.v .feed,.v X,.v (.tup Y),.own rows,.v (c7 A),.own r],some f1]) (ds0:=rows) (ds:=rows) rfl (M3 rfl tp) rfl (by rw[MU];omega))
  refine#[.tup r::R,y4,y5,f2,?_,?_,by rw[Mw,Mw,d2],h2.mono (by rw[Mw];omega)]
  .rw[Mo,Q1 (s1:=#[[.v .feed,.v X,.v (.tup (Os.map c7)),.own rows,.v (c7 A),x5],some f]) rfl st,e2,NL];rfl
  .intro z J;rcases xo.mp J with rfl | J
   .exact#[r,rfl,c1,U]
   .exact d1 z J
def oK {n:Nat}{f:FS}(h:Fd4 n f) (hn:n<2 ^ 27) (lS:Ss.length<=2) (Y:Os.length<=2):∃R f',S6 [.feed,.tup (Ss.map c7),.tup (Os.map c7)] (some f)=some (.tup [.str "apart",.tup R],some f')/\(∀r∈R,Wr Os.length r)/\R.length=Ss.length/\Fd4 (n+8) f':=by
 obtain⟨R,U,Z,f',e,h1,h2,h3⟩:=uR Y (.tup (Ss.map c7)) Ss [] .no .no h ∅ (by rw[NQ];omega);rw[Nk] at e;refine#[R,f',v5 (s:=#[[.v .feed,.v (.tup (Ss.map c7)),.v (.tup (Os.map c7)),.own R,U,Z],some f']) ?_,h1,h2,h3.mono ∅];show nu B0 #[[.v .feed,.v (.tup (Ss.map c7)),.v (.tup (Os.map c7)),.no,.no,.no],some f]=_;unfold nu;generalize B0=m at *;have J:one U3 [.lst R]=some (.tup R):=rfl;refine u9 (s1:=#[[.v .feed,.v (.tup (Ss.map c7)),.v (.tup (Os.map c7)),.own [],.no,.no],some f]) rfl ?_;exact u9 ((pC (ds:=Ss.map c7) rfl).trans e) (w4 (T1 rfl (M3 rfl J)))
def J4 (A B:vT_):Bool:=!decide (L8 A (i9 true B)=[])
open Classical in
def yY {A:vT_}(hA:ShC A) (hB:ShC B):J4 A B=true↔Mt A B:=by
 rw[KS hA hB];simp[J4]
def Lz {A:vT_}(hA:ShC A) (hO:∀B∈Os,ShC B) (lO:Os.length<=2) (w:D) (fs:vO_) (x0 x1 x2 x3 x4 x8 x9 J U:Sl) :
  jR m1 m2 m3 m4 m5 m6 N9 m8 m9 #[[x0,x1,x2,x3,x4,.v (.tup (Os.map c7)),.v w,.v (c7 A),x8,x9,J,U],fs]=some (.next,#[[x0,x1,x2,x3,x4,.v (.tup (Os.map c7)),.v (if Os.any (J4 A)=true then .str "meet" else w),.v (c7 A),x8,x9,J,U],fs]):=by
 have ev:∀B∈Os,(dB (a9 A2 (d7 N9 (a7 (dV 1) (a7 (dV 0) b9))) (l5 (n9 b9)))) #[.v (c7 B)::[.v (c7 A)],fs]=some (J4 A B,#[.v (c7 B)::[.v (c7 A)],fs]):=fun B hB=>by
  obtain⟨e,sz⟩:=AB hA (hO B hB) fs;have n:=gF (b:=131) (k:=1) ((L8 A (i9 true B)).map pt) (fun d hd=>by
   obtain⟨z,Z,rfl⟩:=ML.mp hd;exact mD (sz z Z).ps #[]) #[] #[]
  have q:(!decide ((L8 A (i9 true B)).map pt=[]))=J4 A B:=by unfold J4;simp
  rw[q] at n;generalize N9=m at *;exact D4 (f9 (u7 rfl e) (eE (kv rfl (MY _))) n)
 have lz:(Os.map c7).length<=sizeLine:=by rw[Mj,MU];omega
 have cm:E8 (fun d=>some (.v d::[.v (c7 A)])) (dB (a9 A2 (d7 N9 (a7 (dV 1) (a7 (dV 0) b9))) (l5 (n9 b9)))) (dV 0) (Os.map c7) fs=some ((Os.filter (J4 A)).map c7,fs):=by
  clear lz lO;induction Os with
  |nil=>rfl
  |cons B r ih=>
   have e:=ev B (Mi ..);have ih:=ih (fun z Z=>hO z (Mf _ Z)) (fun z Z=>ev z (Mf _ Z));rw[Mo,E8,Mh,e,Mh,List.filter_cons];cases J4 A B with
   |true=>
    rw[iO rfl,iO rfl];show ((E8 (fun d=>some (.v d::[.v (c7 A)])) _ (dV 0) (r.map c7) fs).map fun z=>(c7 B::z.1,z.2))=_;rw[ih];rfl
   |false=>rw[iR Mk,iR Mk];exact ih
 have ne:=gF (b:=131) (k:=2) ((Os.filter (J4 A)).map c7) (fun d hd=>by
  obtain⟨B,hB,rfl⟩:=ML.mp hd;have hB:=hO B (QI.mp hB).1;show Ths 131 1 (B.map pt);exact Ths.of fun z Z=>by
   obtain⟨p,hp,rfl⟩:=ML.mp Z;exact mD (hB.ps p hp) #[]) #[] #[]
 have q:(!decide ((Os.filter (J4 A)).map c7=[]))=Os.any (J4 A):=by
  rw[Oj];simp[Od,List.filter_eq_nil_iff]
 rw[q] at ne;have e:dB (a9 A2 (l5 (K9 [7] (T6 (dV 5)) (dB (a9 A2 (d7 N9 (a7 (dV 1) (a7 (dV 0) b9))) (l5 (n9 b9)))) (dV 0))) (l5 (n9 b9))) #[[x0,x1,x2,x3,x4,.v (.tup (Os.map c7)),.v w,.v (c7 A),x8,x9,J,U],fs]=some (Os.any (J4 A),#[[x0,x1,x2,x3,x4,.v (.tup (Os.map c7)),.v w,.v (c7 A),x8,x9,J,U],fs]):=by
  generalize N9=m at *;generalize Os.map c7=Y at *;exact D4 (f9 (eE (kX (s1:=#[[x0,x1,x2,x3,x4,.v (.tup Y),.v w,.v (c7 A),x8,x9,J,U],fs]) rfl lz cm)) (eE (kv rfl (MY _))) ne)
 unfold jR;by_cases c:Os.any (J4 A)=true
 .rw[iO c];rw[c] at e;exact(G1 e).trans rfl
 .rw[iR c];rw[Nl] at c;rw[c] at e;exact E9 e
theorem pJ (hO:∀B∈Os,ShC B) (lO:Os.length<=2) (fs:vO_) (Z x1 x2 x3 x4 Y x9 J U:Sl):∀(Ss:List (List Pt)) (w:D) (x7:Sl),(∀A∈Ss,ShC A) ->
  ∃y7,A9 (d8 7) (jR m1 m2 m3 m4 m5 m6 N9 m8 m9) (Ss.map c7) #[[Z,x1,x2,x3,x4,.v (.tup (Os.map c7)),.v w,x7,Y,x9,J,U],fs]=some (.next,#[[Z,x1,x2,x3,x4,.v (.tup (Os.map c7)),.v (if Ss.any (fun A=>Os.any (J4 A))=true then .str "meet" else w),y7,Y,x9,J,U],fs])
 |[],w,x7,_=>#[x7,rfl]
 |A::r,w,x7,h=>by
  have e:=Lz (m1:=m1) (m2:=m2) (m3:=m3) (m4:=m4) (m5:=m5) (m6:=m6) (m8:=m8) (m9:=m9) (h A (Mi ..)) hO lO w fs Z x1 x2 x3 x4 Y x9 J U;obtain⟨y7,q⟩:=pJ (m1:=m1) (m2:=m2) (m3:=m3) (m4:=m4) (m5:=m5) (m6:=m6) (m8:=m8) (m9:=m9) hO lO fs Z x1 x2 x3 x4 Y x9 J U r (if Os.any (J4 A)=true then .str "meet" else w) (.v (c7 A)) fun z hz=>h z (Mf _ hz)
  refine#[y7,?_];rw[Mo,Q1 (s1:=#[[Z,x1,x2,x3,x4,.v (.tup (Os.map c7)),.v w,.v (c7 A),Y,x9,J,U],fs]) rfl e,q,List.any_cons];have:(if r.any (fun A=>Os.any (J4 A))=true then D.str "meet" else if Os.any (J4 A)=true then .str "meet" else w)=if (Os.any (J4 A)||r.any (fun A=>Os.any (J4 A)))=true then .str "meet" else w:=by
   cases Os.any (J4 A) <;> cases r.any (fun A=>Os.any (J4 A)) <;> rfl
  rw[this]
def EJ (U:∀A∈Ss,ShC A) (J:∀B∈Os,ShC B):(if Ss.any (fun A=>Os.any (J4 A))=true then D.str "meet" else .str "apart") = .str (F8 Ss Os):=by
 have q:Ss.any (fun A=>Os.any (J4 A))=true↔eW Ss Os:=by
  rw[Od];constructor
  .rintro⟨A,hA,h⟩;rw[Od] at h;obtain⟨B,hB,h⟩:=h;exact#[A,hA,B,hB,(yY (U A hA) (J B hB)).mp h]
  .rintro⟨A,hA,B,hB,h⟩;exact#[A,hA,Od.mpr #[B,hB,(yY (U A hA) (J B hB)).mpr h]]
 by_cases c:eW Ss Os
 .rw[iO (q.mpr c),show F8 Ss Os = "meet" from iO c]
 .rw[iR (fun z=>c (q.mp z)),show F8 Ss Os = "apart" from iR c]
end T
namespace T
open PySem L2 DL
def IZ {W V:vD_}(h:W.length+V.length<=sizeLine):W9 (.lst W) (.lst V)=some (W++V):=iO h
def eH (d:D):Prop:=Th 133 8 d/\bk d<=5000
def H31 (d:D):Prop:=Th 131 4 d/\bk d<=200
def H31.g (h:H31 d):eH d:=#[Th.mono #[] _ #[] h.1,by have:=h.2;omega]
def Kz (h:Wd d):bk d<=7:=by
 obtain⟨w,i,J,_,_,rfl⟩:=h;rw[T5,M8,M8,aU,hJ,gw];have:w.length<=5:=by
  rcases J with rfl | rfl <;> decide +kernel
 omega
theorem lF {n:Nat}:∀{ds:vD_},(∀d∈ds,bk d<=n)->F5 ds<=ds.length*(n+1)
 |[],_=>MY _
 |d::r,h=>by
  have a:=h d (Mi ..);have b:=lF fun z J=>h z (Mf _ J)
  rw[M8,Mw,Nat.add_mul];omega
def Lx (Z:m<=2) {r:D}(h:Wr m r):bk r<=16:=by
 obtain⟨ds,rfl,U,Y⟩:=h;rw[T5];have:=lF (n:=7) fun d J=>Kz (U d J)
 have:ds.length*(7+1)<=2*8:=PQ ∅ (tx _);omega
def gA (J:Os.length<=2) {R:vD_}(Y:R.length<=2) (h:∀r∈R,Wr Os.length r):H31 (.tup [.str "apart",.tup R]):=by
 refine#[Cc h,?_];have a:=lF (n:=16) fun d U=>Lx J (h d U)
 have b:R.length*(16+1)<=2*17:=PQ Y (tx _);have c:(("apart" : Str)).length<=5:=by decide +kernel
 rw[T5,M8,M8,aU,hJ,T5];omega
def zo (h:Ps 131 p):H31 (.tup [.str "meet",pt p]):=by
 refine#[?_,?_]
 .show Th 131 3 (.str "meet")/\Th 131 3 (pt p)/\True;exact#[show U6 "meet" from mC,(mD (b:=131) h #[]).mono (tx _) _ #[],trivial]
 .have c:(("meet" : Str)).length<=5:=by decide +kernel
  rw[T5,M8,M8,aU,hJ];have:bk (pt p)=3:=rfl;omega
def Cw (U:∀A∈Ss,ShC A) (J:∀B∈Os,ShC B) (Z:Ss.length<=2) (Y:Os.length<=2) (fs:vO_):∃d,S8 [.tup (Ss.map c7),.tup (Os.map c7)] fs=some (d,fs)/\H31 d:=by
 rcases vR U J ∅ ∅ fs with ⟨e,h⟩ | ⟨A,hA,B,hB,p,e,m⟩
 .refine#[_,e,?_];refine gA (Os:=Os) Y (by rw[Mj];exact Z) fun r hr=>?_
  obtain⟨A,hA,rfl⟩:=ML.mp hr;refine#[_,rfl,fun d hd=>?_,by rw[Mj]];obtain⟨B,hB,rfl⟩:=ML.mp hd;exact DU (U A hA) (J B hB) (uU (h A hA B hB))
 .exact#[_,e,zo (m.sz.mono #[])]
def Im {A:vT_}(h:PpI A B d):N8 A B d=true:=by
 have J:∀{A B:vT_}{i:Nat},i<A.length->N0 A i B=true->P8 A (.int (i:Int)) B=true:=fun {A B i} h p=>by
  show ((decide ((0:Int)<=(i:Int))&&decide ((i:Int)<(A.length:Int)))&&N0 A (i:Int).toNat B)=true;rw[Nz,p,MA ∅,MA ∅];rfl
 cases h with
 |@one i h p=>
  show (if B1 (.str "one") "one" = true then P8 A (.int (i:Int)) B else if B1 (.str "one") "other" = true then P8 B (.int (i:Int)) A else false)=true;rw[iO (by decide +kernel)];exact J h p
 |@oth i h p=>
  show (if B1 (.str "other") "one" = true then P8 A (.int (i:Int)) B else if B1 (.str "other") "other" = true then P8 B (.int (i:Int)) A else false)=true;rw[iR (by decide +kernel),iO (by decide +kernel)];exact J h p
def JR {A:vT_}(h:∀B∈Os,D5 A B ≠ .non):V2 Os A (R7 Os A)=none:=by
 show V2 Os A (.tup (Os.map (D5 A)))=none;rw[jW,iO (by rw[Mj])];have:(List.zipWith (N8 A) Os (Os.map (D5 A))).all id=true:=by
  induction Os with
  |nil=>rfl
  |cons B r U=>
   rw[Mo,OU,Oy,U fun z J=>h z (Mf _ J),show id (N8 A B (D5 A B))=true from Im (uU (h B (Mi ..)))];rfl
 rw[iO this]
theorem qZ :∀(Ss:List (List Pt)) (k:Nat),(∀A∈Ss,∀B∈Os,D5 A B ≠ .non)->T2 Os Ss (Ss.map (R7 Os)) k=none
 |[],_,_=>rfl
 |A::r,k,h=>by
  show (match V2 Os A (R7 Os A) with | some w=>some (w,k) | none=>T2 Os r (r.map (R7 Os)) (k+1))=none;rw[JR (h A (Mi ..))];exact qZ r (k+1) fun z J=>h z (Mf _ J)
def GY (Y:∀A∈Ss,ShC A) (U:∀B∈Os,ShC B) (lS:Ss.length<=2) (Z:Os.length<=2) (fs:vO_):∃d,S8 [.tup (Ss.map c7),.tup (Os.map c7)] fs=some (d,fs)/\H31 d/\cZ Ss Os d=none:=by
 obtain⟨d,e,h⟩:=Cw Y U lS Z fs;refine#[d,e,h,?_];rcases vR Y U ∅ ∅ fs with ⟨J,q⟩ | ⟨A,hA,B,hB,p,J,m⟩
 .rw[e] at J;obtain⟨rfl,_⟩:=Prod.mk.inj (MB J);show (if B1 (.str "apart") "meet" = true then (if G8 (.tup (Ss.map (R7 Os)))=true then ag Ss Os (S9 (.tup (Ss.map (R7 Os)))) else some (("shape" : Str),0)) else if B1 (.str "apart") "apart" = true then (if (Ss.map (R7 Os)).length=Ss.length then T2 Os Ss (Ss.map (R7 Os)) 0 else some (("rows" : Str),0)) else some (("shape" : Str),0))=none;rw[iR (by decide +kernel),iO (by decide +kernel),iO (by rw[Mj])];exact qZ Ss 0 q
 .rw[e] at J;obtain⟨rfl,_⟩:=Prod.mk.inj (MB J);show (if B1 (.str "meet") "meet" = true then (if G8 (pt p)=true then ag Ss Os (S9 (pt p)) else some (("shape" : Str),0)) else if B1 (.str "meet") "apart" = true then gL Ss Os (pt p) else some (("shape" : Str),0))=none;rw[iO (by decide +kernel),iO (Ly p),zk];have:(Ss.any (N6 · p)&&Os.any (N6 · p))=true:=by
   rw[MF,Od,Od];exact#[#[A,hA,tB m.a],B,hB,tB m.b]
  exact iO this
section
variable {m1 m2 m3 m4 m5 m6 m7 m8 m9:c8}
def LL {P Q M S:D}{W:vD_}{f f1 U:FS}{n r1 r2:Int}(x0 x2 x3 x4 x5 x6 Z Y J:Sl) (ln:one j9 [S]=some (.int n)) (e1:m3 [.feed,.int n] (some f)=some (.int r1,some f1)) (i1:d9 S (.int r1)=some P) (e2:m3 [.feed,.int n] (some f1)=some (.int r2,some U)) (i2:d9 S (.int r2)=some Q) (e3:m2 [P,Q] (some U)=some (M,some U)) (lw:W.length<sizeLine) :
  kW m1 m2 m3 m4 m5 m6 m7 m8 m9 #[[x0,.v .feed,x2,x3,x4,x5,x6,Z,Y,.own W,.v S,J],some f]=some (.next,#[[x0,.v .feed,x2,x3,x4,x5,x6,Z,Y,.own (W++[.tup [.str "meet",M]]),.v S,J],some U]):=by
 have a:d7 m2 (a7 (a9 d9 (dL 10) (d7 m3 (a7 (dV 1) (a7 (j6 (one j9) (a7 (dL 10) b9)) b9)))) (a7 (a9 d9 (dL 10) (d7 m3 (a7 (dV 1) (a7 (j6 (one j9) (a7 (dL 10) b9)) b9)))) b9)) #[[x0,.v .feed,x2,x3,x4,x5,x6,Z,Y,.own W,.v S,J],some f]=some (M,#[[x0,.v .feed,x2,x3,x4,x5,x6,Z,Y,.own W,.v S,J],some U]):=
  cS (D9 (f9 rfl (G9 (A3 rfl (A3 (M3 rfl ln) rfl)) e1) i1) (D9 (f9 rfl (G9 (A3 rfl (A3 (M3 rfl ln) rfl)) e2) i2) rfl)) e3
 exact U7 (i:=9) (s1:=#[[x0,.v .feed,x2,x3,x4,x5,x6,Z,Y,.own W,.v S,J],some U]) (ds0:=W) (ds:=W) rfl (T1 rfl a) rfl lw
def Ln {X Y w:D}{fs:vO_}(x0 x1 x2 Z x7 x8 U J:Sl) {b:Bool}(e:m1 [X,Y,d] fs=some (.bl b,fs)) (h:b=true->∃y,d = .tup [w,y]/\A2 w w=some (.bl false)) :
  lU m1 m2 m3 m4 m5 m6 m7 m8 m9 #[[x0,x1,x2,Z,.v X,.v Y,.v w,x7,x8,U,J,.v d],fs]=some (.next,#[[x0,x1,x2,Z,.v X,.v Y,.v w,x7,x8,U,J,.v d],fs]):=by
 cases b with
 |false=>exact E9 (rz (K4 (u7 rfl e)))
 |true=>
  obtain⟨y,rfl,n⟩:=h rfl;exact E9 (nC (K4 (u7 rfl e)) (D4 (f9 (f9 rfl rfl rfl) rfl n)))
end
def EL {o:Option (Str × Nat)}(h:tW o=true):o=none:=by
 cases o with
 |none=>rfl
 |some _=>cases h
abbrev uT:DM:=kW W5 Y8 B0 S6 (L4 64) S8 N9 V6 U9
abbrev lV:DM:=lU W5 Y8 B0 S6 (L4 64) S8 N9 V6 U9
abbrev oW:DM:=pg W5 Y8 B0 S6 (L4 64) S8 N9 V6 U9
theorem qo (x0 x2 x3 x4 x5 Y Z U J:Sl):∀(Ss:List (List Pt)) {n:Nat}{f:FS}(W:vD_) (x10:Sl),(∀A∈Ss,ShC A)->Fd4 n f->n+2*Ss.length<2 ^ 28->W.length+Ss.length<=100->(∀d∈W,eH d) ->
  ∃W' y10 f',A9 (d8 10) uT (Ss.map c7) #[[x0,.v .feed,x2,x3,x4,x5,Y,Z,U,.own W,x10,J],some f]=some (.next,#[[x0,.v .feed,x2,x3,x4,x5,Y,Z,U,.own W',y10,J],some f'])/\(∀d∈W',eH d)/\Fd4 (n+2*Ss.length) f'
 |[],n,f,W,x10,_,h,_,_,g=>#[W,x10,f,rfl,g,h]
 |A::r,n,f,W,x10,hS,h,hn,hl,g=>by
  rw[Mw] at hn hl;have sA:=hS A (Mi ..);have la:=sA.lo;have la6:=sA.hi;have lA:one j9 [c7 A]=some (.int (A.length:Int)):=by
   show some (D.int ((A.map pt).length:Int))=_;rw[Mj]
  obtain⟨r2,f2,e2,b1,b2,h2⟩:=J9 (A.length:Int) h ∅ ∅ ∅;obtain⟨w2,hw2,hr2⟩:=aF (xs:=A.map pt) b1 (by rw[Mj];exact b2);obtain⟨P,hP,rfl⟩:=ML.mp hw2;obtain⟨r3,f3,e3,c1,c2,h3⟩:=J9 (A.length:Int) h2 ∅ ∅ ∅;obtain⟨w3,hw3,hr3⟩:=aF (xs:=A.map pt) c1 (by rw[Mj];exact c2);obtain⟨Q,hQ,rfl⟩:=ML.mp hw3;have kP:=(sA.sz P hP).1;have kQ:=(sA.sz Q hQ).1;obtain⟨M,e,hM⟩:=An (n:=16) (A:=P) (B:=Q) #[kP.x,kP.y,kP.l] #[kQ.x,kQ.y,kQ.l] #[] #[] #[] #[] (some f3);have i2:d9 (c7 A) (.int r2)=some (pt P):=(C4 _ _).trans hr2;have i3:d9 (c7 A) (.int r3)=some (pt Q):=(C4 _ _).trans hr3;have gM:eH (.tup [.str "meet",pt M]):=(zo #[hM.x.mono #[],hM.y.mono #[],hM.l.mono #[]]).g;have st:=LL (m1:=W5) (m4:=S6) (m5:=L4 64) (m6:=S8) (m7:=N9) (m8:=V6) (m9:=U9) x0 x2 x3 x4 x5 Y Z U J lA e2 i2 e3 i3 e (W:=W) (by rw[MU];omega);obtain⟨W',y10,f',q,g',h'⟩:=qo x0 x2 x3 x4 x5 Y Z U J r (W++[.tup [.str "meet",pt M]]) (.v (c7 A)) (fun z hz=>hS z (Mf _ hz)) h3 ∅ (by rw[MC,NM];omega) (fun d hd=>by
   rcases Mp.mp hd with q | q
   .exact g d q
   .rw[Mq.mp q];exact gM)
  refine#[W',y10,f',?_,g',h'.mono (by rw[Mw];omega)];rw[Mo,Q1 (s1:=#[[x0,.v .feed,x2,x3,x4,x5,Y,Z,U,.own W,.v (c7 A),J],some f]) rfl st,q]
def Kp (hS:∀A∈Ss,ShC A) (hO:∀B∈Os,ShC B) {W:vD_}(hW:∀d∈W,eH d) (fs:vO_) (Z x1 x2 x3 Y U J x11:Sl) :
  ∃y11,G5 (dV 9) (d8 11) lV #[[Z,x1,x2,x3,.v (.tup (Ss.map c7)),.v (.tup (Os.map c7)),.v (.str (F8 Ss Os)),Y,U,.own W,J,x11],fs]=some (.next,#[[Z,x1,x2,x3,.v (.tup (Ss.map c7)),.v (.tup (Os.map c7)),.v (.str (F8 Ss Os)),Y,U,.v (.lst W),J,y11],fs]):=by
 rw[dJ (s1:=#[[Z,x1,x2,x3,.v (.tup (Ss.map c7)),.v (.tup (Os.map c7)),.v (.str (F8 Ss Os)),Y,U,.v (.lst W),J,x11],fs]) (ds:=W) rfl];obtain⟨s',e,y11,rfl⟩:=fQ (t:=d8 11) (b:=lV) (fun _ s=>∃y11,s=#[[Z,x1,x2,x3,.v (.tup (Ss.map c7)),.v (.tup (Os.map c7)),.v (.str (F8 Ss Os)),Y,U,.v (.lst W),J,y11],fs]) W 0
  #[[Z,x1,x2,x3,.v (.tup (Ss.map c7)),.v (.tup (Os.map c7)),.v (.str (F8 Ss Os)),Y,U,.v (.lst W),J,x11],fs] #[_,rfl] (by
   rintro i d s hd ⟨y11,rfl⟩;have g:=hW d (Om hd);have e:=vv hS hO g.1 #[] #[] #[] (by have:=g.2;omega) fs;have q:=Ln (m2:=Y8) (m3:=B0) (m4:=S6) (m5:=L4 64) (m6:=S8) (m7:=N9) (m8:=V6) (m9:=U9) (w:=.str (F8 Ss Os)) Z x1 x2 x3 Y U (.v (.lst W)) J e (fun h=>by
    obtain⟨y,q⟩:=xp hS hO (EL h);exact#[y,q,ye])
   exact#[#[[Z,x1,x2,x3,.v (.tup (Ss.map c7)),.v (.tup (Os.map c7)),.v (.str (F8 Ss Os)),Y,U,.v (.lst W),J,.v d],fs],_,rfl,.inl q,_,rfl])
 exact#[_,e]
def Hy {n:Nat}{f:FS}(h:Fd4 n f) (hn:n<2 ^ 26) (U:Ss.length<=2) (J:Os.length<=2):∃R f',E8 (fun d=>some (.v d::[.v .feed,.v (.tup (Ss.map c7)),.v (.tup (Os.map c7))])) F6 (d7 S6 (a7 (dV 1) (a7 (dV 2) (a7 (dV 3) b9)))) (B5 0 3) (some f)=some (R,some f')/\(∀d∈R,eH d)/\R.length=3/\Fd4 (n+24) f':=by
 obtain⟨R1,f1,e1,a1,b1,h1⟩:=oK h ∅ U J;obtain⟨R2,f2,Z,a2,b2,h2⟩:=oK h1 ∅ U J;obtain⟨R3,f3,e3,a3,b3,h3⟩:=oK h2 ∅ U J;have g1:=(gA J ∅ a1).g;have g2:=(gA J ∅ a2).g;have g3:=(gA J ∅ a3).g;refine#[[.tup [.str "apart",.tup R1],.tup [.str "apart",.tup R2],.tup [.str "apart",.tup R3]],f3,?_,?_,rfl,h3.mono ∅]
 .generalize S6=m at *;show E8 _ F6 _ [.int 0,.int 1,.int 2] (some f)=_;exact kn rfl (G9 rfl e1) (kn rfl (G9 rfl Z) (kn rfl (G9 rfl e3) rfl))
 .intro d Y;simp only[xo,Mx,MI] at Y;rcases Y with rfl | rfl | rfl
  .exact g1
  .exact g2
  .exact g3
section
variable {m1 m2 m3 m4 m5 m6 m7 m8 m9:c8}
def Ge {X Y w:D}{fs:vO_}(x0 x1 x2 Z x7 x9 U J:Sl) (e:m1 [X,Y,.tup [w,d]] fs=some (.bl true,fs)) (n:A2 w w=some (.bl false)) :
  j7 (u4 (dB (a9 A2 (Sk 8 0) (dL 6))) (t9 (o6 (d7 m1 (a7 (dV 4) (a7 (dV 5) (a7 (dV 8) b9))))))) (i8 (dC (.bl false))) j8 #[[x0,x1,x2,Z,.v X,.v Y,.v w,x7,.v (.tup [w,d]),x9,U,J],fs]=some (.next,#[[x0,x1,x2,Z,.v X,.v Y,.v w,x7,.v (.tup [w,d]),x9,U,J],fs]):=
 E9 (kg (D4 (f9 (f9 rfl rfl rfl) rfl n)) (O5 (b:=true) (K4 (u7 rfl e))))
def Cv {a d1 d2 d3:D}{f f1 f2 f3:FS}(Z x3 x4 x5 x6 Y x9 J U:Sl) (e1:m5 [.feed,d] (some f)=some (d1,some f1)) (e2:m5 [.feed,d] (some f1)=some (d2,some f2)) (e3:m5 [.feed,d2] (some f2)=some (d3,some f3)) :
  E4 9 (n9 (a7 (dV 2) (a7 (d7 m5 (a7 (dV 1) (a7 (dV 8) b9))) (a7 (d7 m5 (a7 (dV 1) (a7 (d7 m5 (a7 (dV 1) (a7 (dV 8) b9))) b9))) b9)))) #[[Z,.v .feed,.v a,x3,x4,x5,x6,Y,.v d,x9,J,U],some f]=some (.next,#[[Z,.v .feed,.v a,x3,x4,x5,x6,Y,.v d,.own [a,d1,d3],J,U],some f3]):=by
 have l3:(3:Nat)<=sizeLine:=by decide
 exact oh (kv (D9 rfl (D9 (G9 rfl e1) (D9 (cS (D9 rfl (D9 (G9 rfl e2) rfl)) e3) rfl))) l3) (by decide:9<12) rfl
def CV {X Y:D}{W R:vD_}{f f':FS}(x0 x2 x3 Z x7 x8 U J:Sl) (e:E8 (fun d=>some (.v d::[.v .feed,.v X,.v Y])) F6 (d7 m4 (a7 (dV 1) (a7 (dV 2) (a7 (dV 3) b9)))) (B5 0 3) (some f)=some (R,some f')) (lw:W.length+R.length<=sizeLine) :
  E4 9 (V0 W9 (dL 9) (l5 (K9 [1,4,5] (V4 (a7 (Sj 3) b9)) F6 (d7 m4 (a7 (dV 1) (a7 (dV 2) (a7 (dV 3) b9))))))) #[[x0,.v .feed,x2,x3,.v X,.v Y,Z,x7,x8,.own W,U,J],some f]=some (.next,#[[x0,.v .feed,x2,x3,.v X,.v Y,Z,x7,x8,.own (W++R),U,J],some f']):=by
 have rg:R9 [.int 3]=some (B5 0 3):=cT (n:=3) #[];have hr:V4 (a7 (Sj 3) b9) #[[x0,.v .feed,x2,x3,.v X,.v Y,Z,x7,x8,.own W,U,J],some f]=some (B5 0 3,#[[x0,.v .feed,x2,x3,.v X,.v Y,Z,x7,x8,.own W,U,J],some f]):=by
  unfold V4;rw[show a7 (Sj 3) b9 #[[x0,.v .feed,x2,x3,.v X,.v Y,Z,x7,x8,.own W,U,J],some f]=some ([.int 3],#[[x0,.v .feed,x2,x3,.v X,.v Y,Z,x7,x8,.own W,U,J],some f]) from rfl,Mh,rg];rfl
 have lz:(B5 0 3).length<=sizeLine:=by rw[cP];decide
 exact oh (rF rfl (eE (tf hr lz e)) (IZ lw)) (by decide:9<12) rfl
end
def Ey {n:Nat}{f:FS}(h:Fd4 n f) (hn:n<2 ^ 24) {a:D}(ga:H31 a) (Z x3 x4 x5 x6 x7 x8 x9 U J:Sl) :
  ∃a' y4 y5 y6 y7 y8 y9 y10 y11 f',oW #[[Z,.v .feed,.v a,x3,x4,x5,x6,x7,x8,x9,U,J],some f]=some (.next,#[[Z,.v .feed,.v a',x3,y4,y5,y6,y7,y8,y9,y10,y11],some f'])/\H31 a'/\Fd4 (n+400) f':=by
 obtain⟨Ss,Os,f1,e1,hS,hO,h1⟩:=Ez h ∅;have lS:=hS.hi;have lO:=hO.hi;obtain⟨y7,e2⟩:=pJ (m1:=W5) (m2:=Y8) (m3:=B0) (m4:=S6) (m5:=L4 64) (m6:=S8) (m8:=V6) (m9:=U9) hO.sh lO (some f1) Z (.v .feed) (.v a) x3 (.v (.tup (Ss.map c7))) x8 x9 U J Ss (.str "apart") x7 hS.sh;rw[EJ hS.sh hO.sh] at e2;obtain⟨d,e3,gd,td⟩:=GY hS.sh hO.sh lS lO (some f1);obtain⟨y,rfl⟩:=xp hS.sh hO.sh td;have e4:=vv hS.sh hO.sh gd.1 #[] #[] #[] (by have:=gd.2;omega) (some f1);rw[td] at e4;have gd2:=gd.2;obtain⟨d1,f2,e5,t1,b1,h2⟩:=kr 64 _ #[] #[] gd.1 #[] #[] ∅ h1 ∅;obtain⟨d2,f3,e6,t2,b2,h3⟩:=kr 64 _ #[] #[] gd.1 #[] #[] ∅ h2 ∅;obtain⟨d3,f4,e7,t3,b3,h4⟩:=kr 64 d2 #[] #[] t2 #[] #[] ∅ h3 ∅;obtain⟨R,f5,e8,gR,lR,h5⟩:=Hy h4 ∅ lS lO (Ss:=Ss) (Os:=Os);obtain⟨W,y10,f6,e9,gW,h6⟩:=qo Z (.v a) x3 (.v (.tup (Ss.map c7))) (.v (.tup (Os.map c7))) (.v (.str (F8 Ss Os))) y7 (.v (.tup [.str (F8 Ss Os),y])) J (Ss++Os) ([a,d1,d3]++R) U (fun A hA=>by
  rcases Mp.mp hA with q | q
  .exact hS.sh A q
  .exact hO.sh A q) h5 (by rw[MC];omega) (by rw[MC,MC,lR];show 3+3+_<=100;omega) (fun z hz=>by
  rcases Mp.mp hz with q | q
  .simp only[xo,Mx,MI] at q;rcases q with rfl | rfl | rfl
   .exact ga.g
   .exact#[Th.mono #[] _ #[] t1,by omega]
   .exact#[Th.mono #[] _ #[] t3,by omega]
  .exact gR z q)
 obtain⟨y11,e10⟩:=Kp hS.sh hO.sh gW (some f6) Z (.v .feed) (.v a) x3 y7 (.v (.tup [.str (F8 Ss Os),y])) y10 J;have ad:j5 (.tup (Ss.map c7)) (.tup (Os.map c7))=some (.tup ((Ss++Os).map c7)):=by
  rw[Oz];exact iO (by rw[Mj,Mj,MU];omega)
 refine#[.tup [.str (F8 Ss Os),y],.v (.tup (Ss.map c7)),.v (.tup (Os.map c7)),.v (.str (F8 Ss Os)),y7,.v (.tup [.str (F8 Ss Os),y]),.v (.lst W),y10,y11,f6,?_,gd,h6.mono (by rw[MC];omega)];have lr:[a,d1,d3].length+R.length<=sizeLine:=by rw[lR];show 3+3<=sizeLine;decide
 have e5':=Cv (m5:=L4 64) Z x3 (.v (.tup (Ss.map c7))) (.v (.tup (Os.map c7))) (.v (.str (F8 Ss Os))) y7 x9 U J (a:=a) e5 e6 e7;have e8':=CV (m4:=S6) (W:=[a,d1,d3]) Z (.v a) x3 (.v (.str (F8 Ss Os))) y7 (.v (.tup [.str (F8 Ss Os),y])) U J e8 lr;have e4':=Ge (m1:=W5) Z (.v .feed) (.v a) x3 y7 x9 U J e4 (ye (w:=F8 Ss Os));have e2':=(pC (f:=dV 4) (s:=#[[Z,.v .feed,.v a,x3,.v (.tup (Ss.map c7)),.v (.tup (Os.map c7)),.v (.str "apart"),x7,x8,x9,U,J],some f1]) rfl).trans e2;have e9':=(pC (f:=a9 j5 (dL 4) (dL 5)) (s:=#[[Z,.v .feed,.v a,x3,.v (.tup (Ss.map c7)),.v (.tup (Os.map c7)),.v (.str (F8 Ss Os)),y7,.v (.tup [.str (F8 Ss Os),y]),.own ([a,d1,d3]++R),U,J],some f5]) (f9 rfl rfl ad)).trans e9;clear e2 e9;unfold oW pg;unfold uT at e9';unfold lV at e10;generalize D.tup (Ss.map c7)=X at *;generalize D.tup (Os.map c7)=Y at *;generalize F8 Ss Os=w at *;generalize W5=m1 at *;generalize Y8=m2 at *;generalize B0=m3 at *;generalize S6=m4 at *;generalize L4 64=m5 at *;generalize S8=m6 at *;generalize N9=m7 at *;generalize V6=m8 at *;generalize U9=m9 at *;refine u9 (s1:=#[[Z,.v .feed,.v a,x3,.v X,.v Y,x6,x7,x8,x9,U,J],some f1]) (B7 (G9 rfl e1) rfl) ?_;refine u9 (s1:=#[[Z,.v .feed,.v a,x3,.v X,.v Y,.v (.str "apart"),x7,x8,x9,U,J],some f1]) rfl ?_;refine u9 e2' ?_;refine u9 (s1:=#[[Z,.v .feed,.v a,x3,.v X,.v Y,.v (.str w),y7,.v (.tup [.str w,y]),x9,U,J],some f1]) (B7 (u7 rfl e3) rfl) ?_;refine u9 e4' (u9 e5' (u9 e8' (u9 e9' (u9 e10 rfl))))
def math (J:List Int) (hl:J.length<=63):∃fs',ph W5 Y8 B0 S6 (L4 64) S8 N9 V6 U9 [.scr J] none=some (.bl true,fs'):=by
 have g0:H31 (.tup [.str "apart",.tup []]):=gA (Os:=[]) #[] (R:=[]) #[] fun r hr=>(Mx hr).elim
 obtain⟨s',e,a,x3,x4,x5,x6,x7,Z,x9,U,Y,f',rfl,ga,hf⟩:=fQ (t:=d8 3) (b:=oW) (fun i s=>∃a x3 x4 x5 x6 x7 Z x9 U Y f,s=#[[.v (.scr J),.v .feed,.v a,x3,x4,x5,x6,x7,Z,x9,U,Y],some f]/\H31 a/\Fd4 (400*i) f) (B5 0 4) 0
  #[[.v (.scr J),.v .feed,.v (.tup [.str "apart",.tup []]),.no,.no,.no,.no,.no,.no,.no,.no,.no],some #[P4 J,0,0,0,2]] #[_,_,_,_,_,_,_,_,_,_,_,rfl,g0,Fd4.zero J] (by
   rintro i d s hd ⟨a,x3,x4,x5,x6,x7,Z,x9,U,Y,f,rfl,ga,hf⟩;obtain⟨rfl,hi⟩:=eV hd;obtain⟨a',y4,y5,y6,y7,y8,y9,y10,y11,f',e,g',h'⟩:=Ey hf ∅ ga (.v (.scr J)) (.v (.int (0+(i:Int)))) x4 x5 x6 x7 Z x9 U Y;exact#[#[[.v (.scr J),.v .feed,.v a,.v (.int (0+(i:Int))),x4,x5,x6,x7,Z,x9,U,Y],some f],_,rfl,.inl e,a',_,_,_,_,_,_,_,_,_,f',rfl,g',h'.mono ∅])
 have r4:R9 [.int 4]=some (B5 0 4):=cT (n:=4) #[];refine#[some f',v5 (s:=#[[.v (.scr J),.v .feed,.v a,x3,x4,x5,x6,x7,Z,x9,U,Y],some f']) ?_];show lC W5 Y8 B0 S6 (L4 64) S8 N9 V6 U9 #[[.v (.scr J),.no,.no,.no,.no,.no,.no,.no,.no,.no,.no,.no],none]=_;unfold lC;have t0:∀s:DS,i7 b9 s=some (.tup [],s):=fun s=>rfl
 refine u9 (s1:=#[[.v (.scr J),.v .feed,.no,.no,.no,.no,.no,.no,.no,.no,.no,.no],some #[P4 J,0,0,0,2]]) (B7 (fq (s1:=#[[.v (.scr J),.no,.no,.no,.no,.no,.no,.no,.no,.no,.no,.no],none]) rfl (IL J hl)) rfl) ?_;refine u9 (s1:=#[[.v (.scr J),.v .feed,.v (.tup [.str "apart",.tup []]),.no,.no,.no,.no,.no,.no,.no,.no,.no],some #[P4 J,0,0,0,2]]) (B7 (T1 rfl (t0 _)) rfl) ?_;exact u9 (s1:=#[[.v (.scr J),.v .feed,.v a,x3,x4,x5,x6,x7,Z,x9,U,Y],some f']) (by rw[kG (xs:=[.int 4]) rfl r4];exact e) rfl
end T
namespace T
open PySem PySem.Spec L2 DL
local macro_rules | `(tactic| wtm_at "c")=>`(tactic| first | with_reducible exact qR | with_reducible exact uV | with_reducible exact Ci | with_reducible exact Mb | with_reducible exact Kn | with_reducible exact Bn | (with_reducible apply Dr);exact ib (by assumption) | (with_reducible apply vX);exact ib (by assumption))
local macro_rules | `(tactic| wtm_at "o")=>`(tactic| first | with_reducible exact CL | with_reducible exact CC | with_reducible exact Ao | with_reducible exact Df | with_reducible exact AX | with_reducible exact AM | with_reducible exact jO)
local macro_rules | `(tactic| wtm_at "q")=>`(tactic| first | with_reducible exact Jo | with_reducible exact Dp | with_reducible exact Hu | with_reducible exact Ad | with_reducible exact Aj | with_reducible exact zC | with_reducible exact sZ)
local macro_rules | `(tactic| wtm_at "r")=>`(tactic| first | with_reducible exact oM _ | with_reducible exact LF | with_reducible exact qk | with_reducible exact Iz | with_reducible exact Iw)
local macro_rules | `(tactic| wtm_at "k")=>`(tactic| first | with_reducible exact LK | with_reducible exact zN | with_reducible exact IH | with_reducible exact wj | with_reducible exact(xG rfl))
local macro_rules | `(tactic| wtm_at "m")=>`(tactic| first | with_reducible exact HB | with_reducible exact Gr | with_reducible exact KR | with_reducible exact xE | with_reducible exact rK)
local macro_rules | `(tactic| wtm_at "b")=>`(tactic| first | exact Blt.abs (by assumption) | exact Blt.all (by assumption) | exact Blt.bool (by assumption) | exact Blt.enumerate (by assumption) | exact Blt.int (by assumption) | exact Blt.isinstance (by assumption) | exact Blt.len (by assumption) | exact Blt.list (by assumption) | exact Blt.range (by assumption) | exact Blt.str (by assumption) | exact Blt.tuple (by assumption) | exact Blt.zip (by assumption))
local macro_rules | `(tactic| wtm_at "t")=>`(tactic| first | exact FV | exact xS | exact lL | exact iH | exact KA | exact gq | exact AY | exact ah)
local macro_rules | `(tactic| wtm_at "n")=>`(tactic| first | exact aw | (refine M0 ?_);wtm_at "n")
local macro_rules | `(tactic| wtm_at "l")=>`(tactic| first | exact Or.inl rfl | exact Or.inr rfl)
local macro_rules | `(tactic| wtm_at "x")=>`(tactic| first | exact rfl | exact Or.inl rfl | exact Or.inr rfl | decide | (intro _;rfl))
local macro_rules | `(tactic| wtm_at "S")=>`(tactic| first | (focus (with_reducible apply Q5);all_goals wtm_at "x") | (focus (with_reducible apply F3);wtm_at "s";all_goals wtm_at "x") | (focus (with_reducible apply B4);wtm_at "s";wtm_at "S";all_goals wtm_at "x"))
local macro_rules | `(tactic| wtm_at "s")=>`(tactic| first | (focus (with_reducible apply Bb);assumption;exact rfl;wtm_at "l";wtm_at "E";all_goals wtm_at "x") | (focus (with_reducible apply O8);wtm_at "E";all_goals wtm_at "x") | (focus (with_reducible apply Q6);wtm_at "T";wtm_at "S";wtm_at "S";all_goals wtm_at "x") | (focus (with_reducible apply GD);wtm_at "E";wtm_at "G";all_goals wtm_at "x") | (focus (with_reducible apply Ki);exact pv _;wtm_at "E";all_goals wtm_at "x") | (focus (with_reducible apply fX);assumption;exact rfl;wtm_at "l";wtm_at "F";all_goals wtm_at "x") | (focus (with_reducible apply om);exact OD;exact rfl;wtm_at "E";wtm_at "G";wtm_at "S";all_goals wtm_at "x") | (focus (with_reducible apply CJ);exact OD;wtm_at "T";wtm_at "S";all_goals wtm_at "x") | (focus (with_reducible apply nK);exact OD;exact rfl;exact rfl;exact Blt.range (by assumption);wtm_at "E";wtm_at "G";wtm_at "S";all_goals wtm_at "x") | (focus (with_reducible apply LQ);exact pv _;wtm_at "E";all_goals wtm_at "x") | (focus (with_reducible apply Fw);exact rfl;assumption;exact rfl;exact rfl;decide;exact rfl;exact rfl;wtm_at "A";exact rfl;all_goals wtm_at "x"))
local macro_rules | `(tactic| wtm_at "B")=>`(tactic| first | (focus (with_reducible apply T3);exact pv _;all_goals wtm_at "x") | (focus (with_reducible apply EO.b);wtm_at "E";all_goals wtm_at "x"))
local macro_rules | `(tactic| wtm_at "E")=>`(tactic| first | (focus (with_reducible apply bz);exact pv _;all_goals wtm_at "x") | (focus (with_reducible apply iP);all_goals wtm_at "x") | (focus (with_reducible apply IQ);exact LU;exact KU;wtm_at "B";wtm_at "B";exact fun _ _=>rfl;all_goals wtm_at "x") | (focus (with_reducible apply JO);rotate_left;wtm_at "q";rotate_right;wtm_at "o";wtm_at "B";wtm_at "B";all_goals wtm_at "x") | (focus (with_reducible apply Ak);assumption;assumption;(first | decide | exact tx _ | exact Mm (by decide) (Nat.le_add_right _ _));exact rfl;wtm_at "A";wtm_at "n";all_goals wtm_at "x") | (focus (with_reducible apply Hj);wtm_at "A";all_goals wtm_at "x") | (focus (with_reducible apply Kv);decide +kernel;all_goals wtm_at "x") | (focus (with_reducible apply BU);all_goals wtm_at "x") | (focus (with_reducible apply aG);all_goals wtm_at "x") | (focus (with_reducible apply HH);exact AG;exact Kr;wtm_at "B";all_goals wtm_at "x") | (focus (with_reducible apply FO.v);wtm_at "F";all_goals wtm_at "x") | (focus (with_reducible apply IV);rotate_left;wtm_at "r";rotate_right;wtm_at "c";wtm_at "B";wtm_at "B";(first | exact fL _ | exact rfl);all_goals wtm_at "x") | (focus (with_reducible apply FD);wtm_at "B";wtm_at "O";wtm_at "O";all_goals wtm_at "x") | (focus (with_reducible apply wY);wtm_at "E";all_goals wtm_at "x") | (focus (with_reducible apply rY);rotate_left;wtm_at "m";rotate_right;wtm_at "k";exact rfl;wtm_at "b";wtm_at "t";wtm_at "a";all_goals wtm_at "x") | (focus (with_reducible apply pG);rotate_left;wtm_at "m";rotate_right;wtm_at "k";exact rfl;wtm_at "b";wtm_at "t";wtm_at "a";all_goals wtm_at "x") | (focus (with_reducible apply CS);exact pv _;all_goals wtm_at "x") | (focus (with_reducible apply AV);wtm_at "B";wtm_at "B";all_goals wtm_at "x") | (focus (with_reducible apply kc);wtm_at "E";all_goals wtm_at "x") | (focus (with_reducible apply jA);wtm_at "E";wtm_at "E";all_goals wtm_at "x") | (focus (with_reducible apply LV);wtm_at "E";wtm_at "E";all_goals wtm_at "x"))
local macro_rules | `(tactic| wtm_at "A")=>`(tactic| first | (focus (with_reducible apply ac);wtm_at "E";wtm_at "A";all_goals wtm_at "x") | (focus (with_reducible apply nH);all_goals wtm_at "x"))
local macro_rules | `(tactic| wtm_at "a")=>`(tactic| first | (focus (with_reducible apply bc);wtm_at "B";wtm_at "a";all_goals wtm_at "x") | (focus (with_reducible apply oF);all_goals wtm_at "x"))
local macro_rules | `(tactic| wtm_at "T")=>`(tactic| first | (focus (with_reducible apply wU);rotate_left;wtm_at "r";rotate_right;wtm_at "c";wtm_at "B";wtm_at "B";(first | exact fL _ | exact rfl);all_goals wtm_at "x") | (focus (with_reducible apply WO.t);wtm_at "W";all_goals wtm_at "x") | (focus (with_reducible apply cF);wtm_at "T";all_goals wtm_at "x") | (focus (with_reducible apply Y2);wtm_at "B";all_goals wtm_at "x"))
local macro_rules | `(tactic| wtm_at "W")=>`(tactic| first | (focus (with_reducible apply gu);wtm_at "T";wtm_at "W";all_goals wtm_at "x") | (focus (with_reducible apply Du);wtm_at "T";all_goals wtm_at "x") | (focus (with_reducible apply gn);wtm_at "T";wtm_at "W";all_goals wtm_at "x") | (focus (with_reducible apply Lm);wtm_at "T";all_goals wtm_at "x"))
local macro_rules | `(tactic| wtm_at "O")=>`(tactic| first | (focus (with_reducible apply IE);all_goals wtm_at "x") | (focus (with_reducible apply BV);wtm_at "B";all_goals wtm_at "x"))
local macro_rules | `(tactic| wtm_at "F")=>`(tactic| first | (focus (with_reducible apply si);wtm_at "A";all_goals wtm_at "x") | (focus (with_reducible apply wJ);rotate_left;wtm_at "q";rotate_right;wtm_at "o";wtm_at "B";wtm_at "B";all_goals wtm_at "x"))
local macro_rules | `(tactic| wtm_at "G")=>`(tactic| first | (focus (with_reducible apply Lf);wtm_at "h";all_goals wtm_at "x") | (focus (with_reducible apply Kx);exact rfl;wtm_at "g";all_goals wtm_at "x"))
local macro_rules | `(tactic| wtm_at "h")=>`(tactic| first | (focus (with_reducible apply Z2);assumption;exact rfl;wtm_at "l";all_goals wtm_at "x"))
local macro_rules | `(tactic| wtm_at "g")=>`(tactic| first | (focus (with_reducible apply Ij);wtm_at "G";wtm_at "g";all_goals wtm_at "x") | (focus (with_reducible apply Fi);all_goals wtm_at "x"))
local macro_rules | `(tactic| wtm_at "R")=>`(tactic| first | (refine F3 ?_;wtm_at "s") | (refine B4 ?_ ?_;wtm_at "s";wtm_at "S"))
local macro_rules | `(tactic| wtm_at "p")=>`(tactic| first | exact fun _ _ _ _ _ _=>Ih fun _=>rfl | exact fun _ _ _ _ _ _=>on2 fun _ _=>rfl | exact fun _ _ _ _ _ _=>on3 fun _ _ _=>rfl | exact fun _ _ _ _ _ _=>EH fun _ _ _ _=>rfl | exact fun _ _ _ _ _ _=>on5 fun _ _ _ _ _=>rfl | exact fun _ _ _ _ _ _=>on0 rfl)
local macro_rules | `(tactic| wtm_at "f")=>`(tactic| exact⟨rfl,rfl,rfl,by decide +kernel,rfl,by decide +kernel,by decide +kernel⟩)
local macro_rules | `(tactic| wtm_at "M")=>`(tactic| (intro nd _ _ _ _ _ _ _ hr;wtm_at "R"))
def top (i:Nat):Stmt:=PySem.Challenge.pw_widelines_k33_whole_just_one_of_both.main.body.getD i (.Pass #[0,0,0,0])
section
variable (P:Program) (w:World) (K:vF_) (mg:vG_) (base:Heap)
abbrev vk:=Cal P w K mg base 1 "_law_tape" ["_law_script"]
abbrev aA:=Cal P w K mg base 1 "_law_draw" ["_law_tape_here", "_law_many"]
abbrev vg:=Cal P w K mg base 2 "_law_net" ["_law_tape_here"]
abbrev sE:=Cal P w K mg base 1 "_law_common" ["_law_one", "_law_other"]
abbrev iL:=Cal P w K mg base 2 "_law_place" ["_law_x", "_law_y", "_law_bottom"]
abbrev rZ:=Cal P w K mg base 3 "_law_laid" ["_law_net_here", "_law_u", "_law_v"]
abbrev uE:=Cal P w K mg base 2 "_law_form" ["_law_tape_here"]
abbrev ud:=Cal P w K mg base 1 "_law_less" ["_law_one", "_law_other"]
abbrev pE:=Cal P w K mg base 2 "_law_begun" ["_law_corners"]
abbrev wK:=Cal P w K mg base 4 "_law_shapes" ["_law_tape_here", "_law_net_here", "_law_most", "_law_far"]
abbrev qe:=Cal P w K mg base 5 "_law_two" ["_law_tape_here"]
abbrev pV:=Cal P w K mg base 1 "neighbours" ["row", "closed"]
abbrev fk:=Cal P w K mg base 2 "edges" ["corners"]
abbrev uH:=Cal P w K mg base 1 "sign" ["number"]
abbrev iY:=Cal P w K mg base 2 "turn" ["a", "b", "c"]
abbrev lY:=Cal P w K mg base 3 "parts_off" ["shape", "number", "places"]
abbrev wg:=Cal P w K mg base 4 "parting_edge" ["shape", "places"]
abbrev we:=Cal P w K mg base 5 "parting_pair" ["shape", "other"]
abbrev nk:=Cal P w K mg base 1 "upright" ["one", "other"]
abbrev xN:=Cal P w K mg base 2 "straight" ["a", "b"]
abbrev yy:=Cal P w K mg base 1 "divisor_of_two" ["one", "other"]
abbrev nO:=Cal P w K mg base 2 "divisor" ["parts"]
abbrev uu:=Cal P w K mg base 3 "lowest" ["parts"]
abbrev yo:=Cal P w K mg base 4 "crossing" ["line", "other"]
abbrev wN:=Cal P w K mg base 5 "clipped" ["corners", "a", "b"]
abbrev pW:=Cal P w K mg base 6 "common_place" ["shape", "other"]
abbrev qG:=Cal P w K mg base 7 "two_paper" ["shapes", "others"]
abbrev xF:=Cal P w K mg base 2 "_law_odd" ["_law_tape_here"]
abbrev lQ:=Cal P w K mg base 1 "is_whole" ["thing"]
abbrev pK:=Cal P w K mg base 2 "is_edge_number" ["shape", "thing"]
abbrev ze:=Cal P w K mg base 4 "is_parting" ["shape", "other", "thing"]
abbrev xB:=Cal P w K mg base 3 "is_lowest" ["thing", "size"]
abbrev rn:=Cal P w K mg base 4 "is_place" ["thing"]
abbrev tm:=Cal P w K mg base 5 "is_so_formed" ["thing"]
abbrev yk:=Cal P w K mg base 3 "belongs" ["shape", "one"]
abbrev yq:=Cal P w K mg base 4 "in_area" ["shapes", "one"]
abbrev yf:=Cal P w K mg base 7 "_law_lets" ["_law_shapes_here", "_law_others", "_law_thing"]
abbrev zp:=Cal P w K mg base 2 "_law_any_rows" ["_law_tape_here", "_law_shapes_here", "_law_others"]
abbrev wu:=Cal P w K mg base 3 "_law_midst" ["_law_one", "_law_other"]
abbrev mT:=Cal P w K mg base 1 "_law_edges" ["_law_ring"]
abbrev oY:=Cal P w K mg base 1 "_law_det" ["_law_a", "_law_b", "_law_c"]
abbrev vG:=Cal P w K mg base 3 "_law_cross" ["_law_a", "_law_b", "_law_c", "_law_d"]
abbrev yI:=Cal P w K mg base 4 "_law_clipped" ["_law_shape", "_law_a", "_law_b"]
abbrev rN:=Cal P w K mg base 5 "_law_shared" ["_law_one", "_law_other"]
abbrev zD:=Cal P w K mg base 66 "_law_bent" ["_law_tape_here", "_law_thing"]
end
variable {f:Addr}
section
variable {P:Program}{w:World}
def Ga (B:Blt mg) (F:GF K mg "_law_tape" (top 36) f fd):vk P w K mg base (U9):=
 B2 [] F (by wtm_at "p") (by wtm_at "f") fun U _ _ _ _ _ _ g J=>
 (F3 (O8 (BL (ib J) (pv 0) (pv 0) (by rfl) B.list gq (by rfl) B.int iH)))
def Ma (B:Blt mg) (F:GF K mg "_law_draw" (top 37) f fd):aA P w K mg base (xP):=
 B2 ["_law_digit", "_law_spot", "_law_cell", "_law_mixed"] F (by wtm_at "p") (by wtm_at "f") (by unfold bh;wtm_at "M")
def CA (J:aA P w K mg base mo) (B:Blt mg) (F:GF K mg "_law_net" (top 45) f fd):vg P w K mg base (qr mo):=
 B2 ["_law_some", "_law_found", "_law_x", "_law_y"] F (by wtm_at "p") (by wtm_at "f") (by unfold jM;wtm_at "M")
def JJ (B:Blt mg) (F:GF K mg "_law_common" (top 38) f fd):sE P w K mg base (iQ):=
 B2 [] F (by wtm_at "p") (by wtm_at "f") (by unfold sv;wtm_at "M")
def Ic (J:sE P w K mg base m0v) (B:Blt mg) (F:GF K mg "_law_place" (top 39) f fd):iL P w K mg base (uC m0v):=
 B2 ["_law_by"] F (by wtm_at "p") (by wtm_at "f") (by unfold kR;wtm_at "M")
def EV (J:iL P w K mg base m01) (B:Blt mg) (F:GF K mg "_law_laid" (top 46) f fd):rZ P w K mg base (ub m01):=
 B2 ["_law_x"] F (by wtm_at "p") (by wtm_at "f") (by unfold kO;wtm_at "M")
def Ed (J:aA P w K mg base mo) (B:Blt mg) (F:GF K mg "_law_form" (top 44) f fd):uE P w K mg base (uf mo):=
 B2 ["_law_w", "_law_h", "_law_some"] F (by wtm_at "p") (by wtm_at "f") (by unfold kh;wtm_at "M")
def LD (B:Blt mg) (F:GF K mg "_law_less" (top 41) f fd):ud P w K mg base (cE):=
 B2 ["_law_first"] F (by wtm_at "p") (by wtm_at "f") (by unfold jF;wtm_at "M")
def Jf (J:ud P w K mg base m0o) (B:Blt mg) (F:GF K mg "_law_begun" (top 43) f fd):pE P w K mg base (yC m0o):=
 B2 ["_law_at", "_law_k"] F (by wtm_at "p") (by wtm_at "f") (by unfold jE;wtm_at "M")
def HP (Cl:aA P w K mg base mo) (J:pE P w K mg base m0p) (Y:uE P w K mg base m0q) (Z:rZ P w K mg base m0r) (B:Blt mg) (F:GF K mg "_law_shapes" (top 47) f fd):wK P w K mg base (vB mo m0p m0q m0r):=
 B2 ["_law_found", "_law_k", "_law_x", "_law_y", "_law_corners"] F (by wtm_at "p") (by wtm_at "f") fun U _ _ _ _ _ _ g hr=>
 (B4 (by wtm_at "s") (B4 (nK OD rfl (by rfl) B.range (by wtm_at "E") (by wtm_at "G") (B4 (by wtm_at "s") (B4 (sQ (i:=8) U rfl (by first | exact Or.inl rfl | exact Or.inr rfl) (zJ (caps:=["_law_net_here", "_law_x", "_law_y"]) (idx:=[1,6,7]) rfl (BD (by rfl) (.cons rfl (.cons rfl (.cons rfl .nil))) (by decide +kernel) rfl (by decide +kernel) (by rfl) (.cons rfl (by first | exact Or.inl rfl | exact Or.inr rfl) (by first | exact Or.inl rfl | exact Or.inr rfl) (.cons rfl (by first | exact Or.inl rfl | exact Or.inr rfl) (by first | exact Or.inl rfl | exact Or.inr rfl) (.cons rfl (by first | exact Or.inl rfl | exact Or.inr rfl) (by first | exact Or.inl rfl | exact Or.inr rfl) .nil)))) (fw (by wtm_at "E")) (show List.Nodup (["_law_u", "_law_v", "_law_net_here", "_law_x", "_law_y"]:List Str) by decide +kernel) (fun _ _ _ _=>rfl) (fun _ _ _ _=>rfl) (fun _ _ _ _ _=>dN) (fun _ _ _ _ _=>(by wtm_at "E")))) (by wtm_at "S")))) (by wtm_at "S")))
def JK (U:wK P w K mg base m0w) (Y:aA P w K mg base mo) (J:vg P w K mg base m0E) (B:Blt mg) (F:GF K mg "_law_two" (top 54) f fd):qe P w K mg base (tM m0w mo m0E):=
 B2 ["_law_net_here", "_law_shapes_here"] F (by wtm_at "p") (by wtm_at "f") (by unfold kH;wtm_at "M")
def DV (B:Blt mg) (F:GF K mg "neighbours" (top 14) f fd):pV P w K mg base (jT):=
 B2 [] F (by wtm_at "p") (by wtm_at "f") fun U _ _ _ _ _ _ g J=>
 (B4 (Q6 (by wtm_at "T") (F3 (O8 (FO.v (rS rfl (by rfl) B.list (by rfl) B.zip (by wtm_at "a"))))) Q5) (F3 (O8 (FO.v (rS rfl (by rfl) B.list (by rfl) B.zip (by wtm_at "a"))))))
def Cu (J:pV P w K mg base m0C) (B:Blt mg) (F:GF K mg "edges" (top 15) f fd):fk P w K mg base (xR m0C):=
 B2 [] F (by wtm_at "p") (by wtm_at "f") (by unfold ve;wtm_at "M")
def Eu (B:Blt mg) (F:GF K mg "sign" (top 11) f fd):uH P w K mg base (iJ):=
 B2 [] F (by wtm_at "p") (by wtm_at "f") (by unfold dM;wtm_at "M")
def Av (J:uH P w K mg base m0B) (B:Blt mg) (F:GF K mg "turn" (top 12) f fd):iY P w K mg base (qy m0B):=
 B2 ["spread"] F (by wtm_at "p") (by wtm_at "f") (by unfold jd;wtm_at "M")
def DH (J:iY P w K mg base m00) (U:fk P w K mg base mt) (B:Blt mg) (F:GF K mg "parts_off" (top 24) f fd):lY P w K mg base (sO m00 mt):=
 B2 ["edge", "one"] F (by wtm_at "p") (by wtm_at "f") (by unfold iE;wtm_at "M")
def GC (J:lY P w K mg base m05) (B:Blt mg) (F:GF K mg "parting_edge" (top 25) f fd):wg P w K mg base (tF m05):=
 B2 ["number"] F (by wtm_at "p") (by wtm_at "f") (by unfold iy;wtm_at "M")
def CM (J:wg P w K mg base m0x) (B:Blt mg) (F:GF K mg "parting_pair" (top 33) f fd):we P w K mg base (sX m0x):=
 B2 ["number"] F (by wtm_at "p") (by wtm_at "f") (by unfold aP;wtm_at "M")
def Lb (B:Blt mg) (F:GF K mg "upright" (top 16) f fd):nk P w K mg base (kK):=
 B2 [] F (by wtm_at "p") (by wtm_at "f") (by unfold yi;wtm_at "M")
def FZ (J:nk P w K mg base m0f) (B:Blt mg) (F:GF K mg "straight" (top 17) f fd):xN P w K mg base (xw m0f):=
 B2 [] F (by wtm_at "p") (by wtm_at "f") (by unfold qt;wtm_at "M")
def Ir (B:Blt mg) (F:GF K mg "divisor_of_two" (top 5) f fd):yy P w K mg base (R4):=
 B2 ["greater", "rest", "left_over"] F (by wtm_at "p") (by wtm_at "f") (by unfold jY;wtm_at "M")
def Hb (J:yy P w K mg base m0k) (B:Blt mg) (F:GF K mg "divisor" (top 6) f fd):nO P w K mg base (aj m0k):=
 B2 ["shared", "part"] F (by wtm_at "p") (by wtm_at "f") (by unfold iW;wtm_at "M")
def Ht (J:nO P w K mg base m0d) (B:Blt mg) (F:GF K mg "lowest" (top 8) f fd):uu P w K mg base (zi m0d):=
 B2 ["shared"] F (by wtm_at "p") (by wtm_at "f") fun Y _ _ _ _ _ _ g U=>
 (B4 (by wtm_at "s") (B4 (by wtm_at "s") (F3 (O8 (pG wj xE (by rfl) B.tuple ah (bc (EO.b (FO.v (gS (N':=["part", "shared"]) (idx:=[1]) rfl (ez (by rfl) (.cons rfl .nil) (by decide +kernel) rfl (by decide +kernel) (by rfl) (.cons rfl (by first | exact Or.inl rfl | exact Or.inr rfl) (by first | exact Or.inl rfl | exact Or.inr rfl) .nil)) (fw (bz (pv 0))) (fun _ _ _ _=>Z2 (i:=0) (show List.Nodup (["part", "shared"]:List Str) by decide +kernel) rfl (Or.inl rfl)) (fun _ _ _ _ _=>dN) (fun _ _ _ _ _=>(by wtm_at "E"))))) oF))))))
def Eo (J:uu P w K mg base m0D) (U:nk P w K mg base m0f) (B:Blt mg) (F:GF K mg "crossing" (top 18) f fd):yo P w K mg base (wM m0D m0f):=
 B2 [] F (by wtm_at "p") (by wtm_at "f") (by unfold yH;wtm_at "M")
def Af (U:iY P w K mg base m00) (J:yo P w K mg base m0n) (Y:xN P w K mg base m0j) (Z:fk P w K mg base mt) (B:Blt mg) (F:GF K mg "clipped" (top 20) f fd):wN P w K mg base (wR m00 m0n m0j mt):=
 B2 ["line", "kept", "one", "other", "here"] F (by wtm_at "p") (by wtm_at "f") (by unfold ke;wtm_at "M")
def BS (Y:wN P w K mg base m0s) (U:fk P w K mg base mt) (B:Blt mg) (F:GF K mg "common_place" (top 34) f fd):pW P w K mg base (vE m0s mt):=
 B2 ["kept", "a", "b"] F (by wtm_at "p") (by wtm_at "f") fun J _ _ _ _ _ _ g Z=>
 (B4 (fX (i:=2) J rfl (by first | exact Or.inl rfl | exact Or.inr rfl) (mY kD lW (by rfl) B.list gq (by wtm_at "a"))) (by wtm_at "S"))
def Iv (U:pW P w K mg base m0g) (J:we P w K mg base m0h) (B:Blt mg) (F:GF K mg "two_paper" (top 32) f fd):qG P w K mg base (xV m0g m0h):=
 B2 ["rows", "shape", "row", "other", "pair"] F (by wtm_at "p") (by wtm_at "f") (by unfold dW;wtm_at "M")
def FN (J:aA P w K mg base mo) (B:Blt mg) (F:GF K mg "_law_odd" (top 52) f fd):xF P w K mg base (yw mo):=
 B2 ["_law_some"] F (by wtm_at "p") (by wtm_at "f") (by unfold kL;wtm_at "M")
def u8:FnScope ["_law_tape_here", "_law_thing", "_law_at", "_law_kind", "_law_some"] ["_law_tape_here", "_law_thing"] (B8 (top 53)):=by wtm_at "f"
theorem yn (J:xF P w K mg base m0l) (U:aA P w K mg base mo) (B:Blt mg) (F:GF K mg "_law_bent" (top 53) f fd):∀n:Nat,Cal P w K mg base (2+n) "_law_bent" ["_law_tape_here", "_law_thing"] (nW m0l mo n)
 |0=>#[f,fd,Fx,F.m,F.F.kp,F.F.binds (fun _ _ _ _ _ _=>on2 fun _ _=>rfl)]
 |n+1=>
  have Y:=yn J U B F n
  wV F (fun _ _ _ _ _ _=>on2 fun _ _=>rfl) u8 fun cdv A outer s H E g Z=>
  have nd:=u8.nd
  (B4 (Q6 (WO.t (gu (Y2 (EO.b (W2 cL (by rfl) B.isinstance (by rfl) B.tuple ah (T3 (pv 1))))) (by wtm_at "W"))) (by wtm_at "S") Q5) (B4 (by wtm_at "s") (B4 (Q6 (WO.t (gu (Y2 (EO.b (W2 cL (by rfl) B.isinstance (by rfl) B.tuple ah (T3 (pv 1))))) (by wtm_at "W"))) (B4 (by wtm_at "s") (B4 (fX (i:=4) nd rfl (by first | exact Or.inl rfl | exact Or.inr rfl) (si (ac (FO.v (mY kD lW (by rfl) B.list gq (by wtm_at "a"))) (by wtm_at "A")))) (by wtm_at "S"))) Q5) (B4 (Q6 (WO.t (gu (Y2 (EO.b (W2 yu (by rfl) B.isinstance (by rfl) B.int iH (T3 (pv 1))))) (gu (cF (Y2 (EO.b (W2 sP (by rfl) B.isinstance (by rfl) B.bool lL (T3 (pv 1)))))) (by wtm_at "W")))) (by wtm_at "S") Q5) (by wtm_at "S")))))
def Dk (B:Blt mg) (F:GF K mg "is_whole" (top 4) f fd):lQ P w K mg base (br):=
 B2 [] F (by wtm_at "p") (by wtm_at "f") fun U _ _ _ _ _ _ g J=>
 (F3 (O8 (jA (W2 yu (by rfl) B.isinstance (by rfl) B.int iH (T3 (pv 0))) (kc (wY (W2 sP (by rfl) B.isinstance (by rfl) B.bool lL (T3 (pv 0))))))))
def Ik (J:lQ P w K mg base m0e) (B:Blt mg) (F:GF K mg "is_edge_number" (top 23) f fd):pK P w K mg base (vJ m0e):=
 B2 [] F (by wtm_at "p") (by wtm_at "f") fun Y _ _ _ _ _ _ g U=>
 (F3 (O8 (jA (by wtm_at "E") (kc (Ja uV (oM (fun i j=>decide (i<=j))) qR (oM (fun i j=>decide (i<j))) (EO.b iP) (T3 (pv 1)) (by wtm_at "B"))))))
def Ca (J:lY P w K mg base m05) (U:pK P w K mg base m0y) (B:Blt mg) (F:GF K mg "is_parting" (top 31) f fd):ze P w K mg base (xJ m05 m0y):=
 B2 [] F (by wtm_at "p") (by wtm_at "f") fun Y _ _ _ _ _ _ g Z=>
 (B4 (Q6 (WO.t (gn (cF (Y2 (EO.b (W2 cL (by rfl) B.isinstance (by rfl) B.tuple ah (T3 (pv 2)))))) (by wtm_at "W"))) (F3 (O8 aG)) Q5) (by wtm_at "S"))
def ul:FnScope ["shapes", "others", "rows", "k", "row", "thing", "other"] ["shapes", "others", "rows"] (B8 (top 30)):=by wtm_at "f"
def IJ (Y:ze P w K mg base m0i) (J:Rf2 K mg "NoPaper") {f:Addr}(B:Blt mg) (F:GF K mg "lets_apart" (top 30) f fd):CalX P w K mg base 5 "lets_apart" ["shapes", "others", "rows"] (wz m0i):=
 nQ F (fun _ _ _ _ _ _=>on3 fun _ _ _=>rfl) ul fun cdv A outer s H E g R U=>
  have nd:=ul.nd
  (B4 (Q6 (by wtm_at "T") (F3 (gU (k:=0) R J (U.mono #[]) rfl (by rfl) (by wtm_at "A") (M0 (M0 aw)))) Q5) (B4 (Cf PassesOwn.leaving rfl (by rfl) B.enumerate (by wtm_at "A") (by wtm_at "G") (B4 (Q6 (WO.t (gn (cF (Y2 (EO.b (W2 cL (by rfl) B.isinstance (by rfl) B.tuple ah (T3 (pv 4)))))) (by wtm_at "W"))) (F3 (gU (k:=0) R J (U.mono #[]) rfl (by rfl) (by wtm_at "A") (M0 (M0 aw)))) Q5) (F3 (Iq PassesOwn.leaving rfl (by rfl) B.zip (by wtm_at "A") (by wtm_at "G") (F3 (Q6 (by wtm_at "T") (F3 (gU (k:=0) R J (U.mono #[]) rfl (by rfl) (by wtm_at "A") (M0 (M0 aw)))) Q5)))))) (F3 (O8 aG))))
def IS (J:nO P w K mg base m0d) (U:lQ P w K mg base m0e) (B:Blt mg) (F:GF K mg "is_lowest" (top 7) f fd):xB P w K mg base (qm m0d m0e):=
 B2 [] F (by wtm_at "p") (by wtm_at "f") fun Z _ _ _ _ _ _ g Y=>
 (B4 (Q6 (WO.t (gn (cF (Y2 (EO.b (W2 cL (by rfl) B.isinstance (by rfl) B.tuple ah (T3 (pv 0)))))) (by wtm_at "W"))) (F3 (O8 aG)) Q5) (B4 (Q6 (cF (Y2 (EO.b (rY (xG rfl) rK (by rfl) B.all xS (bc (EO.b (FO.v (gS (N':=["part"]) (idx:=[]) rfl (ez (by rfl) .nil (by decide +kernel) rfl (by decide +kernel) (by rfl) .nil) (fw (bz (pv 0))) (fun _ _ _ _=>Z2 (i:=0) (show List.Nodup (["part"]:List Str) by decide +kernel) rfl (Or.inl rfl)) (fun _ _ _ _ _=>dN) (fun _ _ _ _ _=>(by wtm_at "E"))))) oF))))) (F3 (O8 aG)) Q5) (by wtm_at "S")))
def ID (J:xB P w K mg base m0A) (B:Blt mg) (F:GF K mg "is_place" (top 10) f fd):rn P w K mg base (yL m0A):=
 B2 [] F (by wtm_at "p") (by wtm_at "f") (by unfold jX;wtm_at "M")
def Ai (J:rn P w K mg base m0F) (B:Blt mg) (F:GF K mg "is_so_formed" (top 28) f fd):tm P w K mg base (rX m0F):=
 B2 [] F (by wtm_at "p") (by wtm_at "f") fun U _ _ _ _ _ _ g Y=>
 (B4 (Q6 (WO.t (gn (cF (Y2 (EO.b (W2 cL (by rfl) B.isinstance (by rfl) B.tuple ah (T3 (pv 0)))))) (by wtm_at "W"))) (F3 (O8 aG)) Q5) (B4 (by wtm_at "s") (F3 (O8 (jA (by wtm_at "E") (kc (W2 cL (by rfl) B.isinstance (by rfl) B.tuple ah (by wtm_at "B"))))))))
def EK (J:iY P w K mg base m00) (U:fk P w K mg base mt) (B:Blt mg) (F:GF K mg "belongs" (top 21) f fd):yk P w K mg base (vh m00 mt):=
 B2 ["a", "b"] F (by wtm_at "p") (by wtm_at "f") (by unfold ij;wtm_at "M")
def AE (J:yk P w K mg base m0m) (B:Blt mg) (F:GF K mg "in_area" (top 22) f fd):yq P w K mg base (wI m0m):=
 B2 ["shape"] F (by wtm_at "p") (by wtm_at "f") (by unfold ju;wtm_at "M")
def ut:FnScope ["shapes", "others", "one"] ["shapes", "others", "one"] (B8 (top 29)):=by wtm_at "f"
def JE (U:yq P w K mg base m0z) (J:Rf2 K mg "NoPaper") {f:Addr}(B:Blt mg) (F:GF K mg "lets_meet" (top 29) f fd):CalX P w K mg base 5 "lets_meet" ["shapes", "others", "one"] (zd m0z):=
 nQ F (fun _ _ _ _ _ _=>on3 fun _ _ _=>rfl) ut fun cdv A outer s H E g R Y=>
  have nd:=ut.nd
  (B4 (Q6 (by wtm_at "T") (F3 (gU (k:=0) R J (Y.mono #[]) rfl (by rfl) (by wtm_at "A") (M0 (M0 aw)))) Q5) (F3 (O8 aG)))
def u00:FnScope ["shapes", "others", "thing"] ["shapes", "others", "thing"] (B8 (top 27)):=by wtm_at "f"
def BQ (Y:CalX P w K mg base 5 "lets_apart" ["shapes", "others", "rows"] m0G) (Z:CalX P w K mg base 5 "lets_meet" ["shapes", "others", "one"] m0H) (C0B:tm P w K mg base m0I) (J:Rf2 K mg "NoPaper") {f:Addr}(B:Blt mg) (F:GF K mg "lets_two" (top 27) f fd):CalX P w K mg base 6 "lets_two" ["shapes", "others", "thing"] (wD m0G m0H m0I):=
 nQ F (fun _ _ _ _ _ _=>on3 fun _ _ _=>rfl) u00 fun cdv A outer s H E g R U=>
  have nd:=u00.nd
  (B4 (Q6 (by wtm_at "T") (F3 (gU (k:=0) R J (U.mono #[]) rfl (by rfl) (by wtm_at "A") (M0 (M0 aw)))) Q5) (B4 (Q6 (by wtm_at "T") (F3 (sr (nI Z R _ U #[] (by rfl) (by wtm_at "A") (M0 (M0 (M0 aw)))))) Q5) (F3 (sr (nI Y R _ U #[] (by rfl) (by wtm_at "A") (M0 (M0 (M0 aw))))))))
def ED (U:CalX P w K mg base 6 "lets_two" ["shapes", "others", "thing"] m0J) (J:Ck K mg ["NoPaper"] "NoPaper") (B:Blt mg) (F:GF K mg "_law_lets" (top 55) f fd):yf P w K mg base (mw m0J):=
 B2 ["_law_found"] F (by wtm_at "p") (by wtm_at "f") fun Y _ _ _ _ _ _ g Z=>
 (B4 (by wtm_at "s") (B4 (EB (fun pn xe g1 R _ _ _=>(F3 (Il Y (by rfl) (by first | exact Or.inl rfl | exact Or.inr rfl) (zR (j:=none) (p2:=#[0,0,0,0]) (nI U R _ Z #[] (by rfl) (by wtm_at "A") (M0 (M0 (M0 aw)))) aG (fL _))))) (fun _=>(by wtm_at "S")) J (by rfl)) (by wtm_at "S")))
def HR (Y:aA P w K mg base mo) (B:Blt mg) (F:GF K mg "_law_any_rows" (top 56) f fd):zp P w K mg base (xA mo):=
 B2 ["_law_rows", "_law_one", "_law_row"] F (by wtm_at "p") (by wtm_at "f") fun J _ _ _ _ _ _ g U=>
 (B4 (by wtm_at "s") (B4 (om OD rfl (bz (pv 1)) (by wtm_at "G") (B4 (sQ (i:=5) J rfl (by first | exact Or.inl rfl | exact Or.inr rfl) (Ab (N':=["_law_other", "_law_tape_here"]) (idx:=[0]) rfl (ez (by rfl) (.cons rfl .nil) (by decide +kernel) rfl (by decide +kernel) (by rfl) (.cons rfl (by first | exact Or.inl rfl | exact Or.inr rfl) (by first | exact Or.inl rfl | exact Or.inr rfl) .nil)) (fw (bz (pv 2))) (fun _ _ _ _=>Z2 (i:=0) (show List.Nodup (["_law_other", "_law_tape_here"]:List Str) by decide +kernel) rfl (Or.inl rfl)) (fun _ _ _ _ _=>dN) (fun _ _ _ _ _=>(by wtm_at "E")))) (by wtm_at "S"))) (by wtm_at "S")))
def BE (J:iL P w K mg base m01) (B:Blt mg) (F:GF K mg "_law_midst" (top 48) f fd):wu P w K mg base (qD m01):=
 B2 ["_law_x"] F (by wtm_at "p") (by wtm_at "f") (by unfold gX;wtm_at "M")
def DJ (B:Blt mg) (F:GF K mg "_law_edges" (top 42) f fd):mT P w K mg base (R5):=
 B2 [] F (by wtm_at "p") (by wtm_at "f") fun U _ _ _ _ _ _ g J=>
 (F3 (O8 (FO.v (gS (N':=["_law_k", "_law_ring"]) (idx:=[0]) rfl (ez (by rfl) (.cons rfl .nil) (by decide +kernel) rfl (by decide +kernel) (by rfl) (.cons rfl (by first | exact Or.inl rfl | exact Or.inr rfl) (by first | exact Or.inl rfl | exact Or.inr rfl) .nil)) (sV (by rfl) B.range (by wtm_at "E")) (fun _ _ _ _=>Z2 (i:=0) (show List.Nodup (["_law_k", "_law_ring"]:List Str) by decide +kernel) rfl (Or.inl rfl)) (fun _ _ _ _ _=>dN) (fun _ _ _ _ _=>(by wtm_at "E"))))))
def Cr (B:Blt mg) (F:GF K mg "_law_det" (top 40) f fd):oY P w K mg base (Z3):=
 B2 ["_law_first", "_law_second"] F (by wtm_at "p") (by wtm_at "f") (by unfold ja;wtm_at "M")
def HL (U:iL P w K mg base m01) (J:oY P w K mg base m03) (B:Blt mg) (F:GF K mg "_law_cross" (top 49) f fd):vG P w K mg base (pd m01 m03):=
 B2 ["_law_first", "_law_second", "_law_x"] F (by wtm_at "p") (by wtm_at "f") (by unfold jS;wtm_at "M")
def Kh (U:vG P w K mg base m0t) (Y:oY P w K mg base m03) (J:mT P w K mg base m04) (B:Blt mg) (F:GF K mg "_law_clipped" (top 50) f fd):yI P w K mg base (xj m0t m03 m04):=
 B2 ["_law_found", "_law_one", "_law_other", "_law_first", "_law_second"] F (by wtm_at "p") (by wtm_at "f") (by unfold kj;wtm_at "M")
def zU (Y:yI P w K mg base m0u) (U:mT P w K mg base m04) (B:Blt mg) (F:GF K mg "_law_shared" (top 51) f fd):rN P w K mg base (uD m0u m04):=
 B2 ["_law_found", "_law_a", "_law_b"] F (by wtm_at "p") (by wtm_at "f") fun J _ _ _ _ _ _ g Z=>
 (B4 (fX (i:=2) J rfl (by first | exact Or.inl rfl | exact Or.inr rfl) (mY kD lW (by rfl) B.list gq (by wtm_at "a"))) (by wtm_at "S"))
def u01:FnScope ["_law_script", "_law_tape_here", "_law_ahead", "_law_k", "_law_shapes_here", "_law_others", "_law_due", "_law_one", "_law_told", "_law_some", "_law_shape", "_law_thing"] ["_law_script"] (B8 (top 57)):=by wtm_at "f"
def JL (Z:yf P w K mg base m06) (C0F:wu P w K mg base m07) (Cl:aA P w K mg base mo) (C0G:zp P w K mg base m08) (C0a:zD P w K mg base m02) (U:qG P w K mg base m09) (J:rN P w K mg base m0a) (Y:qe P w K mg base m0b) (C0K:vk P w K mg base m0c) {f:Addr}(B:Blt mg) (F:Fun K "law" "law" (top 57) f fd):gh P w K mg base 67 f fd ["_law_script"] (ph m06 m07 mo m08 m02 m09 m0a m0b m0c):=
 zj F u01 fun cdv A outer s H E g hr=>
  have nd:=u01.nd
  (B4 (by wtm_at "s") (B4 (by wtm_at "s") (B4 (nK OD rfl (by rfl) B.range iP (by wtm_at "G") (B4 (by wtm_at "s") (B4 (by wtm_at "s") (B4 (om OD rfl (bz (pv 4)) (by wtm_at "G") (F3 (Q6 (wU (vX (ib hr)) qk (EO.b (FO.v (gS (N':=["_law_other", "_law_one"]) (idx:=[7]) rfl (ez (by rfl) (.cons rfl .nil) (by decide +kernel) rfl (by decide +kernel) (by rfl) (.cons rfl (by first | exact Or.inl rfl | exact Or.inr rfl) (by first | exact Or.inl rfl | exact Or.inr rfl) .nil)) (fw (bz (pv 5))) (fun _ _ _ _=>Z2 (i:=0) (show List.Nodup (["_law_other", "_law_one"]:List Str) by decide +kernel) rfl (Or.inl rfl)) (fun _ _ _ _ _=>(IW (by wtm_at "T"))) (fun _ _ _ _ _=>(bz (pv 0)))))) (by wtm_at "B") (fL _)) (by wtm_at "S") Q5))) (B4 (by wtm_at "s") (B4 (by wtm_at "s") (B4 (by wtm_at "s") (B4 (fX (i:=9) nd rfl (by first | exact Or.inl rfl | exact Or.inr rfl) (wJ jO sZ (T3 (pv 9)) (EO.b (FO.v (gS (N':=["_law_j", "_law_tape_here", "_law_shapes_here", "_law_others"]) (idx:=[1,4,5]) rfl (ez (by rfl) (.cons rfl (.cons rfl (.cons rfl .nil))) (by decide +kernel) rfl (by decide +kernel) (by rfl) (.cons rfl (by first | exact Or.inl rfl | exact Or.inr rfl) (by first | exact Or.inl rfl | exact Or.inr rfl) (.cons rfl (by first | exact Or.inl rfl | exact Or.inr rfl) (by first | exact Or.inl rfl | exact Or.inr rfl) (.cons rfl (by first | exact Or.inl rfl | exact Or.inr rfl) (by first | exact Or.inl rfl | exact Or.inr rfl) .nil)))) (sV (by rfl) B.range iP) (fun _ _ _ _=>Z2 (i:=0) (show List.Nodup (["_law_j", "_law_tape_here", "_law_shapes_here", "_law_others"]:List Str) by decide +kernel) rfl (Or.inl rfl)) (fun _ _ _ _ _=>dN) (fun _ _ _ _ _=>(by wtm_at "E"))))))) (by wtm_at "S"))))))))) (F3 (O8 aG)))))
end
end T
namespace T
open PySem PySem.Spec L2 DL
abbrev whole:c8:=ph W5 Y8 B0 S6 (L4 64) S8 N9 V6 U9
set_option autoImplicit true in
set_option relaxedAutoImplicit true in
def all_mk {l:PySem.W.OpenLaw}{w:World}{fa:Addr}(X:K.In h) (G:h.Ns mainGlobals mg) (hfa:mg "law" = some (.ref fa)) 
  (g1:GF K mg "_law_tape" (top 36) jf1 jd1)
  (g2:GF K mg "_law_draw" (top 37) jf2 jd2)
  (g3:GF K mg "_law_net" (top 45) jf3 jd3)
  (g4:GF K mg "_law_common" (top 38) jf4 jd4)
  (g5:GF K mg "_law_place" (top 39) jf5 jd5)
  (g6:GF K mg "_law_laid" (top 46) jf6 jd6)
  (g7:GF K mg "_law_form" (top 44) jf7 jd7)
  (g8:GF K mg "_law_less" (top 41) jf8 jd8)
  (g9:GF K mg "_law_begun" (top 43) jf9 jd9)
  (g10:GF K mg "_law_shapes" (top 47) jf10 jd10)
  (g11:GF K mg "_law_two" (top 54) jf11 jd11)
  (g12:GF K mg "neighbours" (top 14) jf12 jd12)
  (g13:GF K mg "edges" (top 15) jf13 jd13)
  (g14:GF K mg "sign" (top 11) jf14 jd14)
  (g15:GF K mg "turn" (top 12) jf15 jd15)
  (g16:GF K mg "parts_off" (top 24) jf16 jd16)
  (g17:GF K mg "parting_edge" (top 25) jf17 jd17)
  (g18:GF K mg "parting_pair" (top 33) jf18 jd18)
  (g19:GF K mg "upright" (top 16) jf19 jd19)
  (g20:GF K mg "straight" (top 17) jf20 jd20)
  (g21:GF K mg "divisor_of_two" (top 5) jf21 jd21)
  (g22:GF K mg "divisor" (top 6) jf22 jd22)
  (g23:GF K mg "lowest" (top 8) jf23 jd23)
  (g24:GF K mg "crossing" (top 18) jf24 jd24)
  (g25:GF K mg "clipped" (top 20) jf25 jd25)
  (g26:GF K mg "common_place" (top 34) jf26 jd26)
  (g27:GF K mg "two_paper" (top 32) jf27 jd27)
  (g28:GF K mg "_law_odd" (top 52) jf28 jd28)
  (g29:GF K mg "_law_bent" (top 53) jf29 jd29)
  (g30:GF K mg "is_whole" (top 4) jf30 jd30)
  (g31:GF K mg "is_edge_number" (top 23) jf31 jd31)
  (g32:GF K mg "is_parting" (top 31) jf32 jd32)
  (g33:GF K mg "lets_apart" (top 30) jf33 jd33)
  (g34:GF K mg "is_lowest" (top 7) jf34 jd34)
  (g35:GF K mg "is_place" (top 10) jf35 jd35)
  (g36:GF K mg "is_so_formed" (top 28) jf36 jd36)
  (g37:GF K mg "belongs" (top 21) jf37 jd37)
  (g38:GF K mg "in_area" (top 22) jf38 jd38)
  (g39:GF K mg "lets_meet" (top 29) jf39 jd39)
  (g40:GF K mg "lets_two" (top 27) jf40 jd40)
  (g41:GF K mg "_law_lets" (top 55) jf41 jd41)
  (g42:GF K mg "_law_any_rows" (top 56) jf42 jd42)
  (g43:GF K mg "_law_midst" (top 48) jf43 jd43)
  (g44:GF K mg "_law_edges" (top 42) jf44 jd44)
  (g45:GF K mg "_law_det" (top 40) jf45 jd45)
  (g46:GF K mg "_law_cross" (top 49) jf46 jd46)
  (g47:GF K mg "_law_clipped" (top 50) jf47 jd47)
  (g48:GF K mg "_law_shared" (top 51) jf48 jd48)
  (g49:GF K mg "law" (top 57) jf49 jd49)
  (J:Rf2 K mg "NoPaper")
  (U:Ck K mg ["NoPaper"] "NoPaper")
  (B:Blt mg) :
  ∃fd:FuncData,(∀(s:Shared) (v:Value),BindsTo s fd #[[v],[]] [("_law_script",v)])/\∀base:Heap,K.In base->base.Ns mainGlobals mg->FnOk l.prog w K mg base W3 67 fa fd ["_law_script"] (eB K 1 whole):=by
 have e:=hfa.symm.trans g49.m;cases e;refine#[jd49,Ei g49.F fun _ _ _ _ _ _ _ _=>.of_eq rfl,fun base _ _=>?_];have C0K:=Ga (P:=l.prog) (w:=w) (base:=base) B g1;have Z:=Ma (P:=l.prog) (w:=w) (base:=base) B g2;have C0k:=CA Z B g3;have C0e:=JJ (P:=l.prog) (w:=w) (base:=base) B g4;have C01:=Ic C0e B g5;have C0i:=EV C01 B g6;have C0h:=Ed Z B g7;have C0f:=LD (P:=l.prog) (w:=w) (base:=base) B g8;have C0g:=Jf C0f B g9;have C0j:=HP Z C0g C0h C0i B g10;have C0J:=JK C0j Z C0k B g11;have C0l:=DV (P:=l.prog) (w:=w) (base:=base) B g12;have Y:=Cu C0l B g13;have C0m:=Eu (P:=l.prog) (w:=w) (base:=base) B g14;have C02:=Av C0m B g15;have C03:=DH C02 Y B g16;have C0n:=GC C03 B g17;have C0u:=CM C0n B g18;have C04:=Lb (P:=l.prog) (w:=w) (base:=base) B g19;have C0r:=FZ C04 B g20;have C0o:=Ir (P:=l.prog) (w:=w) (base:=base) B g21;have C05:=Hb C0o B g22;have C0p:=Ht C05 B g23;have C0q:=Eo C0p C04 B g24;have C0s:=Af C02 C0q C0r Y B g25;have C0t:=BS C0s Y B g26;have C0H:=Iv C0t C0u B g27;have C09:=FN Z B g28;have C0a:=yn C09 Z B g29 64;have C06:=Dk (P:=l.prog) (w:=w) (base:=base) B g30;have C0v:=Ik C06 B g31;have C0w:=Ca C03 C0v B g32;have C0b:=IJ C0w J B g33;have C0x:=IS C05 C06 B g34;have C0y:=ID C0x B g35;have C0B:=Ai C0y B g36;have C0z:=EK C02 Y B g37;have C0A:=AE C0z B g38;have C0c:=JE C0A J B g39;have C0d:=BQ C0b C0c C0B J B g40;have C0E:=ED C0d U B g41;have C0G:=HR Z B g42;have C0F:=BE C01 B g43;have C08:=DJ (P:=l.prog) (w:=w) (base:=base) B g44;have C07:=Cr (P:=l.prog) (w:=w) (base:=base) B g45;have C0C:=HL C01 C07 B g46;have C0D:=Kh C0C C07 C08 B g47;have C0I:=zU C0D C08 B g48;exact JL C0E C0F Z C0G C0a C0H C0I C0J C0K B g49.F
end T
abbrev GK:=@DL.gf_mk
end
open PySem PySem.W PyProof.Rows
set_option maxRecDepth 100000 in
set_option maxHeartbeats 0 in
theorem PySem.Challenge.cw_widelines_k33_whole_just_one_of_both_holds : PySem.Challenge.rw_widelines_k33_whole_just_one_of_both.Holds := by
 w_on; o_law; k_head; (case hw=>w_witness2)
 k_fill
 refine DL.walkD (l:=PySem.Challenge.rw_widelines_k33_whole_just_one_of_both) (m:=T.whole) (k:=67) rfl rfl ⟨rfl,by decide,by decide,rfl⟩ (fun w h Y=>PySem.W.kIn_of Y) ?F T.math
 case F=>
  intro w mg fa h KX G hmg
  refine' T.all_mk KX G hmg (GK KX G ?_ ?_ ?_ ?_) (GK KX G ?_ ?_ ?_ ?_) (GK KX G ?_ ?_ ?_ ?_) (GK KX G ?_ ?_ ?_ ?_) (GK KX G ?_ ?_ ?_ ?_) (GK KX G ?_ ?_ ?_ ?_) (GK KX G ?_ ?_ ?_ ?_) (GK KX G ?_ ?_ ?_ ?_) (GK KX G ?_ ?_ ?_ ?_) (GK KX G ?_ ?_ ?_ ?_) (GK KX G ?_ ?_ ?_ ?_) (GK KX G ?_ ?_ ?_ ?_) (GK KX G ?_ ?_ ?_ ?_) (GK KX G ?_ ?_ ?_ ?_) (GK KX G ?_ ?_ ?_ ?_) (GK KX G ?_ ?_ ?_ ?_) (GK KX G ?_ ?_ ?_ ?_) (GK KX G ?_ ?_ ?_ ?_) (GK KX G ?_ ?_ ?_ ?_) (GK KX G ?_ ?_ ?_ ?_) (GK KX G ?_ ?_ ?_ ?_) (GK KX G ?_ ?_ ?_ ?_) (GK KX G ?_ ?_ ?_ ?_) (GK KX G ?_ ?_ ?_ ?_) (GK KX G ?_ ?_ ?_ ?_) (GK KX G ?_ ?_ ?_ ?_) (GK KX G ?_ ?_ ?_ ?_) (GK KX G ?_ ?_ ?_ ?_) (GK KX G ?_ ?_ ?_ ?_) (GK KX G ?_ ?_ ?_ ?_) (GK KX G ?_ ?_ ?_ ?_) (GK KX G ?_ ?_ ?_ ?_) (GK KX G ?_ ?_ ?_ ?_) (GK KX G ?_ ?_ ?_ ?_) (GK KX G ?_ ?_ ?_ ?_) (GK KX G ?_ ?_ ?_ ?_) (GK KX G ?_ ?_ ?_ ?_) (GK KX G ?_ ?_ ?_ ?_) (GK KX G ?_ ?_ ?_ ?_) (GK KX G ?_ ?_ ?_ ?_) (GK KX G ?_ ?_ ?_ ?_) (GK KX G ?_ ?_ ?_ ?_) (GK KX G ?_ ?_ ?_ ?_) (GK KX G ?_ ?_ ?_ ?_) (GK KX G ?_ ?_ ?_ ?_) (GK KX G ?_ ?_ ?_ ?_) (GK KX G ?_ ?_ ?_ ?_) (GK KX G ?_ ?_ ?_ ?_) (GK KX G ?_ ?_ ?_ ?_) (DL.rf2_mk KX G ?_ ?_ (DL.xk1_mk (DL.xc_mk ?_ ?_ ?_ ?_ ?_ ?_) ?_ ?_) ?_ ?_ ?_ ?_ ?_ ?_ ?_) (DL.ck_mk KX G ?_ ?_ ?_ (DL.memC (DL.sub_mk ?_ ?_) DL.mem0)) (DL.blt_mk KX G ?_ ?_ ?_ ?_ ?_ ?_ ?_ ?_ ?_ ?_ ?_ ?_ ?_ ?_ ?_ ?_ ?_ ?_ ?_)
  all_goals try k_is
  all_goals first | rfl | decide | exact ⟨rfl,rfl,rfl,by decide +kernel⟩ | exact DL.on2 (fun _ _=>rfl) | exact DL.on3 (fun _ _ _=>rfl)
