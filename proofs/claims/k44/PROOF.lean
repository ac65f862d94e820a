import PyProof.Rows.All
import Wide.All
import OpenK.AllK
import Wide.FinOn
import Lean
import PyProof.EqAt
import PyProof.EqKinds
import PyProof.TupleCall
import PySem.Challenge.RW_widelines_k44_marks_along_lines
inductive PySem.W.Fast|tw1633491985847270561|tw17785854671924934235|tw13219659112242138460|tw14934388431735343805|tw10753934813645048653|tw2692428745295969910|tw10255007331029148084|tw4029435846729382088|tw3287294476642245423|tw2197129148426647395|tw14881687685781041733|tw4451089883217899231|tw15993981783429427945|tw7784384980634326450|tw15477740594481170846|tw17244933949740909014|tw16138288611537330898|tw12974442385137395620|tw4760487435478652626|tw8418840108576763581|tw14200998273910338280|tw5883521467821644736|tw13426070743874718519|tw18353214707398403548|tw10293715298069968086|tw17595473984966214795|tw12188925938808061739|tw16495579595463005059|tw1957601481560703402|tw14170140578550509860|tw6782392139619412581|tw6052532696048940421|tw7062844582319471678|tw15618344636656303079|tw18330017812168400318|tw5748497873086096215|tw5503207441864068388|tw7947379921408724015|tw14078550635056058546|tw15576919179348047911|tw7433511425867158151|tw12771772791694971832|tw9713502128358690345|tw11519108192490240279|tw13069950949981729299|tw2982108611372383991|tw17680948664289865394|tw8442510266302626297|tw10392134896815516588|tw8974272840599541448|tw7774630610869766062|tw16159052366260325582|tw5897935989942199055|tw7334845190591800992|tw1172201503781642440|tw2106736637867227245|tw14625914006015468230|tw13975936995655975071|tw16405790180579132559|tw15016797071870882041|tw5255880711527122873|tw18086599159941757347|tw15347819039101840592|tw18244810854605735012|tw10503728121681391920|tw507951825195122443|tw15542956637304917861|tw11454497692098582729|tw3280871271311834977|tw10670532387339674496|tw5999308731601092106|tw17229634642196526705|tw12442530126576490237|tw14344926279320133059|tw15435659581122185111|tw12249137362833985352|tw15908089145988972006|tw13394767045557323252|tw10050874761640472230|tw4420438822827339047|tw10637548931302156690|tw560493304780842184|tw3633838571204841413|tw16853389424019624064|tw5826328229790776775|tw12238911468220852669|tw510128100910527857|tw15819030749424443670|tw9725540967206427111|tw10571624184751450456|tw5046071890664648518|tw18109278555353803100|tw12951708998548277885|tw16693748045824447947|tw12894962840697089791|tw11387273088723378445|tw8979803205677309900|tw6390822670640242548|tw8237847781844039311|tw12814760449581499607|tw5456245512521081598|tw8769073700002641368|tw14590547671405036994|tw9935960067937272557|tw7857246914534334944|tw2466367747906625222|tw7674591742242861624|tw3195971272699985803|tw12471854091858260170|tw10176107635069270033|tw853994295887488952|tw17402004222520814249|tw7804727221301502620|tw16014409585656568639|tw9659336006518517938|tw4680806969807634726|tw67068390127750528|tw14231633435587619958|tw11296485813387392995|tw7710068487418853992|tw3180793571958743663|tw11579920177506709783|tw4075809670377405550|tw16489495275281110979|tw14675608250559549533|tw13115806021101015432|tw13191298491826926111|tw12122273886374364023|tw8331429017033102340|tw17498415549338633522|tw12929400293773458|tw17558738648629649996|tw16646194827257842081|tw13414682307707534043|tw1774564040956877550|tw16084978113897507603|tw3751080132789934223|tw17721250253253608|tw14541382392132376741|tw1172719492192178751|tw11254274815083593467|tw4497103728677249375|tw5105179299481263762|tw9960056781005169191|tw6781312911598006893|tw16111501094213830322|tw14538284730772730312|tw4266910849825691556|tw15999143909341028353|tw2977255614850281228|tw9467870721691025200|tw6754328922479722515|tw15968449081551228114|tw3806946942732902923|tw11647456786796996123|tw9990996711014674902|tw13688175816348956442|tw8243067862859713049|tw8138364280700792807|tw18364750594562825946|tw13791534985799912649|tw17798829789670640286|tw15536397976750879387|tw9063509983789570584|tw12702379802839957086|tw5689163124720289777|tw16806908853886651970|tw10230811634331874804|tw17555407812253656778|tw17350521897377940767|tw6221001037194655527|tw3282718616934832913|tw12304767140725462729|tw6019411035623054468|tw11095522311021404101|tw10901285719961734663|tw5587271162560291405|tw3595530893475163252|tw9359719542237392782|tw12207706246125199648|tw16770723287522742682|tw6421215835057869158|tw14270452959026028227|tw8589407886447975140|tw16366998623164955446|tw10946778239129678340|tw4282071126405838053|tw9614493890142444345|tw3157503226913699752|tw16456520929646061625|tw15695328089962930910|tw13516892992036660911|tw6765663960269331720|tw13124997185233076504|tw12018744377768992762|tw3397094983135960455|tw10341717592866914566|tw13062041017949922184|tw5990445956460993551|tw421618906669200918
local macro_rules | `(tactic| omega) => `(tactic| first | with_reducible assumption | decide | omega +splitMinMax)
theorem PySem.W.Fast.te17785854671924934235 : True := True.intro
set_option Elab.async false
set_option linter.all false
set_option maxRecDepth 100000
set_option bootstrap.genMatcherCode false
set_option genSizeOf false
set_option autoImplicit true
set_option relaxedAutoImplicit true
set_option maxHeartbeats 4000000
noncomputable section
section
set_option compiler.extract_closed false
set_option hygiene false in
local macro_rules | `(tactic|simp! [$a,*])=>`(tactic|simp[B4,B7,D7,G1,G8,J0,K6,O0,O7,Ow,Ox,Q3,R3,a7,a8,a9,c8,c9,d6,d8,dB,dC,dL,dV,e8,i5,i9,j4,j5,j8,j9,k6,k9,l7,n8,o9,one,r8,u9,v5,v6,$a,*])
set_option hygiene false in
local macro_rules | `(tactic|simp! [])=>`(tactic|simp[B4,B7,D7,G1,G8,J0,K6,O0,O7,Ow,Ox,Q3,R3,a7,a8,a9,c8,c9,d6,d8,dB,dC,dL,dV,e8,i5,i9,j4,j5,j8,j9,k6,k9,l7,n8,o9,one,r8,u9,v5,v6])
set_option hygiene false in
local macro_rules | `(tactic|simp! only [$a,*])=>`(tactic|simp[D1,Ow,Ox,a7,a8,a9,dB,dC,dL,i9,j5,k9,l7,one,uN,$a,*])
set_option hygiene false in
local macro_rules | `(tactic|simp! only [])=>`(tactic|simp[D1,Ow,Ox,a7,a8,a9,dB,dC,dL,i9,j5,k9,l7,one,uN])
local macro_rules | `(∅)=>`(by omega)
local macro_rules | `(#v[$a,*])=>`(List.toArray [$a,*])
local macro_rules | `(#[])=>`(by decide) | `(#[$a,*])=>`(⟨$a,*⟩)
def gV:=@PySem.wpAny_bind
def iO:=@if_pos
def iR:=@PySem.wpAny_pure
def iU:=@if_neg
def td:=@List.length_map
def tv:=@Nat.le_refl
def xl:=@PySem.Heap.lt_size
def xo:=@Option.bind_some
def xr:=@Nat.le_trans
def xu:=@PySem.Heap.get?_push_of_some
def ID:=@decide_eq_false
def IE:=@Rat.divInt_eq_div
def IG:=@Rat.intCast_mul
def IH:=@List.mem_cons
def II:=@decide_eq_true
def IJ:=@Nat.lt_of_lt_of_le
def IK:=@Ne.symm
def IL:=@PySem.wpAny_field
def IM:=@Bool.false_ne_true
def IQ:=@Prod.mk.injEq
def IT:=@List.mem_cons_of_mem
def IU:=@List.size_toArray
def IV:=@PySem.wpAny_mono
def IW:=@List.mem_map
def IY:=@List.mem_cons_self
def IZ:=@of_decide_eq_true
def Ja:=@List.length_cons
def Jb:=@List.length_append
def Jc:=@List.all_eq_true
def Jd:=@Nat.ne_of_lt
def Je:=@Bool.and_eq_true
def Jf:=@Nat.lt_of_le_of_lt
def Jg:=@Option.some.inj
def Jh:=@if_true
def Ji:=@List.getElem?_eq_getElem
def Jj:=@List.getElem?_eq_some_iff
def Jk:=@PySem.Heap.get?_push_size
def Jl:=@List.getElem?_map
def Jm:=@List.length_singleton
def Jn:=@Option.some.injEq
def Jo:=@List.mem_singleton
def Jp:=@PySem.W.mg_none_of
def Jq:=@List.not_mem_nil
def Jr:=@or_false
def Js:=@List.map_cons
def Jt:=@PySem.wpAny_loadPart_at
def Ju:=@List.append_nil
def Jv:=@List.nodup_cons
def Jw:=@if_false
def Jx:=@Nat.ne_of_gt
def Jy:=@PySem.wpAny_call_entry
def Jz:=@PySem.F.slot_zip_next
def JA:=@Rat.intCast_add
def JB:=@Nat.lt_irrefl
def JC:=@PySem.Heap.get?_update_other
def JD:=@PySem.wpAny_holding
def JE:=@PySem.wpAny_newObj_type
def JF:=@Nat.zero_add
def JG:=@Int.natAbs_mul
def JH:=@Int.mul_ne_zero
def JI:=@PySem.wpAny_rule
def JJ:=@List.mem_append_right
def JK:=@Nat.zero_le
def JL:=@List.getElem?_append_left
def JM:=@PySem.wpAny_callSpecial?_slot
def JN:=@PyProof.Rows.slot_tuple_getitem
def JO:=@List.set_cons_succ
def JP:=@List.mem_of_getElem?
def JQ:=@PySem.wpAny_seqItems
def JR:=@Rat.intCast_eq_zero_iff
def JS:=@List.mem_filter
def JT:=@List.mem_append
def JU:=@List.getElem?_append_right
def JV:=@List.length_drop
def JW:=@PySem.Heap.get?_update_self
def JX:=@Bool.false_eq_true
def JY:=@Int.mul_nonneg
def JZ:=@Nat.le_of_lt
def Ka:=@PySem.wpAny_Name
def Kb:=@List.length_take
def Kc:=@Int.toNat_natCast
def Kd:=@PySem.W.looks_findIn
def Ke:=@PySem.PassesOwn.never
def Kf:=@List.getElem?_set_ne
def Kg:=@PySem.sizeLine_eq
def Kh:=@PySem.wpAny_Call_Name_kw
def Ki:=@PySem.wpAny_typeOf
def Kj:=@List.nil_append
def Kk:=@Option.bind_eq_some_iff
def Kl:=@List.set_cons_zero
def Km:=@PySem.wpAny_setField_rec
def Kn:=@List.length_nil
def Ko:=@Bool.and_self
def Kp:=@List.map_append
def Kq:=@List.filterMap_cons
def Kr:=@List.getElem?_set_self
def Ks:=@PySem.wpAny_loadName_local
def Kt:=@PySem.wpAny_execs_nil
def Ku:=@PySem.wpAny_standAt
def Kv:=@PySem.wpAny_passesOwn
def Kw:=@List.of_mem_zip
def Kx:=@List.replicate_succ
def Ky:=@PySem.call_meets
def Kz:=@Nat.add_comm
def KA:=@PySem.Heap.size_push
def KC:=@PySem.W.kia_one
def KD:=@PySem.wpAny_attempt
def KG:=@Int.natCast_mul
def KH:=@Int.fmod_eq_emod_of_nonneg
def KI:=@Int.mul_le_mul_of_nonneg_left
def KJ:=@Rat.intCast_sub
def KL:=@Nat.mul_le_mul
def KN:=@List.map_map
def KO:=@Nat.sub_self
def KP:=@Rat.intCast_le_intCast
def KQ:=@List.mem_range
def KR:=@PyProof.Rows.callWith_type1
def KS:=@Bool.eq_iff_iff
def KU:=@PySem.wpAny_call
def KW:=@PyProof.Rows.slicePart_none
def KY:=@List.map_nil
def KZ:=@PySem.wpAny_setField
def La:=@PySem.F.entry_zip_next
def Lb:=@PySem.F.args_zip_next_1
def Lc:=@PySem.F.slot_zip_iter
def Ld:=@List.getElem?_zip_eq_some
def Le:=@PySem.W.mg_of
def Lf:=@Nat.gcd_dvd_right
def Lg:=@Int.fdiv_eq_ediv_of_nonneg
def Lh:=@Int.mul_comm
def Li:=@Int.lt_or_le
def Lj:=@Rat.divInt_mul_right
def Lk:=@decide_eq_true_iff
def Ll:=@List.length_zip
def Lm:=@Int.mul_pos
def Lo:=@Rat.le_of_lt
def Lp:=@Bool.and_eq_true_iff
def Lq:=@List.getD_eq_getElem?_getD
def Lr:=@PySem.wpAny_execs_cons
def Ls:=@PySem.codeAny_mono
def Lu:=@PySem.mem_of_lookup
def Lv:=@PySem.typeIs_int
def Lw:=@List.flatten_cons
def Lx:=@Nat.le_succ
def Ly:=@Option.map_eq_some_iff
def Lz:=@PySem.Obj.data_mapFields
def LA:=@PySem.wpAny_onRaise
def LB:=@PySem.wpAny_ite_false
def LD:=@PySem.W.looks_subIn
def LF:=@Bool.true_and
def LG:=@Nat.div_le_self
def LH:=@Rat.divInt_mul_divInt
def LI:=@Nat.gcd_comm
def LJ:=@Rat.intCast_neg
def LK:=@List.getElem?_eq_none
def LL:=@List.getElem?_of_mem
def LM:=@List.filter_cons_of_neg
def LN:=@Rat.intCast_pos
def LO:=@PySem.wpAny_truthy_bool
def LP:=@Array.length_toList
def LQ:=@PySem.wpAny_bindName
def LR:=@PySem.wpAny_sequenceKey
def LS:=@PyProof.Rows.entry_tuple_getitem
def LU:=@PyProof.Rows.args_tuple_getitem
def LV:=@List.append_assoc
def LX:=@PySem.F.slot_int_rmul
def LY:=@Nat.mul_comm
def Ma:=@Nat.le_of_not_lt
def Mb:=@Nat.le_of_eq
def Mc:=@List.ext_getElem?
def Md:=@decide_eq_true_eq
def Me:=@Nat.sub_zero
def Mf:=@PySem.F.slot_tuple_iterator_next
def Mg:=@PySem.Obj.isFreed_of_fields
def Mh:=@List.forIn_cons
def Mi:=@List.forIn_nil
def Mj:=@PySem.wpAny_letGo
def Mk:=@PySem.F.plain_extend_loop
def Ml:=@PySem.wpAny_updateSeq
def Mm:=@List.mem_iff_getElem?
def Mn:=@Nat.min_le_left
def Mo:=@Array.getElem?_eq_getElem
def Mp:=@PySem.F.slot_tuple_mul
def Mq:=@PySem.codeAny_call_builtin
def Mr:=@PySem.F.attr_ValueError
def Ms:=@PySem.wpAny_loadPart
def Mt:=@Int.emod_nonneg
def Mu:=@Nat.pow_le_pow_right
def Mv:=@Int.gcd_dvd_right
def Mw:=@Int.natAbs_add_le
def Mx:=@Nat.le_of_dvd
def My:=@Rat.num_divInt_den
def Mz:=@Rat.sub_eq_add_neg
def MA:=@Int.gcd_comm
def MB:=@Int.ediv_eq_of_eq_mul_right
def MC:=@Nat.div_eq_of_eq_mul_right
def MD:=@Int.ofNat_dvd
def ME:=@Rat.mul_nonneg
def MF:=@Int.le_of_lt
def MG:=@Nat.add_le_add
def MH:=@List.filter_cons_of_pos
def MI:=@List.any_eq_true
def MJ:=@Rat.div_def
def MK:=@Nat.add_sub_cancel
def ML:=@Rat.le_refl
def MM:=@List.filter_cons
def MN:=@PySem.Heap.get?_none_of_le
def MO:=@List.mem_append_left
def MP:=@PySem.W.callWith_K
def MQ:=@List.length_replicate
def MR:=@PySem.noFill_tuple_add
def MS:=@PySem.F.slot_tuple_add
def MT:=@PySem.F.entry_tuple_add
def MU:=@PySem.F.args_tuple_add_2
def MV:=@PySem.Heap.IsSliceOf.new
def MW:=@List.reverse_cons
def MX:=@Option.map_some
def MY:=@List.Sublist.refl
def MZ:=@List.getElem?_cons_succ
def Na:=@List.nodup_nil
def Nb:=@List.drop_zero
def Nc:=@PySem.wpAny_updateSeq_pair
def Nd:=@PySem.wpAny_isInstance
def Nf:=@PySem.codeAny_builtin
def Ng:=@Nat.min_eq_left
def Nh:=@Nat.min_eq_right
def Ni:=@PySem.wpAny_pyIter_slot
def Nj:=@PySem.F.entry_zip_iter
def Nk:=@PySem.F.args_zip_iter_1
def Nl:=@List.length_zipWith
def Nm:=@List.eq_nil_of_length_eq_zero
def Nn:=@List.zipWith_cons_cons
def Np:=@List.length_zipIdx
def Nq:=@PySem.F.typeOf_object_class
def Nr:=@PySem.Code.quiet_builtin
def Nt:=@PySem.wpAny_isSubtype_exc
def Nu:=@PySem.plainObj_wpAny_Assign_Attribute
def Nv:=@List.set_set
def Nw:=@Bool.beq_eq_decide_eq
def Nx:=@Int.emod_lt_of_pos
def Ny:=@Rat.num_divInt
def Nz:=@Rat.den_divInt
def NA:=@Int.gcd_pos_of_ne_zero_right
def NB:=@Int.gcd_dvd_left
def NC:=@Int.eq_ofNat_of_zero_le
def ND:=@Int.dvd_trans
def NF:=@Rat.mul_div_cancel
def NG:=@Int.mul_ediv_add_emod
def NH:=@List.take_of_length_le
def NI:=@List.map_drop
def NJ:=@List.mem_of_mem_take
def NK:=@List.getElem?_drop
def NL:=@Nat.mod_eq_of_lt
def NM:=@List.length_range
def NO:=@Int.zero_add
def NP:=@List.length_filter_le
def NQ:=@Rat.zero_mul
def NR:=@Rat.natCast_add
def NS:=@Rat.natCast_le_natCast
def NT:=@PySem.W.cellsFrom_some
def NU:=@Option.isSome_iff_exists
def NV:=@List.getElem?_take_of_lt
def NW:=@PySem.F.plainAttrs_list
def NX:=@List.drop_eq_nil_of_le
def NY:=@List.eq_nil_iff_forall_not_mem
def NZ:=@PySem.F.entry_tuple_iterator_next
def Oa:=@PySem.F.args_tuple_iterator_next_1
def Ob:=@PySem.F.entry_extend_loop
def Oc:=@Array.getElem?_eq_none
def Od:=@PyProof.Rows.zipApart_new
def Oe:=@List.getElem?_zipWith
def Of:=@List.zipWith_nil_left
def Og:=@List.zipWith_nil_right
def Oh:=@Array.getElem?_eq_some_iff
def Oi:=@List.length_eq_one_iff
def Oj:=@Int.sign_eq_one_of_pos
def Ol:=@Nat.div_le_iff_le_mul_add_pred
def Om:=@Nat.Coprime.mul_right
def Oo:=@Int.dvd_of_emod_eq_zero
def Oq:=@Rat.divInt_eq_divInt_iff
def Ot:=@Rat.le_of_mul_le_mul_right
def Ou:=@List.filter_eq_nil_iff
def Ov:=@Rat.mul_le_mul_of_nonneg_left
abbrev vQ_:=PySem.Value→PySem.Shared→Prop
abbrev vF_:=PySem.W.Frag
abbrev vP_:=List (PySem.Addr × PySem.Obj)
abbrev vA_:=Option PySem.Addr
abbrev vL_:=List PySem.Addr
abbrev vV_:=List PySem.Value
abbrev vG_:=PySem.Str→Option PySem.Value
abbrev vR_:=Array PySem.Value
abbrev vB_:=PySem.Addr→Prop
abbrev vS_:=Array (Option PySem.Value)
variable {s s':PySem.Shared}{pos p2 pos' p1 p3 p4:PySem.Pos}{n i l m t' j B:Nat}{es ifs elts rest:List PySem.Expr}{A:PySem.Around}{pins:vP_}{x qual name y c':PySem.Str}{prog:PySem.Program}{e tg iter elt:PySem.Expr}{h base h':PySem.Heap}{scope:PySem.Scope}{cl:List (PySem.Str × PySem.Addr)}{fa fa' od an:vA_}{fd:PySem.FuncData}{E Q:vQ_}{idx:List Nat}{ps cs caps N' ns loose cs':List PySem.Str}{a C p dx C':PySem.Addr}{N:vB_}{body:List PySem.Stmt}{c:Bool}{R:List (Rat × Rat)}{S:Nat->Rat}{r:Option (List (Rat × Rat))}{mg:vG_}{XP:(PySem.Str->Option PySem.Value)->PySem.Heap->Prop}{u cdv oc:PySem.Value}{us its:vV_}{O ch fp:vL_}{M:Int}{items vs:vR_}{G:Prop}{YP:PySem.World->PySem.Heap->Prop}{q:Rat}{env:PySem.Env}{outer:List PySem.Env}{kw:List (PySem.Str × PySem.Value)}{osl:vS_}{cd:PySem.ClassData}{g':Array PySem.GenState}{col:Option Bool}
namespace L2
open PySem PySem.Spec PyProof.Rows
abbrev F5:=Sum Int Str
def qc:F5->Value->Bool
 |.inl k,v=>Value.isInt k v
 |.inr x,v=>Value.isStrOf x v
def Ac (w:World):F5->Int
 |.inl k=>hashInt k
 |.inr x=>hashStr w x
def Y9:∀{k:F5}{v:Value},qc k v=true->(∃i t,k=Sum.inl i/\v=Value.int i t)\/(∃x t,k=Sum.inr x/\v=Value.str x t)
 |.inl i,v,h=>by
  obtain⟨t,e⟩:=Value.isInt_shape (k:=i) (v:=v) h;exact .inl #[i,t,rfl,e]
 |.inr x,v,h=>by
  obtain⟨t,e⟩:=Value.isStrOf_shape (x:=x) (v:=v) h;exact .inr #[x,t,rfl,e]
def Bg (a b:Int):decide ((Sum.inl a:F5)=Sum.inl b)=(a == b):=by
 by_cases e:a=b
 .subst e;simp
 .have h:¬ (Sum.inl a:F5)=Sum.inl b:=fun q=>e (Sum.inl.inj q)
  rw[ID h];exact(beq_eq_false_iff_ne.mpr e).symm
def Hn (a b:Str):decide ((Sum.inr a:F5)=Sum.inr b)=decide (a=b):=by
 by_cases e:a=b
 .subst e;simp
 .have h:¬ (Sum.inr a:F5)=Sum.inr b:=fun q=>e (Sum.inr.inj q)
  rw[ID h,ID e]
def Cf (a:Int) (b:Str):decide ((Sum.inl a:F5)=Sum.inr b)=false:=ID (fun q=>nomatch q)
def Cl (a:Str) (b:Int):decide ((Sum.inr a:F5)=Sum.inl b)=false:=ID (fun q=>nomatch q)
def mD (prog:Program) (w:World):PySem.KeyKind prog w F5 where
 is:=qc
 hash:=Ac w
 inj:=fun v a b Y U=>by
  rcases Y9 Y with ⟨i,t,rfl,rfl⟩ | ⟨x,t,rfl,rfl⟩
  .rcases Y9 U with ⟨j,u,rfl,e⟩ | ⟨y,u,rfl,e⟩
   .injection e with e1 _;rw[e1]
   .exact nomatch e
  .rcases Y9 U with ⟨j,u,rfl,e⟩ | ⟨y,u,rfl,e⟩
   .exact nomatch e
   .injection e with e1 _;rw[e1]
 byValue:=fun k v h=>by
  rcases Y9 h with ⟨i,t,rfl,rfl⟩ | ⟨x,t,rfl,rfl⟩ <;> rfl
 pyHash:=fun J h=>by
  rcases Y9 J with ⟨i,t,rfl,rfl⟩ | ⟨x,t,rfl,rfl⟩
  .exact wpAny_pyHash_int h
  .exact wpAny_pyHash_str h
 eqBool:=fun hu J h=>by
  rcases Y9 hu with ⟨i,t,rfl,rfl⟩ | ⟨x,t,rfl,rfl⟩
  .rcases Y9 J with ⟨j,u,rfl,rfl⟩ | ⟨y,u,rfl,rfl⟩
   .rw[Bg] at h;exact wpAny_eqBool_int h
   .rw[Cf] at h;exact SeqAt.EqAt.int_str i t y u _ _ _ _ h
  .rcases Y9 J with ⟨j,u,rfl,rfl⟩ | ⟨y,u,rfl,rfl⟩
   .rw[Cl] at h;exact SeqAt.EqAt.str_int x t j u _ _ _ _ h
   .rw[Hn] at h;exact wpAny_eqBool_str h
 «strs»:=fun k x t v h=>by
  rcases Y9 h with ⟨i,u,rfl,e⟩ | ⟨y,u,rfl,e⟩
  .exact nomatch e
  .injection e with e1 _;subst e1;cases v <;> rfl
inductive V where
 | non | bl (b:Bool) | int (i:Int) | str (x:Str) | byt (b:Array UInt8) | flt (b:UInt64) | ref (a:Addr) | ty (n:String)
 deriving DecidableEq
variable {xs ys:List V}{f':Int->Int->V}
def RelV:V->Value->Prop
 |.non,u=>u=Value.none
 |.bl b,u=>u=Value.bool b
 |.int i,u=>∃t,u=Value.int i t
 |.str x,u=>∃t,u=Value.str x t
 |.byt b,u=>∃t,u=Value.bytes b t
 |.flt b,u=>∃t,u=Value.float b t
 |.ref a,u=>u=Value.ref a
 |.ty n,u=>u=Value.type n
abbrev Vals:List V->List Value->Prop:=Paired RelV
theorem Vals.length (r:Vals xs us):xs.length=us.length:=Paired.length r
theorem Vals.get:∀{xs:List V}{us:vV_}{i:Nat}{x:V},Vals xs us->xs[i]? = some x->∃u,us[i]? = some u/\RelV x u
 |_,_,_,_,.nil,e=>by simp at e
 |_,_,0,_,.cons r _,e=>by simp at e;subst e;exact#[_,rfl,r]
 |_,_,i+1,x,.cons _ t,e=>by
  obtain⟨u,h1,h2⟩:=Vals.get (i:=i) (x:=x) t (by simpa using e);exact#[u,by simpa using h1,h2]
theorem Vals.set {x:V}(r:RelV x u):∀{xs:List V}{us:vV_}(i:Nat),Vals xs us->Vals (xs.set i x) (us.set i u)
 |_,_,_,.nil=>.nil
 |_,_,0,.cons _ t=>.cons r t
 |_,_,i+1,.cons q t=>.cons q (Vals.set r i t)
def Vals.append:∀{xs ys:List V}{us ws:vV_},Vals xs us->Vals ys ws->Vals (xs++ys) (us++ws):=by
 intro xs ys us ws h s;induction h with
 |nil=>exact s
 |cons r t J=>exact .cons r J
theorem Vals.take:∀{xs:List V}{us:vV_}(n:Nat),Vals xs us->Vals (xs.take n) (us.take n)
 |_,_,0,_=>.nil
 |_,_,_+1,.nil=>.nil
 |_,_,n+1,.cons r t=>.cons r (Vals.take n t)
theorem Vals.drop:∀{xs:List V}{us:vV_}(n:Nat),Vals xs us->Vals (xs.drop n) (us.drop n)
 |_,_,0,r=>r
 |_,_,_+1,.nil=>.nil
 |_,_,n+1,.cons _ t=>Vals.drop n t
def cJ:Option V->Option Value->Prop
 |some v,some u=>RelV v u
 |none,none=>True
 |_,_=>False
def KV {κ:Type}:List (κ × V)->List (κ × Value)->Prop:=Paired fun (p:κ × V) (q:κ × Value)=>p.1=q.1/\RelV p.2 q.2
def kV:F5->V
 |.inl i=>.int i
 |.inr x=>.str x
inductive HO where
 | lst (xs:List V)
 | tup (xs:List V)
 | dK (kvs:List (F5 × V)) | dT (kvs:List (List F5 × V))
 | set (S:Int->Bool) (n:Nat)
 | ins (C dx:Addr) (fs:List (Str × V))
 | own (x:Addr)
 | xd (fs:List (Str × V))
 | met (f x:Addr)
 | rng (lo hi:Int)
 | frz (o:Obj) (u:HO)
 | tbl (ps:vR_)
 | ext (φ:Heap->Prop)
abbrev Hp:=Addr->Option HO
variable {H H' H1:Hp}
def i6 (H:Hp) (a:Addr) (o:HO):Hp:=fun b=>if b=a then some o else H b
def B0 {o:HO}:i6 H a o a=some o:=by unfold i6;rw[iO rfl]
def j6 {b:Addr}{o:HO}(h:b≠a):i6 H a o b=H b:=by unfold i6;rw[iU h]
def F2 {b:Addr}{o:HO}(h:H a=some o) (h':H b=none):a≠b:=by
 intro e;subst e;rw[h] at h';cases h'
section
variable (P:Program) (w:World)
def ObjOk (H:Hp) (h:Heap) (a:Addr):HO->Prop
 |.lst xs=>xs.length<=sizeLine/\∃(its:vV_) (n:Nat),Vals xs its/\h.get? a=some { cls:=.type "list",data:=.seq its.toArray n }
 |.tup xs=>xs.length<=sizeLine/\∃its:List Value,Vals xs its/\IsTup h a its.toArray
 |.dK kvs=>kvs.length<=sizeLine/\(a == sysModules)=false/\∃vs,KV kvs vs/\h.DictOf (mD P w) a vs
 |.dT kvs=>kvs.length<=sizeLine/\(a == sysModules)=false/\∃xs:List (List F5 × Addr × Value),
   Paired (fun (p:List F5 × V) (q:List F5 × Addr × Value)=>p.1=q.1/\H q.2.1=some (.tup (p.1.map kV))/\RelV p.2 q.2.2) kvs xs /\
   ∃o es ep,h.get? a=some o/\o.ExactDict/\o.data = .dict es ep/\es.toList=xs.map (entryOfKey (tupleKind (mD P w)))/\(xs.map (·.1)).Nodup
 |.set S n=>h.SetOf (intKind P w) a S n
 |.ins C dx fs=>H dx=some (.own a)/\fs.length<=1000/\dx≠a/\h.get? a=some (PySem.W.instObj C dx) /\
   ∃mA,h.Ns1 dx mA/\(∀f,cJ (fs.lookup f) (mA f))/\PySem.Within mA (fs.map (·.1))
 |.own _=>∃o,h.get? a=some o
 |.xd fs=>∃mA,h.Ns1 a mA/\∀f,cJ (fs.lookup f) (mA f)
 |.rng lo hi=>∃t u v,h.get? a=some { cls:=.type "range",data:=.fields #v[.int lo t,.int hi u,.int 1 v] }
 |.frz o u=>h.get? a=some o/\ObjOk H h a u
 |.tbl ps=>h.get? a=some { cls:=.none,data:=.fields ps }
 |.met f x=>h.get? a=some (PySem.W.methodObj (.ref f) (.ref x))
 |.ext φ=>φ h/\(∃o,h.get? a=some o)/\∀h1 h2:Heap,φ h1->(∀o,h1.get? a=some o->h2.get? a=some o)->φ h2
def HOk (H:Hp) (h:Heap):Prop:=∀a o,H a=some o->ObjOk P w H h a o
end
section
variable {P:Program}{w:World}{o:HO}
theorem ObjOk.lt (x:ObjOk P w H h a o):a<h.objs.size:=by
 cases o with
 |lst xs=>obtain⟨_,_,_,_,e⟩:=x;exact xl e
 |tup xs=>obtain⟨_,_,_,p⟩:=x;exact p.lt
 |dK J=>obtain⟨_,_,_,_,o,_,_,e,_⟩:=x;exact xl e
 |dT J=>obtain⟨_,_,_,_,o,_,_,e,_⟩:=x;exact xl e
 |set S n=>obtain⟨o,_,_,_,e,_⟩:=x;exact xl e
 |ins C dx fs=>obtain⟨_,_,_,e,_⟩:=x;exact xl e
 |own y=>obtain⟨_,e⟩:=x;exact xl e
 |xd fs=>obtain⟨_,⟨_,_,_,e,_⟩,_⟩:=x;exact xl e
 |rng lo hi=>obtain⟨_,_,_,e⟩:=x;exact xl e
 |frz U u=>obtain⟨e,_⟩:=x;exact xl e
 |tbl ps=>exact xl (show h.get? a=some _ from x)
 |met f y=>exact xl (show h.get? a=some _ from x)
 |ext φ=>obtain⟨_,⟨_,e⟩,_⟩:=x;exact xl e
def Paired.mapP {α β:Type}{F G:α->β->Prop}:∀{l₁:List α}{l₂:List β},Paired F l₁ l₂->(∀a b,F a b->G a b)->Paired G l₁ l₂:=by
 intro l₁ l₂ h f;induction h with
 |nil=>exact .nil
 |cons r t J=>exact .cons (f _ _ r) J
def ObjOk.stay (x:ObjOk P w H h a o) (k:∀b u,(b=a\/H b=some (.own a))->h.get? b=some u->h'.get? b=some u)
  (ho:∀b,H b=some (.own a)->H' b=some (.own a)) (ht:∀b xs,H b=some (.tup xs)->H' b=some (.tup xs)):ObjOk P w H' h' a o:=by
 induction o with
 |lst xs=>obtain⟨z,its,n,r,e⟩:=x;exact#[z,its,n,r,k _ _ (.inl rfl) e]
 |tup xs=>obtain⟨z,its,r,J,e,c⟩:=x;exact#[z,its,r,J,k _ _ (.inl rfl) e,c]
 |dK Y=>obtain⟨z,y,vs,r,J,es,U,e,c⟩:=x;exact#[z,y,vs,r,J,es,U,k _ _ (.inl rfl) e,c]
 |dT Y=>
  obtain⟨z,y,xs,r,J,es,U,e,c⟩:=x;exact#[z,y,xs,Paired.mapP r fun p q z=>#[z.1,ht _ _ z.2.1,z.2.2],J,es,U,k _ _ (.inl rfl) e,c]
 |set S n=>obtain⟨J,es,U,t,e,c⟩:=x;exact#[J,es,U,t,k _ _ (.inl rfl) e,c]
 |ins C dx fs=>
  obtain⟨d,z,ne,e,mA,⟨od,es,U,e2,c⟩,r⟩:=x;exact#[ho _ d,z,ne,k _ _ (.inl rfl) e,mA,#[od,es,U,k _ _ (.inr d) e2,c],r]
 |own y=>obtain⟨J,e⟩:=x;exact#[J,k _ _ (.inl rfl) e]
 |xd fs=>obtain⟨mA,⟨od,es,U,e,c⟩,r⟩:=x;exact#[mA,#[od,es,U,k _ _ (.inl rfl) e,c],r]
 |rng lo hi=>obtain⟨t,u,v,e⟩:=x;exact#[t,u,v,k _ _ (.inl rfl) e]
 |frz J u ih=>obtain⟨e,q⟩:=x;exact#[k _ _ (.inl rfl) e,ih q]
 |tbl ps=>
  have e:h.get? a=some { cls:=.none,data:=.fields ps }:=x;show h'.get? a=some { cls:=.none,data:=.fields ps };exact k a _ (.inl rfl) e
 |met f y=>
  have e:h.get? a=some (PySem.W.methodObj (.ref f) (.ref y)):=x;show h'.get? a=some (PySem.W.methodObj (.ref f) (.ref y));exact k a _ (.inl rfl) e
 |ext φ=>obtain⟨p,⟨o,e⟩,st⟩:=x;exact#[st _ _ p fun o q=>k _ _ (.inl rfl) q,#[o,k _ _ (.inl rfl) e],st]
theorem HOk.lt (x:HOk P w H h) (e:H a=some o):a<h.objs.size:=(x a o e).lt
def HOk.fresh (x:HOk P w H h) (e:h.objs.size<=a):H a=none:=by
 cases q:H a with
 |none=>rfl
 |some u=>exact absurd (IJ (x.lt q) e) (JB _)
def HOk.kept (x:HOk P w H h) (k:∀b u,h.get? b=some u->h'.get? b=some u):HOk P w H h':=fun a o e=>
 (x a o e).stay (fun b u _ q=>k b u q) (fun _ q=>q) fun _ _ q=>q
def HOk.laid (x:HOk P w H h) (k:∀b u,h.get? b=some u->h'.get? b=some u) (hp:h.objs.size<=a) (J:ObjOk P w (i6 H a o) h' a o):HOk P w (i6 H a o) h':=fun b u e=>by
 have U:=x.fresh hp;by_cases Y:b=a
 .subst Y;rw[B0] at e;cases e;exact J
 .rw[j6 Y] at e;exact(x b u e).stay (fun c v _ q=>k c v q) (fun c q=>by rw[j6 (F2 q U)];exact q) fun c xs q=>by rw[j6 (F2 q U)];exact q
end
def Rd (H:Hp) (a:Addr) (u:HO):Prop:=H a=some u\/∃o,H a=some (.frz o u)
def Rd.ok {w:World}{u:HO}(r:Rd H a u) (x:HOk P w H h):ObjOk P w H h a u:=by
 rcases r with r | ⟨o,r⟩
 .exact x a u r
 .obtain⟨_,q⟩:=x a _ r;exact q
def jm:Option HO->Prop
 |some (.lst _)=>True
 |some (.dK _)=>True
 |some (.dT _)=>True
 |some (.set _ _)=>True
 |some (.ins _ _ _)=>True
 |some (.ext _)=>True
 |_=>False
section
variable {P:Program}{w:World}{x e:Addr}{o':HO}
def HOk.write (ok:HOk P w H h) (mu:jm (H x)) (he:e=x\/H e=some (.own x)) (k:∀b u,b≠e->h.get? b=some u->h'.get? b=some u) (heo:∃u,h'.get? e=some u)
  (new:ObjOk P w (i6 H x o') h' x o'):HOk P w (i6 H x o') h':=fun b u q=>by
 have U:∀c y,H c=some (.own y)->c≠x:=fun c y r z=>by subst z;rw[r] at mu;exact mu
 have Y:∀c xs,H c=some (.tup xs)->c≠x:=fun c xs r z=>by subst z;rw[r] at mu;exact mu
 by_cases hb:b=x
 .subst hb;rw[B0] at q;cases q;exact new
 .rw[j6 hb] at q;by_cases J:b=e
  .have q':H b=some (.own x):=by
    rcases he with z | z
    .exact absurd (J.trans z) hb
    .rw[J];exact z
   rw[q] at q';cases q';obtain⟨v,hv⟩:=heo;exact#[v,by rw[J];exact hv]
  .refine(ok b u q).stay (fun c v hc r=>k c v ?_ r) (fun c r=>by rw[j6 (U c b r)];exact r) fun c xs r=>by rw[j6 (Y c xs r)];exact r
   rcases hc with rfl | hc
   .exact J
   .rintro rfl;rcases he with z | z
    .exact U c b hc z
    .rw[hc] at z;cases z;exact hb rfl
end
structure Un (fs ex:vL_) (H H':Hp) (h h':Heap):Prop where
 keep:∀b o,h.get? b=some o->H b=none->b ∉ fs->b ∉ ex->h'.get? b=some o
 slot:∀b o,h.get? b=some o->H b=none->b∈fs->b ∉ ex->∃sl,h'.get? b=some { o with slots:=sl }
 free:∀b o,h.get? b=some o->H b=none->b ∉ ex->H' b=none
 there:∀b o,h.get? b=some o->b ∉ ex->∃o',h'.get? b=some o'
 tups:∀b xs,H b=some (.tup xs)->H' b=some (.tup xs)
 frzs:∀b o u,H b=some (.frz o u)->H' b=some (.frz o u)
 tbls:∀b ps,H b=some (.tbl ps)->∃more,H' b=some (.tbl (ps++more))
section
variable {fs fs' ex ex':vL_}{H2:Hp}{h1 h2:Heap}{x e:Addr}{o:HO}
def Un.any (u:Un fs ex H H1 h h1) {b:Addr}{ob:Obj}(q:h.get? b=some ob) (n:H b=none) (J:b ∉ ex):∃sl,h1.get? b=some { ob with slots:=sl }:=by
 by_cases U:b∈fs
 .exact u.slot b ob q n U J
 .exact#[ob.slots,u.keep b ob q n U J]
def Un.kept (k:∀b u,h.get? b=some u->h'.get? b=some u):Un fs ex H H h h':=
 #[fun b J q _ _ _=>k b J q,fun b J q _ _ _=>#[J.slots,k b J q],fun _ _ _ n _=>n,fun b J q _=>#[J,k b J q],fun _ _ q=>q,fun _ _ _ q=>q,fun _ ps q=>#[#v[],by rw[q];simp]]
def Un.refl:Un fs ex H H h h:=Un.kept fun _ _ q=>q
def Un.laid (k:∀b u,h.get? b=some u->h'.get? b=some u) (U:h.objs.size<=a) (J:H a=none):Un fs ex H (i6 H a o) h h' where
 keep:=fun b u q _ _ _=>k b u q
 slot:=fun b u q _ _ _=>#[u.slots,k b u q]
 free:=fun b u q n _=>by rw[j6 (Jd (IJ (xl q) U))];exact n
 there:=fun b u q _=>#[u,k b u q]
 tups:=fun b xs q=>by rw[j6 (F2 q J)];exact q
 frzs:=fun b u xs q=>by rw[j6 (F2 q J)];exact q
 tbls:=fun b ps q=>#[#v[],by rw[j6 (F2 q J),q];simp]
def Un.write (U:jm (H x)) (he:e=x\/H e=some (.own x)) (k:∀b u,b≠e->h.get? b=some u->h'.get? b=some u) (heo:∃u,h'.get? e=some u):Un fs ex H (i6 H x o) h h':=by
 have hx:∀b,H b=none->b≠x:=fun b n z=>by subst z;rw[n] at U;exact U
 have hb:∀b,H b=none->b≠e:=fun b n z=>by
  subst z;rcases he with r | r
  .exact hx b n r
  .rw[n] at r;cases r
 have Y:∀b u,H b=some u->¬ jm (some u)->b≠x:=fun b u q nm z=>by subst z;rw[q] at U;exact nm U
 refine#[fun b u q n _ _=>k b u (hb b n) q,fun b u q n _ _=>#[u.slots,k b u (hb b n) q],fun b u q n _=>by rw[j6 (hx b n)];exact n,fun b u q _=>?_,
  fun b xs q=>by rw[j6 (Y b _ q fun z=>z)];exact q,fun b u xs q=>by rw[j6 (Y b _ q fun z=>z)];exact q,fun b ps q=>#[#v[],by rw[j6 (Y b _ q fun z=>z),q];simp]]
 by_cases J:b=e
 .subst J;exact heo
 .exact#[u,k b u J q]
end
def bP (h:Heap) (H:Hp):List Addr:=(List.range h.objs.size).filter fun a=>(H a).isSome
def Y6 (h:Heap) (H:Hp):Heap:=PySem.W.hideAll h (bP h H)
def xB (h:Heap) (H:Hp):(Y6 h H).objs.size=h.objs.size:=PySem.W.hideAll_size _ _
def HL {b:Addr}{o:Obj}(e:h.get? b=some o) (n:H b=none):(Y6 h H).get? b=some o:=
 PySem.W.hideAll_get _ e fun J=>by
  have q:(H b).isSome=true:=(JS.mp J).2;rw[n] at q;simp at q
def Cz {b:Addr}{o:Obj}(e:(Y6 h H).get? b=some o):h.get? b=some o/\H b=none:=by
 have e':h.get? b=some o:=PySem.W.of_hideAll (bP h H) e;refine#[e',?_];cases q:H b with
 |none=>rfl
 |some x=>
  have J:b∈bP h H:=JS.mpr #[KQ.mpr (xl e'),by simp[q]];have z:(Y6 h H).get? b=none:=PySem.W.hideAll_none (bP h H) J;rw[z] at e;cases e
structure Mod (K:vF_) (mg:vG_) (base:Heap):Prop where
 kin:K.In base
 glob:base.Ns mainGlobals mg
 blt:∃mb,base.Ns builtinsNs mb/\∀x:Str,x ≠ "__name__" -> mb x=bootBuiltins x
 nolimit:base.NoLimit
structure Cx where
 prog:Program
 w:World
 K:PySem.W.Frag
 mg:Str->Option Value
 base:Heap
 A:Around
 N:List Str
 s₀:Shared
 H₀:Hp
 env:Env
 outer:List Env
 stack:List Env
 ex:List Addr
 fn:Str->Bool
 calm:Bool
 pn:List (Addr × Obj)
 xe:Value->Shared->Prop
variable {X:Cx}
def C4 (l:List Env):List Addr:=l.filterMap (·.frame)
abbrev Cx.fs (X:Cx):List Addr:=C4 X.outer
def kP (J:Scope) (x:Str):Prop:=J.names.lookup x=some .local\/J.names.lookup x=some .cell\/J.names.lookup x=some .free
def X0 (J:Scope) (x:Str):Prop:=J.names.lookup x=some .local\/J.names.lookup x=some .cell
def Bu (env:Env) (h:Heap) (m:vG_) (x:Str) (u:Value):Prop:=
 (env.kindOf x=some .local/\m x=some u)\/((env.kindOf x=some .cell\/env.kindOf x=some .free)/\∃c,env.cells.lookup x=some c/\h.IsCell c (some u))
structure Cx.Ok (X:Cx):Prop where
 mod:Mod X.K X.mg X.base
 kind:X.env.scope.kind = .function
 glob:X.env.globals=mainGlobals
 blt:X.env.builtins=builtinsNs
 above:X.s₀.heap.objs.size<=X.env.locals
 inj:∀x y c,X.env.cells.lookup x=some c->X.env.cells.lookup y=some c->x=y
 has:∀x,(X.env.kindOf x=some .cell\/X.env.kindOf x=some .free)->∃c,X.env.cells.lookup x=some c
 cab:∀x c,X.fn x=true->X.env.cells.lookup x=some c->X.s₀.heap.objs.size<=c
 hd:X.calm=true->X.A.handled=none
 frames:X.A.frames=some X.stack
 stk:X.stack=X.outer\/(X.stack=X.env::X.outer/\X.env.frame=some X.env.locals)
 exf:∀b∈X.ex,b≠X.env.locals/\∀x c,X.env.cells.lookup x=some c->c≠b
 bs:∀b o,X.base.get? b=some o->X.s₀.heap.get? b=some o/\X.H₀ b=none
 bsz:X.base.objs.size<=X.s₀.heap.objs.size
 noex:∀b o,X.base.get? b=some o->b ∉ X.ex
 exfs:∀b∈X.ex,b ∉ X.fs
 funs:X.s₀.heap.FunFrames X.base X.outer
 frf:∀b∈X.fs,X.H₀ b=none
structure Inv (X:Cx) (pins:vP_) (σ:List (Option V)) (H:Hp) (s:Shared):Prop where
 ok:X.Ok
 os:s.os=X.s₀.os
 bare:AllBare s.gens
 base:Un X.fs X.ex X.H₀ H X.s₀.heap s.heap
 loc:∃m,s.heap.Ns X.env.locals m/\∀(i:Nat) (x:Str) (v:V),X.N[i]? = some x->σ[i]? = some (some v)->kP X.env.scope x->∃u,RelV v u/\Bu X.env s.heap m x u
 cell:∀x c,X.env.cells.lookup x=some c->∃v,s.heap.IsCell c v
 free:H X.env.locals=none
 freeC:∀x c,X.env.cells.lookup x=some c->H c=none
 pin:∀p∈X.pn++pins,s.heap.get? p.1=some p.2/\H p.1=none/\p.1≠X.env.locals/\p.1 ∉ X.fs/\∀v,p.2.data ≠ .cell v
 hok:HOk X.prog X.w H s.heap
 len:σ.length=X.N.length
section
variable {σ:List (Option V)}
def Cx.Ok.nofr (J:X.Ok) {b:Addr}{o:Obj}(e:X.base.get? b=some o):b ∉ X.fs:=fun U=>by
 have:=(J.funs.mem U).1;rw[e] at this;cases this
theorem Inv.bs (I:Inv X pins σ H s):∀b o,X.base.get? b=some o->s.heap.get? b=some o/\H b=none:=fun b o e=>
 #[I.base.keep b o (I.ok.bs b o e).1 (I.ok.bs b o e).2 (I.ok.nofr e) (I.ok.noex b o e),I.base.free b o (I.ok.bs b o e).1 (I.ok.bs b o e).2 (I.ok.noex b o e)]
def Inv.bk (I:Inv X pins σ H s):∀b o,X.base.get? b=some o->s.heap.get? b=some o:=fun b o e=>(I.bs b o e).1
theorem Inv.mod (I:Inv X pins σ H s):Mod X.K X.mg X.base:=I.ok.mod
def Inv.kIn (I:Inv X pins σ H s):X.K.In s.heap:=I.ok.mod.kin.keeps I.bk
theorem Inv.nolimit (I:Inv X pins σ H s):s.heap.NoLimit:=I.ok.mod.nolimit.keeps I.bk
theorem Inv.lt (I:Inv X pins σ H s):X.env.locals<s.heap.objs.size:=let ⟨_,hn,_⟩:=I.loc;hn.lt
def Inv.sz (I:Inv X pins σ H s):X.s₀.heap.objs.size<=s.heap.objs.size:=xr I.ok.above (JZ I.lt)
def Inv.nofs (I:Inv X pins σ H s) (h:s.heap.objs.size<=a):a ∉ X.fs:=fun U=>by
 obtain⟨_,o,J,_⟩:=I.ok.funs.mem U;exact absurd (IJ (xl J) (xr I.sz h)) (JB _)
def Inv.cne (I:Inv X pins σ H s):∀x c,X.env.cells.lookup x=some c->c≠X.env.locals:=fun x c e z=>by
 obtain⟨v,o,ho,Y⟩:=I.cell x c e;obtain⟨m,⟨o',es,ep,J,U,_⟩,_⟩:=I.loc;rw[z,J] at ho;cases ho;rw[U] at Y;cases Y
theorem Inv.funs (I:Inv X pins σ H s):s.heap.FunFrames X.base X.outer:=by
 have J:∀(l:List Env),(∀b∈C4 l,b∈X.fs)->X.s₀.heap.FunFrames X.base l->s.heap.FunFrames X.base l:=by
  intro l;induction l with
  |nil=>intro _ _;trivial
  |cons env r ih=>
   intro hs hl;obtain⟨hk,⟨L,o,Y,hn,ho,hd⟩,hr⟩:=hl;have U:L∈X.fs:=hs L (by unfold C4;rw[Kq,Y];exact IY);obtain⟨sl,e⟩:=I.base.slot L o ho (I.ok.frf L U) U fun z=>I.ok.exfs L z U
   exact#[hk,#[L,_,Y,hn,e,hd],ih (fun b hb=>hs b (by unfold C4;rw[Kq,Y];exact IT _ hb)) hr]
 exact J X.outer (fun _ hb=>hb) I.ok.funs
theorem Inv.stack (I:Inv X pins σ H s):s.heap.FunFrames X.base X.stack:=by
 rcases I.ok.stk with e | ⟨e,hf⟩
 .rw[e];exact I.funs
 .rw[e];obtain⟨m,J,_⟩:=I.loc;refine .cons (by rw[I.ok.kind];decide) hf J ?_ I.funs;exact MN (xr I.ok.bsz I.ok.above)
def Inv.stkSub (I:Inv X pins σ H s):∀b∈C4 X.stack,b∈X.env.locals::X.fs:=fun b J=>by
 rcases I.ok.stk with e | ⟨e,hf⟩
 .rw[e] at J;exact IT _ J
 .rw[e] at J;unfold C4 at J;rw[Kq,hf] at J;exact J
def Inv.stkFree (I:Inv X pins σ H s):∀b∈C4 X.stack,H b=none:=fun b J=>by
 rcases IH.mp (I.stkSub b J) with e | J
 .rw[e];exact I.free
 .obtain⟨_,o,U,_⟩:=I.ok.funs.mem J;exact I.base.free b o U (I.ok.frf b J) fun z=>I.ok.exfs b z J
def Inv.step {g':Array GenState}{t':Nat}{ch:vL_}(I:Inv X pins σ H s)
  (hch:∀b∈ch,(b∈X.ex\/X.s₀.heap.objs.size<=b)/\b≠X.env.locals/\(∀x c,X.env.cells.lookup x=some c->c≠b)/\∀p∈X.pn++pins,p.1≠b)
  (keep:∀b o,b≠X.env.locals->b ∉ X.fs->b ∉ ch->s.heap.get? b=some o->H b=none->h'.get? b=some o)
  (slot:∀b o,b≠X.env.locals->b∈X.fs->b ∉ ch->s.heap.get? b=some o->H b=none->∃sl,h'.get? b=some { o with slots:=sl }) (free:∀b o,b ∉ ch->s.heap.get? b=some o->H b=none->H' b=none)
  (there:∀b o,b ∉ ch->s.heap.get? b=some o->∃o',h'.get? b=some o')
  (tups:∀b xs,H b=some (.tup xs)->H' b=some (.tup xs)) (frzs:∀b o u,H b=some (.frz o u)->H' b=some (.frz o u)) (tbls:∀b ps,H b=some (.tbl ps)->∃more,H' b=some (.tbl (ps++more)))
  (ns:∀m,s.heap.Ns X.env.locals m->h'.Ns X.env.locals m) (hok:HOk X.prog X.w H' h') (hg:AllBare g') :
  Inv X pins σ H' { s with heap:=h',gens:=g',drawn:=d',toks:=t' }:=by
 have neL:∀b o,X.s₀.heap.get? b=some o->b≠X.env.locals:=fun b o e=>Jd (IJ (xl e) I.ok.above)
 have neC:∀b o,X.s₀.heap.get? b=some o->b ∉ X.ex->b ∉ ch:=fun b o e J hb=>by
  rcases(hch b hb).1 with z | z
  .exact J z
  .exact absurd (IJ (xl e) z) (JB _)
 have Y:∀x c,X.env.cells.lookup x=some c->∀v,s.heap.IsCell c v->h'.IsCell c v:=fun x c e v hQ__=>by
  obtain⟨o,ho,hd⟩:=hQ__;have U:c ∉ ch:=fun z=>(hch c z).2.2.1 x c e rfl
  by_cases hc:c∈X.fs
  .obtain⟨sl,q⟩:=slot c o (I.cne x c e) hc U ho (I.freeC x c e);exact#[_,q,hd]
  .exact#[o,keep c o (I.cne x c e) hc U ho (I.freeC x c e),hd]
 refine#[I.ok,I.os,hg,#[fun b o e n hb J=>?_,fun b o e n hb J=>?_,fun b o e n J=>?_,fun b o e J=>?_,fun b xs e=>tups b xs (I.base.tups b xs e),fun b o xs e=>frzs b o xs (I.base.frzs b o xs e),fun b ps e=>?_],?_,fun x c e=>?_,?_,fun x c e=>?_,fun p hp=>?_,hok,I.len]
 .exact keep b o (neL b o e) hb (neC b o e J) (I.base.keep b o e n hb J) (I.base.free b o e n J)
 .obtain⟨sl,e1⟩:=I.base.slot b o e n hb J;obtain⟨sl',e2⟩:=slot b _ (neL b o e) hb (neC b o e J) e1 (I.base.free b o e n J);exact#[sl',e2]
 .obtain⟨o',e1⟩:=I.base.there b o e J;exact free b o' (neC b o e J) e1 (I.base.free b o e n J)
 .obtain⟨o',e1⟩:=I.base.there b o e J;exact there b o' (neC b o e J) e1
 .obtain⟨m1,e1⟩:=I.base.tbls b ps e;obtain⟨m2,e2⟩:=tbls b _ e1;exact#[m1++m2,by rw[e2,Array.append_assoc]]
 .obtain⟨m,hn,hl⟩:=I.loc;refine#[m,ns m hn,fun i x v e1 e2 e3=>?_];obtain⟨u,r,l⟩:=hl i x v e1 e2 e3;refine#[u,r,?_];rcases l with l | ⟨k,c,e,z⟩
  .exact .inl l
  .exact .inr #[k,c,e,Y x c e _ z]
 .obtain⟨v,z⟩:=I.cell x c e;exact#[v,Y x c e v z]
 .obtain⟨m,⟨o,_,_,ho,_⟩,_⟩:=I.loc;exact free _ o (fun z=>(hch _ z).2.1 rfl) ho I.free
 .obtain⟨v,o,ho,hd⟩:=I.cell x c e;exact free c o (fun z=>(hch c z).2.2.1 x c e rfl) ho (I.freeC x c e)
 .obtain⟨e,n,ne,nf,d⟩:=I.pin p hp;have U:p.1 ∉ ch:=fun z=>(hch p.1 z).2.2.2 p hp rfl
  exact#[keep p.1 p.2 ne nf U e n,free p.1 p.2 U e n,ne,nf,d]
def Inv.un {t':Nat}(I:Inv X pins σ H s) (u:Un X.fs [] H H' s.heap h') (hok:HOk X.prog X.w H' h'):Inv X pins σ H' { s with heap:=h',toks:=t' }:=by
 obtain⟨m,⟨o,es,ep,ho,r⟩,_⟩:=id I.loc;obtain⟨sl,hL⟩:=u.any ho I.free (by simp);exact I.step (g':=s.gens) (d':=s.drawn) (ch:=[]) (fun _ z=>nomatch z) (fun b o _ Y _ e n=>u.keep b o e n Y (by simp)) (fun b o _ Y _ e n=>u.slot b o e n Y (by simp)) (fun b o _ e n=>u.free b o e n (by simp)) (fun b o _ e=>u.there b o e (by simp)) u.tups u.frzs u.tbls (fun m' hm=>by
  obtain⟨o',U,ep',J,r'⟩:=hm;rw[ho] at J;cases J;exact#[_,U,ep',hL,r']) hok I.bare
def Inv.call {t':Nat}(I:Inv X pins σ H s) (u:Un (C4 X.stack) ch H H' s.heap h') (hok:HOk X.prog X.w H' h') (hg:AllBare g')
  (U:∀b∈ch,(b∈X.ex\/X.s₀.heap.objs.size<=b)/\b≠X.env.locals/\(∀x c,X.env.cells.lookup x=some c->c≠b)/\∀p∈X.pn++pins,p.1≠b) :
  Inv X pins σ H' { s with heap:=h',gens:=g',drawn:=d',toks:=t' }:=by
 obtain⟨m,⟨o,es,ep,ho,r⟩,_⟩:=id I.loc;obtain⟨sl,hL⟩:=u.any ho I.free fun z=>(U _ z).2.1 rfl
 exact I.step (ch:=ch) U (fun b o hL hb J e n=>u.keep b o e n (fun z=>(IH.mp (I.stkSub b z)).elim hL hb) J) (fun b o _ _ J e n=>u.any e n J) (fun b o J e n=>u.free b o e n J) (fun b o J e=>u.there b o e J) u.tups u.frzs u.tbls (fun m' hm=>by
  obtain⟨o',es',ep',Y,r'⟩:=hm;rw[ho] at Y;cases Y;exact#[_,es',ep',hL,r']) hok hg
def Inv.turned {t':Nat}{it:Addr}(I:Inv X pins σ H s) (k:∀b o,b≠it->s.heap.get? b=some o->h'.get? b=some o) (hn:H it=none) (Y:it≠X.env.locals)
  (h1:it∈X.ex\/X.s₀.heap.objs.size<=it) (h2:∀x c,X.env.cells.lookup x=some c->c≠it) (h3:∀p∈X.pn++pins,p.1≠it):Inv X pins σ H { s with heap:=h',toks:=t' }:=by
 have U:∀b u,H b=some u->b≠it:=fun b u e z=>by rw[z,hn] at e;cases e
 refine I.step (g':=s.gens) (d':=s.drawn) (ch:=[it]) (fun b hb=>?_) (fun b o _ _ J e _=>k b o (fun z=>J (by simp[z])) e) (fun b o _ _ J e _=>#[o.slots,k b o (fun z=>J (by simp[z])) e]) (fun _ _ _ _ n=>n)
  (fun b o J e=>#[o,k b o (fun z=>J (by simp[z])) e]) (fun _ _ e=>e) (fun _ _ _ e=>e) (fun b ps e=>#[#v[],by rw[e];simp]) (fun m hm=>?_) (fun b u e=>?_) I.bare
 .have e:b=it:=by simpa using hb
  subst e;exact#[h1,Y,h2,h3]
 .obtain⟨o,es,ep,ho,r⟩:=hm;exact#[o,es,ep,k _ o (IK Y) ho,r]
 .refine(I.hok b u e).stay (fun c v J q=>k c v ?_ q) (fun _ q=>q) fun _ _ q=>q
  rcases J with z | z
  .rw[z];exact U b u e
  .exact U c _ z
def Inv.tok (I:Inv X pins σ H s) (t:Nat):Inv X pins σ H { s with toks:=t }:=I.un (h':=s.heap) (t':=t) Un.refl I.hok
theorem Inv.kept {t':Nat}(I:Inv X pins σ H s) (k:∀b u,s.heap.get? b=some u->h'.get? b=some u):Inv X pins σ H { s with heap:=h',toks:=t' }:=I.un (Un.kept k) (I.hok.kept k)
theorem Inv.laid {o:HO}{t':Nat}(I:Inv X pins σ H s) (k:∀b u,s.heap.get? b=some u->h'.get? b=some u) (J:s.heap.objs.size<=a) (U:ObjOk X.prog X.w (i6 H a o) h' a o) :
  Inv X pins σ (i6 H a o) { s with heap:=h',toks:=t' }:=I.un (Un.laid k J (I.hok.fresh J)) (I.hok.laid k J U)
theorem Inv.write {x e:Addr}{o:HO}{t':Nat}(I:Inv X pins σ H s) (Y:jm (H x)) (he:e=x\/H e=some (.own x)) (k:∀b u,b≠e->s.heap.get? b=some u->h'.get? b=some u) (J:∃u,h'.get? e=some u)
  (U:ObjOk X.prog X.w (i6 H x o) h' x o):Inv X pins σ (i6 H x o) { s with heap:=h',toks:=t' }:=I.un (Un.write Y he k J) (I.hok.write Y he k J U)
def Inv.weak {σ':List (Option V)}(I:Inv X pins σ H s) (Y:σ'.length=σ.length) (w:∀(i:Nat) v,σ'[i]? = some (some v)->σ[i]? = some (some v)):Inv X pins σ' H s:=
 #[I.ok,I.os,I.bare,I.base,let ⟨m,hn,hl'⟩:=I.loc;#[m,hn,fun i x v U e2 J=>hl' i x v U (w i v e2) J],I.cell,I.free,I.freeC,I.pin,I.hok,Y.trans I.len]
def Inv.pins_of {pins':vP_}(I:Inv X pins σ H s) (h:∀p∈pins',s.heap.get? p.1=some p.2/\H p.1=none/\p.1≠X.env.locals/\p.1 ∉ X.fs/\∀v,p.2.data ≠ .cell v):Inv X pins' σ H s:=
 #[I.ok,I.os,I.bare,I.base,I.loc,I.cell,I.free,I.freeC,fun p J=>(JT.mp J).elim (fun z=>I.pin p (MO _ z)) (h p),I.hok,I.len]
def mQ {N:List Str}(J:N.Nodup) (a:N[i]? = some x) (b:N[j]? = some x):i=j:=by
 obtain⟨h1,U⟩:=Jj.mp a;obtain⟨h2,Y⟩:=Jj.mp b;exact(List.getElem_inj J).mp (U.trans Y.symm)
def AC {M:Model}{A:Around}{E:vQ_}{i:Nat}{x:Str}{v:V}{u:Value}{Q:Unit->Shared->Prop}(I:Inv X pins σ H s) (hN:X.N.Nodup) (hi:X.N[i]? = some x) (hx:X0 X.env.scope x) (r:RelV v u)
  (h:∀s',Inv X pins (σ.set i (some v)) H s'->(∃a,Heap.SameBut a s.heap s'.heap/\(a=X.env.locals\/X.env.cells.lookup x=some a))->Q () s') (hf:X.fn x=true\/X.env.scope.names.lookup x=some .local:=by first | exact .inl rfl | exact .inr rfl | assumption):wpAny M A (storeName X.env x u) Q E s:=by
 obtain⟨m,hn,hl⟩:=id I.loc;have hcls:(X.env.scope.kind == .class||(X.env.scope.kind == .module&&X.env.locals != X.env.globals))=false:=by rw[I.ok.kind];rfl
 have hiσ:i<σ.length:=by rw[I.len];exact(Jj.mp hi).1
 have cne:=I.cne;have Y:∀{a:Addr}{h':Heap},(∃o,s.heap.get? a=some o/\H a=none)->Heap.SameBut a s.heap h'->HOk X.prog X.w H h':=fun {a h'} ha J b ob e=>by
  obtain⟨_,_,hfree⟩:=ha;refine(I.hok b ob e).stay (fun c w' hc q=>(J.2 c ?_).trans q) (fun _ q=>q) fun _ _ q=>q
  rintro rfl;rcases hc with rfl | hc
  .rw[hfree] at e;cases e
  .rw[hfree] at hc;cases hc
 rcases hx with hk | hk
 .refine wpAny_storeName_local hk hn (fun h' hn' J=>?_) hcls;obtain⟨oL,_,_,hoL,_⟩:=id hn;refine h _ #[I.ok,I.os,I.bare,#[fun b o e n hb hx=>?_,fun b o e n hb hx=>?_,I.base.free,fun b o e hx=>?_,I.base.tups,I.base.frzs,I.base.tbls],#[_,hn',fun j y v' U e2 e3=>?_],fun y c e=>?_,I.free,I.freeC,fun p hp=>?_,Y #[oL,hoL,I.free] J,by simpa using I.len] #[_,J,.inl rfl]
  .exact(J.2 b (Jd (IJ (xl e) I.ok.above))).trans (I.base.keep b o e n hb hx)
  .obtain⟨sl,U⟩:=I.base.slot b o e n hb hx;exact#[sl,(J.2 b (Jd (IJ (xl e) I.ok.above))).trans U]
  .obtain⟨o',U⟩:=I.base.there b o e hx;exact#[o',(J.2 b (Jd (IJ (xl e) I.ok.above))).trans U]
  .by_cases hj:j=i
   .subst hj;rw[hi] at U;cases U;rw[Kr hiσ] at e2;cases e2;exact#[u,r,.inl #[hk,by simp]]
   .rw[Kf (IK hj)] at e2;obtain⟨u',r',q⟩:=hl j y v' U e2 e3;refine#[u',r',?_];rcases q with ⟨k,e⟩ | ⟨k,c,e,z⟩
    .refine .inl #[k,?_];have:y≠x:=fun e=>hj (mQ hN U (e▸hi))
     simp[this,e]
    .exact .inr #[k,c,e,z.sameBut J (cne y c e)]
  .obtain⟨w',z⟩:=I.cell y c e;exact#[w',z.sameBut J (cne y c e)]
  .obtain⟨e,n,ne,nf,d⟩:=I.pin p hp;exact#[(J.2 p.1 ne).trans e,n,ne,nf,d]
 .have hfn:X.fn x=true:=by
   rcases hf with z | z
   .exact z
   .rw[z] at hk;cases hk
  obtain⟨c,hc⟩:=I.ok.has x (.inl hk);obtain⟨w',z⟩:=I.cell x c hc;refine wpAny_storeName_cell I.ok.kind hk hc z (fun h' hc' J=>?_);obtain⟨oc,hoc,hocd⟩:=id z;refine h { s with heap:=h' } #[I.ok,I.os,I.bare,#[fun b o e n hb hx=>?_,fun b o e n hb hx=>?_,I.base.free,fun b o e hx=>?_,I.base.tups,I.base.frzs,I.base.tbls],#[m,hn.sameBut J (IK (cne x c hc)),fun j y v' U e2 e3=>?_],fun y c' e=>?_,I.free,I.freeC,fun p hp=>?_,Y #[oc,hoc,I.freeC x c hc] J,by simpa using I.len] #[c,J,.inr hc]
  .exact(J.2 b (Jd (IJ (xl e) (I.ok.cab x c hfn hc)))).trans (I.base.keep b o e n hb hx)
  .obtain⟨sl,U⟩:=I.base.slot b o e n hb hx;exact#[sl,(J.2 b (Jd (IJ (xl e) (I.ok.cab x c hfn hc)))).trans U]
  .obtain⟨o',U⟩:=I.base.there b o e hx;exact#[o',(J.2 b (Jd (IJ (xl e) (I.ok.cab x c hfn hc)))).trans U]
  .by_cases hj:j=i
   .subst hj;rw[hi] at U;cases U;rw[Kr hiσ] at e2;cases e2;exact#[u,r,.inr #[.inl hk,c,hc,hc']]
   .rw[Kf (IK hj)] at e2;obtain⟨u',r',q⟩:=hl j y v' U e2 e3;refine#[u',r',?_];rcases q with q | ⟨k,c',e,z'⟩
    .exact .inl q
    .refine .inr #[k,c',e,z'.sameBut J ?_];rintro rfl;exact hj (mQ hN U (I.ok.inj _ _ _ e hc▸hi))
  .by_cases hcc:c'=c
   .subst hcc;exact#[_,hc']
   .obtain⟨w2,z2⟩:=I.cell y c' e;exact#[w2,z2.sameBut J hcc]
  .obtain⟨e,n,ne,nf,d⟩:=I.pin p hp;refine#[(J.2 p.1 ?_).trans e,n,ne,nf,d];intro q;rw[q,hoc] at e;have q':oc=p.2:=Jg e;exact d w' (by rw[<-q'];exact hocd)
def bW {M:Model}{A:Around}{E:vQ_}{i:Nat}{x:Str}{v:V}{u:Value}{Q:Unit->Shared->Prop}(I:Inv X pins σ H s) (J:X.N.Nodup) (hi:X.N[i]? = some x) (U:X0 X.env.scope x) (r:RelV v u)
  (h:∀s',Inv X pins (σ.set i (some v)) H s'->Q () s') (hf:X.fn x=true\/X.env.scope.names.lookup x=some .local:=by first | exact .inl rfl | exact .inr rfl | assumption):wpAny M A (storeName X.env x u) Q E s:=
 AC I J hi U r (fun s' Y _=>h s' Y) hf
def Inv.call' (I:Inv X pins σ H s) (ho:s'.os=s.os) (u:Un (C4 X.stack) ch H H' s.heap s'.heap) (J:HOk X.prog X.w H' s'.heap) (Y:AllBare s'.gens)
  (U:∀b∈ch,(b∈X.ex\/X.s₀.heap.objs.size<=b)/\b≠X.env.locals/\(∀x c,X.env.cells.lookup x=some c->c≠b)/\∀p∈X.pn++pins,p.1≠b):Inv X pins σ H' s':=by
 obtain⟨h',g',d',t',o'⟩:=s';have e:o'=s.os:=ho;subst e;exact I.call (g':=g') (t':=t') (d':=d') u J Y U
end
abbrev XK:=Value->Option Addr->Hp->Prop
abbrev St:=List (Option V)
variable {σ:St}
abbrev VK:=V->Hp->Prop
abbrev TE:=St->Hp->VK->Prop
variable {te:TE}
abbrev TT:=St->Hp->(Bool->Hp->Prop)->Prop
variable {tc:TT}
abbrev TA:=St->Hp->(List V->Hp->Prop)->Prop
variable {ta:TA}
structure Ends where
 nx:St->Hp->Prop
 rt:VK
 bk:St->Hp->Prop:=fun _ _=>False
 ct:St->Hp->Prop:=fun _ _=>False
abbrev TS:=Ends->St->Hp->Prop
variable {tb:TS}
def EP (X:Cx) (pins:vP_) (σ:St) (Q:VK) (u:Value) (s':Shared):Prop:=∃v H',Inv X pins σ H' s'/\RelV v u/\Q v H'
def TP (X:Cx) (pins:vP_) (σ:St) (Q:Bool->Hp->Prop) (b:Bool) (s':Shared):Prop:=∃H',Inv X pins σ H' s'/\Q b H'
def AP (X:Cx) (pins:vP_) (σ:St) (Q:List V->Hp->Prop) (us:vV_) (s':Shared):Prop:=∃vs H',Inv X pins σ H' s'/\Vals vs us/\Q vs H'
def SP (X:Cx) (pins:vP_) (D:Ends) (f:Flow) (s':Shared):Prop:=
 match f with
 |.next=>∃σ' H',Inv X pins σ' H' s'/\D.nx σ' H'
 |.brk=>∃σ' H',Inv X pins σ' H' s'/\D.bk σ' H'
 |.cont=>∃σ' H',Inv X pins σ' H' s'/\D.ct σ' H'
 |.ret u=>∃v σ' H',Inv X pins σ' H' s'/\RelV v u/\D.rt v H'
def PE (X:Cx) (e:Expr) (t:TE):Prop:=
 ∀(pins:vP_) (s:Shared) (σ:St) (H:Hp) (Q:VK),Inv X pins σ H s->t σ H Q->wpAny (model X.prog X.w) X.A (eval e X.env) (EP X pins σ Q) X.xe s
def PT (X:Cx) (e:Expr) (t:TT):Prop:=
 ∀(pins:vP_) (s:Shared) (σ:St) (H:Hp) (Q:Bool->Hp->Prop),Inv X pins σ H s->t σ H Q->wpAny (model X.prog X.w) X.A (isTrue e X.env (eval e X.env)) (TP X pins σ Q) X.xe s
def PW (X:Cx) (e:Expr) (t:TT):Prop:=
 ∀(whole:Sem Value) (pins:vP_) (s:Shared) (σ:St) (H:Hp) (Q:Bool->Hp->Prop),Inv X pins σ H s->t σ H Q->wpAny (model X.prog X.w) X.A (isTrue e X.env whole) (TP X pins σ Q) X.xe s
def PW.pt {t:TT}(h:PW X e t):PT X e t:=h _
def PA (X:Cx) (es:List Expr) (t:TA):Prop:=
 ∀(pos:Pos) (pins:vP_) (s:Shared) (σ:St) (H:Hp) (Q:List V->Hp->Prop),Inv X pins σ H s->t σ H Q->wpAny (model X.prog X.w) X.A (spliced (backTo pos (starEach es X.env))) (AP X pins σ Q) X.xe s
def PS (X:Cx) (st:Stmt) (t:TS):Prop:=
 ∀(pins:vP_) (s:Shared) (σ:St) (H:Hp) (D:Ends),Inv X pins σ H s->t D σ H->wpAny (model X.prog X.w) X.A (exec st X.env) (SP X pins D) X.xe s
def PSs (X:Cx) (st:List Stmt) (t:TS):Prop:=
 ∀(pins:vP_) (s:Shared) (σ:St) (H:Hp) (D:Ends),Inv X pins σ H s->t D σ H->wpAny (model X.prog X.w) X.A (execs st X.env) (SP X pins D) X.xe s
def l4 {α:Type}{t:Sem α}{Q Q':α->Shared->Prop}{M:Model}(h:wpAny M A t Q E s) (J:∀a s,Q a s->Q' a s):wpAny M A t Q' E s:=IV h J fun _ _ x=>x
section
def Y7 (i:Nat):TE:=fun σ H Q=>∃v,σ[i]? = some (some v)/\Q v H
def tC (v:V):TE:=fun _ H Q=>Q v H
def AE {i:Nat}{x:Str}{pos:Pos}(hN:X.N[i]? = some x) (hv:kP X.env.scope x) (hd:(x == ("__debug__" : Str))=false:=by decide) (hcd:(x == ("__classdict__" : Str))=false:=by decide):PE X (.Name x pos) (Y7 i):=by
 intro pins s σ H Q I h;obtain⟨v,e,h⟩:=h;obtain⟨m,hn,hl⟩:=I.loc;obtain⟨u,r,l⟩:=hl i x v hN e hv;have Y:EP X pins σ Q u s:=#[v,H,I,r,h]
 rcases l with ⟨U,hm⟩ | ⟨U,c,hc,J⟩
 .exact Ka (Ks I.ok.kind U hn hm Y) hd
 .rcases U with U | U
  .exact Ka (wpAny_loadName_cell I.ok.kind U hc J Y) hd
  .exact Ka (wpAny_loadName_free I.ok.kind U hc J Y hcd) hd
def cW {i j pos}:PE X (.Constant (.int i) j pos) (tC (.int i)):=fun _ _ _ H _ I h=>wpAny_Constant_int #[.int i,H,I.tok _,#[_,rfl],h]
def Aq {b j pos}:PE X (.Constant (.bool b) j pos) (tC (.bl b)):=fun _ _ _ H _ I h=>Constant_bool #[.bl b,H,I,rfl,h]
def Cn {j pos}:PE X (.Constant .none j pos) (tC .non):=fun _ _ _ H _ I h=>Constant_none #[.non,H,I,rfl,h]
def yD {x j pos}:PE X (.Constant (.str x) j pos) (tC (.str x)):=fun _ _ _ H _ I h=>Calls.Constant_str #[.str x,H,I.tok _,#[_,rfl],h]
def Gl (X:Cx) (x:Str):Prop:=X.env.kindOf x=some .globalImplicit
def eE {E:vQ_}{pins:vP_}{s:Shared}{H:Hp}{x:Str}{u:Value}{pos:Pos}{Q:vQ_}(I:Inv X pins σ H s) (Y:Gl X x) (J:X.mg x=some u) (h:Q u s)
  (U:(x == ("__debug__" : Str))=false:=by decide):wpAny (model X.prog X.w) X.A (eval (.Name x pos) X.env) Q E s:=
 Calls.Name_function_global I.ok.kind Y (Calls.loadGlobal_global (by rw[I.ok.glob];exact I.mod.glob.keeps I.bk) J h) U
def aK {E:vQ_}{pins:vP_}{s:Shared}{H:Hp}{x:Str}{u:Value}{pos:Pos}{Q:vQ_}(I:Inv X pins σ H s) (hg:Gl X x) (J:X.mg x=none) (hv:bootBuiltins x=some u) (h:Q u s)
  (U:x ≠ "__name__" := by decide) (Y:(x == ("__debug__" : Str))=false:=by decide):wpAny (model X.prog X.w) X.A (eval (.Name x pos) X.env) Q E s:=by
 obtain⟨mb,h1,h2⟩:=I.mod.blt;exact Calls.Name_function_global I.ok.kind hg (Calls.loadGlobal_builtin (by rw[I.ok.glob];exact I.mod.glob.keeps I.bk) J (by rw[I.ok.blt];exact h1.keeps I.bk) ((h2 x U).trans hv) h) Y
def ly {x:Str}{v:V}{u:Value}{pos:Pos}(Y:Gl X x) (J:X.mg x=some u) (r:RelV v u) (U:(x == ("__debug__" : Str))=false:=by decide):PE X (.Name x pos) (tC v):=
 fun _ _ _ H _ I h=>eE I Y J #[v,H,I,r,h] U
def oN {x:Str}{v:V}{u:Value}{pos:Pos}(hg:Gl X x) (J:X.mg x=none) (hv:bootBuiltins x=some u) (r:RelV v u) (U:x ≠ "__name__" := by decide) (Y:(x == ("__debug__" : Str))=false:=by decide):PE X (.Name x pos) (tC v):=
 fun _ _ _ H _ I h=>aK I hg J hv #[v,H,I,r,h] U Y
variable {a b:Expr}{ta tb:TE}
variable {tA tB':TT}
def Bt (t u:TT):TT:=fun σ H Q=>t σ H fun c H1=>if c=true then u σ H1 Q else Q false H1
def wG (t u:TT):TT:=fun σ H Q=>t σ H fun c H1=>if c=true then Q true H1 else u σ H1 Q
def yp (t:TT):TT:=fun σ H Q=>t σ H fun c H1=>Q (!c) H1
def Cj (J:PT X a tA):PW X (.BoolOp .And [a] pos) tA:=by
 intro U pins s σ H Q I h;refine isTrue_and (l4 (J pins s σ H Q I h) fun c s1 e=>?_);cases c with
 |true=>exact isTrue_and_nil e
 |false=>exact e
def Ho (J:PT X a tA):PW X (.BoolOp .Or [a] pos) tA:=by
 intro U pins s σ H Q I h;refine isTrue_or (l4 (J pins s σ H Q I h) fun c s1 e=>?_);cases c with
 |false=>exact isTrue_or_nil e
 |true=>exact e
def Ey (ha:PT X a tA) (hb:PW X (.BoolOp .And (b::rest) pos) tB'):PW X (.BoolOp .And (a::b::rest) pos) (Bt tA tB'):=by
 intro Y pins s σ H Q I h;refine isTrue_and (l4 (ha pins s σ H _ I h) fun c s1 ⟨H1,U,J⟩=>?_);cases c with
 |true=>exact hb Y pins s1 σ H1 Q U J
 |false=>exact#[H1,U,J]
def GW (ha:PT X a tA) (hb:PW X (.BoolOp .Or (b::rest) pos) tB'):PW X (.BoolOp .Or (a::b::rest) pos) (wG tA tB'):=by
 intro Y pins s σ H Q I h;refine isTrue_or (l4 (ha pins s σ H _ I h) fun c s1 ⟨H1,U,J⟩=>?_);cases c with
 |true=>exact#[H1,U,J]
 |false=>exact hb Y pins s1 σ H1 Q U J
def Cc (J:PT X a tA):PT X (.UnaryOp .Not a pos) (yp tA):=by
 intro pins s σ H Q I h;exact isTrue_not (J pins s σ H (fun c H1=>Q (!c) H1) I h)
def HJ (ta tb:TE):TE:=fun σ H Q=>ta σ H fun x H1=>∃c,x = .bl c/\if c=true then Q (.bl true) H1 else tb σ H1 Q
def zp (ta:TE):TE:=fun σ H Q=>ta σ H fun x H1=>∃c,x = .bl c/\Q (.bl (!c)) H1
def zF {op} {t:TE}(h:PE X a t):PE X (.BoolOp op [a] pos) t:=fun pins s σ H Q I J=>BoolOp_one (h pins s σ H Q I J)
def ya (ha:PE X a ta) (hb:PE X (.BoolOp .Or (b::rest) pos) tb):PE X (.BoolOp .Or (a::b::rest) pos) (HJ ta tb):=by
 intro pins s σ H Q I h;refine BoolOp_or (l4 (ha pins s σ H _ I h) fun v s1 ⟨x,H1,U,Y,J⟩=>?_);obtain⟨c,rfl,J⟩:=J;cases Y;refine LO ?_;cases c with
 |false=>exact hb pins s1 σ H1 Q U J
 |true=>exact#[.bl true,H1,U,rfl,J]
def zy (ha:PE X a ta):PE X (.UnaryOp .Not a pos) (zp ta):=by
 intro pins s σ H Q I h;refine UnaryOp_ (l4 (ha pins s σ H _ I h) fun v s1 ⟨x,H1,Y,U,J⟩=>?_);obtain⟨c,rfl,J⟩:=J;cases U;exact not_of (LO #[.bl (!c),H1,Y,rfl,J])
def EE (t:TT) (ta tb:TE):TE:=fun σ H Q=>t σ H fun c H1=>if c=true then ta σ H1 Q else tb σ H1 Q
def sS {c:Expr}(hc:PT X c tA) (ha:PE X a ta) (Y:PE X b tb):PE X (.IfExp c a b pos) (EE tA ta tb):=by
 intro pins s σ H Q I h;refine wpAny_IfExp (l4 (hc pins s σ H _ I h) fun d s1 ⟨H1,U,J⟩=>?_);cases d with
 |true=>exact ha pins s1 σ H1 Q U J
 |false=>exact Y pins s1 σ H1 Q U J
end
def SqL (K:vF_) (H:Hp) (a:Addr) (xs:List V):Prop:=
 Rd H a (.lst xs) \/
  ∃(o:Obj) (its:vR_) (n:Nat),K.lookup a=some o/\o.cls = .type "list" /\ o.dict=none/\o.data = .seq its n/\its.size<=sizeLine/\Vals xs its.toList
def SqT (K:vF_) (H:Hp) (a:Addr) (xs:List V):Prop:=
 Rd H a (.tup xs) \/
  ∃(o:Obj) (its:vR_) (n:Nat),K.lookup a=some o/\o.cls = .type "tuple" /\ o.data = .seq its n/\its.size<=sizeLine/\Vals xs its.toList
def As:Value->Option V
 |.none=>some .non
 |.bool b=>some (.bl b)
 |.int i _=>some (.int i)
 |.str x _=>some (.str x)
 |.bytes b _=>some (.byt b)
 |.float b _=>some (.flt b)
 |.ref a=>some (.ref a)
 |.type n=>some (.ty n)
 |_=>none
def RelV.abs {x:V}(r:RelV x u):As u=some x:=by
 cases x with
 |non=>cases r;rfl
 |bl _=>cases r;rfl
 |int _=>obtain⟨t,rfl⟩:=r;rfl
 |str _=>obtain⟨t,rfl⟩:=r;rfl
 |byt _=>obtain⟨t,rfl⟩:=r;rfl
 |flt _=>obtain⟨t,rfl⟩:=r;rfl
 |ref _=>cases r;rfl
 |ty _=>cases r;rfl
def RelV.inj {x y:V}(r:RelV x u) (q:RelV y u):x=y:=Jg (r.abs.symm.trans q.abs)
theorem Vals.inj:∀{xs ys:List V}{us:vV_},Vals xs us->Vals ys us->xs=ys:=by
 intro xs ys us h;induction h generalizing ys with
 |nil=>
  intro h2;cases h2;rfl
 |cons r t J=>
  intro h2;cases h2 with
  |cons U t'=>rw[r.inj U,J t']
def SqL.of {K:vF_}(h:H a=some (.lst xs)):SqL K H a xs:=.inl (.inl h)
def SqT.of {K:vF_}(h:H a=some (.tup xs)):SqT K H a xs:=.inl (.inl h)
def Inv.list (I:Inv X pins σ H s) (h:SqL X.K H a xs):∃its:List Value,Vals xs its/\PlainL s.heap a its.toArray/\xs.length<=sizeLine:=by
 rcases h with h | ⟨o,its,n,hk,hc,hd,hs,hz,r⟩
 .obtain⟨z,its,n,r,e⟩:=h.ok I.hok;exact#[its,r,#[_,n,e,rfl,rfl,rfl],z]
 .refine#[its.toList,r,#[o,n,I.kIn a o hk,hc,hd,by simpa using hs],?_];have e:=r.length;simp only[LP] at e;omega
def Inv.tuple (I:Inv X pins σ H s) (h:SqT X.K H a xs):∃its:List Value,Vals xs its/\IsTup s.heap a its.toArray/\xs.length<=sizeLine:=by
 rcases h with h | ⟨o,its,n,hk,hc,hs,hz,r⟩
 .obtain⟨z,its,r,p⟩:=h.ok I.hok;exact#[its,r,p,z]
 .refine#[its.toList,r,#[o,I.kIn a o hk,hc,n,by simpa using hs],?_];have e:=r.length;simp only[LP] at e;omega
def Inv.list_inj (I:Inv X pins σ H s) (h:SqL X.K H a xs) (h':SqL X.K H a ys):xs=ys:=by
 obtain⟨its,r,⟨o,n,e,_,_,d⟩,_⟩:=I.list h;obtain⟨J,Y,⟨o',n',e',_,_,U⟩,_⟩:=I.list h';rw[e] at e';cases e';rw[d] at U;injection U with d1 _;have:its=J:=by simpa using congrArg Array.toList d1
 subst this;exact r.inj Y
def Inv.tuple_inj (I:Inv X pins σ H s) (h:SqT X.K H a xs) (h':SqT X.K H a ys):xs=ys:=by
 obtain⟨its,r,⟨o,e,_,n,d⟩,_⟩:=I.tuple h;obtain⟨J,Y,⟨o',e',_,n',U⟩,_⟩:=I.tuple h';rw[e] at e';cases e';rw[d] at U;injection U with d1 _;have:its=J:=by simpa using congrArg Array.toList d1
 subst this;exact r.inj Y
abbrev Cx.wish (X:Cx) (E:vQ_):Cx:={ X with xe:=E }
abbrev Cx.nox (X:Cx):Cx:=X.wish fun _ _=>False
theorem Cx.Ok.wish (J:X.Ok) (E:vQ_):(X.wish E).Ok:=
 #[J.mod,J.kind,J.glob,J.blt,J.above,J.inj,J.has,J.cab,J.hd,J.frames,J.stk,J.exf,J.bs,J.bsz,J.noex,J.exfs,J.funs,J.frf]
def Cx.Ok.unwish (J:(X.wish E).Ok):X.Ok:=
 #[J.mod,J.kind,J.glob,J.blt,J.above,J.inj,J.has,J.cab,J.hd,J.frames,J.stk,J.exf,J.bs,J.bsz,J.noex,J.exfs,J.funs,J.frf]
theorem Inv.wish (I:Inv X pins σ H s) (E:vQ_):Inv (X.wish E) pins σ H s:=#[I.ok.wish E,I.os,I.bare,I.base,I.loc,I.cell,I.free,I.freeC,I.pin,I.hok,I.len]
theorem Inv.unwish (I:Inv (X.wish E) pins σ H s):Inv X pins σ H s:=#[I.ok.unwish,I.os,I.bare,I.base,I.loc,I.cell,I.free,I.freeC,I.pin,I.hok,I.len]
theorem SP.unwish {D:Ends}(h:SP (X.wish E) pins D f s'):SP X pins D f s':=by
 cases f with
 |next=>obtain⟨σ',H',I,q⟩:=h;exact#[σ',H',I.unwish,q]
 |brk=>obtain⟨σ',H',I,q⟩:=h;exact#[σ',H',I.unwish,q]
 |cont=>obtain⟨σ',H',I,q⟩:=h;exact#[σ',H',I.unwish,q]
 |ret u=>obtain⟨v,σ',H',I,r,q⟩:=h;exact#[v,σ',H',I.unwish,r,q]
theorem PSs.nox {st:List Stmt}{t:TS}(h:PSs X.nox st t):PSs X st t:=fun pins s σ H D I J=>
 IV (h pins s σ H D (I.wish _) J) (fun _ _ q=>q.unwish) fun _ _ z=>False.elim z
section
variable {st:Stmt}{rest:List Stmt}{t u:TS}
def zY:TS:=fun D σ H=>D.nx σ H
def AA (t u:TS):TS:=fun D σ H=>t { D with nx:=u D } σ H
def wF:PSs X [] zY:=fun _ _ σ H _ I h=>Kt #[σ,H,I,h]
def wU (h1:PS X st t) (h2:PSs X rest u):PSs X (st::rest) (AA t u):=by
 intro pins s σ H D I h;refine Lr (l4 (h1 pins s σ H { D with nx:=u D } I h) fun f s1 q=>?_);cases f with
 |next=>
  obtain⟨σ',H',J,q⟩:=q;exact h2 pins s1 σ' H' D J q
 |ret v=>exact q
 |brk=>exact q
 |cont=>exact q
def Bf (h1:PS X st t):PSs X [st] t:=by
 intro pins s σ H D I h;refine Lr (l4 (h1 pins s σ H D I h) fun f s1 q=>?_);cases f with
 |next=>exact Kt q
 |ret v=>exact q
 |brk=>exact q
 |cont=>exact q
def Inv.quiet (I:Inv X pins σ H s):interactive X.env=false:=by simp[interactive,I.ok.kind]
def Gp (te:TE):TS:=fun D σ H=>te σ H fun _ H1=>D.nx σ H1
def sX (U:PE X e te) (hs:swapsWith e none pos.line X.env=pure false:=by rfl):PS X (.Expr e pos) (Gp te):=by
 intro pins s σ H D I h;exact wpAny_Expr_any (l4 (U pins s σ H _ I h) fun v s1 ⟨x,H1,Y,r1,J⟩=>#[σ,H1,Y,J]) I.quiet hs
def DD (te:TE):TS:=fun D σ H=>te σ H D.rt
def vn (Y:PE X e te):PS X (.Return (some e) pos) (DD te):=by
 intro pins s σ H D I h;exact wpAny_Return_some (l4 (Y pins s σ H _ I h) fun v s1 ⟨x,H1,I1,J,U⟩=>#[x,σ,H1,I1,J,U])
def Av (c:TT) (t u:TS):TS:=fun D σ H=>c σ H fun b H1=>if b=true then t D σ H1 else u D σ H1
def zN {c:Expr}{a b:List Stmt}(hc:PT X c tc) (ha:PSs X a t) (Y:PSs X b u):PS X (.If c a b pos) (Av tc t u):=by
 intro pins s σ H D I h;refine wpAny_If (l4 (hc pins s σ H _ I h) fun d s1 ⟨H1,U,J⟩=>?_);cases d with
 |true=>exact ha pins s1 σ H1 D U J
 |false=>exact Y pins s1 σ H1 D U J
end
abbrev TG:=V->St->Hp->(St->Hp->Prop)->Prop
abbrev W5:=List V->St->Hp->(St->Hp->Prop)->Prop
def PG (X:Cx) (J:Expr) (t:TG):Prop:=
 ∀(pins:vP_) (s:Shared) (σ:St) (H:Hp) (v:V) (u:Value) (Q:St->Hp->Prop),Inv X pins σ H s->RelV v u->t v σ H Q ->
  wpAny (model X.prog X.w) X.A (assign J X.env u) (fun _ s'=>∃σ' H',Inv X pins σ' H' s'/\Q σ' H') X.xe s
def ah (X:Cx) (J:List Expr) (t:W5):Prop:=
 ∀(pins:vP_) (s:Shared) (σ:St) (H:Hp) (vs:List V) (us:vV_) (Q:St->Hp->Prop),Inv X pins σ H s->Vals vs us->t vs σ H Q ->
  wpAny (model X.prog X.w) X.A (assignInOrder ((assignEach J X.env).map (·.2)) us) (fun _ s'=>∃σ' H',Inv X pins σ' H' s'/\Q σ' H') X.xe s
abbrev nB:=V->V->V->Hp->(Hp->Prop)->Prop
def pB (X:Cx) (t:nB):Prop:=
 ∀(pins:vP_) (s:Shared) (σ:St) (H:Hp) (o i v:V) (ov iv u:Value) (Q:Hp->Prop),Inv X pins σ H s->RelV o ov->RelV i iv->RelV v u->t o i v H Q ->
  wpAny (model X.prog X.w) X.A (setItem ov iv u) (fun _ s'=>∃H',Inv X pins σ H' s'/\Q H') X.xe s
def P1 (i:Nat):TG:=fun v σ H Q=>Q (σ.set i (some v)) H
def L9 {i:Nat}{x:Str}(J:X.N.Nodup) (hi:X.N[i]? = some x) (Y:X0 X.env.scope x) (U:X.fn x=true\/X.env.scope.names.lookup x=some .local:=by first | exact .inl rfl | exact .inr rfl | assumption):PG X (.Name x pos) (P1 i):=by
 intro pins s σ H v u Q I r h;exact wpAny_assign_Name (bW I J hi Y r (fun s' I'=>#[_,H,I',h]) U)
def iJ:W5:=fun vs σ H Q=>vs=[]/\Q σ H
def aW (t:TG) (u:W5):W5:=fun vs σ H Q=>∃v r,vs=v::r/\t v σ H fun σ' H'=>u r σ' H' Q
def jd:ah X [] iJ:=by
 intro pins s σ H vs us Q I r h;obtain⟨e,h⟩:=h;subst e;cases r;exact assignInOrder_nil #[σ,H,I,h]
def bn {e:Expr}{es:List Expr}{t:TG}{u:W5}(h1:PG X e t) (h2:ah X es u)
  (hs:(assignEach (e::es) X.env).map (·.2)=assign e X.env::(assignEach es X.env).map (·.2):=by rfl):ah X (e::es) (aW t u):=by
 intro pins s σ H vs us Q I r h;obtain⟨v,vr,U,h⟩:=h;subst U;cases r with
 |cons r Y=>
  rw[hs];refine assignInOrder_cons (l4 (h1 pins s σ H _ _ _ I r h) fun _ s1 ⟨σ1,H1,I1,J⟩=>?_);exact h2 pins s1 σ1 H1 _ _ Q I1 Y J
def iQ (K:vF_) (n:Nat) (t:W5):TG:=fun v σ H Q=>∃a xs,v = .ref a/\SqT K H a xs/\xs.length=n/\t xs σ H Q
def jP {es:List Expr}{k:Nat}{t:W5}{n:Nat}(hc:X.calm=true) (h:ah X es t)
  (hn:(assignEach es X.env).length=n:=by rfl) (U:(assignEach es X.env).findIdx? (·.1)=none:=by rfl):PG X (.Tuple es k pos) (iQ X.K n t):=by
 intro pins s σ H v u Q I r J;obtain⟨a,xs,e1,hq,hl,J⟩:=J;subst e1;cases r;obtain⟨its,Y,ht,hz⟩:=I.tuple hq;refine assign_Tuple_tuple (I.ok.hd hc) ht (by simp[hn,<-hl,Y.length]) U fun h' hx=>?_
 have I1:Inv X pins σ H { s with heap:=h' }:=I.kept (t':=s.toks) fun b o e=>hx b o (Jd (xl e)) e
 exact h pins _ σ H xs _ Q I1 (by simpa using Y) J
def CM (to U:TE) (t:nB):TG:=fun v σ H Q=>to σ H fun o H1=>U σ H1 fun i H2=>t o i v H2 fun J=>Q σ J
def wW {o i:Expr}{to J:TE}{t:nB}(ho:PE X o to) (hi:PE X i J) (hs:pB X t)
  (ha:∀v,assign (.Subscript o i pos) X.env v=(do
   let ov <-holding [v] (eval o X.env)
   let iv <-holding [v,ov] (eval i X.env)
   standAt pos
   holding [v,ov,iv] (setItem ov iv v)
   release [v,ov,iv] []):=by intro _;rfl):PG X (.Subscript o i pos) (CM to J t):=by
 intro pins s σ H v u Q I r h;rw[ha];refine gV (JD (l4 (ho pins s σ H _ I h) fun ov s1 ⟨x,H1,I1,U,Y⟩=>?_));refine gV (JD (l4 (hi pins s1 σ H1 _ I1 Y) fun iv s2 ⟨y,H2,I2,r2,q2⟩=>?_));refine gV (Ku (gV (JD (l4 (hs pins s2 σ H2 x y v ov iv u _ I2 U r2 r q2) fun _ s3 ⟨H3,I3,q3⟩=>?_))));exact wpAny_release #[σ,H3,I3,q3]
def fN (te:TE) (g:TG):TS:=fun D σ H=>te σ H fun x H1=>g x σ H1 D.nx
def uE {tg e:Expr}{te:TE}(he:PE X e te) (Y:PG X tg g) (hs:swapsWithSole [tg] e pos.line X.env=pure false:=by rfl) (hw:swappedStores [tg] e X.env=pure none:=by rfl)
  (h1:(assignEach [tg] X.env).map (·.2)=[assign tg X.env]:=by rfl):PS X (.Assign [tg] e pos) (fN te g):=by
 intro pins s σ H D I h;refine wpAny_Assign_stores (l4 (he pins s σ H _ I h) fun v s1 ⟨x,H1,I1,J,U⟩=>?_) hs hw;rw[h1];exact l4 (Y pins s1 σ H1 x v _ I1 J U) fun _ s2 q=>q
def kr {i:Nat}{x:Str}{e:Expr}{te:TE}{pos':Pos}(Y:X.N.Nodup) (hi:X.N[i]? = some x) (hx:X0 X.env.scope x) (he:PE X e te) (hs:swapsWith e (some (.Name x pos')) pos.line X.env=pure false:=by rfl) (hf:X.fn x=true\/X.env.scope.names.lookup x=some .local:=by first | exact .inl rfl | exact .inr rfl | assumption) :
  PS X (.Assign [.Name x pos'] e pos) (fN te (P1 i)):=by
 intro pins s σ H D I h;refine wpAny_Assign_Name (l4 (he pins s σ H _ I h) fun v s1 ⟨y,H1,I1,J,U⟩=>?_) hs;exact bW I1 Y hi hx J (fun s2 I2=>#[_,H1,I2,U]) hf
def wd (i j:Nat) (ta:TA):TS:=fun D σ H=>ta σ H fun vs H1=>∃v w,vs=[v,w]/\D.nx ((σ.set i (some v)).set j (some w)) H1
def xU {i j:Nat}{x y:Str}{a b:Expr}{ta:TA}{px py pt:Pos}{kt k2 pt2} (hc:X.calm=true) (hN:X.N.Nodup) (hi:X.N[i]? = some x) (hj:X.N[j]? = some y) (U:i≠j)
  (hx:X.env.scope.names.lookup x=some .local) (hy:X.env.scope.names.lookup y=some .local) (ha:PA X [a,b] ta)
  (hw:swappedStores [.Tuple [.Name x px,.Name y py] kt pt] (.Tuple [a,b] k2 pt2) X.env=pure (some [x,y]))
  (hs:swapsWithSole [.Tuple [.Name x px,.Name y py] kt pt] (.Tuple [a,b] k2 pt2) pos.line X.env=pure false:=by rfl) :
  PS X (.Assign [.Tuple [.Name x px,.Name y py] kt pt] (.Tuple [a,b] k2 pt2) pos) (wd i j ta):=by
 intro pins s σ H D I h;rw[exec_Assign_arm];refine gV (Ku ?_);rw[hs];refine gV (iR ?_);rw[iU #[]];refine gV (Tuple_ (l4 (ha _ pins s σ H _ I h) fun us s1 ⟨vs,H1,I1,r1,J⟩=>?_));obtain⟨v,w,e1,J⟩:=J;subst e1;obtain⟨u1,u2,rfl,rv,rw'⟩:∃u1 u2,us=[u1,u2]/\RelV v u1/\RelV w u2:=by
  cases r1 with
  |cons p q=>
   cases q with
   |cons p' q'=>
    cases q';exact#[_,_,rfl,p,p']
 refine JE ?_ (by show 2<=sizeLine;decide);have I2:Inv X pins σ H1 { s1 with heap:=s1.heap.push { cls:=.type "tuple",data:=.seq [u1,u2].toArray } }:=I1.kept (t':=s1.toks) fun b o e=>xu _ e
 rw[hw];refine gV (iR ?_);show wpAny (model X.prog X.w) X.A (do rule "assign.swapped-stores";let items <-unpackItems (.ref s1.heap.objs.size) 2 none;assignInOrder [fun v=>bindName X.env y v,fun v=>bindName X.env x v] items.reverse;pure Flow.next) _ _ _;refine gV (JI (gV (unpackItems_tuple (items:=#v[u1,u2]) (I.ok.hd hc) (IsTup.new s1.heap _) fun h' Y=>?_)));have I3:=I2.kept (h':=h') (t':=s1.toks) fun b o e=>Y b o (Jd (xl e)) e
 show wpAny _ _ (assignInOrder [fun v=>bindName X.env y v,fun v=>bindName X.env x v] [u2,u1] >>= fun _=>pure Flow.next) _ _ _;refine gV (assignInOrder_cons (LQ (bW I3 hN hj (.inl hy) rw' (fun s2 I4=>?_) (.inr hy))));refine assignInOrder_cons (LQ (bW I4 hN hi (.inl hx) rv (fun s3 I5=>assignInOrder_nil (iR ?_)) (.inr hx)));rw[List.set_comm _ _ (IK U)] at I5;exact#[_,H1,I5,J]
def Bl (c:TT) (tb:TS):TS:=fun D σ H=>∃W:Nat->St->Hp->Prop,(∃m,W m σ H)/\∀m σ H,W m σ H ->
 c σ H fun b H1=>if b=true then ∃N:St->Hp->Prop,(∀σ' H',N σ' H'->∃m',m'<m/\W m' σ' H')/\tb { D with nx:=N,ct:=N,bk:=D.nx } σ H1 else D.nx σ H1
def An {c:Expr}(hp:PassesOwn (model X.prog X.w) X.A X.env X.xe) (hc:PT X c tc) (hb:PSs X body tb):PS X (.While c body [] pos) (Bl tc tb):=by
 intro pins s σ H D I h;obtain⟨W,⟨m0,w0⟩,J⟩:=h;refine wpAny_While (codeAny_whileLoop (fun n s'=>∃σ' H',Inv X pins σ' H' s'/\W n σ' H') ?_ m0 #[σ,H,I,w0]);rintro n s1 ⟨σ1,H1,I1,w1⟩;refine Kv hp (l4 (hc pins s1 σ1 H1 _ I1 (J n σ1 H1 w1)) fun b s2 ⟨H2,I2,Y⟩=>?_);cases b with
 |true=>
  obtain⟨N,hN,Y⟩:=Y;rw[iO rfl];refine Kv hp (l4 (hb pins s2 σ1 H2 _ I2 Y) fun f s3 q3=>?_);cases f with
  |next=>
   obtain⟨σ3,U,I3,n3⟩:=q3;obtain⟨m',hm,w3⟩:=hN σ3 U n3;exact#[m',hm,σ3,U,I3,w3]
  |cont=>
   obtain⟨σ3,U,I3,n3⟩:=q3;obtain⟨m',hm,w3⟩:=hN σ3 U n3;exact#[m',hm,σ3,U,I3,w3]
  |brk=>exact q3
  |ret v=>exact q3
 |false=>
  rw[iU IM];exact Kt #[σ1,H2,I2,Y]
structure It where
 go:Nat->Hp->Prop
 yld:Nat->Hp->V->Hp->Prop
 stop:Nat->Hp->Prop
def M7 (X:Cx) (pins:vP_) (H:Hp) (b:Addr):Prop:=
 H b=none/\b≠X.env.locals/\b ∉ X.fs/\(b∈X.ex\/X.s₀.heap.objs.size<=b)/\(∀x c,X.env.cells.lookup x=some c->c≠b)/\∀p∈X.pn++pins,p.1≠b
def Inv.fpOk {b:Addr}(I:Inv X pins σ H s) (J:s.heap.objs.size<=b) (U:H' b=none):M7 X pins H' b:=by
 refine#[U,Jx (IJ I.lt J),I.nofs J,.inr (xr I.sz J),fun x c e z=>?_,fun p Y z=>?_]
 .obtain⟨v,q⟩:=I.cell x c e;exact absurd (IJ q.lt (by rw[z];exact J)) (JB _)
 .exact absurd (IJ (xl (I.pin p Y).1) (by rw[z];exact J)) (JB _)
structure Turn (P:Program) (w:World) (K:vF_) (tg:Expr) (J:It) (fp:vL_) (it:Addr) (tn:Nat->Heap->Prop):Prop where
 mem:it∈fp
 obj:∀i h,tn i h->∀b∈fp,∃o,h.get? b=some o/\∀v,o.data ≠ .cell v
 keep:∀i h h',tn i h->(∀b∈fp,∀o,h.get? b=some o->h'.get? b=some o)->tn i h'
 item:∀(X:Cx),X.prog=P->X.w=w->X.K=K->X.calm=true->∀(i:Nat) (pins:vP_) (s:Shared) (σ:St) (H:Hp) (E:vQ_),Inv X pins σ H s->(∀b∈fp,M7 X pins H b)->tn i s.heap->J.go i H ->
  wpAny (model P w) X.A (pyNext (.ref it)) (fun r s1=>∃u,r=some u /\
   wpAny (model P w) X.A (letOwnedTupleGo tg (.ref it) u) (fun _ s2=>∃x H',Inv X pins σ H' s2/\RelV x u/\J.yld i H x H'/\tn (i+1) s2.heap/\∀b∈fp,H' b=none) E s1) E s
 done:∀(X:Cx),X.prog=P->X.w=w->X.K=K->X.calm=true->∀(i:Nat) (pins:vP_) (s:Shared) (σ:St) (H:Hp) (E:vQ_),Inv X pins σ H s->(∀b∈fp,M7 X pins H b)->tn i s.heap->J.stop i H ->
  wpAny (model P w) X.A (pyNext (.ref it)) (fun r s1=>r=none/\Inv X pins σ H s1) E s
 self:∀(A:Around) (i:Nat) (s:Shared) (Q:vQ_) (E:vQ_),tn i s.heap->Q (.ref it) s->wpAny (model P w) A (pyIter (.ref it)) Q E s
abbrev TI:=St->Hp->(It->Hp->Prop)->Prop
def sZ (X:Cx) (pins:vP_) (σ:St) (tg:Expr) (R:It->Hp->Prop) (U:Value) (s2:Shared):Prop:=
 ∃(it:Addr) (fp:vL_) (tn:Nat->Heap->Prop) (J:It) (H':Hp),U = .ref it/\Inv X pins σ H' s2/\Turn X.prog X.w X.K tg J fp it tn/\tn 0 s2.heap/\(∀b∈fp,M7 X pins H' b)/\R J H'
def PI (X:Cx) (tg iter:Expr) (wi:TI):Prop:=
 ∀(pins:vP_) (s:Shared) (σ:St) (H:Hp) (R:It->Hp->Prop),Inv X pins σ H s->wi σ H R ->
  wpAny (model X.prog X.w) X.A (eval iter X.env) (fun v s1=>wpAny (model X.prog X.w) X.A (pyIter v) (sZ X pins σ tg R) X.xe s1) X.xe s
def mY {M:Model}{it:Addr}{o:Obj}{n:String}{Q:Unit->Shared->Prop}(ho:s.heap.get? it=some o) (hc:o.cls = .type n) (Y:o.data = .fields vs)
    (U:["enumerate", "zip", "dict_itemiterator", "dict_reverseitemiterator", "odict_iterator", "itertools.zip_longest", "itertools.pairwise"].contains n=false) (J:Q () s):wpAny M A (letOwnedTupleGo tg (.ref it) u) Q E s:=by
  unfold letOwnedTupleGo;cases tg <;> first
    | exact iR J
    | (cases u <;> first
        | exact iR J
        | (refine gV (wpAny_load ho ?_)
           rw[hc,Y];show wpAny M A (if (["enumerate", "zip", "dict_itemiterator", "dict_reverseitemiterator", "odict_iterator", "itertools.zip_longest", "itertools.pairwise"].contains n&&vs[0]? == some (rawInt _))=true then _ else _) Q E s;rw[iU (by intro h;rw[U,Bool.false_and] at h;cases h)];exact iR J))
def eW (K:vF_) (a:Addr):It:=
 #[fun i H=>∃xs x,SqL K H a xs/\xs[i]? = some x,fun i H x H'=>H'=H/\∀xs,SqL K H a xs->xs[i]? = some x,fun i H=>∃xs,SqL K H a xs/\xs.length<=i]
def dW (K:vF_) (a:Addr):It:=
 #[fun i H=>∃xs x,SqT K H a xs/\xs[i]? = some x,fun i H x H'=>H'=H/\∀xs,SqT K H a xs->xs[i]? = some x,fun i H=>∃xs,SqT K H a xs/\xs.length<=i]
def aY (lo:Int) (n:Nat):It:=#[fun i _=>i<n,fun i H x H'=>H'=H/\x = .int (lo+i),fun i _=>n<=i]
def Bn {w:World}{K:vF_}(a it:Addr):Turn P w K tg (eW K a) [it] it (fun i h=>h.IsListIter it a i) where
 mem:=by simp
 obj:=fun i h st b J=>by
  have e:b=it:=by simpa using J
  subst e;obtain⟨o,e,c,d⟩:=st;exact#[o,e,fun v z=>by rw[d] at z;cases z]
 keep:=fun i h h' st k=>st.at fun o e=>k it (by simp) o e
 item:=by
  intro X hP hw hK hc i pins s σ H E I Y st hg;subst hP hw hK;obtain⟨xs,x,hq,hx⟩:=hg;obtain⟨its,rv,p,hz⟩:=I.list hq;obtain⟨u,hu,ru⟩:=rv.get hx;obtain⟨f0,f1,f2,f3,f4,f5⟩:=Y it (by simp);refine wpAny_pyNext_list_item st p.isList (x:=u) (by simpa using hu) fun h' U sb=>?_
  have I1:Inv X pins σ H { s with heap:=h' }:=I.turned (t':=s.toks) (fun b o J e=>(sb.2 b J).trans e) f0 f1 f3 f4 f5;obtain⟨o,e,c,d⟩:=id U;exact#[u,rfl,mY (s:={ s with heap:=h' }) e c d #[] #[x,H,I1,ru,#[rfl,fun ys hy=>by rw[I.list_inj hy hq];exact hx],U,fun b J=>(Y b J).1]]
 done:=by
  intro X hP hw hK hc i pins s σ H E I Y st hg;subst hP hw hK;obtain⟨xs,hq,hx⟩:=hg;obtain⟨its,rv,p,hz⟩:=I.list hq;obtain⟨f0,f1,f2,f3,f4,f5⟩:=Y it (by simp);have hl:=rv.length;exact wpAny_pyNext_list_end (I.ok.hd hc) st p.isList (by simp;omega) fun h' eb=>#[rfl,I.turned (t':=s.toks) (fun b o J e=>eb b o J e) f0 f1 f3 f4 f5]
 self:=fun _ _ _ _ _ st h=>wpAny_pyIter_listiter st h
def Fp {w:World}{K:vF_}(a it:Addr):Turn P w K tg (dW K a) [it] it (fun i h=>h.IsTupleIter it a i) where
 mem:=by simp
 obj:=fun i h st b J=>by
  have e:b=it:=by simpa using J
  subst e;obtain⟨o,e,c,d⟩:=st;exact#[o,e,fun v z=>by rw[d] at z;cases z]
 keep:=fun i h h' st k=>st.at fun o e=>k it (by simp) o e
 item:=by
  intro X hP hw hK hc i pins s σ H E I Y st hg;subst hP hw hK;obtain⟨xs,x,hq,hx⟩:=hg;obtain⟨its,rv,p,hz⟩:=I.tuple hq;obtain⟨u,hu,ru⟩:=rv.get hx;obtain⟨f0,f1,f2,f3,f4,f5⟩:=Y it (by simp);refine wpAny_pyNext_tuple_item st (show s.heap.IsTuple a its.toArray from p) (x:=u) (by simpa using hu) fun h' U sb=>?_
  have I1:Inv X pins σ H { s with heap:=h' }:=I.turned (t':=s.toks) (fun b o J e=>(sb.2 b J).trans e) f0 f1 f3 f4 f5;obtain⟨o,e,c,d⟩:=id U;exact#[u,rfl,mY (s:={ s with heap:=h' }) e c d #[] #[x,H,I1,ru,#[rfl,fun ys hy=>by rw[I.tuple_inj hy hq];exact hx],U,fun b J=>(Y b J).1]]
 done:=by
  intro X hP hw hK hc i pins s σ H E I Y st hg;subst hP hw hK;obtain⟨xs,hq,hx⟩:=hg;obtain⟨its,rv,p,hz⟩:=I.tuple hq;obtain⟨f0,f1,f2,f3,f4,f5⟩:=Y it (by simp);have hl:=rv.length;exact wpAny_pyNext_tuple_end (I.ok.hd hc) st (show s.heap.IsTuple a its.toArray from p) (by simp;omega) fun h' eb=>#[rfl,I.turned (t':=s.toks) (fun b o J e=>eb b o J e) f0 f1 f3 f4 f5]
 self:=fun _ _ _ _ _ st h=>wpAny_pyIter_tupleiter st h
def Fa {w:World}{K:vF_}(it:Addr) (lo:Int) (n:Nat):Turn P w K tg (aY lo n) [it] it (fun i h=>IsRangeIter h it (lo+(i:Nat)*1) ((n:Int) - (i:Nat)) 1) where
 mem:=by simp
 obj:=fun i h st b J=>by
  have e:b=it:=by simpa using J
  subst e;exact#[_,st,fun v z=>by
   have z':Data.fields _=Data.cell v:=z;cases z']
 keep:=fun i h h' st k=>k it (by simp) _ st
 item:=by
  intro X hP hw hK hc i pins s σ H E I Y st hg;subst hP hw hK;obtain⟨f0,f1,f2,f3,f4,f5⟩:=Y it (by simp);have W:=Walks.range (prog:=X.prog) (w:=X.w) (I.ok.hd hc) it lo 1 n;refine W.item i s _ _ hg st fun v h' tk hv U kk=>?_
  obtain⟨t,rfl⟩:=hv;have I1:Inv X pins σ H { s with heap:=h',toks:=tk }:=I.turned (fun b o J e=>kk b o (by simpa using J) e) f0 f1 f3 f4 f5;refine#[_,rfl,mY (s:={ s with heap:=h',toks:=tk }) (n := "range_iterator") U rfl rfl #[] #[.int (lo+i),H,I1,#[t,?_],#[rfl,rfl],U,fun b J=>(Y b J).1]];rw[Int.mul_one]
 done:=by
  intro X hP hw hK hc i pins s σ H E I Y st hg;subst hP hw hK;obtain⟨f0,f1,f2,f3,f4,f5⟩:=Y it (by simp);exact wpAny_pyNext_range_end (I.ok.hd hc) st (by have:n<=i:=hg;omega) fun h' eb=>#[rfl,I.turned (t':=s.toks) (fun b o J e=>eb b o J e) f0 f1 f3 f4 f5]
 self:=fun _ _ _ _ _ st h=>wpAny_pyIter_rangeiter st h
def Gj {R:It->Hp->Prop}{lo hi:Int}{t u v:Tok}{J:Nat}(I:Inv X pins σ H s) (h1:-(2 ^ 62)<=lo) (h2:lo<2 ^ 62) (Y:-(2 ^ 62)<=hi) (h4:hi<2 ^ 62)
  (q:R (aY lo (hi - lo).toNat) H):wpAny (model X.prog X.w) X.A (pyIter (.ref s.heap.objs.size)) (sZ X pins σ tg R) E { s with heap:=s.heap.push { cls:=.type "range",data:=.fields #v[.int lo t,.int hi u,.int 1 v] },toks:=J }:=by
 refine wpAny_pyIter_range (IsRange.new ..) (small_one h1 h2 Y h4) ?_;have U:Inv X pins σ H { s with heap:=s.heap.push { cls:=.type "range",data:=.fields #v[.int lo t,.int hi u,.int 1 v] },toks:=J }:=I.kept fun b o e=>xu _ e
 refine#[(s.heap.push { cls:=.type "range",data:=.fields #v[.int lo t,.int hi u,.int 1 v] }).objs.size,[(s.heap.push { cls:=.type "range",data:=.fields #v[.int lo t,.int hi u,.int 1 v] }).objs.size],_,_,H,rfl,
  U.kept (t':=J) fun b o e=>xu _ e,Fa _ lo (hi - lo).toNat,?_,fun b hb=>?_,q]
 .have e1:lo+((0:Nat):Int)*1=lo:=by simp
  have e2:(((hi - lo).toNat:Nat):Int) - ((0:Nat):Int)=Builtin.Range.rangeSize lo hi 1:=by rw[rangeSize_one];split <;> omega
  show IsRangeIter _ _ (lo+((0:Nat):Int)*1) ((((hi - lo).toNat:Nat):Int) - ((0:Nat):Int)) 1;rw[e1,e2];exact Jk _ rfl
 .have e:b=(s.heap.push { cls:=.type "range",data:=.fields #v[.int lo t,.int hi u,.int 1 v] }).objs.size:=by simpa using hb
  subst e;exact U.fpOk (tv _) (U.hok.fresh (tv _))
def HK (ta:TA):TI:=fun σ H R=>ta σ H fun vs H1=>∃j:Int,vs=[.int j] /\ -(2 ^ 62)<=j/\j<2 ^ 62/\R (aY 0 j.toNat) H1
def uw {a:Expr}{ta:TA}{p pos:Pos}(hg:Gl X "range") (Y:X.mg "range" = none) (ha:PA X [a] ta) (hs:starEach [a] X.env=[(false,eval a X.env)]:=by rfl):PI X tg (.Call (.Name "range" p) [a] [] pos) (HK ta):=by
 intro pins s σ H R I h;refine Call_ (aK I hg Y boot_range (KR (l4 (ha pos pins s σ H _ I h) fun us s1 ⟨vs,H1,I1,U,J⟩=>?_) hs rfl));obtain⟨j,e,J,q2,q⟩:=J;subst e;cases U with
 |cons r rr=>
  cases rr;obtain⟨t,rfl⟩:=r;exact call_range_1 (Gj I1 ∅ ∅ J q2 (by simpa using q))
def EM (wi:TI) (g:TG) (tb:TS):TS:=fun D σ H=>wi σ H fun J H1=>∃W:Nat->Nat->St->Hp->Prop,(∃m,W 0 m σ H1)/\∀i m σ H,W i m σ H ->
 (J.stop i H/\D.nx σ H)\/(J.go i H/\∃N:St->Hp->Prop,(∀σ' H',N σ' H'->∃m',m'<m/\W (i+1) m' σ' H')/\∀x H',J.yld i H x H'->g x σ H' fun σ2 H2=>tb { D with nx:=N,ct:=N,bk:=D.nx } σ2 H2)
def eH (fp:vL_) (h:Heap):List (Addr × Obj):=fp.filterMap fun b=>(h.get? b).map fun o=>(b,o)
def eP {b:Addr}{o:Obj}(J:b∈fp) (e:h.get? b=some o):(b,o)∈eH fp h:=List.mem_filterMap.mpr #[b,J,by rw[e];rfl]
def FU {p:Addr × Obj}(J:p∈eH fp h):p.1∈fp/\h.get? p.1=some p.2:=by
 obtain⟨b,U,e⟩:=List.mem_filterMap.mp J;cases q:h.get? b with
 |none=>rw[q] at e;cases e
 |some o=>
  rw[q] at e;have e':(b,o)=p:=Jg e;subst e';exact#[U,q]
def Inv.pinned (I:Inv X pins σ H s) (Y:∀b∈fp,M7 X pins H b) (ho:∀b∈fp,∃o,s.heap.get? b=some o/\∀v,o.data ≠ .cell v):Inv X (pins++eH fp s.heap) σ H s:=
 I.pins_of fun p hp=>(JT.mp hp).elim (fun z=>I.pin p (JJ _ z)) fun z=>by
  obtain⟨J,e⟩:=FU z;obtain⟨U,f1,f2,_⟩:=Y p.1 J;obtain⟨o,e',d⟩:=ho p.1 J;rw[e] at e';cases e';exact#[e,U,f1,f2,d]
def Inv.unpinned {pl:vP_}(I:Inv X (pins++pl) σ H s):Inv X pins σ H s:=I.pins_of fun p J=>I.pin p (JJ _ (MO _ J))
def gX {iter:Expr}{body:List Stmt}{tb:TS}{pos:Pos}(hp:PassesOwn (model X.prog X.w) X.A X.env X.xe) (hc:X.calm=true) (hi:PI X tg iter wi) (hg:PG X tg g) (Y:PSs X body tb)
  (hs:∀x,foldedSetIterable iter X.env x=pure x:=by intro _;rfl):PS X (.For tg iter body [] pos) (EM wi g tb):=by
 intro pins s σ H D I h;refine wpAny_For (l4 (hi pins s σ H _ I h) fun v s1 h1=>l4 h1 fun itv s2 h2=>?_) hs;obtain⟨it,fp,tn,J,H2,e,I2,T,st2,f2,W,⟨m0,w0⟩,turn⟩:=h2;subst e;have stat:∀{H':Hp},(∀b∈fp,H' b=none)->∀b∈fp,M7 X pins H' b:=fun hn b Y=>#[hn b Y,(f2 b Y).2]
 refine codeAny_forLoop_any (fun n s'=>∃i σ' H',Inv X pins σ' H' s'/\tn i s'.heap/\(∀b∈fp,H' b=none)/\W i n σ' H') ?_ m0 #[0,σ,H2,I2,st2,fun b Y=>(f2 b Y).1,w0];rintro n s3 ⟨i,σ3,H3,I3,st3,fr3,w3⟩;rcases turn i n σ3 H3 w3 with ⟨stop,qn⟩ | ⟨go,N,hN,step⟩
 .refine Kv hp (l4 (T.done X rfl rfl rfl hc i pins s3 σ3 H3 X.xe I3 (stat fr3) st3 stop) fun r s4 ⟨hr,I4⟩=>?_);subst hr;exact Kt #[σ3,H3,I4,qn]
 .refine Kv hp (l4 (T.item X rfl rfl rfl hc i pins s3 σ3 H3 X.xe I3 (stat fr3) st3 go) fun r s4 ⟨u,hr,h4⟩=>?_);subst hr;refine Kv hp (l4 h4 fun _ s5 ⟨x,H5,I5,r5,y5,st5,fr5⟩=>?_);have I5':=I5.pinned (stat fr5) (T.obj _ _ st5);refine Kv hp (l4 (hg _ s5 σ3 H5 x u _ I5' r5 (step x H5 y5)) fun _ s6 ⟨σ6,H6,I6,q6⟩=>?_);refine Kv hp (l4 (Y _ s6 σ6 H6 _ I6 q6) fun f s7 q7=>?_);have again:∀{σ7:St}{H7:Hp},Inv X (pins++eH fp s5.heap) σ7 H7 s7->N σ7 H7->∃m,m<n/\∃i σ' H',Inv X pins σ' H' s7/\tn i s7.heap/\(∀b∈fp,H' b=none)/\W i m σ' H':=fun {σ7 H7} U n7=>by
   obtain⟨m',hm,w7⟩:=hN σ7 H7 n7;refine#[m',hm,i+1,σ7,H7,U.unpinned,T.keep _ _ _ st5 fun b Y o e=>(U.pin (b,o) (JJ _ (JJ _ (eP Y e)))).1,fun b Y=>?_,w7];obtain⟨o,e,d⟩:=T.obj _ _ st5 b Y;exact(U.pin (b,o) (JJ _ (JJ _ (eP Y e)))).2.1
  cases f with
  |next=>obtain⟨σ7,H7,U,n7⟩:=q7;exact again U n7
  |cont=>obtain⟨σ7,H7,U,n7⟩:=q7;exact again U n7
  |brk=>obtain⟨σ7,H7,U,q7⟩:=q7;exact#[σ7,H7,U.unpinned,q7]
  |ret v=>obtain⟨x7,σ7,H7,U,r7,q7⟩:=q7;exact#[x7,σ7,H7,U.unpinned,r7,q7]
def Bx {K:vF_}{a:Addr}{xs:List V}{g:TG}{tb:TS}{D:Ends}{H:Hp}(J:Nat->St->Hp->Prop) (h0:J 0 σ H) (Y:∀i σ H,i<=xs.length->J i σ H->SqL K H a xs)
  (hs:∀i x σ H,xs[i]? = some x->J i σ H->g x σ H fun σ2 H2=>tb { D with nx:=J (i+1),ct:=J (i+1),bk:=D.nx } σ2 H2) (hd:∀σ H,J xs.length σ H->D.nx σ H) :
  ∃W:Nat->Nat->St->Hp->Prop,(∃m,W 0 m σ H)/\∀i m σ H,W i m σ H ->
   ((eW K a).stop i H/\D.nx σ H)\/((eW K a).go i H/\∃N:St->Hp->Prop,(∀σ' H',N σ' H'->∃m',m'<m/\W (i+1) m' σ' H')/\∀x H',(eW K a).yld i H x H'->g x σ H' fun σ2 H2=>tb { D with nx:=N,ct:=N,bk:=D.nx } σ2 H2):=by
 refine#[fun i m σ H=>m=xs.length - i/\i<=xs.length/\J i σ H,#[xs.length,by simp,JK _,h0],?_];rintro i m σ H ⟨rfl,hi,p⟩;have q:=Y i σ H hi p;by_cases U:i<xs.length
 .refine .inr #[#[xs,xs[i],q,by simp[U]],J (i+1),fun σ' H' p'=>#[xs.length - (i+1),by omega,rfl,U,p'],fun x H' y=>?_];obtain⟨e,y⟩:=y;subst e;exact hs i x σ _ (y xs q) p
 .have e:i=xs.length:=by omega
  subst e;exact .inl #[#[xs,q,tv _],hd σ H p]
def cq {K:vF_}{a:Addr}{xs:List V}{g:TG}{tb:TS}{D:Ends}{H:Hp}(J:Nat->St->Hp->Prop) (h0:J 0 σ H) (Y:∀i σ H,i<=xs.length->J i σ H->SqT K H a xs)
  (hs:∀i x σ H,xs[i]? = some x->J i σ H->g x σ H fun σ2 H2=>tb { D with nx:=J (i+1),ct:=J (i+1),bk:=D.nx } σ2 H2) (hd:∀σ H,J xs.length σ H->D.nx σ H) :
  ∃W:Nat->Nat->St->Hp->Prop,(∃m,W 0 m σ H)/\∀i m σ H,W i m σ H ->
   ((dW K a).stop i H/\D.nx σ H)\/((dW K a).go i H/\∃N:St->Hp->Prop,(∀σ' H',N σ' H'->∃m',m'<m/\W (i+1) m' σ' H')/\∀x H',(dW K a).yld i H x H'->g x σ H' fun σ2 H2=>tb { D with nx:=N,ct:=N,bk:=D.nx } σ2 H2):=by
 refine#[fun i m σ H=>m=xs.length - i/\i<=xs.length/\J i σ H,#[xs.length,by simp,JK _,h0],?_];rintro i m σ H ⟨rfl,hi,p⟩;have q:=Y i σ H hi p;by_cases U:i<xs.length
 .refine .inr #[#[xs,xs[i],q,by simp[U]],J (i+1),fun σ' H' p'=>#[xs.length - (i+1),by omega,rfl,U,p'],fun x H' y=>?_];obtain⟨e,y⟩:=y;subst e;exact hs i x σ _ (y xs q) p
 .have e:i=xs.length:=by omega
  subst e;exact .inl #[#[xs,q,tv _],hd σ H p]
def wI {lo:Int}{n:Nat}{g:TG}{tb:TS}{D:Ends}{H:Hp}(J:Nat->St->Hp->Prop) (Y:J 0 σ H)
  (hs:∀i σ H,i<n->J i σ H->g (.int (lo+i)) σ H fun σ2 H2=>tb { D with nx:=J (i+1),ct:=J (i+1),bk:=D.nx } σ2 H2) (hd:∀σ H,J n σ H->D.nx σ H) :
  ∃W:Nat->Nat->St->Hp->Prop,(∃m,W 0 m σ H)/\∀i m σ H,W i m σ H ->
   ((aY lo n).stop i H/\D.nx σ H)\/((aY lo n).go i H/\∃N:St->Hp->Prop,(∀σ' H',N σ' H'->∃m',m'<m/\W (i+1) m' σ' H')/\∀x H',(aY lo n).yld i H x H'->g x σ H' fun σ2 H2=>tb { D with nx:=N,ct:=N,bk:=D.nx } σ2 H2):=by
 refine#[fun i m σ H=>m=n - i/\i<=n/\J i σ H,#[n,by simp,JK _,Y],?_];rintro i m σ H ⟨rfl,hi,p⟩;by_cases U:i<n
 .refine .inr #[U,J (i+1),fun σ' H' p'=>#[n - (i+1),by omega,rfl,U,p'],fun x H' y=>?_];obtain⟨e,y⟩:=y;subst e y;exact hs i σ _ U p
 .have e:i=n:=by omega
  subst e;exact .inl #[tv _,hd σ H p]
abbrev R2:=V->V->Hp->VK->Prop
def OpR (X:Cx) (f:Value->Value->Sem Value) (r:R2):Prop:=
 ∀(pins:vP_) (s:Shared) (σ:St) (H:Hp) (x y:V) (v u:Value) (Q:VK),Inv X pins σ H s->RelV x v->RelV y u->r x y H Q ->
  wpAny (model X.prog X.w) X.A (f v u) (EP X pins σ Q) X.xe s
def jC (X:Cx) (f:Value->Sem Value) (r:V->Hp->VK->Prop):Prop:=
 ∀(pins:vP_) (s:Shared) (σ:St) (H:Hp) (x:V) (v:Value) (Q:VK),Inv X pins σ H s->RelV x v->r x H Q ->
  wpAny (model X.prog X.w) X.A (f v) (EP X pins σ Q) X.xe s
def CallR (X:Cx) (f:Value) (r:List V->Hp->VK->Prop):Prop:=
 ∀(pins:vP_) (s:Shared) (σ:St) (H:Hp) (xs:List V) (us:vV_) (Q:VK),Inv X pins σ H s->Vals xs us->r xs H Q ->
  wpAny (model X.prog X.w) X.A (call f us) (EP X pins σ Q) X.xe s
def BG (X:Cx) (r:V->Hp->(Bool->Hp->Prop)->Prop):Prop:=
 ∀(pins:vP_) (s:Shared) (σ:St) (H:Hp) (x:V) (v:Value) (Q:Bool->Hp->Prop),Inv X pins σ H s->RelV x v->r x H Q ->
  wpAny (model X.prog X.w) X.A (truthy v) (TP X pins σ Q) X.xe s
def dj (r:R2) (ta tb:TE):TE:=fun σ H Q=>ta σ H fun x H1=>tb σ H1 fun y H2=>r x y H2 Q
def CJ (r:V->Hp->VK->Prop) (ta:TE):TE:=fun σ H Q=>ta σ H fun x H1=>r x H1 Q
def rI (C:Int->Int->Prop) (g:Int->Int->V):R2:=fun x y H Q=>∃i j,x = .int i/\y = .int j/\C i j/\Q (g i j) H
def T5 (g:Int->Int->V):R2:=fun x y H Q=>∃i j,x = .int i/\y = .int j/\Q (g i j) H
def rU (g:Int->V):V->Hp->VK->Prop:=fun x H Q=>∃i,x = .int i/\Q (g i) H
section
variable {a b c:Expr}{ta tb tc:TE}
def mP (ha:PE X a ta) (hb:PE X b tb) {R:V->V->Hp->Prop}(I:Inv X pins σ H s)
  (h:ta σ H fun x H1=>tb σ H1 fun y H2=>R x y H2) {f:Value->Value->Sem Value}
  (hf:∀v u s2 x y H2,Inv X pins σ H2 s2->RelV x v->RelV y u->R x y H2->wpAny (model X.prog X.w) X.A (f v u) Q X.xe s2) :
  wpAny (model X.prog X.w) X.A (eval a X.env) (fun v s₁=>wpAny (model X.prog X.w) X.A (eval b X.env) (fun u s₂=>wpAny (model X.prog X.w) X.A (f v u) Q X.xe s₂) X.xe s₁) X.xe s:=by
 refine l4 (ha pins s σ H _ I h) fun v s1 ⟨x,H1,Y,J,U⟩=>?_
 refine l4 (hb pins s1 σ H1 _ Y U) fun u s2 ⟨y,H2,I2,r2,q2⟩=>?_
 exact hf v u s2 x y H2 I2 J r2 q2
def uZ {J:Operator}{r:R2}(Y:OpR X (binaryOp J) r) (ha:PE X a ta) (hb:PE X b tb):PE X (.BinOp a J b pos) (dj r ta tb):=by
 intro pins s σ H Q I h;exact wpAny_BinOp (mP ha hb I h fun v u s2 x y H2 I2 rx U q=>Y pins s2 σ H2 x y v u Q I2 rx U q)
def xA {J:UnaryOp}{r:V->Hp->VK->Prop}(ho:jC X (unaryOp J) r) (ha:PE X a ta):PE X (.UnaryOp J a pos) (CJ r ta):=by
 intro pins s σ H Q I h;exact UnaryOp_ (l4 (ha pins s σ H _ I h) fun v s1 ⟨x,H1,I1,U,Y⟩=>ho pins s1 σ H1 x v Q I1 U Y)
def iu {C:Int->Int->Prop}{g:Int->Int->Int}
  (J:∀(i j:Int) (t u:Tok) (s:Shared) (Q:vQ_) (E:vQ_),C i j->Q (.int (g i j) s.toks) { s with toks:=s.toks+1 }->wpAny (model X.prog X.w) X.A (f (.int i t) (.int j u)) Q E s) :
  OpR X f (rI C fun i j=>.int (g i j)):=by
 intro pins s σ H x y v u Q I rx U h;obtain⟨i,j,rfl,rfl,Y,q⟩:=h;obtain⟨t,rfl⟩:=rx;obtain⟨t',rfl⟩:=U;exact J i j t t' s _ _ Y #[.int (g i j),H,I.tok _,#[_,rfl],q]
def pV {g:Int->Int->Int}
  (J:∀(i j:Int) (t u:Tok) (s:Shared) (Q:vQ_) (E:vQ_),Q (.int (g i j) s.toks) { s with toks:=s.toks+1 }->wpAny (model X.prog X.w) X.A (f (.int i t) (.int j u)) Q E s) :
  OpR X f (T5 fun i j=>.int (g i j)):=by
 intro pins s σ H x y v u Q I Y U h;obtain⟨i,j,rfl,rfl,q⟩:=h;obtain⟨t,rfl⟩:=Y;obtain⟨t',rfl⟩:=U;exact J i j t t' s _ _ #[.int (g i j),H,I.tok _,#[_,rfl],q]
def fT {f:Value->Value->Sem Value}{g:Int->Int->Bool}
  (J:∀(i j:Int) (t u:Tok) (s:Shared) (Q:vQ_) (E:vQ_),Q (.bool (g i j)) s->wpAny (model X.prog X.w) X.A (f (.int i t) (.int j u)) Q E s) :
  OpR X f (T5 fun i j=>.bl (g i j)):=by
 intro pins s σ H x y v u Q I Y U h;obtain⟨i,j,rfl,rfl,q⟩:=h;obtain⟨t,rfl⟩:=Y;obtain⟨t',rfl⟩:=U;exact J i j t t' s _ _ #[.bl (g i j),H,I,rfl,q]
def pM (i j:Int):Prop:=0<=j/\j<=1000000/\i.natAbs<2 ^ 64
def op_add:OpR X (binaryOp .Add) (T5 fun i j=>.int (i+j)):=pV fun _ _ _ _ _ _ _ q=>add_int q
def Ag:OpR X (binaryOp .Sub) (T5 fun i j=>.int (i - j)):=pV fun _ _ _ _ _ _ _ q=>sub_int q
def Cb:OpR X (binaryOp .Mod) (rI (fun _ j=>j≠0) fun i j=>.int (i.fmod j)):=iu fun _ _ _ _ _ _ _ J q=>mod_int' J q
def Az:OpR X (binaryOp .Pow) (rI pM fun i j=>.int (i ^ j.toNat)):=iu fun _ _ _ _ _ _ _ J q=>pow_int_small J.1 J.2.1 J.2.2 q
def Fg {g:Int->Int}
  (J:∀(i:Int) (t:Tok) (s:Shared) (Q:vQ_) (E:vQ_),Q (.int (g i) s.toks) { s with toks:=s.toks+1 }->wpAny (model X.prog X.w) X.A (f (.int i t)) Q E s) :
  jC X f (rU fun i=>.int (g i)):=by
 intro pins s σ H x v Q I U h;obtain⟨i,rfl,q⟩:=h;obtain⟨t,rfl⟩:=U;exact J i t s _ _ #[.int (g i),H,I.tok _,#[_,rfl],q]
def Ej:jC X (unaryOp .USub) (rU fun i=>.int (-i)):=Fg fun _ _ _ _ _ q=>neg_int q
end
def vo:V->V->Bool
 |.non,.non=>true | .non,.int _=>true | .int _,.non=>true | .non,.bl _=>true | .bl _,.non=>true | .non,.str _=>true | .str _,.non=>true
 |.int _,.int _=>true | .bl _,.bl _=>true | .str _,.str _=>true | .byt _,.byt _=>true
 |.int _,.str _=>true | .str _,.int _=>true | .bl _,.str _=>true | .str _,.bl _=>true
 |_,_=>false
def ld:R2:=fun x y H Q=>vo x y=true/\Q (.bl (decide (x=y))) H
def kX:R2:=fun x y H Q=>vo x y=true/\Q (.bl (!decide (x=y))) H
def ub {i j:Int}:decide (V.int i=V.int j)=(i == j):=by
 rw[KS];simp
def pH {i j:Bool}:decide (V.bl i=V.bl j)=(i == j):=by
 rw[KS];simp
def oB {i j:Str}:decide (V.str i=V.str j)=(i == j):=by
 rw[KS];simp
def tu {i j:Array UInt8}:decide (V.byt i=V.byt j)=(i.toList == j.toList):=by
 rw[KS];cases i;cases j;simp
section
variable {a b c:Expr}{ta tb tc:TE}
def B9 {Q:VK}{k J:Bool}(I:Inv X pins σ H s) (q:Q (.bl k) H) (e:k=J):EP X pins σ Q (.bool J) s:=by
 subst e;exact#[.bl k,H,I,rfl,q]
def op_eq:OpR X (compareOp .Eq) ld:=by
 intro pins s σ H x y v u Q I Y J h;obtain⟨U,q⟩:=h;cases x with
 |non=>
  cases Y;cases y with
  |non=>cases J;exact PySem.EqNone.eq_none_none (B9 I q (by simp))
  |bl j=>cases J;exact PySem.EqNone.eq_none_bool (B9 I q (by simp))
  |int j=>obtain⟨t',rfl⟩:=J;exact PySem.EqNone.eq_none_int (B9 I q (by simp))
  |str j=>obtain⟨t',rfl⟩:=J;exact PySem.EqNone.eq_none_str (B9 I q (by simp))
  |_=>exact absurd (show false=true from U) IM
 |bl i=>
  cases Y;cases y with
  |non=>cases J;exact PySem.EqNone.eq_bool_none (B9 I q (by simp))
  |bl j=>cases J;exact eq_bool (B9 I q pH)
  |str j=>obtain⟨t',rfl⟩:=J;exact PySem.EqMixed.eq_bool_str (B9 I q (by simp))
  |_=>exact absurd (show false=true from U) IM
 |int i=>
  obtain⟨t,rfl⟩:=Y;cases y with
  |non=>cases J;exact PySem.EqNone.eq_int_none (B9 I q (by simp))
  |int j=>obtain⟨t',rfl⟩:=J;exact eq_int (B9 I q ub)
  |str j=>obtain⟨t',rfl⟩:=J;exact PySem.EqMixed.eq_int_str (B9 I q (by simp))
  |_=>exact absurd (show false=true from U) IM
 |str i=>
  obtain⟨t,rfl⟩:=Y;cases y with
  |non=>cases J;exact PySem.EqNone.eq_str_none (B9 I q (by simp))
  |bl j=>cases J;exact PySem.EqMixed.eq_str_bool (B9 I q (by simp))
  |int j=>obtain⟨t',rfl⟩:=J;exact PySem.EqMixed.eq_str_int (B9 I q (by simp))
  |str j=>obtain⟨t',rfl⟩:=J;exact eq_str (B9 I q oB)
  |_=>exact absurd (show false=true from U) IM
 |byt i=>
  obtain⟨t,rfl⟩:=Y;cases y with
  |byt j=>obtain⟨t',rfl⟩:=J;exact PySem.W.eq_bytes (B9 I q tu)
  |_=>exact absurd (show false=true from U) IM
 |_=>cases y <;> exact absurd (show false=true from U) IM
def op_ne:OpR X (compareOp .NotEq) kX:=by
 intro pins s σ H x y v u Q I Y J h;obtain⟨U,q⟩:=h;cases x with
 |non=>
  cases Y;cases y with
  |non=>cases J;exact PySem.EqNone.ne_none_none (B9 I q (by simp))
  |bl j=>cases J;exact PySem.EqNone.ne_none_bool (B9 I q (by simp))
  |int j=>obtain⟨t',rfl⟩:=J;exact PySem.EqNone.ne_none_int (B9 I q (by simp))
  |str j=>obtain⟨t',rfl⟩:=J;exact PySem.EqNone.ne_none_str (B9 I q (by simp))
  |_=>exact absurd (show false=true from U) IM
 |bl i=>
  cases Y;cases y with
  |non=>cases J;exact PySem.EqNone.ne_bool_none (B9 I q (by simp))
  |bl j=>cases J;exact ne_bool (B9 I q (congrArg not pH))
  |str j=>obtain⟨t',rfl⟩:=J;exact PySem.EqMixed.ne_bool_str (B9 I q (by simp))
  |_=>exact absurd (show false=true from U) IM
 |int i=>
  obtain⟨t,rfl⟩:=Y;cases y with
  |non=>cases J;exact PySem.EqNone.ne_int_none (B9 I q (by simp))
  |int j=>obtain⟨t',rfl⟩:=J;exact ne_int (B9 I q (congrArg not ub))
  |str j=>obtain⟨t',rfl⟩:=J;exact PySem.EqMixed.ne_int_str (B9 I q (by simp))
  |_=>exact absurd (show false=true from U) IM
 |str i=>
  obtain⟨t,rfl⟩:=Y;cases y with
  |non=>cases J;exact PySem.EqNone.ne_str_none (B9 I q (by simp))
  |bl j=>cases J;exact PySem.EqMixed.ne_str_bool (B9 I q (by simp))
  |int j=>obtain⟨t',rfl⟩:=J;exact PySem.EqMixed.ne_str_int (B9 I q (by simp))
  |str j=>obtain⟨t',rfl⟩:=J;exact ne_str (B9 I q (congrArg not oB))
  |_=>exact absurd (show false=true from U) IM
 |byt i=>
  obtain⟨t,rfl⟩:=Y;cases y with
  |byt j=>obtain⟨t',rfl⟩:=J;exact PySem.W.ne_bytes (B9 I q (congrArg not tu))
  |_=>exact absurd (show false=true from U) IM
 |_=>cases y <;> exact absurd (show false=true from U) IM
def DY:OpR X (compareOp .Lt) (T5 fun i j=>.bl (decide (i<j))):=fT fun _ _ _ _ _ _ _ q=>lt_int q
def DW:OpR X (compareOp .LtE) (T5 fun i j=>.bl (decide (i<=j))):=fT fun _ _ _ _ _ _ _ q=>le_int q
def Fb:OpR X (compareOp .Gt) (T5 fun i j=>.bl (decide (j<i))):=fT fun _ _ _ _ _ _ _ q=>gt_int q
def Ct:OpR X (compareOp .GtE) (T5 fun i j=>.bl (decide (j<=i))):=fT fun _ _ _ _ _ _ _ q=>ge_int q
def yg:OpR X (compareOp .Is) (fun x y H Q=>y = .non/\Q (.bl (decide (x = .non))) H):=by
 intro pins s σ H x y v u Q I J U h;obtain⟨rfl,q⟩:=h;cases U;refine is_none_gen (B9 I q ?_);cases x <;> first
  | (cases J;rfl)
  | (obtain⟨t,rfl⟩:=J;rfl)
def OpR.or {r Y:R2}(h:OpR X f r) (h':OpR X f Y):OpR X f (fun x y H Q=>r x y H Q\/Y x y H Q):=by
 intro pins s σ H x y v u Q I U J q;rcases q with q | q
 .exact h pins s σ H x y v u Q I U J q
 .exact h' pins s σ H x y v u Q I U J q
def eK (b:Expr) {J:CmpOp}(h:J ≠ .In:=by decide) (h2:J ≠ .NotIn:=by decide):behindInMarks J b=false:=by
 have U:(J == CmpOp.In)=false:=by cases J <;> first | rfl | exact absurd rfl h
 have Y:(J == CmpOp.NotIn)=false:=by cases J <;> first | rfl | exact absurd rfl h2
 cases b <;> simp[behindInMarks,U,Y]
def Ar {J:CmpOp}{r:R2}(ho:OpR X (compareOp J) r) (ha:PE X a ta) (hb:PE X b tb) (Y:behindInMarks J b=false):PE X (.Compare a [J] [b] pos) (dj r ta tb):=by
 intro pins s σ H Q I h;exact wpAny_Compare1 (mP ha hb I h fun v u s2 x y H2 I2 rx U q=>ho pins s2 σ H2 x y v u Q I2 rx U q) Y
def FW (t:TE):TT:=fun σ H Q=>t σ H fun x H'=>∃k,x = .bl k/\Q k H'
def yz {J:CmpOp}{r:R2}(ho:OpR X (compareOp J) r) (ha:PE X a ta) (hb:PE X b tb) (Y:behindInMarks J b=false):PT X (.Compare a [J] [b] pos) (FW (dj r ta tb)):=by
 intro pins s σ H Q I h;refine wpAny_isTrue_Compare1 (l4 (ha pins s σ H _ I h) fun v s1 ⟨x,H1,I1,U,q1⟩=>l4 (hb pins s1 σ H1 _ I1 q1) fun u s2 ⟨y,H2,I2,r2,q2⟩=>
  l4 (ho pins s2 σ H2 x y v u _ I2 U r2 q2) fun c s3 ⟨z,H3,I3,r3,k,e,q3⟩=>?_) Y
 subst e;cases r3;exact LO #[H3,I3,q3]
def nY (K:vF_) (x:V) (H:Hp) (k:Bool):Prop:=
 match x with
 |.non=>k=false
 |.bl b=>k=b
 |.int i=>k=(i != 0)
 |.str y=>y.length<=sizeLine/\k=((y.length:Int) != 0)
 |.byt y=>y.size<=sizeLine/\k=((y.size:Int) != 0)
 |.ref p=>(∃xs,SqL K H p xs/\k = !xs.isEmpty)\/(∃xs,SqT K H p xs/\k = !xs.isEmpty)\/∃kvs,H p=some (.dK kvs)/\k = !kvs.isEmpty
 |_=>False
def yW {κ:Type}{J:List (κ × V)}{vs:List (κ × Value)}(r:KV J vs):(!vs.isEmpty) = !J.isEmpty:=by
 cases r <;> rfl
def uC (r:Vals xs its):(!its.toArray.isEmpty) = !xs.isEmpty:=by
 cases r <;> simp
def cZ:(sizeLine:Nat)<2 ^ 63:=by rw[Kg];decide
def GB:BG X (fun x H Q=>∃k,nY X.K x H k/\Q k H):=by
 intro pins s σ H x v Q I Y h;obtain⟨k,e,q⟩:=h;have hl:=cZ;have hs:sizeLine=16777216:=Kg;cases x with
 |non=>
  cases Y;have e':k=false:=e;subst e';exact truthy_none #[H,I,q]
 |bl b=>
  cases Y;have e':k=b:=e;subst e';exact LO #[H,I,q]
 |int i=>
  obtain⟨t,rfl⟩:=Y;have e':k=(i != 0):=e;subst e';exact PySem.P.truthy_int #[H,I,q]
 |str y=>
  obtain⟨t,rfl⟩:=Y;obtain⟨hy,e'⟩:y.length<=sizeLine/\k=((y.length:Int) != 0):=e;subst e';exact PySem.P.truthy_str ∅ #[H,I.tok _,q]
 |byt y=>
  obtain⟨t,rfl⟩:=Y;obtain⟨hy,e'⟩:y.size<=sizeLine/\k=((y.size:Int) != 0):=e;subst e';exact PySem.W.truthy_bytes ∅ #[H,I.tok _,q]
 |ref p=>
  cases Y;have e':(∃xs,SqL X.K H p xs/\k = !xs.isEmpty)\/(∃xs,SqT X.K H p xs/\k = !xs.isEmpty)\/∃J,H p=some (.dK J)/\k = !J.isEmpty:=e;rcases e' with ⟨xs,hx,e'⟩ | ⟨xs,hx,e'⟩ | ⟨J,hx,e'⟩
  .subst e';obtain⟨its,r,pl,hz⟩:=I.list hx;have U:=r.length;exact wpAny_truthy_list pl.isList (by simp only[IU];omega) #[H,I.tok _,by rw[uC r];exact q]
  .subst e';obtain⟨its,r,pl,hz⟩:=I.tuple hx;have U:=r.length;exact truthy_tuple pl (by simp only[IU];omega) #[H,I.tok _,by rw[uC r];exact q]
  .subst e';obtain⟨hz,hS,vs,r,m⟩:J.length<=sizeLine/\(p == sysModules)=false/\∃vs,KV J vs/\s.heap.DictOf (mD X.prog X.w) p vs:=I.hok p _ hx;have U:J.length=vs.length:=Paired.length r;exact wpAny_truthy_dict hS m ∅ #[H,I.tok _,by rw[yW r];exact q]
 |_=>exact(show False from e).elim
def DC (ha:PE X a ta) (Y:∀whole,isTrue a X.env whole=(do let v <-whole;standAt a.pos;holding [v] (truthy v))) :
  PT X a (fun σ H Q=>ta σ H fun x H'=>∃k,nY X.K x H' k/\Q k H'):=by
 intro pins s σ H Q I h;exact isTrue_plain (l4 (ha pins s σ H _ I h) fun v s1 ⟨x,H1,I1,J,U⟩=>GB pins s1 σ H1 x v Q I1 J U) (Y _)
def CN:OpR X (binaryOp .Add) (fun x y H Q=>∃i j,x = .str i/\y = .str j/\i.length+j.length<=sizeLine/\Q (.str (i++j)) H):=by
 intro pins s σ H x y v u Q I U J h;obtain⟨i,j,rfl,rfl,Y,q⟩:=h;obtain⟨t,rfl⟩:=U;obtain⟨t',rfl⟩:=J;exact add_str (fun t' tk=>#[.str (i++j),H,I.tok _,#[_,rfl],q]) Y
def aV {x:V}(r:Vals [x] us):∃u,us=[u]/\RelV x u:=by
 cases r with
 |cons J U=>cases U;exact#[_,rfl,J]
def mx {x y:V}(r:Vals [x,y] us):∃u w',us=[u,w']/\RelV x u/\RelV y w':=by
 cases r with
 |cons J Y=>
  cases Y with
  |cons r3 U=>cases U;exact#[_,_,rfl,J,r3]
def Ch:CallR X (.builtin "abs") (fun xs H Q=>∃i,xs=[.int i]/\Q (.int (if i<0 then -i else i)) H):=by
 intro pins s σ H xs us Q I r h;obtain⟨i,rfl,q⟩:=h;obtain⟨u,rfl,t,rfl⟩:=aV r;exact call_abs_int fun u J=>#[.int (if i<0 then -i else i),H,I.tok _,#[_,rfl],q]
def Ia:CallR X (.type "int") (fun xs H Q=>(∃i,xs=[.int i]/\Q (.int i) H)\/∃k,xs=[.bl k]/\Q (.int (if k then 1 else 0)) H):=by
 intro pins s σ H xs us Q I r h;rcases h with ⟨i,rfl,q⟩ | ⟨k,rfl,q⟩
 .obtain⟨u,rfl,t,rfl⟩:=aV r;exact call_int_int #[.int i,H,I,#[_,rfl],q]
 .obtain⟨u,rfl,J⟩:=aV r;cases J;exact call_int_bool #[.int (if k then 1 else 0),H,I.tok _,#[_,rfl],q]
end
section
variable {fs:List (Str × V)}{f:Str}{v:V}
def wP {w:World}{f:Str}(J:attributeBase e f env (eval e env)=eval e env)
  (h:wpAny (model prog w) A (eval e env) (fun o s₁=>wpAny (model prog w) A (getAttr o f true) Q E s₁) E s):wpAny (model prog w) A (eval (.Attribute e f pos) env) Q E s:=
 Attribute_any_ h (by rw[arm_eval_Attribute,J])
end
structure Room (k:Nat) (A:Around):Prop where
 hd:A.handled=none
 dp:A.depth+3*k+5<recursionLimit
 un:A.units+16*k+200<cLine
 gd:A.guards=some []
def Room.mono {k:Nat}(r:Room k A) (h:j<=k):Room j A:=#[r.hd,by have:=r.dp;omega,by have:=r.un;omega,r.gd]
theorem Room.deeper {k:Nat}(r:Room (k+1) A) (env:Env):Room k (A.deeper env):=
 #[r.hd,by have:=r.dp;show A.depth+1+3*k+5<_;omega,by have:=r.un;show A.units+3+16*k+200<_;omega,r.gd]
def Fw :(A.under (.builtin "type.__call__" #[.ref C::us,kw])).depth=A.depth+1:=by
 first | rfl | simp[Around.under,Code.weight,Code.isCreation,Code.isGuard,Code.isCaller,Code.frames,Code.isFrame,guardIds]
def DJ :(A.under (.builtin "type.__call__" #[.ref C::us,kw])).units=A.units+1:=by
 first | rfl | simp[Around.under,Code.cUnits,Code.frames,Code.isFrame]
def Room.make {k:Nat}(r:Room (k+1) A) (C:Addr) (us:vV_) (kw:List (Str × Value)):Room k (A.under (.builtin "type.__call__" #[.ref C::us,kw])):=
 #[r.hd,by have:=r.dp;rw[Fw];omega,by have:=r.un;rw[DJ];omega,by have:=r.gd;simp[Around.under,Code.guards,Code.isGuard,guardIds,pushGuards,this]]
theorem Room.depth {k:Nat}(r:Room k A):A.depth<recursionLimit:=by have:=r.dp;omega
def uq:TA:=fun _ H Q=>Q [] H
def nN (ta:TE) (J:TA):TA:=fun σ H Q=>ta σ H fun x H1=>J σ H1 fun xs H2=>Q (x::xs) H2
section
variable {t:TA}
def ag:PA X [] uq:=fun _ _ _ _ H Q I h=>Calls.spliced_nil #[[],H,I,.nil,h]
def O9 (ha:PE X e te) (hr:PA X es t) (hs:starEach (e::es) X.env=(false,eval e X.env)::starEach es X.env:=by rfl):PA X (e::es) (nN te t):=by
 intro pos pins s σ H Q I h;rw[hs];show wpAny _ _ (spliced ((false,eval e X.env)::backTo pos (starEach es X.env))) _ _ s;refine Calls.spliced_cons (l4 (ha pins s σ H _ I h) fun u s1 ⟨x,H1,I1,J,U⟩=>?_);exact l4 (hr pos pins s1 σ H1 _ I1 U) fun us s2 ⟨xs,H2,I2,Y,q2⟩=>#[x::xs,H2,I2,.cons J Y,q2]
def wx (t:TA):TE:=fun σ H Q=>t σ H fun xs H1=>xs.length<=sizeLine/\∀p,H1 p=none->Q (.ref p) (i6 H1 p (.tup xs))
def CC (t:TA):TE:=fun σ H Q=>t σ H fun xs H1=>xs.length<=sizeLine/\∀p,H1 p=none->Q (.ref p) (i6 H1 p (.lst xs))
def oP {x1} (h:PA X es t):PE X (.Tuple es x1 pos) (wx t):=by
 intro pins s σ H Q I U;refine wpAny_Tuple_spliced (l4 (h pos pins s σ H _ I U) fun us s1 ⟨xs,H1,J,r,z,q⟩=>#[by rw[<-r.length];exact z,?_]);have Y:H1 s1.heap.objs.size=none:=J.hok.fresh (tv _);refine#[.ref s1.heap.objs.size,i6 H1 s1.heap.objs.size (.tup xs),J.laid (t':=s1.toks) (fun b u e=>xu _ e) (tv _) ?_,rfl,q _ Y];exact#[z,us,r,#[_,Jk _ rfl,rfl,_,rfl]]
def tN (h:PA X es t):PE X (.List es pos) (CC t):=by
 intro pins s σ H Q I U;refine wpAny_List_spliced (l4 (h pos pins s σ H _ I U) fun us s1 ⟨xs,H1,J,r,z,q⟩=>#[by rw[<-r.length];exact z,?_]);have Y:H1 s1.heap.objs.size=none:=J.hok.fresh (tv _);refine#[.ref s1.heap.objs.size,i6 H1 s1.heap.objs.size (.lst xs),J.laid (t':=s1.toks) (fun b u e=>xu _ e) (tv _) ?_,rfl,q _ Y];exact#[z,us,0,r,Jk _ rfl]
end
abbrev Sp:=List V->Hp->VK->XK->Prop
variable {sp:Sp}
abbrev R4:=List Env->Hp->Shared->XK->Value->Shared->Prop
variable {CX:R4}
structure Env0 (P:Program) (w:World) (K:vF_) (mg:vG_) (base:Heap) (A:Around) (outer:List Env) (s:Shared) (H:Hp):Prop where
 frames:A.frames=some outer
 mod:Mod K mg base
 bs:∀b o,base.get? b=some o->s.heap.get? b=some o/\H b=none
 bsz:base.objs.size<=s.heap.objs.size
 funs:s.heap.FunFrames base outer
 frf:∀b∈C4 outer,H b=none
 hok:HOk P w H s.heap
 bare:AllBare s.gens
def CE (outer:List Env) (P:Program) (w:World) (H:Hp) (s:Shared) (Q:VK) (u:Value) (s':Shared):Prop:=
 ∃v H',s'.os=s.os/\AllBare s'.gens/\Un (C4 outer) [] H H' s.heap s'.heap/\HOk P w H' s'.heap/\RelV v u/\Q v H'
def CR (CX:R4) (outer:List Env) (P:Program) (w:World) (H:Hp) (s:Shared) (Q:VK) (E:XK) (r:Result) (s':Shared):Prop:=
 match r with
 |.ok (.ret u)=>CE outer P w H s Q u s'
 |.ok _=>False
 |.error e=>CX outer H s E e s'
structure FnOk (P:Program) (w:World) (K:vF_) (mg:vG_) (base:Heap) (CX:R4) (k:Nat) (f:Addr) (fd:FuncData) (ps:List Str) (sp:Sp):Prop where
 len:∀vs H Q E,sp vs H Q E->vs.length=ps.length
 run:∀(A:Around) (outer:List Env) (s:Shared) (H:Hp) (args:Args) (us:vV_) (vs:List V) (Q:VK) (E:XK),Room k A->Env0 P w K mg base A outer s H->BindsTo s fd args (ps.zip us)->Vals vs us->sp vs H Q E ->
  codeAny (model P w) A (.call (.ref f) args) (CR CX outer P w H s Q E) s
def Inv.env0 (I:Inv X pins σ H s):Env0 X.prog X.w X.K X.mg X.base X.A X.stack s H:=
 #[I.ok.frames,I.ok.mod,I.bs,xr I.ok.bsz I.sz,I.stack,I.stkFree,I.hok,I.bare]
def Inv.after {Q:VK}(I:Inv X pins σ H s) (h:CE X.stack X.prog X.w H s Q u s'):EP X pins σ Q u s':=by
 obtain⟨v,H',os,J,un,Y,r,q⟩:=h;obtain⟨hh,g,d,t,U⟩:=s';obtain rfl:U=s.os:=os;exact#[v,H',I.call (h':=hh) (g':=g) (d':=d) (t':=t) (ch:=[]) un Y J (fun b z=>absurd z (by simp)),r,q]
def kE (sp:Sp) (dvs:List V) (E:XK) (t:TA):TE:=fun σ H Q=>t σ H fun vs H1=>sp (vs++dvs) H1 Q E
def Binds (K:vF_) (fd:FuncData) (ps:List Str) (ds:vV_):Prop:=
 ∀(s:Shared) (us:vV_),K.In s.heap->(us++ds).length=ps.length->BindsTo s fd #[us,[]] (ps.zip (us++ds))
def Binds.all {K:vF_}(h:∀us:List Value,us.length=ps.length->bindArgs fd #[us,[]]=pure (ps.zip us)):Binds K fd ps []:=fun s us _ J=>by
 rw[Ju] at J ⊢;exact .of_eq (h us J)
def mT (CX:R4) (X:Cx) (E:XK):Prop:=∀(pins:vP_) (σ:St) (H:Hp) (s:Shared) (e:Value) (s':Shared),Inv X pins σ H s->CX X.stack H s E e s'->X.xe e s'
section
variable {k:Nat}{f:Addr}{dvs:List V}{ds:vV_}{E:XK}{m:Str}{p apos:Pos}{o:Expr}{ta:TE}{t:TA}
def FV {Q:VK}{vs:List V}(F:FnOk X.prog X.w X.K X.mg X.base CX k f fd ps sp) (Y:Room k X.A) (hb:Binds X.K fd ps ds) (hd:Vals dvs ds) (hx:mT CX X E)
  (I:Inv X pins σ H s) (r:Vals vs us) (h:sp (vs++dvs) H Q E):wpAny (model X.prog X.w) X.A (call (.ref f) us) (EP X pins σ Q) X.xe s:=by
 have U:Vals (vs++dvs) (us++ds):=r.append hd;have hl:(us++ds).length=ps.length:=by rw[<-U.length];exact F.len _ _ _ _ h
 refine KU (Ls (F.run X.A X.stack s H #[us,[]] (us++ds) (vs++dvs) Q E Y I.env0 (hb s us I.kIn hl) U h) fun r s' J=>?_);cases r with
 |error e=>exact hx pins σ H s e s' I J
 |ok fl=>
  cases fl with
  |ret u=>exact I.after J
  |next=>exact False.elim J
  |brk=>exact False.elim J
  |cont=>exact False.elim J
def qz (F:FnOk X.prog X.w X.K X.mg X.base CX k f fd ps sp) (hr:Room k X.A) (hg:Gl X x) (hm:X.mg x=some (.ref f)) (hk:PySem.W.keepIn X.K (.ref f)=true) (hb:Binds X.K fd ps ds) (hd:Vals dvs ds) (hx:mT CX X E)
  (ha:PA X (e::es) t) (U:(x == ("__debug__" : Str))=false:=by decide) (he:starEach (e::es) X.env=(false,eval e X.env)::starEach es X.env:=by rfl) (J:(backTo pos (starEach es X.env)).any (·.1)=false:=by rfl) :
  PE X (.Call (.Name x p) (e::es) [] pos) (kE sp dvs E t):=by
 intro pins s σ H Q I h;refine Kh (eE I hg hm ?_ U);refine MP (h₀:=X.base) I.ok.mod.kin hk (l4 (ha pos pins s σ H _ I h) fun us s1 ⟨vs,H1,Y,r,q⟩=>#[Y.kIn,?_]) he J;exact FV F hr hb hd hx Y r q
end
structure FnScope (N P:List Str) (sc:Scope):Prop where
 kind:sc.kind = .function
 co:sc.isCoroutine=false
 gen:sc.isGenerator=false
 nd:N.Nodup
 pre:N.take P.length=P
 par:∀x∈P,sc.names.lookup x=some .local\/sc.names.lookup x=some .cell
 nofree:∀y∈sc.names,y.2 ≠ .free
theorem uV {J:Str->Option NameKind}:∀{binds:List (Str × Value)}{m:vG_},(∀v,(x,v) ∉ binds)->bindL J binds m x=m x
 |[],_,_=>rfl
 |(n,v)::r,m,h=>by
  unfold bindL;rw[uV fun w U=>h w (IT _ U)];split
  .have:x≠n:=by rintro rfl;exact h v IY
   simp[this]
  .rfl
theorem so {J:Str->Option NameKind}:∀{binds:List (Str × Value)}{m:vG_},(∀v,(x,v) ∉ binds)->bindC J binds m x=m x
 |[],_,_=>rfl
 |(n,v)::r,m,h=>by
  unfold bindC;rw[so fun w U=>h w (IT _ U)];split
  .rfl
  .have:x≠n:=by rintro rfl;exact h v IY
   simp[this]
theorem aX {J:Str->Option NameKind}{v:Value}:∀{P:List Str}{vs:vV_}{i:Nat}{m:vG_},P.Nodup->P[i]? = some x->vs[i]? = some v->J x=some .local ->
  bindL J (P.zip vs) m x=some v
 |[],_,_,_,_,h,_,_=>by simp at h
 |_::_,[],_,_,_,_,h,_=>by simp at h
 |p::P,w::vs,0,m,nd,h1,h2,hk=>by
  simp at h1 h2;subst h1;subst h2;show bindL J ((p,w)::P.zip vs) m p=_;unfold bindL;rw[uV fun v U=>(Jv.mp nd).1 (Kw U).1,iO hk];simp
 |p::P,w::vs,i+1,m,nd,h1,h2,hk=>by
  show bindL J ((p,w)::P.zip vs) m x=_;unfold bindL;exact aX (i:=i) (Jv.mp nd).2 (by simpa using h1) (by simpa using h2) hk
theorem oz {J:Str->Option NameKind}{v:Value}:∀{P:List Str}{vs:vV_}{i:Nat}{m:vG_},P.Nodup->P[i]? = some x->vs[i]? = some v->J x≠some .local ->
  bindC J (P.zip vs) m x=some v
 |[],_,_,_,_,h,_,_=>by simp at h
 |_::_,[],_,_,_,_,h,_=>by simp at h
 |p::P,w::vs,0,m,nd,h1,h2,hk=>by
  simp at h1 h2;subst h1;subst h2;show bindC J ((p,w)::P.zip vs) m p=_;unfold bindC;rw[so fun v U=>(Jv.mp nd).1 (Kw U).1,iU hk];simp
 |p::P,w::vs,i+1,m,nd,h1,h2,hk=>by
  show bindC J ((p,w)::P.zip vs) m x=_;unfold bindC;exact oz (i:=i) (Jv.mp nd).2 (by simpa using h1) (by simpa using h2) hk
def start (N:List Str) (vs:List V):St:=vs.map some++List.replicate (N.length - vs.length) none
def N4 (CX:R4) (P:Program) (w:World) (K:vF_) (mg:vG_) (base:Heap) (N:List Str) (qual:Str) (scope:Scope) (f:Addr) (cd:Value) (A:Around) (outer:List Env) (s:Shared) (H:Hp) (E:XK):Cx where
 prog:=P
 w:=w
 K:=K
 mg:=mg
 base:=base
 A:=A.deeper (envOfC qual scope s.heap.objs.size f cd)
 N:=N
 s₀:=s
 H₀:=H
 env:=envOfC qual scope s.heap.objs.size f cd
 outer:=outer
 stack:=envOfC qual scope s.heap.objs.size f cd::outer
 ex:=[]
 calm:=true
 fn:=fun _=>true
 pn:=[]
 xe:=fun e s'=>wpAny (model P w) (A.deeper (envOfC qual scope s.heap.objs.size f cd)) (leaving (envOfC qual scope s.heap.objs.size f cd) e) (fun _ J=>CX outer H s E e J) (fun e' J=>CX outer H s E e' J) s'
def oh {J:Scope}(h:J.names.lookup x=some .cell):∃c,(cellsFrom n J.names []).lookup x=some c:=by
 have q:=NT J.names n [] (.inl h);exact NU.mp q
def zS {w:World}{K:vF_}{N:List Str}{cd:Value}{s1:Shared}{E:XK}{vs:List V}
  (S:FnScope N ps scope) (hd:A.handled=none) (J:Env0 P w K mg base A outer s H) (hl:vs.length=ps.length) (r:Vals vs us)
  (x:InCallC s s.heap.objs.size (bindL (envOfC qual scope s.heap.objs.size f cd).kindOf (ps.zip us) fun _=>none) (cellsFrom (s.heap.objs.size+1) scope.names []) (bindC (envOfC qual scope s.heap.objs.size f cd).kindOf (ps.zip us) fun _=>none) s1) :
  Inv (N4 CX P w K mg base N qual scope f cd A outer s H E) [] (start N vs) H s1:=by
 have hpl:ps.length<=N.length:=by have:=congrArg List.length S.pre;rw[Kb] at this;omega
 obtain⟨h1,tk,rfl,hk⟩:=x.done;have U:∀b:Addr,b ∉ (N4 CX P w K mg base N qual scope f cd A outer s H E).ex:=fun b z=>absurd (show b∈([]:vL_) from z) (by simp)
 refine#[#[J.mod,S.kind,rfl,rfl,tv _,fun y z c h1 h2=>?_,fun y Y=>?_,fun y c _ h=>?_,fun _=>hd,Around.frames_deeper J.frames,.inr #[rfl,rfl],fun b z=>absurd z (U b),J.bs,J.bsz,fun b _ _=>U b,fun b z=>absurd z (U b),J.funs,J.frf],
  rfl,J.bare,Un.kept hk,#[_,x.toInCall.ns,fun i y v h1 h2 h3=>?_],fun y c h=>#[_,x.cell y c h],J.hok.fresh (tv _),fun y c h=>?_,fun p hp=>absurd (show p∈([]:vP_) from hp) (by simp),J.hok.kept hk,?_]
 .exact name_of_addr x.apart (Lu h1) (Lu h2)
 .have Y:scope.names.lookup y=some .cell\/scope.names.lookup y=some .free:=Y;rcases Y with Y | Y
  .exact oh Y
  .exact absurd rfl (S.nofree _ (Lu Y))
 .exact JZ (x.above y c (Lu h))
 .have hi:i<vs.length:=by
   unfold start at h2;by_cases hi:i<vs.length
   .exact hi
   .rw[JU (by simpa using hi)] at h2;rw[List.getElem?_replicate] at h2;split at h2 <;> cases h2
  have ha:vs[i]? = some v:=by
   unfold start at h2;rw[JL (by simpa using hi),Jl] at h2;cases e:vs[i]? with
   |none=>rw[e] at h2;cases h2
   |some a=>rw[e] at h2;cases h2;rfl
  obtain⟨u,hu,rv⟩:=r.get ha;have hp:ps[i]? = some y:=by
   rw[<-S.pre,NV ∅];exact h1
  have ndP:ps.Nodup:=by rw[<-S.pre];exact S.nd.sublist (List.take_sublist _ _)
  refine#[u,rv,?_];rcases S.par y (JP hp) with k | k
  .exact .inl #[k,aX ndP hp hu k]
  .obtain⟨c,e⟩:=oh (n:=s.heap.objs.size+1) k;refine .inr #[.inl k,c,e,?_];have q:=x.cell y c e;rw[oz ndP hp hu (by show scope.names.lookup y≠_;rw[k];decide)] at q;exact q
 .exact J.hok.fresh (JZ (x.above y c (Lu h)))
 .unfold start;show _=N.length;rw[Jb,td,MQ];omega
def sC {CX:R4}{w:World}{K:vF_}{mg:vG_}{base:Heap}{k:Nat}{name qual:Str}{body:List Stmt}{scope:Scope}{dV kV doc pm cdv ct oc:Value}{an od:vA_}
  {osl:vS_}{N ps:List Str}{sp:Sp}(lk:K.lookup f=some #[oc,od,.func (PySem.W.fnOf name qual params body scope dV kV doc pm an cdv ct),osl]) (hcd:PySem.W.codeIn K cdv qual=true) (S:FnScope N ps scope)
  (len:∀vs H Q E,sp vs H Q E->vs.length=ps.length)
  (Y:∀(A:Around) (outer:List Env) (s:Shared) (H:Hp) (vs:List V) (Q:VK) (E:XK),Room k (A.deeper (envOfC qual scope s.heap.objs.size f cdv))->sp vs H Q E ->
   ∃t,PSs (N4 CX P w K mg base N qual scope f cdv A outer s H E) body t/\t { nx:=fun _ H'=>Q .non H',rt:=Q } (start N vs) H) :
  FnOk P w K mg base CX (k+1) f (PySem.W.fnOf name qual params body scope dV kV doc pm an cdv ct) ps sp:=by
 refine#[len,fun A outer s H args us vs Q E hr e0 hb r hsp=>?_];have hl:=len _ _ _ _ hsp;have KX:K.In s.heap:=e0.mod.kin.keeps fun b o e=>(e0.bs b o e).1
 have lim:s.heap.NoLimit:=e0.mod.nolimit.keeps fun b o e=>(e0.bs b o e).1
 have U:∀y∈ps.zip us,scope.names.lookup y.1=some .local\/(scope.names.lookup y.1=some .cell/\((cellsFrom (s.heap.objs.size+1) scope.names []).lookup y.1).isSome=true):=fun ⟨n,v⟩ hy=>by
  rcases S.par n (Kw hy).1 with q | q
  .exact .inl q
  .exact .inr #[q,NT _ _ _ (.inl q)]
 refine codeAny_call_function hr.depth (KX _ _ lk) rfl S.co S.gen rfl (PySem.W.codeRec_of KX hcd) (hb _ _ _ _ ?_);refine wpAny_newFunctionEnv_cells S.kind U fun env he s1 x=>?_
 subst he;refine#[lim.keeps x.toInCall.keep,codeAny_func ?_];obtain⟨t,ht,hq⟩:=Y A outer s H vs Q E (hr.deeper _) hsp;have I:Inv (N4 CX P w K mg base N qual scope f cdv A outer s H E) [] (start N vs) H s1:=zS S hr.hd e0 hl r x;refine IV (ht [] s1 (start N vs) H _ I hq) (fun fl s' hs=>?_) fun e s' hs=>hs
 have fin:∀{σ':St}{H':Hp}{v:V}{u:Value},Inv (N4 CX P w K mg base N qual scope f cdv A outer s H E) [] σ' H' s'->RelV v u->Q v H'->CE outer P w H s Q u s':=
  fun {σ' H' v u} J rv q=>#[v,H',J.os,J.bare,J.base,J.hok,rv,q]
 cases fl with
 |ret u=>
  obtain⟨v,σ',H',J,rv,q⟩:=hs;exact fin J rv q
 |next=>
  obtain⟨σ',H',J,q⟩:=hs;exact fin (v:=V.non) (u:=Value.none) J rfl q
 |brk=>
  obtain⟨_,_,_,q⟩:=hs;exact False.elim q
 |cont=>
  obtain⟨_,_,_,q⟩:=hs;exact False.elim q
section
variable {p:Pos}{t:TA}{id T:String}{r:List V->Hp->VK->Prop}
def cX (r:List V->Hp->VK->Prop) (t:TA):TE:=fun σ H Q=>t σ H fun vs H1=>r vs H1 Q
def dI (hc:CallR X (.builtin id) r) (hg:Gl X x) (hm:X.mg x=none) (hv:bootBuiltins x=some (.builtin id)) (ha:PA X (e::es) t) (hn:x ≠ "__name__" := by decide) (U:(x == ("__debug__" : Str))=false:=by decide)
  (he:starEach (e::es) X.env=(false,eval e X.env)::starEach es X.env:=by rfl) (J:(backTo pos (starEach es X.env)).any (·.1)=false:=by rfl):PE X (.Call (.Name x p) (e::es) [] pos) (cX r t):=by
 intro pins s σ H Q I h;refine Kh (aK I hg hm hv ?_ hn U);exact PyProof.Rows.callWith_builtin1 (l4 (ha pos pins s σ H _ I h) fun us s1 ⟨vs,H1,I1,Y,q1⟩=>hc pins s1 σ H1 vs us Q I1 Y q1) he J
def HX (hc:CallR X (.type T) r) (hg:Gl X x) (hm:X.mg x=none) (hv:bootBuiltins x=some (.type T)) (ha:PA X (e::es) t) (hn:x ≠ "__name__" := by decide) (U:(x == ("__debug__" : Str))=false:=by decide)
  (he:starEach (e::es) X.env=(false,eval e X.env)::starEach es X.env:=by rfl) (J:(backTo pos (starEach es X.env)).any (·.1)=false:=by rfl):PE X (.Call (.Name x p) (e::es) [] pos) (cX r t):=by
 intro pins s σ H Q I h;refine Kh (aK I hg hm hv ?_ hn U);exact KR (l4 (ha pos pins s σ H _ I h) fun us s1 ⟨vs,H1,I1,Y,q1⟩=>hc pins s1 σ H1 vs us Q I1 Y q1) he J
end
end L2
variable {xs ys:List L2.V}{f':Int->Int->L2.V}{H H' H1:L2.Hp}{X:L2.Cx}{σ:L2.St}{te:L2.TE}{tc:L2.TT}{ta:L2.TA}{tb:L2.TS}{sp:L2.Sp}{CX:L2.R4}
namespace HT
open PySem PyProof.Rows
section
variable {w:World}
def cat_tup {t b:Addr}{vs J:vV_}{Q:vQ_}(ht:IsTup s.heap t vs.toArray) (hb:IsTup s.heap b J.toArray) (hv:vs≠[])
  (h1:J=[]->Q (.ref t) s) (h2:J≠[]->Q (.ref s.heap.objs.size) { s with heap:=s.heap.push { cls:=.type "tuple",data:=.seq (vs++J).toArray } })
  (hsz:vs.length+J.length<=sizeLine):wpAny (model prog w) A (binaryOp .Add (.ref t) (.ref b)) Q E s:=by
 obtain⟨⟨cls,dd,data,sl⟩,ho,hc,n,hd⟩:=id ht;obtain⟨⟨cls2,dd2,data2,sl2⟩,U,Y,n2,hd2⟩:=id hb;simp only at hc hd Y hd2;subst hc hd Y hd2;have e:vs.toArray++J.toArray=(vs++J).toArray:=by simp
 by_cases hw:J=[]
 .exact concat_meets #[_,ho,rfl] #[_,U,rfl] MR seq_tuple_add MS MT (MU _ _)
   (tuple_addW1 t b vs.toArray J.toArray n n2 dd dd2 sl sl2 (by simpa using hv) (by simp[hw])) #[ho,U,h1 hw]
 .refine concat_meets #[_,ho,rfl] #[_,U,rfl] MR seq_tuple_add MS MT (MU _ _)
   (tuple_addW2 t b vs.toArray J.toArray n n2 dd dd2 sl sl2 (by simpa using hv) (by simpa using hw) (by rw[IU,IU];exact hsz)) #[ho,U,?_]
  rw[e];exact h2 hw
def sIx (n d:Nat):Option Int->Nat
 |none=>d
 |some v=>if v<0 then (v+(n:Int)).toNat else min v.toNat n
def sIx_nat (n d k:Nat):sIx n d (some (k:Int))=min k n:=by
 show (if (k:Int)<0 then ((k:Int)+(n:Int)).toNat else min (k:Int).toNat n)=min k n;rw[iU ∅,Kc]
def GJ (n d:Nat) (U:d<=n) (o:Option Int):sIx n d o<=n:=by
 cases o with
 |none=>exact U
 |some v=>
  show (if v<0 then (v+(n:Int)).toNat else min v.toNat n)<=n;by_cases J:v<0
  .rw[iO J];omega
  .rw[iU J];exact Nat.min_le_right _ _
def uU (v:Int) (n d:Nat):(if v<0 then max (v+(n:Int)) 0 else min v (n:Int))=((sIx n d (some v):Nat):Int):=by
 show (if v<0 then max (v+(n:Int)) 0 else min v (n:Int))=(((if v<0 then (v+(n:Int)).toNat else min v.toNat n):Nat):Int);by_cases J:v<0
 .simp only[iO J];omega
 .simp only[iU J];omega
def va (lo hi:Option Int) (n:Nat):Builtin.Slice.sliceAdjust lo hi 1 (n:Int)=(((sIx n 0 lo:Nat):Int),((sIx n n hi:Nat):Int)):=by
 have h1:¬ ((1:Int)<0):=by omega
 unfold Builtin.Slice.sliceAdjust;simp only[h1,Jw];refine Prod.ext ?_ ?_
 .cases lo with
  |none=>rfl
  |some v=>exact uU v n 0
 .cases hi with
  |none=>rfl
  |some v=>exact uU v n n
def uI (i j:Nat):Builtin.Slice.slicePlaces (i:Int) (j:Int) 1=j - i:=by
 unfold Builtin.Slice.slicePlaces;have h1:(1:Int)>0:=by omega
 simp only[h1,Jh,Int.ediv_one];split <;> omega
def oH {v:Value}{o:Option Int}{Q:Option Int->Shared->Prop}(p:IsPart v o) (h:Q o s):wpAny (model prog w) A (Builtin.Slice.slicePartIndex v) Q E s:=by
 cases p with
 |none=>exact KW h
 |int i t=>exact slicePart_int h
def qp {lo hi:Option Int}{Q:Int × Int × Nat->Shared->Prop}(hs:s.heap.IsSliceOf sl vl vu .none) (pl:IsPart vl lo) (pu:IsPart vu hi)
  (h:Q (((sIx n 0 lo:Nat):Int),1,sIx n n hi - sIx n 0 lo) s):wpAny (model prog w) A (Builtin.Slice.sliceApplied (.ref sl) (pure (n:Int))) Q E s:=by
 obtain⟨os,U,Y,J⟩:=id hs;unfold Builtin.Slice.sliceApplied Builtin.Slice.sliceFields;refine gV (gV (IL U J (x:=vl) rfl (gV (IL U J (x:=vu) rfl (gV (IL U J (x:=.none) rfl (iR ?_)))))));refine gV (KW ?_);show wpAny _ _ (if ((1:Int) == 0)=true then _ else _) _ _ s;rw[iU #[]];refine gV (oH pl (gV (oH pu (gV (iR ?_)))));show wpAny _ _ (match Builtin.Slice.sliceAdjust lo hi 1 (n:Int) with | (lo,hi)=>pure (lo,(1:Int),Builtin.Slice.slicePlaces lo hi 1)) _ _ s;rw[va lo hi n];show wpAny _ _ (pure (((sIx n 0 lo:Nat):Int),(1:Int),Builtin.Slice.slicePlaces ((sIx n 0 lo:Nat):Int) ((sIx n n hi:Nat):Int) 1)) _ _ s;rw[uI];exact iR h
def Ei (xs:vR_) (i k:Nat):((List.range k).filterMap fun (m:Nat)=>xs[((i:Int)+(m:Int)*1).toNat]?).toArray=((xs.toList.drop i).take k).toArray:=by
 have e:(fun (m:Nat)=>xs[((i:Int)+(m:Int)*1).toNat]?)=fun m=>xs[i+m]?:=by
  funext m;have:((i:Int)+(m:Int)*1).toNat=i+m:=by omega
  rw[this]
 rw[e];have:=pick_run xs i k;rw[List.filterMap_map] at this;have J:((fun x=>xs[x]?)∘fun x=>i+x)=fun m=>xs[i+m]?:=rfl
 rw[J] at this;rw[this]
def getItem_tuple_cut {t sl:Addr}{items:vR_}{lo hi:Option Int}{Q:vQ_}(U:IsTup s.heap t items) (hs:s.heap.IsSliceOf sl vl vu .none) (pl:IsPart vl lo) (pu:IsPart vu hi)
  (hw:¬ (sIx items.size 0 lo=0/\sIx items.size items.size hi=items.size))
  (h:Q (.ref s.heap.objs.size) { s with heap:=s.heap.push { cls:=.type "tuple",data:=.seq ((items.toList.drop (sIx items.size 0 lo)).take (sIx items.size items.size hi - sIx items.size 0 lo)).toArray } })
  (hsz:items.size<=sizeLine):wpAny (model prog w) A (getItem (.ref t) (.ref sl)) Q E s:=by
 have J:sizeOk (.seq ((items.toList.drop (sIx items.size 0 lo)).take (sIx items.size items.size hi - sIx items.size 0 lo)).toArray):=by
  show ((items.toList.drop (sIx items.size 0 lo)).take (sIx items.size items.size hi - sIx items.size 0 lo)).toArray.size<=sizeLine;rw[IU,Kb,JV,LP];omega
 have hj:sIx items.size items.size hi<=items.size:=GJ _ _ (tv _) hi;obtain⟨os,hos,hcs,hds⟩:=id hs;have hTs:s.TypeIs (.ref sl) "slice" := #[os,hos,hcs]
 unfold getItem
 try with_reducible refine JD ?_
 first | refine gV (iR ?_) | skip
 refine gV (LR U.typeIs #[] ?_);refine gV (JM (name:=Str.ofString "__getitem__") U.typeIs JN
  (Jy JN U.typeIs LS ?_ (LU _ _)))
 show wpAny _ _ (Builtin.Tuple.tupleItemsOf (.ref t) >>= _) _ _ s;refine gV (tupleItemsOf_ U ?_);refine gV (Ki hTs ?_);rw[iO #[]];refine gV (qp hs pl pu ?_);have Y:¬ ((((sIx items.size 0 lo:Nat):Int) == 0&&(1:Int) == 1&&(sIx items.size items.size hi - sIx items.size 0 lo) == items.size)=true):=by
  intro q;rw[Je,Je] at q;have q1:((sIx items.size 0 lo:Nat):Int)=0:=eq_of_beq q.1.1;have q2:sIx items.size items.size hi - sIx items.size 0 lo=items.size:=eq_of_beq q.2;exact hw #[by omega,by omega]
 show wpAny _ _ (if (((sIx items.size 0 lo:Nat):Int) == 0&&(1:Int) == 1&&(sIx items.size items.size hi - sIx items.size 0 lo) == items.size)=true then _ else _) _ _ s;rw[iU Y,Ei]
 first
  | exact gV (m:=Builtin.Tuple.tupleExact _) (JE (iR #[_,rfl,iR h]) J)
  | exact gV (m:=Builtin.Tuple.tupleExact _) (JE (gV (iR (iR #[_,rfl,iR h]))) J)
  | exact gV (gV (m:=Builtin.Tuple.tupleExact _) (JE (iR (iR #[_,rfl,iR h])) J))
  | exact gV (gV (m:=Builtin.Tuple.tupleExact _) (JE (iR #[_,rfl,iR h]) J))
end
end HT
namespace L2
open PySem PySem.Spec PyProof.Rows
abbrev TO:=St->Hp->(Option Int->Hp->Prop)->Prop
def PO (X:Cx) (e:Option Expr) (t:TO):Prop:=
 ∀(pins:vP_) (s:Shared) (σ:St) (H:Hp) (Q:Option Int->Hp->Prop),Inv X pins σ H s->t σ H Q ->
  wpAny (model X.prog X.w) X.A (evalPart e X.env) (fun u s'=>∃o H',Inv X pins σ H' s'/\IsPart u o/\Q o H') X.xe s
def BM:TO:=fun _ H Q=>Q none H
def yx (t:TE):TO:=fun σ H Q=>t σ H fun x H1=>∃i,x = .int i/\Q (some i) H1
section
variable {lo hi:Option Expr}{tl th:TO}
def qC:PO X none BM:=by
 intro pins s σ H Q I h;rw[evalPart_none];exact iR #[none,H,I,.none,h]
def qV (h:PE X e te):PO X (some e) (yx te):=by
 intro pins s σ H Q I hw;rw[evalPart_some];refine l4 (h pins s σ H _ I hw) fun u s1 ⟨x,H1,Y,J,U⟩=>?_
 obtain⟨i,rfl,q⟩:=U;obtain⟨t,rfl⟩:=J;exact#[some i,H1,Y,.int i t,q]
def SlR (X:Cx) (r:V->Option Int->Option Int->Hp->VK->Prop):Prop:=
 ∀(pins:vP_) (s:Shared) (σ:St) (H:Hp) (x:V) (v vl vu:Value) (lo hi:Option Int) (sl:Addr) (Q:VK),Inv X pins σ H s->RelV x v->s.heap.IsSliceOf sl vl vu .none->IsPart vl lo->IsPart vu hi->r x lo hi H Q ->
  ∃T id,typeLookup (.type T) "__getitem__" = pure (some (.builtin id))/\s.TypeIs v T/\wpAny (model X.prog X.w) X.A (getItem v (.ref sl)) (EP X pins σ Q) X.xe s
def SlR.or {r r':V->Option Int->Option Int->Hp->VK->Prop}(h:SlR X r) (h':SlR X r'):SlR X (fun x lo hi H Q=>r x lo hi H Q\/r' x lo hi H Q):=by
 intro pins s σ H x v J vu lo hi sl Q I Y hs pl U q;rcases q with q | q
 .exact h pins s σ H x v J vu lo hi sl Q I Y hs pl U q
 .exact h' pins s σ H x v J vu lo hi sl Q I Y hs pl U q
def wN (r:V->Option Int->Option Int->Hp->VK->Prop) (te:TE) (tl th:TO):TE:=fun σ H Q=>te σ H fun x H1=>tl σ H1 fun l H2=>th σ H2 fun u J=>r x l u J Q
def qT {r:V->Option Int->Option Int->Hp->VK->Prop}(hr:SlR X r) (he:PE X e te) (hl:PO X lo tl) (hu:PO X hi th):PE X (.Subscript e (.Slice lo hi none p2) pos) (wN r te tl th):=by
 intro pins s σ H Q I h;refine Subscript_ (l4 (he pins s σ H _ I h) fun v s1 ⟨x,H1,I1,r1,q1⟩=>?_);refine wpAny_Slice (l4 (hl pins s1 σ H1 _ I1 q1) fun J s2 ⟨l,H2,I2,pl,q2⟩=>l4 (hu pins s2 σ H2 _ I2 q2) fun U s3 ⟨u,Y,I3,pu,q3⟩=>?_);rw[evalPart_none];refine iR ?_;have I4:Inv X pins σ Y { s3 with heap:=s3.heap.push { cls:=.type "slice",data:=.fields #v[J,U,.none] } }:=I3.kept (t':=s3.toks) fun b ob q=>xu _ q
 obtain⟨T,id,hT,ht,hg⟩:=hr pins { s3 with heap:=s3.heap.push { cls:=.type "slice",data:=.fields #v[J,U,.none] } } σ Y x v J U l u s3.heap.objs.size Q I4 r1 (MV ..) pl pu q3;show wpAny (model X.prog X.w) X.A (subscriptTail e (.Slice lo hi none p2) v (.ref s3.heap.objs.size)) (EP X pins σ Q) X.xe { s3 with heap:=s3.heap.push { cls:=.type "slice",data:=.fields #v[J,U,.none] } };exact tail_any (ops:=[.ref s3.heap.objs.size,v]) ht hT hg (by with_unfolding_all rfl)
def S6 (xs:List V) (lo hi:Option Int):List V:=(xs.drop (HT.sIx xs.length 0 lo)).take (HT.sIx xs.length xs.length hi - HT.sIx xs.length 0 lo)
def rT (xs:List V) (lo hi:Option Int):(S6 xs lo hi).length<=xs.length:=by
 unfold S6;rw[Kb,JV];omega
def BI (K:vF_):V->Option Int->Option Int->Hp->VK->Prop:=fun x lo hi H Q=>∃a xs,x = .ref a/\SqT K H a xs /\
 ¬ (HT.sIx xs.length 0 lo=0/\HT.sIx xs.length xs.length hi=xs.length)/\∀p,H p=none->Q (.ref p) (i6 H p (.tup (S6 xs lo hi)))
def Ce:SlR X (BI X.K):=by
 intro pins s σ H x v vl vu lo hi sl Q I rx hs pl pu h;obtain⟨a,xs,rfl,hx,hw,q⟩:=h;cases rx;obtain⟨its,r,U,Y⟩:=I.tuple hx;have J:its.toArray.size=xs.length:=by rw[IU];exact r.length.symm
 refine#["tuple",_,JN.lookup,U.typeIs,?_];refine HT.getItem_tuple_cut U hs pl pu (by rw[J];exact hw) ?_ (by rw[J];exact Y);rw[J];refine#[.ref s.heap.objs.size,_,I.laid (t':=s.toks) (o:=.tup (S6 xs lo hi)) (fun b ob q=>xu _ q) (tv _) ?_,rfl,q _ (I.hok.fresh (tv _))];exact#[xr (rT xs lo hi) Y,_,(r.drop (HT.sIx xs.length 0 lo)).take (HT.sIx xs.length xs.length hi - HT.sIx xs.length 0 lo),IsTup.new _ _]
def oS (K:vF_):R2:=fun x y H Q=>∃a b xs ys,x = .ref a/\y = .ref b/\SqT K H a xs/\SqT K H b ys/\xs≠[]/\xs.length+ys.length<=sizeLine /\
 (ys=[]->Q (.ref a) H)/\(ys≠[]->∀p,H p=none->Q (.ref p) (i6 H p (.tup (xs++ys))))
def Vals.nil_iff (r:Vals xs us):us=[]↔xs=[]:=by
 cases r with
 |nil=>simp
 |cons _ _=>simp
def ym:OpR X (binaryOp .Add) (oS X.K):=by
 intro pins s σ H x y v u Q I rx ry h;obtain⟨a,b,xs,ys,rfl,rfl,ha,hb,hx,Y,q1,q2⟩:=h;cases rx;cases ry;obtain⟨its,U,p1,_⟩:=I.tuple ha;obtain⟨its2,J,p2,_⟩:=I.tuple hb;refine HT.cat_tup p1 p2 (fun z=>hx (U.nil_iff.mp z)) (fun z=>#[.ref a,H,I,rfl,q1 (J.nil_iff.mp z)]) (fun z=>?_) (by rw[<-U.length,<-J.length];exact Y);refine#[.ref s.heap.objs.size,_,I.laid (t':=s.toks) (o:=.tup (xs++ys)) (fun b ob q=>xu _ q) (tv _) ?_,rfl,q2 (fun w=>z (J.nil_iff.mpr w)) _ (I.hok.fresh (tv _))];exact#[by rw[Jb];exact Y,_,U.append J,IsTup.new _ _]
end
def U5 (n:Nat) (i:Int):Option Nat:=if 0<=i then (if i<n then some i.toNat else none) else if -(n:Int)<=i then some (i+n).toNat else none
def p9 {α:Type}(xs:List α) (i:Int):Option α:=(U5 xs.length i).bind fun j=>xs[j]?
def uK {i:Int}(h:U5 n i=some j):seqIndex? i n=some j/\j<n /\ -(n:Int)<=i/\i<n:=by
 unfold U5 at h;by_cases J:0<=i
 .rw[iO J] at h;by_cases h1:i<n
  .rw[iO h1] at h;have e:i.toNat=j:=Jg h;exact#[by rw[seqIndex_of J h1,e],by omega,by omega,h1]
  .rw[iU h1] at h;cases h
 .rw[iU J] at h;by_cases h1:-(n:Int)<=i
  .rw[iO h1] at h;have e:(i+n).toNat=j:=Jg h;exact#[by rw[seqIndex_neg ∅ h1,e],by omega,h1,by omega]
  .rw[iU h1] at h;cases h
def qB {α:Type}{xs:List α}{i:Int}{v:α}(h:p9 xs i=some v):∃j,seqIndex? i xs.length=some j/\xs[j]? = some v/\j<xs.length /\ -(xs.length:Int)<=i/\i<xs.length:=by
 unfold p9 at h;cases e:U5 xs.length i with
 |none=>rw[e] at h;cases h
 |some j=>
  rw[e] at h;obtain⟨h1,h2,J,U⟩:=uK e;exact#[j,h1,h,h2,J,U]
def fH {α:Type}(xs:List α) (v:α):p9 (xs++[v]) (-1)=some v:=by
 have J:(xs++[v]).length=xs.length+1:=by simp
 have e:U5 (xs++[v]).length (-1)=some xs.length:=by
  unfold U5;rw[J,iU #[],iO ∅];congr 1;omega
 unfold p9;rw[e];show (xs++[v])[xs.length]? = some v;simp
def rL (b:Expr):Prop:=∀o i,subscripted b false o i=operate [o,i] (getItem o i)
def IxR (X:Cx) (r:R2):Prop:=
 ∀(value slice:Expr) (pins:vP_) (s:Shared) (σ:St) (H:Hp) (x y:V) (v u:Value) (Q:VK),Inv X pins σ H s->RelV x v->RelV y u->r x y H Q ->
  subscripted slice false v u=operate [v,u] (getItem v u)->wpAny (model X.prog X.w) X.A (subscriptTail value slice v u) (EP X pins σ Q) X.xe s
def rN (X:Cx) (id:String) (r:V->List V->Hp->VK->Prop):Prop:=
 ∀(pins:vP_) (s:Shared) (σ:St) (H:Hp) (x:V) (xs:List V) (v:Value) (us:vV_) (Q:VK),Inv X pins σ H s->RelV x v->Vals xs us->r x xs H Q ->
  wpAny (model X.prog X.w) X.A (call (.builtin id) (v::us)) (EP X pins σ Q) X.xe s
section
variable {a b:Expr}{ta tb:TE}
def IxR.or {r r':R2}(h:IxR X r) (h':IxR X r'):IxR X (fun x y H Q=>r x y H Q\/r' x y H Q):=by
 intro U J pins s σ H x y v u Q I rx Y q hs;rcases q with q | q
 .exact h U J pins s σ H x y v u Q I rx Y q hs
 .exact h' U J pins s σ H x y v u Q I rx Y q hs
def oq {r:R2}(hr:IxR X r) (U:PE X a ta) (hb:PE X b tb) (hs:rL b):PE X (.Subscript a b pos) (dj r ta tb):=by
 intro pins s σ H Q I h;exact Subscript_ (mP U hb I h fun v u s2 x y H2 I2 Y J q=>hr a b pins s2 σ H2 x y v u Q I2 Y J q (hs _ _))
def mB (K:vF_):R2:=fun x y H Q=>∃p xs i v,x = .ref p/\y = .int i/\SqL K H p xs/\p9 xs i=some v/\Q v H
def nF (K:vF_):R2:=fun x y H Q=>∃p xs i v,x = .ref p/\y = .int i/\SqT K H p xs/\p9 xs i=some v/\Q v H
def ix_list:IxR X (mB X.K):=by
 intro value slice pins s σ H x y v u Q I rx ry h hs;obtain⟨p,xs,i,z,rfl,rfl,hq,he,q⟩:=h;cases rx;obtain⟨t,rfl⟩:=ry;obtain⟨its,r,pl,hz⟩:=I.list hq;obtain⟨j,h1,h2,h3,h4,h5⟩:=qB he;obtain⟨w,ew,Y⟩:=r.get h2;have hl:=r.length;have hn:=cZ;have J:EP X pins σ Q w s:=#[z,H,I,Y,q]
 by_cases h0:0<=i
 .have U:i.toNat=j:=by
   rw[seqIndex_of h0 h5] at h1;exact Jg h1
  exact item_listR pl.isList h0 ∅ (by rw[U];simpa using ew) J hs
 .have U:(i+(its.toArray.size:Int)).toNat=j:=by
   rw[seqIndex_neg ∅ h4] at h1;rw[IU,<-hl];exact Jg h1
  exact subscriptTail_builtinR (x:=w) pl.isList.typeIs slot_list_getitem.lookup
   (wpAny_getItem_list_neg (Q:=fun r s'=>r=w/\EP X pins σ Q r s') pl.isList ∅ (by rw[IU] <;> omega) ∅ (by rw[U];simpa using ew) #[rfl,J]) hs
def zU:IxR X (nF X.K):=by
 intro value Y pins s σ H x y v u Q I rx ry h hs;obtain⟨p,xs,i,z,rfl,rfl,hq,he,q⟩:=h;cases rx;obtain⟨t,rfl⟩:=ry;obtain⟨its,r,pl,hz⟩:=I.tuple hq;obtain⟨j,h1,h2,h3,h4,h5⟩:=qB he;obtain⟨w,ew,J⟩:=r.get h2;have hl:=r.length;have hn:=cZ;have U:EP X pins σ Q w s:=#[z,H,I,J,q]
 exact subscriptTail_builtinR (x:=w) pl.typeIs slot_tuple_getitem.lookup
  (getItem_tuple (j:=j) (Q:=fun r s'=>r=w/\EP X pins σ Q r s') pl ∅ ∅ (by rw[IU,<-hl];exact h1) (by simpa using ew) #[rfl,U]) hs
def zm (its:vV_) (n j:Nat) (u:Value):Obj.mapSeq (·.setIfInBounds j u) { cls:=.type "list",data:=.seq its.toArray n }={ cls:=.type "list",data:=.seq (its.set j u).toArray n }:=by
 simp[Obj.mapSeq]
theorem Inv.lst (I:Inv X pins σ H s) (h:H p=some (.lst xs)) :
  ∃(its:vV_) (n:Nat),Vals xs its/\s.heap.get? p=some { cls:=.type "list",data:=.seq its.toArray n }/\xs.length<=sizeLine:=by
 obtain⟨z,its,n,r,e⟩:=I.hok p _ h;exact#[its,n,r,e,z]
def Inv.lstUpd {pins:vP_}{H:Hp}{s:Shared}{p:Addr}{xs ys:List V}{its its':vV_}{n J:Nat}(I:Inv X pins σ H s) (h:H p=some (.lst xs))
  (Y:s.heap.get? p=some { cls:=.type "list",data:=.seq its.toArray n }) (U:f { cls:=.type "list",data:=.seq its.toArray n }={ cls:=.type "list",data:=.seq its'.toArray J }) (r:Vals ys its') (hz:ys.length<=sizeLine) (t:Nat) :
  Inv X pins σ (i6 H p (.lst ys)) { s with heap:=s.heap.update p f,toks:=t }:=by
 have e:(s.heap.update p f).get? p=some { cls:=.type "list",data:=.seq its'.toArray J }:=by
  rw[JW f Y (by rw[U] <;> rfl),U]
 refine I.write (x:=p) (e:=p) (by rw[h];trivial) (.inl rfl) (fun b u hb q=>(JC _ _ (IK hb)).trans q) #[_,e] ?_;exact#[hz,its',J,r,e]
def xZ:V->V->V->Hp->(Hp->Prop)->Prop:=fun o i v H Q=>∃p xs k j,o = .ref p/\i = .int k/\H p=some (.lst xs)/\U5 xs.length k=some j/\Q (i6 H p (.lst (xs.set j v)))
def wj:pB X xZ:=by
 intro pins s σ H o i v ov iv u Q I ro ri rv h;obtain⟨p,xs,k,j,rfl,rfl,hp,hj,q⟩:=h;cases ro;obtain⟨t,rfl⟩:=ri;obtain⟨its,n,r,Y,hz⟩:=I.lst hp;obtain⟨h1,h2,h3,h4⟩:=uK hj;have U:=r.length;have hn:=cZ;have I':Inv X pins σ (i6 H p (.lst (xs.set j v))) { s with heap:=s.heap.update p (Obj.mapSeq (·.setIfInBounds j u)) }:=
  I.lstUpd hp Y (zm its n j u) (r.set rv j) (by rw[List.length_set];exact hz) s.toks
 by_cases h0:0<=k
 .have J:k.toNat=j:=by
   rw[seqIndex_of h0 h4] at h1;exact Jg h1
  exact PySem.W.ki_setAt Y h0 ∅ (by rw[IU,<-U];exact h4) (by rw[J];exact#[_,I',q])
 .have J:(k+(its.toArray.size:Int)).toNat=j:=by
   rw[seqIndex_neg ∅ h3] at h1;rw[IU,<-U];exact Jg h1
  exact PySem.W.ki_setBack Y ∅ (by rw[IU,<-U];exact h3) ∅ (by rw[J];exact#[_,I',q])
def FY (lo hi:Option Int) (n:Nat):(sliceBounds lo hi none n).1=((HT.sIx n 0 lo:Nat):Int)/\(sliceBounds lo hi none n).2.1=((HT.sIx n n hi:Nat):Int)/\(sliceBounds lo hi none n).2.2=1:=by
 have key:∀i:Int,(sliceBounds (some i) none none n).1=((HT.sIx n 0 (some i):Nat):Int):=fun i=>by
  simp only[sliceBounds,HT.sIx,Option.getD_none,show (1:Int)>0 by decide,Jh];by_cases h:i<0
  .simp only[h,Jh] <;> omega
  .simp only[h,Jw] <;> omega
 refine#[?_,?_,rfl]
 .cases lo with
  |none=>simp[sliceBounds,HT.sIx]
  |some i=>exact key i
 .cases hi with
  |none=>simp[sliceBounds,HT.sIx]
  |some i=>exact key i
def Ek (its:vV_) (lo hi:Option Int):slicePick its.toArray lo hi none=((its.drop (HT.sIx its.length 0 lo)).take (HT.sIx its.length its.length hi - HT.sIx its.length 0 lo)).toArray:=by
 obtain⟨h1,h2,J⟩:=FY lo hi its.toArray.size;unfold slicePick;rw[h1,h2,J];simp only[sliceRange_one,pick_run,IU] <;> rfl
def Ez (K:vF_):V->Option Int->Option Int->Hp->VK->Prop:=fun x lo hi H Q=>∃a xs,x = .ref a/\SqL K H a xs/\∀p,H p=none->Q (.ref p) (i6 H p (.lst (S6 xs lo hi)))
def vB:SlR X (Ez X.K):=by
 intro pins s σ H x v vl vu lo hi sl Q I rx hs pl pu h;obtain⟨a,xs,rfl,Y,q⟩:=h;cases rx;obtain⟨its,r,U,hz⟩:=I.list Y;have J:=r.length;refine#["list",_,slot_list_getitem.lookup,U.isList.typeIs,?_];refine wpAny_getItem_list_slice U.isList hs pl pu .none (by simp) ?_ (by rw[IU] <;> omega);rw[Ek,<-J];refine#[.ref s.heap.objs.size,_,I.laid (t':=s.toks) (o:=.lst (S6 xs lo hi)) (fun b ob q=>xu _ q) (tv _) ?_,rfl,q _ (I.hok.fresh (tv _))];exact#[xr (rT xs lo hi) hz,_,0,(r.drop (HT.sIx xs.length 0 lo)).take (HT.sIx xs.length xs.length hi - HT.sIx xs.length 0 lo),Jk _ rfl]
def call_len_seq:CallR X (.builtin "len") (fun xs H Q=>∃p ys,xs=[.ref p]/\(SqL X.K H p ys\/SqT X.K H p ys)/\Q (.int ys.length) H):=by
 intro pins s σ H xs us Q I r h;obtain⟨p,ys,rfl,U,q⟩:=h;obtain⟨u,rfl,rx⟩:=aV r;cases rx;have hn:=cZ;rcases U with U | U
 .obtain⟨its,Y,pl,hz⟩:=I.list U;have J:=Y.length;exact Calls.call_len_list pl.isList (by simp only[IU] <;> omega) #[.int ys.length,H,I.tok _,#[s.toks+1,by rw[IU,J]],q]
 .obtain⟨its,Y,pl,hz⟩:=I.tuple U;have J:=Y.length;exact len_tuple pl (by simp only[IU] <;> omega) #[.int ys.length,H,I.tok _,#[s.toks+1,by rw[IU,J]],q]
def Fi:CallR X (.builtin "len") (fun xs H Q=>∃z,xs=[.str z]/\z.length<=sizeLine/\Q (.int z.length) H):=by
 intro pins s σ H xs us Q I r h;obtain⟨z,rfl,J,q⟩:=h;obtain⟨u,rfl,t,rfl⟩:=aV r;have U:=cZ;exact len_str ∅ #[.int z.length,H,I.tok _,#[_,rfl],q]
def CallR.or {r U:List V->Hp->VK->Prop}(h:CallR X f r) (h':CallR X f U):CallR X f (fun xs H Q=>r xs H Q\/U xs H Q):=by
 intro pins s σ H xs us Q I J q;rcases q with q | q
 .exact h pins s σ H xs us Q I J q
 .exact h' pins s σ H xs us Q I J q
def cT:CallR X (.type "tuple") (fun xs H Q=>∃p ys,xs=[.ref p]/\((SqL X.K H p ys/\∀l,H l=none->Q (.ref l) (i6 H l (.tup ys)))\/(SqT X.K H p ys/\Q (.ref p) H))):=by
 intro pins s σ H xs us Q I r h;obtain⟨p,ys,rfl,h⟩:=h;obtain⟨u,rfl,rx⟩:=aV r;cases rx;rcases h with ⟨J,q⟩ | ⟨J,q⟩
 .obtain⟨its,U,pl,hz⟩:=I.list J;have Y:=U.length;refine call_tuple_list pl.isList (fun h' kp=>?_) (by simp only[IU] <;> omega);have I1:Inv X pins σ H { s with heap:=h' }:=I.kept (t':=s.toks) kp;have I2:Inv X pins σ (i6 H h'.objs.size (.tup ys)) { s with heap:=h'.push { cls:=.type "tuple",data:=.seq its.toArray } }:=
   I1.laid (t':=s.toks) (fun b o e=>xu _ e) (tv _) (show ObjOk X.prog X.w _ _ _ (.tup ys) from #[hz,its,U,IsTup.new _ _])
  exact#[.ref h'.objs.size,_,I2,rfl,q _ (I1.hok.fresh (tv _))]
 .obtain⟨its,U,pl,hz⟩:=I.tuple J;exact call_tuple_same pl #[.ref p,H,I,rfl,q]
def lJ (K:vF_) (T:String) (x:V) (H:Hp):Prop:=match x with
 |.str _=>T = "str"
 |.int _=>T = "int"
 |.ref p=>(T = "list" /\ ∃xs,SqL K H p xs)\/(T = "tuple" /\ ∃o,K.lookup p=some o/\o.cls = .type "tuple" /\ o.dict=none) \/
   (T = "dict" /\ ((∃kvs,H p=some (.dK kvs))\/∃kvs,H p=some (.dT kvs)))\/(T = "set" /\ ∃S n,H p=some (.set S n))
 |_=>False
def sU {x:V}{v:Value}(I:Inv X pins σ H s) (r:RelV x v) (U:lJ X.K T x H) :
  s.TypeIs v T/\∀a,v = .ref a->∃ob,s.heap.get? a=some ob/\ob.dict=none:=by
 cases x with
 |str z=>
  obtain⟨t,rfl⟩:=r;cases (show T = "str" from U);exact#[typeIs_str s z t,fun _ e=>nomatch e]
 |int i=>
  obtain⟨t,rfl⟩:=r;cases (show T = "int" from U);exact#[Lv s i t,fun _ e=>nomatch e]
 |ref p=>
  cases r;rcases U with ⟨rfl,xs,hq⟩ | ⟨rfl,o,J,hc,hd⟩ | ⟨rfl,J⟩ | ⟨rfl,S,n,J⟩
  .obtain⟨its,_,pl,_⟩:=I.list hq;refine#[pl.isList.typeIs,fun a e=>?_];cases e;obtain⟨o,n,e,c,hd,_⟩:=pl;exact#[o,e,hd]
  .refine#[#[o,I.kIn p o J,hc],fun a e=>?_];cases e;exact#[o,I.kIn _ o J,hd]
  .have z:∃o,s.heap.get? p=some o/\o.ExactDict:=by
    rcases J with ⟨Y,J⟩ | ⟨Y,J⟩
    .obtain⟨_,_,_,_,o,_,_,e,ex,_⟩:=I.hok p _ J;exact#[o,e,ex]
    .obtain⟨_,_,_,_,o,_,_,e,ex,_⟩:=I.hok p _ J;exact#[o,e,ex]
   obtain⟨o,e,ex⟩:=z;refine#[#[o,e,ex.1],fun a e2=>?_];cases e2;exact#[o,e,ex.2.1]
  .obtain⟨o,_,_,_,e,ex,_⟩:=I.hok p _ J;refine#[#[o,e,ex.1],fun a e2=>?_];cases e2;exact#[o,e,ex.2.1]
 |_=>exact False.elim U
def xI (K:vF_) (T:String) (r:V->List V->Hp->VK->Prop) (to:TE):TE:=fun σ H Q=>to σ H fun x H1=>lJ K T x H1/\r x [] H1 Q
def xM (K:vF_) (T:String) (r:V->List V->Hp->VK->Prop) (to:TE) (t:TA):TE:=fun σ H Q=>to σ H fun x H1=>lJ K T x H1/\t σ H1 fun xs H2=>r x xs H2 Q
variable {o:Expr}{to:TE}{t:TA}{apos cpos:Pos}{T id:String}{r:V->List V->Hp->VK->Prop}
def yA (pa:PlainAttrs T) (Y:Slot T name id) (hty:typeOf (.builtin id)=pure (.type "method_descriptor")) (hm:rN X id r) (ho:PE X o to)
  (U:attributeBase o name X.env (eval o X.env)=eval o X.env:=by rfl) (J:(apos.endLine == cpos.line)=true:=by rfl):PE X (.Call (.Attribute o name apos) [] [] cpos) (xI X.K T r to):=by
 intro pins s σ H Q I h;refine wpAny_Call_method0_late U J (l4 (ho pins s σ H _ I h) fun v s1 ⟨x,H1,I1,r1,ty,q1⟩=>?_);obtain⟨h1,h2⟩:=sU I1 r1 ty;exact#[T,id,pa,Y,hty,h1,h2,Calls.callWith_builtin rfl (PySem.evalArgs_none (hm pins s1 σ H1 x [] v [] Q I1 r1 .nil q1))]
def Al (pa:PlainAttrs T) (slot:Slot T name id) (hty:typeOf (.builtin id)=pure (.type "method_descriptor")) (hm:rN X id r) (ho:PE X o to) (ha:PA X (e::es) t)
  (Y:attributeBase o name X.env (eval o X.env)=eval o X.env:=by rfl)
  (hfew:((backTo cpos (starEach (e::es) X.env)).all (fun x=>!x.1)&&(backToKw cpos (keywordEach [] X.env)).all (fun x=>x.1.isSome)
   && decide ((e::es).length+([]:List Keyword).length+(if ([]:List Keyword).isEmpty then 0 else 1)<30))=true:=by rfl)
  (U:(apos.endLine == cpos.line)=true:=by rfl) (hs:starEach (e::es) X.env=(false,eval e X.env)::starEach es X.env:=by rfl) (J:(backTo cpos (starEach es X.env)).any (·.1)=false:=by rfl) :
  PE X (.Call (.Attribute o name apos) (e::es) [] cpos) (xM X.K T r to t):=by
 intro pins s σ H Q I h;refine wpAny_Call_method_late Y hfew U rfl (l4 (ho pins s σ H _ I h) fun v s1 ⟨x,H1,I1,r1,ty,q1⟩=>?_);obtain⟨h1,h2⟩:=sU I1 r1 ty;refine#[T,id,pa,slot,hty,h1,h2,?_];have hA:=ha cpos pins s1 σ H1 _ I1 q1;rw[hs] at hA ⊢;refine Calls.callWith_builtin (by show (false||(backTo cpos (starEach es X.env)).any (·.1))=false;rw[J] <;> rfl) (Calls.evalArgs_plain ?_);exact l4 hA fun us s2 ⟨vs,H2,I2,r2,q2⟩=>hm pins s2 σ H2 x vs v us Q I2 r1 r2 q2
end
def rJ (X:Cx) (id:String) (r:V->List V->Hp->VK->Prop):Prop:=
 ∀(pins:vP_) (s:Shared) (σ:St) (H:Hp) (x:V) (xs:List V) (v:Value) (us:vV_) (Q:VK),Inv X pins σ H s->RelV x v->Vals xs us->r x xs H Q ->
  wpAny (model X.prog X.w) X.A (call (.builtin id) (v::us)) (EP X pins σ Q) X.xe s
def Vals.one:∀{x:V}{us:vV_},Vals [x] us->∃u,us=[u]/\RelV x u:=by
 intro x us h;cases h with
 |cons r t=>
  cases t;exact#[_,rfl,r]
def Vals.zero:∀{us:vV_},Vals [] us->us=[]
 |_,.nil=>rfl
theorem Vals.reverse (h:Vals xs us):Vals xs.reverse us.reverse:=by
 induction h with
 |nil=>exact .nil
 |cons r t J=>rw[MW,MW];exact Vals.append J (.cons r .nil)
theorem Vals.rep (h:Vals xs us):∀k:Nat,Vals (List.replicate k xs).flatten (List.replicate k us).flatten
 |0=>.nil
 |k+1=>by
  rw[Kx,Kx,Lw,Lw];exact Vals.append h (Vals.rep h k)
theorem foldl_rep (its:vV_):∀(k:Nat) (acc:vV_),
  List.foldl (fun x1 x2=>x1++x2) acc.toArray (List.replicate k its.toArray)=(acc++(List.replicate k its).flatten).toArray
 |0,acc=>by simp
 |k+1,acc=>by
  have e:acc.toArray++its.toArray=(acc++its).toArray:=by simp
  have J:(acc++its)++(List.replicate k its).flatten=acc++(List.replicate (k+1) its).flatten:=by
   rw[Kx,Lw,LV]
  rw[<-J,<-foldl_rep its k (acc++its),<-e,Kx,List.foldl_cons]
section
variable {l b:Addr}{zs:List V}
def Inv.lset {its its':vV_}{n:Nat}{t':Nat}(I:Inv X pins σ H s) (Y:H l=some (.lst xs))
  (e:s.heap.get? l=some { cls:=.type "list",data:=.seq its.toArray n }) (hf:f its.toArray=its'.toArray) (J:Vals ys its') (hz:ys.length<=sizeLine) :
  Inv X pins σ (i6 H l (.lst ys)) { s with heap:=s.heap.update l (Obj.mapSeq f),toks:=t' }:=by
 have q:=PySem.IsL.update e f;rw[hf] at q;refine I.write (x:=l) (e:=l) (by rw[Y];exact trivial) (.inl rfl) (fun b' u hb U=>(JC s.heap (Obj.mapSeq f) (IK hb)).trans U) #[_,q] ?_;exact#[hz,its',_,J,q]
def Inv.lnew {t':Nat}(I:Inv X pins σ H s) (J:Vals ys its) (hz:ys.length<=sizeLine) :
  Inv X pins σ (i6 H s.heap.objs.size (.lst ys)) { s with heap:=s.heap.push { cls:=.type "list",data:=.seq its.toArray },toks:=t' }:=
 I.laid (fun _ _ q=>xu _ q) (tv _) #[hz,its,0,J,Jk _ rfl]
theorem Inv.fresh (I:Inv X pins σ H s):H s.heap.objs.size=none:=I.hok.fresh (tv _)
def Inv.lstM (I:Inv X pins σ H s) (J:H l=some (.lst xs)):xs.length<=sizeLine/\∃(its:vV_) (n:Nat),Vals xs its/\xs.length=its.length/\s.heap.get? l=some { cls:=.type "list",data:=.seq its.toArray n }:=by
 obtain⟨z,its,n,r,e⟩:=I.hok l _ J;exact#[z,its,n,r,r.length,e]
def Ad (h:n<=sizeLine):Builtin.List.listTooLong n=false:=by
 unfold Builtin.List.listTooLong;exact ID ∅
end
def yb:V->List V->Hp->VK->Prop:=fun x vs H Q=>∃l xs y,x = .ref l/\vs=[y]/\H l=some (.lst xs)/\xs.length<sizeLine/\Q .non (i6 H l (.lst (xs++[y])))
def qo:rJ X "list.append" yb:=by
 intro pins s σ H x vs v us Q I Y rv h;obtain⟨l,xs,y,rfl,rfl,J,hz,q⟩:=h;cases Y;obtain⟨u,rfl,U⟩:=rv.one;obtain⟨z,its,n,r,hl,e⟩:=I.lstM J;refine Ky F.slot_list_append #[_,e,rfl] F.entry_list_append (F.args_list_append_2 _ _) (PySem.list_append l its.toArray n u (by rw[IU];omega)) #[e,?_];refine#[.non,_,I.lset (its':=its++[u]) J e (by simp) (r.append (.cons U .nil)) ?_,rfl,q];rw[Jb,Jm];omega
def DH:V->List V->Hp->VK->Prop:=fun x vs H Q=>∃l xs,x = .ref l/\vs=[]/\H l=some (.lst xs)/\Q .non (i6 H l (.lst []))
def AN:rJ X "list.clear" DH:=by
 intro pins s σ H x vs v us Q I Y rv h;obtain⟨l,xs,rfl,rfl,U,q⟩:=h;cases Y;have J:=rv.zero;subst J;obtain⟨z,its,n,r,hl,e⟩:=I.lstM U;refine Ky F.slot_list_clear #[_,e,rfl] F.entry_list_clear (F.args_list_clear_1 _) (AutoSeq1.list_clear_list_0 l its.toArray n (by rw[IU];omega)) #[e,?_];exact#[.non,_,I.lset (its':=[]) (ys:=[]) U e rfl .nil (JK _),rfl,q]
def nM:R2:=fun x y H Q=>∃l b xs zs,x = .ref l/\y = .ref b/\H l=some (.lst xs)/\H b=some (.lst zs)/\xs.length+zs.length<=sizeLine/\∀p,H p=none->Q (.ref p) (i6 H p (.lst (xs++zs)))
def sY:OpR X (binaryOp .Add) nM:=by
 intro pins s σ H x y v u Q I rx U h;obtain⟨l,b,xs,zs,rfl,rfl,hH,hB,hz,q⟩:=h;cases rx;cases U;obtain⟨z,its,n,r,hl,e⟩:=I.lstM hH;obtain⟨z2,J,n2,r2,Y,e2⟩:=I.lstM hB;refine PySem.P.add_list e e2 ?_ (by rw[IU,IU];omega);have ea:its.toArray++J.toArray=(its++J).toArray:=by simp
 rw[ea];exact#[.ref _,_,I.lnew (t':=s.toks) (r.append r2) (by rw[Jb];omega),rfl,q _ I.fresh]
def kI:R2:=fun x y H Q=>∃l k xs,x = .ref l/\y = .int k/\H l=some (.lst xs) /\ -(2 ^ 63)<=k/\k<2 ^ 63/\xs.length*k.toNat<=sizeLine /\
 ∀p,H p=none->Q (.ref p) (i6 H p (.lst (List.replicate k.toNat xs).flatten))
def uR {α:Type}(xs:List α) (k:Nat):(List.replicate k xs).flatten.length=k*xs.length:=by
 induction k with
 |zero=>simp
 |succ k J=>rw[Kx,Lw,Jb,J,Nat.succ_mul,Kz]
def sP:OpR X (binaryOp .Mult) kI:=by
 intro pins s σ H x y v u Q I rx ry h;obtain⟨l,k,xs,rfl,rfl,hH,h1,h2,hz,q⟩:=h;cases rx;obtain⟨t,rfl⟩:=ry;obtain⟨z,its,n,r,hl,e⟩:=I.lstM hH;have hlen:its.toArray.size*k.toNat<=sizeLine:=by rw[IU,<-hl];exact hz
 have hcap:¬ its.toArray.size*k.toNat>(2 ^ 63 - 1) / 8:=by
  have:(sizeLine:Nat)<=(2 ^ 63 - 1) / 8:=by decide
  omega
 have hfit:¬ (!Builtin.List.listFitsIndex k)=true:=by
  rw[fitsIndex_both h1 h2];exact IM
 have J:¬ Builtin.List.listTooLong (its.toArray.size*k.toNat)=true:=by
  rw[Ad hlen];exact IM
 have Y:List.foldl (fun x1 x2=>x1++x2) #v[] (List.replicate (if its.toArray.isEmpty=true then 0 else k.toNat) its.toArray)=(List.replicate k.toNat its).flatten.toArray:=by
  have f0:∀m:Nat,List.foldl (fun x1 x2=>x1++x2) #v[] (List.replicate m its.toArray)=(List.replicate m its).flatten.toArray:=fun m=>by
   have:=foldl_rep its m [];rw[Kj] at this;exact this
  rw[f0];cases its with
  |nil=>simp
  |cons a r'=>rw[iU (by simp)]
 refine wpAny_binaryOp_repeat_ref (T := "list") (U := "int") #[] #[_,e,rfl] (fun s'=>Lv s' k t) noFill_list_mul F.fills_int_mul LX repeat_list F.slot_int_index.lookup
  (Ky LX (Lv s k t) F.entry_int_rmul (F.args_int_rmul_2 _ _) (int___rmul___int_list k t l its.toArray n)
   #[e,rfl,#[_,e,rfl],Ky F.slot_list_mul #[_,e,rfl] F.entry_list_mul (F.args_list_mul_2 _ _) (AutoListH.list___mul___list_int_3 l its.toArray n k t hfit hcap J) #[e,?_]])
 rw[Y];exact#[.ref _,_,I.lnew (t':=s.toks) (r.rep k.toNat) (by rw[uR,LY];exact hz),rfl,q _ I.fresh]
end L2
namespace Att
open PySem PySem.W PySem.Calls PyProof.Rows
def DV :∀(ns:List Int) (vs:vV_),WellAll P h vs (ns.map WData.int)->IntsAre vs ns:=by
 intro ns;induction ns with
 |nil=>
  intro vs w;rw[KY] at w;cases w;exact .nil
 |cons n ns J=>
  intro vs w;rw[Js] at w;cases w with
  |cons a b=>
   cases a;exact .cons _ _ (J _ b)
def xw {l:OpenLaw}(hn:l.most=some n) {J:vV_}
  (U:l.row.toRowW.claim.pre args=true) (hwl:WellAll P h J args) :
  ∃a vs ns,J=[Value.ref a]/\args=[WData.list (ns.map WData.int)]/\h.get? a=some { cls:=.type "list",data:=.seq vs.toArray }/\IntsAre vs ns/\ns.length<=n:=by
 have hsh:WShape.hasAll [] args [.list .int]=true:=(pre_splitW U).1;have hc:l.pre.holds [] { args:=args }=true:=(pre_splitW U).2;obtain⟨d,r,rfl,h1,h2⟩:=hasAllW_cons hsh;obtain rfl:=hasAllW_nil h2;obtain⟨xs,rfl,h3⟩:=hasW_list h1;obtain⟨ns,rfl⟩:=items_int h3;have Y:ns.length<=n:=by
  unfold OpenLaw.pre at hc;have h4:(WTm.not (.lt (.lit (.int (n:Int))) (.len (.arg 0)))).holds [] { args:=[.list (ns.map .int)] }=true:=by
   have h4:=(holds_andW hc).1;rw[hn] at h4;exact h4
  have h5:=condW_of h4 (w_not (w_lt w_lit (w_len_list (w_arg rfl))));rw[td] at h5;refine Ma fun q=>?_
  have q':(n:Int)<((ns.length:Nat):Int):=by omega
  first
   | (rw[II q'] at h5;exact absurd h5 #[])
   | (simp at h5;omega)
 cases hwl with
 |cons w1 w2=>
  cases w2;cases w1 with
  |list ho hall=>exact#[_,_,ns,rfl,rfl,ho,DV ns _ hall,Y]
def ES (l:OpenLaw) (args:List WData):l.row.toRowW.claim.post args (.bool true) args=true:=
 postW_of (r:=l.row.toRowW) (X:=(true == true))
  (show WShape.has [] (.bool true) .bool=true by first | rfl | decide | simp[WShape.has,WShape.arms,WShape.armsAll])
  (show (WTm.eq .res (.lit (.bool true))).value [] { args:=args,res:=some (.bool true),after:=args }=some (.bool (true == true)) from w_eq_bool (w_res rfl) w_lit) rfl
def attach_call {l:OpenLaw}{n:Nat}{q:Program}{loose:List Str}{XP:(Str->Option Value)->Heap->Prop}{YP:World->Heap->Prop}{d:DefRec}
  (hn:l.most=some n) (hdf:d.params.defaults=[])
  (call:∀(w:World) (s₀ s₁:Shared) (mg mb:vG_) (fa:Addr) (o:Obj) (pm cd doc:Value) (a:Addr) (vs:vV_) (ns:List Int),
   Ground q loose [] XP w s₀ mg mb s₁.heap->YP w s₁.heap ->
   s₁.heap.get? fa=some o->o.data = .func (docDef d.name d.params d.body d.scope pm cd doc)->s₁.heap.CodeRec cd d.name->mg d.name=some (.ref fa) ->
   s₁.heap.get? a=some { cls:=.type "list",data:=.seq vs.toArray }->IntsAre vs ns->ns.length<=n->s₁.gens = #v[] ->
   codeAny (model l.prog w) callerA (.call (.ref fa) #[[.ref a],[]]) (fun r s'=>r = .ok (.ret (.bool true))/\OldK s₁.heap s'.heap/\s'.os=s₁.os/\AllBare s'.gens) s₁) :
  WalkO q loose XP YP l.row.toRowW d [] (fun f vs=>PySem.call f vs):=by
 intro w s₀ s₁ mg mb G Y fa o pm cd doc dV kV ho hd hcd hD hmg hg args vals as hpre hlay hrd hwl hlo;obtain rfl:dV = .none:=Dflts.none hD hdf;obtain rfl:kV = .none:=Dflts.noKw hD;obtain⟨a,vs,ns,rfl,rfl,U,J,hlen⟩:=xw hn hpre hwl;refine enter_call (Ls (call w s₀ s₁ mg mb fa o pm cd doc a vs ns G Y ho (fd_plain hd) hcd hmg U J hlen hg) fun r s' hq=>?_);obtain⟨rfl,h2,h3,h4⟩:=hq;exact#[.inl #[.bool true,.bool true,[],rfl,fun _=>rfl,.bool true,ES l _,fun _=>#[List.Pairwise.nil,fun _ hm=>(nomatch hm)]],h2,h3,h4]
end Att
namespace L2
open PySem PySem.Spec PyProof.Rows
theorem sE:∀{vs:vV_}{ns:List Int},IntsAre vs ns->Vals (ns.map V.int) vs
 |_,_,.nil=>.nil
 |_,_,.cons n t h=>.cons #[t,rfl] (sE h)
def kM (H:Hp):Prop:=∀b,H b=none\/∃o xs,H b=some (.frz o (.lst xs))
def zw {w:World}{K:vF_}{mg mb:vG_}{CX:R4}{k:Nat}{fa a:Addr}{fd:FuncData}{x:Str}{sp:Sp}{J:Shared}{vs:vV_}{ns:List Int}
  (KX:K.In J.heap) (hns:J.heap.Ns mainGlobals mg) (Y:J.heap.Ns builtinsNs mb) (hbb:∀x:Str,x ≠ "__name__" -> mb x=bootBuiltins x) (hlim:J.heap.NoLimit) (hg:J.gens = #v[])
  (ha:J.heap.get? a=some { cls:=.type "list",data:=.seq vs.toArray }) (hi:IntsAre vs ns) (hl:ns.length<=sizeLine) (hr:Room k callerA)
  (F:∀base:Heap,K.In base->base.Ns mainGlobals mg->FnOk P w K mg base CX k fa fd [x] sp) (hbind:∀(s:Shared) (u:Value),BindsTo s fd #[[u],[]] [(x,u)])
  (hsp:∀H:Hp,kM H->SqL K H a (ns.map V.int)->sp [.ref a] H (fun v _=>v = .bl true) fun _ _ _=>False)
  (hCX:∀H e s',CX [] H J (fun _ _ _=>False) e s'->False) :
  codeAny (model P w) callerA (.call (.ref fa) #[[.ref a],[]]) (fun r s'=>r = .ok (.ret (.bool true))/\OldK J.heap s'.heap/\s'.os=J.os/\AllBare s'.gens) J:=by
 have rv:=sE hi;have lenV:=hi.length;have core:∀H:Hp,kM H->SqL K H a (ns.map V.int)->HOk P w H J.heap->(∀b,H b≠none->b=a)->(H a≠none->K.lookup a=none) ->
   codeAny (model P w) callerA (.call (.ref fa) #[[.ref a],[]]) (fun r s'=>r = .ok (.ret (.bool true))/\OldK J.heap s'.heap/\s'.os=J.os/\AllBare s'.gens) J:=by
  intro H hO hS hok hA hK;have U:∀{b:Addr}{o:Obj},J.heap.get? b=some o->H b=none->(Y6 J.heap H).get? b=some o:=fun e n=>HL e n
  have noA:∀{b:Addr}{o:Obj}{es:Array DictEntry}{ep:Nat},J.heap.get? b=some o->o.data = .dict es ep->H b=none:=fun {b o es ep} e d=>by
   cases q:H b with
   |none=>rfl
   |some u=>
    have e':b=a:=hA b (by rw[q];simp);subst e';rw[ha] at e;cases e;have d':Data.seq vs.toArray _=Data.dict es ep:=d;cases d'
  have nsK:∀{b:Addr}{m:vG_},J.heap.Ns b m->(Y6 J.heap H).Ns b m:=fun {b m} ⟨o,es,ep,e,d,r⟩=>#[o,es,ep,U e (noA e d),d,r]
  have hKb:K.In (Y6 J.heap H):=fun b o e=>U (KX b o e) (by
   cases q:H b with
   |none=>rfl
   |some u=>
    have e':b=a:=hA b (by rw[q];simp);subst e';rw[hK (by rw[q];simp)] at e;cases e)
  have hM:Mod K mg (Y6 J.heap H):=#[hKb,nsK hns,#[mb,nsK Y,hbb],let ⟨mc,h1,h2⟩:=hlim;#[mc,nsK h1,h2]]
  have e0:Env0 P w K mg (Y6 J.heap H) callerA [] J H:=#[rfl,hM,fun b o e=>Cz e,Mb (xB _ _),trivial,fun b Y=>absurd (show b∈([]:vL_) from Y) (by simp),hok,.of_eq hg]
  refine Ls ((F _ hKb (nsK hns)).run callerA [] J H #[[.ref a],[]] [.ref a] [.ref a] _ _ hr e0 (hbind J (.ref a)) (.cons rfl .nil) (hsp H hO hS)) fun r s' h=>?_
  cases r with
  |error e=>exact(hCX H e s' h).elim
  |ok fl=>
   cases fl with
   |next=>exact False.elim h
   |brk=>exact False.elim h
   |cont=>exact False.elim h
   |ret u=>
    obtain⟨v,H',os,bare,un,hok',r',q⟩:=h;have q':v = .bl true:=q;subst q';obtain rfl:u=Value.bool true:=r';refine#[rfl,OldK.of_keep fun b o e=>?_,os,bare];cases q:H b with
    |none=>exact un.keep b o e q (by intro z;exact absurd (show b∈([]:vL_) from z) (by simp)) (by simp)
    |some u=>
     rcases hO b with z | ⟨ob,xs,z⟩
     .rw[q] at z;cases z
     .have z2:=un.frzs b ob _ z;obtain⟨e1,_⟩:=hok b _ z;obtain⟨e2,_⟩:=hok' b _ z2;rw[e] at e1;cases e1;exact e2
 cases hk:K.lookup a with
 |some o=>
  have e:=KX a o hk;rw[ha] at e;cases e;refine core (fun _=>none) (fun _=>.inl rfl) (.inr #[_,vs.toArray,_,hk,rfl,rfl,rfl,by rw[IU,lenV];exact hl,by simpa using rv]) (fun b u z=>by have z':(none:Option HO)=some u:=z;cases z') (fun b z=>absurd rfl z) fun z=>absurd rfl z
 |none=>
  refine core (fun b=>if b=a then some (.frz { cls:=.type "list",data:=.seq vs.toArray } (.lst (ns.map V.int))) else none) (fun b=>?_) (.inl (.inr #[{ cls:=.type "list",data:=.seq vs.toArray },iO rfl])) (fun b u z=>?_) (fun b z=>?_) fun _=>hk
  .by_cases Y:b=a
   .exact .inr #[_,_,iO Y]
   .exact .inl (iU Y)
  .by_cases Y:b=a
   .have z':=(iO Y).symm.trans z;cases z';subst Y;exact#[ha,by rw[td];exact hl,vs,_,rv,ha]
   .have z':=(iU Y).symm.trans z;cases z'
  .by_cases Y:b=a
   .exact Y
   .exact absurd (iU Y) z
def walk_of {l:PySem.W.OpenLaw}{k:Nat}{q:Program}{d:DefRec}{K:Params->PySem.W.Frag}{CX:World->R4}{sp:World->Sp}
  (hn:l.most=some n) (hn2:n<=sizeLine) (hdf:d.params.defaults=[]) (hr:Room k callerA)
  (hY:∀(w:World) (h:Heap),YP w h->(K w.params).In h)
  (F:∀(w:World) (mg:vG_) (fa:Addr) (h:Heap),(K w.params).In h->h.Ns mainGlobals mg->mg d.name=some (.ref fa) ->
   ∃fd:FuncData,(∀(s:Shared) (u:Value),BindsTo s fd #[[u],[]] [(x,u)]) /\
    ∀base:Heap,(K w.params).In base->base.Ns mainGlobals mg->FnOk l.prog w (K w.params) mg base (CX w) k fa fd [x] (sp w))
  (hsp:∀(w:World) (H:Hp) (a:Addr) (ns:List Int),ns.length<=n->kM H->SqL (K w.params) H a (ns.map V.int)->sp w [.ref a] H (fun v _=>v = .bl true) fun _ _ _=>False)
  (hCX:∀(w:World) (H:Hp) (s:Shared) (e:Value) (s':Shared),CX w [] H s (fun _ _ _=>False) e s'->False) :
  PySem.W.WalkO q loose XP YP l.row.toRowW d [] (fun f vs=>PySem.call f vs):=by
 refine Att.attach_call hn hdf fun w s₀ s₁ mg mb fa o pm cd doc a vs ns G Y ho hd hcd hmg hobj U J hg=>?_
 have KX:=hY w _ Y;obtain⟨fd,hb,hF⟩:=F w mg fa _ KX G.T.g hmg;exact zw KX G.T.g G.T.b G.T.builtins G.T.nolimit hg hobj U (xr J hn2) hr hF hb (fun H hO hS=>hsp w H a ns J hO hS) fun H e s'=>hCX w H s₁ e s'
def X7 (s:Stmt):Arguments:=match s with
 |.FunctionDef _ a _ _ _ _ _ _ _ _=>a
 |_=>{ posonlyargs:=[],args:=[],vararg:=none,kwonlyargs:=[],kw_defaults:=[],kwarg:=none,defaults:=[] }
def M2 (s:Stmt):List Stmt:=match s with
 |.FunctionDef _ _ b _ _ _ _ _ _ _=>b
 |_=>[]
def A2 (s:Stmt):Scope:=match s with
 |.FunctionDef _ _ _ _ _ _ sc _ _ _=>sc
 |_=>{ kind:=.function,names:=[],isGenerator:=false,isCoroutine:=false }
abbrev U3:R4:=fun _ _ _ _ _ _=>False
abbrev E0:XK:=fun _ _ _=>False
def ph :mT U3 X E0:=fun _ _ _ _ _ _ _ h=>h.elim
structure Fun (K:vF_) (x qual:Str) (st:Stmt) (f:Addr) (fd:FuncData):Prop where
 ex:∃(oc:Value) (od:vA_) (kV doc pm:Value) (an:vA_) (cdv ct:Value) (osl:vS_),
  fd=PySem.W.fnOf x qual (X7 st) (M2 st) (A2 st) .none kV doc pm an cdv ct/\K.lookup f=some #[oc,od,.func fd,osl]/\PySem.W.codeIn K cdv qual=true
 kp:PySem.W.keepIn K (.ref f)=true
section
variable {P:Program}{w:World}{K:vF_}
def Fun.ok {x qual:Str}{st:Stmt}{fd:FuncData}{N ps:List Str}{k:Nat}{sp:Sp}(F:Fun K x qual st f fd) (S:FnScope N ps (A2 st)) (U:∀vs H Q E,sp vs H Q E->vs.length=ps.length)
  (J:∀(cdv:Value) (A:Around) (outer:List Env) (s:Shared) (H:Hp) (vs:List V) (Q:VK) (E:XK),Room k (A.deeper (envOfC qual (A2 st) s.heap.objs.size f cdv))->sp vs H Q E ->
   ∃t,PSs (N4 U3 P w K mg base N qual (A2 st) f cdv A outer s H E).nox (M2 st) t/\t { nx:=fun _ H'=>Q .non H',rt:=Q } (start N vs) H):FnOk P w K mg base U3 (k+1) f fd ps sp:=by
 obtain⟨oc,od,kV,doc,pm,an,cdv,ct,osl,rfl,lk,hcd⟩:=F.ex;refine sC lk hcd S U fun A outer s H vs Q E hr Y=>?_
 obtain⟨t,h,q⟩:=J cdv A outer s H vs Q E hr Y;exact#[t,h.nox,q]
def Fun.binds {st:Stmt}(F:Fun K x qual st f fd)
  (h:∀(kV doc pm:Value) (an:vA_) (cdv ct:Value) (us:vV_),us.length=ps.length->bindArgs (PySem.W.fnOf x qual (X7 st) (M2 st) (A2 st) .none kV doc pm an cdv ct) #[us,[]]=pure (ps.zip us)):Binds K fd ps []:=by
 obtain⟨oc,od,kV,doc,pm,an,cdv,ct,osl,rfl,U,J⟩:=F.ex;exact .all (h kV doc pm an cdv ct)
def yn {st:Stmt}{kV doc pm ct:Value}(l:K.lookup f=some #[oc,od,.func (PySem.W.fnOf x qual (X7 st) (M2 st) (A2 st) .none kV doc pm an cdv ct),osl])
  (c:PySem.W.codeIn K cdv qual=true) (k:PySem.W.keepIn K (.ref f)=true):Fun K x qual st f (PySem.W.fnOf x qual (X7 st) (M2 st) (A2 st) .none kV doc pm an cdv ct):=#[#[oc,od,kV,doc,pm,an,cdv,ct,osl,rfl,l,c],k]
end
def Co (h:n<=1000):n<sizeLine:=Jf h #[]
def pv (i:Nat) {x:Str}{pos:Pos}(U:X.N[i]? = some x:=by rfl) (hv:kP X.env.scope x:=by first | exact Or.inl rfl | exact Or.inr (Or.inl rfl) | exact Or.inr (Or.inr rfl)) (Y:(x == ("__debug__" : Str))=false:=by decide)
  (J:(x == ("__classdict__" : Str))=false:=by decide):PE X (.Name x pos) (Y7 i):=AE U hv Y J
def xR {A B:Prop}(h:B):if false=true then A else B:=by
 rw[iU IM];exact h
def HR {A B:Prop}(h:A):if true=true then A else B:=by
 rw[iO rfl];exact h
def m7 (X:Cx) (N':List Str) (scope:Scope) (cl:List (Str × Addr)) (C:Addr) (s0:Shared) (H0:Hp) (ex:vL_):Cx:=
 { X with N:=N',env:=compEnvC scope cl C X.env,s₀:=s0,H₀:=H0,outer:=X.stack,stack:=X.stack,ex:=ex,fn:=fun _=>false,pn:=[],xe:=fun _ _=>False }
def bO (X:Cx) (ifs:List Expr) (t:TT):Prop:=
 ∀(pins:vP_) (s:Shared) (σ:St) (H:Hp) (Q:Bool->Hp->Prop),Inv X pins σ H s->t σ H Q ->
  wpAny (model X.prog X.w) X.A (forIn ifs true fun c r=>if r=true then do let ok <-isTrue c X.env (eval c X.env);pure (ForInStep.yield ok) else pure (ForInStep.yield r)) (TP X pins σ Q) X.xe s
def Eg:TT:=fun _ H Q=>Q true H
def Gi :bO X [] Eg:=fun pins s σ H Q I h=>wpAny_tests_nil #[H,I,h]
def HH {c:Expr}{t:TT}(h:PT X c t):bO X [c] t:=fun pins s σ H Q I q=>wpAny_tests_one (h pins s σ H Q I q)
def E7 (n:Nat) (idx:List Nat) (σ:St):St:=List.replicate n none++idx.map fun i=>(σ[i]?).join
def cL (n:Nat) (idx:List Nat) (wi:TI) (g:TG) (tc:TT) (te:TE):TE:=fun σ H Q=>wi σ H fun J H1=>∀D,H1 D=none ->
 ∃W:Nat->Nat->Hp->Prop,(∃m,W 0 m (i6 H1 D (.lst [])))/\∀i m H,W i m H ->
  (J.stop i H/\Q (.ref D) H)\/(J.go i H/\∀x H',J.yld i H x H'->g x (E7 n idx σ) H' fun σ2 H2=>(σ2.length=(E7 n idx σ).length/\∀(j:Nat) (v:V),(E7 n idx σ)[j]? = some (some v)->σ2[j]? = some (some v))/\tc σ2 H2 fun b Y=>
   if b=true then te σ2 Y fun v U=>∃ys,U D=some (.lst ys)/\ys.length<sizeLine/\∃m',m'<m/\W (i+1) m' (i6 U D (.lst (ys++[v]))) else ∃m',m'<m/\W (i+1) m' Y)
structure CompOk (X:Cx) (scope:Scope) (cl:List (Str × Addr)) (N':List Str) (n:Nat) (idx:List Nat):Prop where
 clos:closureFor scope X.env=pure cl
 sub:∀x c,cl.lookup x=some c->X.env.cells.lookup x=some c
 cell:∀y∈scope.names,y.2 ≠ .cell
 kind:scope.kind = .function
 names:∀y∈scope.names,y.2 = .local->scope.names.lookup y.1=some .local
 has:∀x,((relabel scope X.env).names.lookup x=some .cell\/(relabel scope X.env).names.lookup x=some .free)->∃c,cl.lookup x=some c
 len:N'.length=n+idx.length
 cap:∀(j i:Nat) (y:Str),idx[j]? = some i->N'[n+j]? = some y->X.N[i]? = some y/\(X.env.scope.names.lookup y=some .cell\/X.env.scope.names.lookup y=some .free)/\((relabel scope X.env).names.lookup y=some .cell\/(relabel scope X.env).names.lookup y=some .free)
section
variable {wi:TI}{g:TG}
def Ec (σ:St):(E7 n idx σ).length=n+idx.length:=by simp[E7]
def Ci {v:V}(h:(E7 n idx σ)[j]? = some (some v)):∃k i,j=n+k/\idx[k]? = some i/\σ[i]? = some (some v):=by
 unfold E7 at h;by_cases J:j<n
 .rw[JL (by simpa using J)] at h;simp[J] at h
 .rw[JU (by simpa using Ma J)] at h;simp only[MQ,Jl] at h;refine#[j - n,?_];cases e:idx[j - n]? with
  |none=>rw[e] at h;simp at h
  |some i=>
   rw[e] at h;simp only[MX,Jn] at h;exact#[i,by omega,rfl,by simpa using Option.join_eq_some_iff.mp h]
def Hi (k:CompOk X scope cl N' n idx) {pins:vP_}{s2:Shared}{fp:vL_}{C:Addr}{h4:Heap}{t4:Nat}{m:vG_}(I:Inv X pins σ H2 s2) (f:∀b∈fp,M7 X pins H2 b) (fo:∀b∈fp,b<s2.heap.objs.size)
  (hC:s2.heap.objs.size+1<=C) (ns:h4.Ns C m) (U:∀b o,s2.heap.get? b=some o->h4.get? b=some o) (hD:h4.get? s2.heap.objs.size=some { cls:=.type "list",data:=.seq ([]:vV_).toArray }) :
  Inv (m7 X N' scope cl C s2 H2 fp) [] (E7 n idx σ) (i6 H2 s2.heap.objs.size (.lst [])) { s2 with heap:=h4,toks:=t4 }:=by
 have fresh:H2 s2.heap.objs.size=none:=I.hok.fresh (tv _);have fC:H2 C=none:=I.hok.fresh ∅;have J:∀x c,(m7 X N' scope cl C s2 H2 fp).env.cells.lookup x=some c->X.env.cells.lookup x=some c:=fun x c e=>k.sub x c e
 have cellLt:∀x c,X.env.cells.lookup x=some c->c<s2.heap.objs.size:=fun x c e=>by
  obtain⟨v,q⟩:=I.cell x c e;exact q.lt
 have ok:(m7 X N' scope cl C s2 H2 fp).Ok:={
  mod:=I.ok.mod
  kind:=k.kind
  glob:=I.ok.glob
  blt:=I.ok.blt
  above:=by show s2.heap.objs.size<=C;omega
  inj:=fun x y c e1 e2=>I.ok.inj x y c (J x c e1) (J y c e2)
  has:=fun x h=>k.has x h
  cab:=fun x c h _=>by cases h
  hd:=I.ok.hd
  frames:=I.ok.frames
  stk:=.inl rfl
  exf:=fun b hb=>#[Jd (IJ (fo b hb) (by show s2.heap.objs.size<=C;omega)),fun x c e z=>(f b hb).2.2.2.2.1 x c (J x c e) z]
  bs:=fun b o e=>I.bs b o e
  bsz:=xr I.ok.bsz I.sz
  noex:=fun b o e hb=>by
   rcases(f b hb).2.2.2.1 with z | z
   .exact I.ok.noex b o e z
   .exact absurd (IJ (xl e) (xr I.ok.bsz z)) (JB _)
  exfs:=fun b hb z=>by
   rcases IH.mp (I.stkSub b z) with y | y
   .exact(f b hb).2.1 y
   .exact(f b hb).2.2.1 y
  funs:=I.stack
  frf:=I.stkFree }
 refine#[ok,rfl,I.bare,Un.laid U (tv _) fresh,#[m,ns,fun j y v e1 e2 e3=>?_],fun x c e=>?_,?_,fun x c e=>?_,fun p hp=>(by cases hp),I.hok.laid U (tv _) #[JK _,[],_,.nil,hD],?_]
 .obtain⟨kk,i,rfl,hk,hv⟩:=Ci e2;obtain⟨hN,ok,Y⟩:=k.cap kk i y hk e1;obtain⟨c,hc⟩:=k.has y Y;obtain⟨m0,_,hl⟩:=I.loc;have hc':=k.sub y c hc;obtain⟨u,r,l⟩:=hl i y v hN hv (by rcases ok with z | z;exact .inr (.inl z);exact .inr (.inr z));refine#[u,r,.inr #[Y,c,hc,?_]];rcases l with ⟨z,_⟩ | ⟨_,c',e',q⟩
  .have z':X.env.scope.names.lookup y=some .local:=z;rcases ok with w | w <;> · rw[w] at z';cases z'
  .rw[hc'] at e';cases e';obtain⟨o,ho,hd⟩:=q;exact#[o,U _ o ho,hd]
 .obtain⟨v,q⟩:=I.cell x c (J x c e);obtain⟨o,ho,hd⟩:=q;exact#[v,o,U c o ho,hd]
 .show i6 H2 s2.heap.objs.size (.lst []) C=none;rw[j6 (Jx hC)];exact fC
 .have:=cellLt x c (J x c e);rw[j6 (Jd this)];exact I.freeC x c (J x c e)
 .rw[Ec,<-k.len];rfl
def Dc {w:World}{R:Result->Shared->Prop}{it J:Value}(I:Nat->Shared->Prop)
  (U:∀n s,I n s->wpAny (model prog w) A (pyNext it) (fun r s1=>match r with
   |none=>R (.ok .next) s1
   |some v=>wpAny (model prog w) A (letOwnedTupleGo target it v) (fun _ s1'=>wpAny (model prog w) A (assign target env v) (fun _ s2=>
     wpAny (model prog w) A (forIn ifs true fun c r=>if r=true then do let ok <-isTrue c env (eval c env);pure (ForInStep.yield ok) else pure (ForInStep.yield r)) (fun ok s3=>
      if ok=true then wpAny (model prog w) A (eval elt env) (fun x s4=>
       wpAny (model prog w) A (call (.builtin "list.append") [J,x]) (fun _ s5=>∃m,m<n/\I m s5) (notedBy (model prog w) A env fun e s'=>R (.error e) s') s4) (notedBy (model prog w) A env fun e s'=>R (.error e) s') s3
      else ∃m,m<n/\I m s3) (notedBy (model prog w) A env fun e s'=>R (.error e) s') s2) (notedBy (model prog w) A env fun e s'=>R (.error e) s') s1') (notedBy (model prog w) A env fun e s'=>R (.error e) s') s1) (notedBy (model prog w) A env fun e s'=>R (.error e) s') s)
  (n:Nat) (h:I n s) :
  codeAny (model prog w) A (.compLoop (.ListComp elt [#[target,iter,ifs,0]] scope pos) 0 it J env) R s:=by
 refine codeAny_loop rfl I (fun n s hI=>?_) n h;show wpAny _ A ((compTurn (.ListComp elt [#[target,iter,ifs,0]] scope pos) 0 it J env).onRaise (fun x=>do noteFrame x env;theTreesLotGoes x)) _ _ s;refine wpAny_noted ?_;rw[compTurn_list];refine gV (Ku (gV (IV (U n s hI) (fun r s₁ h₁=>?_) fun _ _ h'=>h')));cases r with
 |none=>exact iR h₁
 |some v=>
  refine gV (IV h₁ (fun _ s1' Y=>?_) fun _ _ h'=>h');refine gV (IV Y (fun _ s₂ h₂=>gV (IV h₂ (fun ok s₃ h₃=>?_) fun _ _ h'=>h')) fun _ _ h'=>h');cases ok with
  |false=>exact iR #[rfl,h₃]
  |true=>
   exact gV (gV (IV h₃ (fun x s₄ h₄=>gV (IV h₄ (fun _ s₅ h₅=>iR (iR #[rfl,h₅])) fun _ _ h'=>h')) fun _ _ h'=>h'))
end
section
variable {wi:TI}{g:TG}
def vR {use:Option (Value->Sem Unit)}{Q':vQ_}(hc:X.calm=true) (k:CompOk X scope cl N' n idx) (hi:PI X tg iter wi)
  (hg:∀C s0 H0 ex,PG (m7 X N' scope cl C s0 H0 ex) tg g) (ht:∀C s0 H0 ex,bO (m7 X N' scope cl C s0 H0 ex) ifs tc) (he:∀C s0 H0 ex,PE (m7 X N' scope cl C s0 H0 ex) elt te)
  (hs:∀x,foldedSetIterable iter X.env x=pure x) {Q:VK}(I0:Inv X pins σ H s) (h:cL n idx wi g tc te σ H Q)
  (last:∀(C D:Addr) (s':Shared) (H':Hp) (m:vG_),Inv X pins σ H' s'->M7 X pins H' C->s'.heap.Ns C m->Q (.ref D) H'->compPost (model X.prog X.w) X.A X.xe use Q' (.ref D) C (.ok .next) s') :
  wpAny (model X.prog X.w) X.A (comprehension (.ListComp elt [#[tg,iter,ifs,0]] scope pos) scope X.env pos2 (newList []) false (eval iter X.env) use) Q' X.xe s:=by
 refine wpAny_comprehension_free (use:=use) rfl hs k.clos k.kind k.names (l4 (hi pins s σ H _ I0 h) fun v s1 h1=>l4 h1 fun itv s2 h2=>?_);obtain⟨it,fp,tn,J,H2,e,I2,T,st2,f2,hW⟩:=h2;subst e;have fo2:∀b∈fp,b<s2.heap.objs.size:=fun b U=>by
  obtain⟨o,e,_⟩:=T.obj _ _ st2 b U;exact xl e
 obtain⟨W,⟨m0,w0⟩,turn⟩:=hW s2.heap.objs.size (I2.hok.fresh (tv _));refine JE (wpAny_newFunctionEnv k.cell (by intro y hy;simp at hy) (fun h4 hns4 Y=>?_) k.kind)
 dsimp only at hns4 Y ⊢
 generalize hH3:s2.heap.push { cls:=.type "list",dict:=none,data:=.seq ([]:vV_).toArray }=h3 at hns4 Y ⊢;have hCe:h3.objs.size=s2.heap.objs.size+1:=by rw[<-hH3,KA]
 have k34:∀b o,b≠h3.objs.size->h3.get? b=some o->h4.get? b=some o:=fun b o nb e=>Y.extBut b o nb (xu _ e)
 have keep:∀b o,s2.heap.get? b=some o->h4.get? b=some o:=fun b o e=>k34 b o (Jd (by rw[hCe];exact Nat.lt_succ_of_lt (xl e))) (by rw[<-hH3];exact xu _ e)
 have hD:h4.get? s2.heap.objs.size=some { cls:=.type "list",data:=.seq ([]:vV_).toArray }:=k34 _ _ (Jd (by rw[hCe];exact Nat.lt_succ_self _)) (by rw[<-hH3];exact Jk _ rfl);have I4:=Hi k I2 f2 fo2 (Mb hCe.symm) hns4 keep hD (t4:=s2.toks+([]:List (Str × Value)).length);have stat:∀{H':Hp},(∀b∈fp,H' b=none)->∀b∈fp,M7 (m7 X N' scope cl h3.objs.size s2 H2 fp) [] H' b:=fun hn b U=>
  #[hn b U,Jd (by rw[hCe];exact Nat.lt_succ_of_lt (fo2 b U)),fun z=>(IH.mp (I2.stkSub b z)).elim (f2 b U).2.1 (f2 b U).2.2.1,.inl U,fun x c e=>(f2 b U).2.2.2.2.1 x c (k.sub x c e),fun p hp=>(by cases hp)]
 have fr4:∀b∈fp,i6 H2 s2.heap.objs.size (.lst []) b=none:=fun b U=>by rw[j6 (Jd (fo2 b U))];exact(f2 b U).1
 have fin:∀(s':Shared) (H':Hp),Inv (m7 X N' scope cl h3.objs.size s2 H2 fp) [] (E7 n idx σ) H' s'->Q (.ref s2.heap.objs.size) H' ->
   compPost (model X.prog X.w) X.A X.xe use Q' (.ref s2.heap.objs.size) h3.objs.size (.ok .next) s':=fun s' H' I' q=>by
  obtain⟨m',hn',_⟩:=I'.loc;have B:=I'.base;refine last _ _ s' H' m' ?_ (I2.fpOk (by rw[hCe];exact Lx _) I'.free) hn' q;refine I2.call' (s':=s') (ch:=fp) (show s'.os=s2.os from I'.os) #[fun b o e nn U hx=>B.keep b o e nn U hx,fun b o e nn U hx=>B.slot b o e nn U hx,B.free,fun b o e hx=>B.there b o e hx,B.tups,B.frzs,B.tbls] I'.hok I'.bare fun b U=>?_
  obtain⟨p1,p2,p3,p4,p5,p6⟩:=f2 b U;exact#[p4,p2,p5,p6]
 have loop:∀s4:Shared,s4={ s2 with heap:=h4,toks:=s2.toks+([]:List (Str × Value)).length } ->
   codeAny (model X.prog X.w) X.A (.compLoop (.ListComp elt [#[tg,iter,ifs,0]] scope pos) 0 (.ref it) (.ref s2.heap.objs.size) (compEnvC scope cl h3.objs.size X.env)) (compPost (model X.prog X.w) X.A X.xe use Q' (.ref s2.heap.objs.size) h3.objs.size) s4:=by
  rintro s4 rfl;refine Dc (fun m s'=>∃i H',Inv (m7 X N' scope cl h3.objs.size s2 H2 fp) [] (E7 n idx σ) H' s'/\tn i s'.heap/\(∀b∈fp,H' b=none)/\W i m H') ?_ m0 #[0,_,I4,T.keep _ _ _ st2 (fun b _ o e=>keep b o e),fr4,w0];rintro m s3 ⟨i,H3,I3,st3,fr3,w3⟩;rcases turn i m H3 w3 with ⟨stop,q⟩ | ⟨go,step⟩
  .refine IV (T.done (m7 X N' scope cl h3.objs.size s2 H2 fp) rfl rfl rfl hc i [] s3 _ H3 (fun _ _=>False) I3 (stat fr3) st3 stop) (fun r s5 ⟨hr,I5⟩=>?_) fun _ _ z=>z.elim
   subst hr;exact fin s5 H3 I5 q
  .refine IV (T.item (m7 X N' scope cl h3.objs.size s2 H2 fp) rfl rfl rfl hc i [] s3 _ H3 (fun _ _=>False) I3 (stat fr3) st3 go) (fun r s5 ⟨u,hr,h5⟩=>?_) fun _ _ z=>z.elim
   subst hr;refine IV h5 (fun _ s6 ⟨x,H6,I6,r6,y6,st6,fr6⟩=>?_) fun _ _ z=>z.elim
   have I6':=I6.pinned (stat fr6) (T.obj _ _ st6);have again:∀{σ7:St}{H7:Hp}{s7:Shared},Inv (m7 X N' scope cl h3.objs.size s2 H2 fp) ([]++eH fp s6.heap) σ7 H7 s7->σ7.length=(E7 n idx σ).length->(∀(j:Nat) v,(E7 n idx σ)[j]? = some (some v)->σ7[j]? = some (some v))->(∃m',m'<m/\W (i+1) m' H7) ->
     ∃m',m'<m/\∃i H',Inv (m7 X N' scope cl h3.objs.size s2 H2 fp) [] (E7 n idx σ) H' s7/\tn i s7.heap/\(∀b∈fp,H' b=none)/\W i m' H':=fun {σ7 H7 s7} I7 hl hw ⟨m',hm,w7⟩=>by
    refine#[m',hm,i+1,H7,(I7.unpinned).weak hl.symm hw,T.keep _ _ _ st6 fun b U o e=>(I7.pin (b,o) (JJ _ (JJ _ (eP U e)))).1,fun b U=>?_,w7];obtain⟨o,e,d⟩:=T.obj _ _ st6 b U;exact(I7.pin (b,o) (JJ _ (JJ _ (eP U e)))).2.1
   refine IV (hg _ _ _ _ _ s6 _ H6 x u _ I6' r6 (step x H6 y6)) (fun _ s7 ⟨σ7,H7,I7,⟨hl,hw⟩,q7⟩=>?_) fun _ _ z=>z.elim
   refine IV (ht _ _ _ _ _ s7 σ7 H7 _ I7 q7) (fun ok s8 ⟨H8,I8,q8⟩=>?_) fun _ _ z=>z.elim
   cases ok with
   |false=>
    rw[iU IM] at q8 ⊢;exact again I8 hl hw q8
   |true=>
    rw[iO rfl] at q8 ⊢;refine IV (he _ _ _ _ _ s8 σ7 H8 _ I8 q8) (fun v9 s9 ⟨x9,H9,I9,r9,ys,e9,l9,q9⟩=>?_) fun _ _ z=>z.elim
    refine IV (qo (X:=m7 X N' scope cl h3.objs.size s2 H2 fp) _ s9 σ7 H9 (.ref s2.heap.objs.size) [x9] (.ref s2.heap.objs.size) [v9] (fun _ H'=>H'=i6 H9 s2.heap.objs.size (.lst (ys++[x9]))) I9 rfl (.cons r9 .nil) #[s2.heap.objs.size,ys,x9,rfl,rfl,e9,l9,rfl]) (fun _ s10 ⟨_,H10,I10,_,e10⟩=>?_) fun _ _ z=>z.elim
    subst e10;exact again I10 hl hw q9
 exact codeAny_compStart_list (loop _ rfl) (T.self _ 0 _ _ _ (T.keep _ _ _ st2 (fun b _ o e=>keep b o e)) (loop _ rfl))
def lF (hc:X.calm=true) (k:CompOk X scope cl N' n idx) (hi:PI X tg iter wi)
  (hg:∀C s0 H0 ex,PG (m7 X N' scope cl C s0 H0 ex) tg g) (ht:∀C s0 H0 ex,bO (m7 X N' scope cl C s0 H0 ex) ifs tc) (he:∀C s0 H0 ex,PE (m7 X N' scope cl C s0 H0 ex) elt te)
  (hs:∀x,foldedSetIterable iter X.env x=pure x:=by intro _;rfl):PE X (.ListComp elt [#[tg,iter,ifs,0]] scope pos) (cL n idx wi g tc te):=by
 intro pins s σ H Q I0 h;rw[eval_ListComp];refine vR (use:=none) (Q':=EP X pins σ Q) hc k hi hg ht he hs I0 h ?_;intro C Y s' H' m IX J hn q;exact#[m,hn,fun h' U=>#[.ref Y,H',IX.turned (t':=s'.toks) (it:=C) (h':=h') (fun b o nb e=>(U.2 b nb).trans e) J.1 J.2.1 J.2.2.2.1 J.2.2.2.2.1 J.2.2.2.2.2,rfl,q]]
def vK {i:Nat}{y:Str}{py J:Pos}(hN:X.N.Nodup) (hi':X.N[i]? = some y) (hx:X0 X.env.scope y) (hc:X.calm=true) (k:CompOk X scope cl N' n idx) (hi:PI X tg iter wi)
  (hg:∀C s0 H0 ex,PG (m7 X N' scope cl C s0 H0 ex) tg g) (ht:∀C s0 H0 ex,bO (m7 X N' scope cl C s0 H0 ex) ifs tc) (he:∀C s0 H0 ex,PE (m7 X N' scope cl C s0 H0 ex) elt te)
  (hs:∀x,foldedSetIterable iter X.env x=pure x:=by intro _;rfl) (hsw:swapsWith (.ListComp elt [#[tg,iter,ifs,0]] scope pos) (some (.Name y py)) J.line X.env=pure true:=by rfl)
  (hf:X.fn y=true\/X.env.scope.names.lookup y=some .local:=by first | exact .inl rfl | exact .inr rfl | assumption) :
  PS X (.Assign [.Name y py] (.ListComp elt [#[tg,iter,ifs,0]] scope pos) J) (fN (cL n idx wi g tc te) (P1 i)):=by
 intro pins s σ H D I h;rw[exec_Assign_Name_used _ _ _ _ hsw];refine gV (Ku (gV ?_));show wpAny _ X.A (do let _ <-comprehension (.ListComp elt [#[tg,iter,ifs,0]] scope pos) scope X.env _ (newList []) false (eval iter X.env) (some (assign (.Name y py) X.env))) _ _ s;refine gV (IV (vR (use:=some (assign (.Name y py) X.env)) (Q':=fun _ s'=>SP X pins D .next s') hc k hi hg ht he hs I h ?_) (fun _ s' hq=>iR (iR hq)) fun _ _ e=>e);intro C Y s' H' m IX U hn q;show wpAny _ X.A (assign (.Name y py) X.env (.ref Y)) _ _ _;obtain⟨o,es,ep,ho,hd,hr⟩:=hn;have IP:=IX.pinned (fp:=[C]) (fun b hb=>by rw[Jo.mp hb];exact U) (fun b hb=>by rw[Jo.mp hb];exact#[o,ho,fun v z=>by rw[hd] at z;cases z]);refine IV (L9 hN hi' hx hf _ s' σ H' (.ref Y) (.ref Y) D.nx IP rfl q) (fun _ s'' ⟨σ2,H2,I2,q2⟩=>?_) fun _ _ e=>e
 have pn:=I2.pin (C,o) (JJ _ (JJ _ (eP (Jo.mpr rfl) ho)));refine#[m,#[o,es,ep,pn.1,hd,hr],fun h' hsb=>#[σ2,H2,?_,q2]];have It:=I2.unpinned.turned (t':=s''.toks) (it:=C) (h':=h') (fun b o nb e=>(hsb.2 b nb).trans e) pn.2.1 U.2.1 U.2.2.2.1 U.2.2.2.2.1 U.2.2.2.2.2;exact It
end
end L2
namespace DL
open PySem PySem.Spec L2
def o8 {α β γ:Type}{o:Option (α × β)}{f:α × β->Option γ}{r:γ}(h:o.bind f=some r) (k:∀x y,o=some (x,y)->f (x,y)=some r->G):G:=by
 obtain⟨⟨x,y⟩,a,b⟩:=Kk.mp h;exact k x y a b
def X3 {α γ:Type}{o:Option α}{f:α->Option γ}{r:γ}(h:o.bind f=some r) (k:∀x,o=some x->f x=some r->G):G:=by
 obtain⟨x,a,b⟩:=Kk.mp h;exact k x a b
def mapP {α β γ:Type}{o:Option (α × β)}{f:α × β->γ}{r:γ}(h:o.map f=some r) (k:∀x y,o=some (x,y)->f (x,y)=r->G):G:=by
 obtain⟨⟨x,y⟩,a,b⟩:=Ly.mp h;exact k x y a b
def N6 {α γ:Type}{o:Option α}{f:α->γ}{r:γ}(h:o.map f=some r) (k:∀x,o=some x->f x=r->G):G:=by
 obtain⟨x,a,b⟩:=Ly.mp h;exact k x a b
inductive D where
 | non | bl (b:Bool) | int (i:Int) | str (x:Str) | tup (ds:List D) | lst (ds:List D)
 | feed | scr (ns:List Int) | fn (x:Str) | exc (c:Str) (ds:List D)
variable {d:D}
abbrev vD_:=List D
variable {ds:vD_}
mutual
def D.py:D->PyData
 |.non=>.none
 |.bl b=>.bool b
 |.int i=>.int i
 |.str x=>.str x
 |.tup ds=>.tuple (D.pys ds)
 |.lst ds=>.list (D.pys ds)
 |.feed=>.none
 |.scr _=>.none
 |.fn _=>.none
 |.exc _ _=>.none
def D.pys:List D->List PyData
 |[]=>[]
 |d::r=>D.py d::D.pys r
end
mutual
def D.plain:D->Bool
 |.non=>true
 |.bl _=>true
 |.int _=>true
 |.str _=>true
 |.tup ds=>D.plains ds
 |.lst ds=>D.plains ds
 |.feed=>false
 |.scr _=>false
 |.fn _=>false
 |.exc _ _=>false
def D.plains:List D->Bool
 |[]=>true
 |d::r=>D.plain d&&D.plains r
end
structure FS where
 cells:List Int
 pos:Int
 left:Int
 turn:Int
 kind:Nat
abbrev vO_:=Option FS
variable {fs':vO_}
def M6 (c:Addr) (f:FS):List V:=if f.kind=1 then [V.ref c,V.int f.pos,V.int f.left] else [V.ref c,V.int f.pos,V.int f.left,V.int f.turn]
def bV (c:Addr) (f:FS):HO:=if f.kind=0 then .dK [(Sum.inr ("cells" : Str),V.ref c),(Sum.inr ("at" : Str),V.int f.pos),(Sum.inr ("left" : Str),V.int f.left),(Sum.inr ("turn" : Str),V.int f.turn)] else .lst (M6 c f)
def lv {c:Addr}{f:FS}(h:¬ f.kind=0):bV c f = .lst (M6 c f):=iU h
def CG {c:Addr}(h:bV c f = .tup xs):False:=by unfold bV at h;split at h <;> cases h
def zg {c:Addr}{o:Obj}{u:HO}(h:bV c f = .frz o u):False:=by unfold bV at h;split at h <;> cases h
def FeedR (N:vB_) (H:Hp):Option Addr->Option FS->Prop
 |none,none=>True
 |some a,some f=>f.cells.length<=63/\∃c,H a=some (bV c f)/\¬ N c/\H c=some (.lst (f.cells.map V.int))
 |_,_=>False
def SqF (K:vF_) (H:Hp) (a:Addr) (xs:List V):Prop:=
 (∃o,H a=some (.frz o (.lst xs))) \/
  ∃(o:Obj) (its:vR_) (n:Nat),K.lookup a=some o/\o.cls = .type "list" /\ o.dict=none/\o.data = .seq its n/\its.size<=sizeLine/\Vals xs its.toList
def SqF.sq {K:vF_}(h:SqF K H a xs):SqL K H a xs:=by
 rcases h with ⟨o,h⟩ | h
 .exact .inl (.inr #[o,h])
 .exact .inr h
def fnm:List Str:=["word", "at"]
def ExO (H:Hp) (a C:Addr) (xs:List V):Prop:=∃o,H a=some (.frz o (.own a))/\o.cls = .ref C/\(∃vs,o.data = .fields vs)/\xs.length<=2/\(xs=[]\/∃dx od,o.dict=some dx/\H dx=some (.frz od (.xd (fnm.zip xs))))
mutual
def Rep (K:vF_) (N:vB_) (fa:vA_) (H:Hp):D->V->Prop
 |.non,v=>v = .non
 |.bl b,v=>v = .bl b
 |.int i,v=>v = .int i
 |.str x,v=>v = .str x/\x.length<=sizeLine
 |.tup ds,v=>∃a xs,v = .ref a/\SqT K H a xs/\Reps K N fa H ds xs
 |.lst ds,v=>∃a xs,v = .ref a/\¬ N a/\H a=some (.lst xs)/\Reps K N fa H ds xs
 |.feed,v=>∃a,fa=some a/\v = .ref a
 |.scr ns,v=>ns.length<=63/\∃a,v = .ref a/\SqF K H a (ns.map V.int)
 |.fn x,v=>∃a,v = .ref a/\PySem.W.nsIn K mainGlobals x=some (some (.ref a))
 |.exc c ds,v=>∃a C xs,v = .ref a/\PySem.W.nsIn K mainGlobals c=some (some (.ref C))/\ExO H a C xs/\Reps K N fa H ds xs
def Reps (K:vF_) (N:vB_) (fa:vA_) (H:Hp):List D->List V->Prop
 |[],xs=>xs=[]
 |d::r,xs=>∃x ys,xs=x::ys/\Rep K N fa H d x/\Reps K N fa H r ys
end
def RepB (K:vF_) (N:vB_) (fa:vA_) (H:Hp):D->V->Prop
 |.lst ds,v=>∃a xs,v = .ref a/\fa≠some a/\H a=some (.lst xs)/\Reps K N fa H ds xs
 |d,v=>Rep K N fa H d v
def Y2 (K:vF_) (N:vB_) (fa:vA_) (H:Hp):List D->List V->Prop
 |[],xs=>xs=[]
 |d::r,xs=>∃x ys,xs=x::ys/\RepB K N fa H d x/\Y2 K N fa H r ys
def qD (K:vF_) (H:Hp) (a:Addr):Sum (List V) (Obj × HO)->Prop
 |.inl xs=>SqF K H a xs
 |.inr p=>H a=some (.frz p.1 p.2)
structure Car (K:vF_) (N:vB_) (fa:vA_) (H:Hp) (N':vB_) (fa':vA_) (H':Hp):Prop where
 ls:∀b xs,¬ N b->H b=some (.lst xs)->H' b=some (.lst xs)/\¬ N' b
 tp:∀b xs,SqT K H b xs->SqT K H' b xs
 fz:∀b xs,qD K H b xs->qD K H' b xs
 fe:∀a,fa=some a->fa'=some a
section
variable {K:vF_}{N':vB_}
def ExO.go (c:Car K N fa H N' fa' H') (h:ExO H a C xs):ExO H' a C xs:=by
 obtain⟨o,e,q,r,l,z⟩:=h;refine#[o,c.fz a (.inr (o,_)) e,q,r,l,z.imp id ?_];rintro⟨dx,od,y,w⟩;exact#[dx,od,y,c.fz dx (.inr (od,_)) w]
mutual
theorem Rep.go (c:Car K N fa H N' fa' H'):∀(d:D) (v:V),Rep K N fa H d v->Rep K N' fa' H' d v
 |.non,v,h=>by simpa only[Rep] using h
 |.bl b,v,h=>by simpa only[Rep] using h
 |.int i,v,h=>by simpa only[Rep] using h
 |.str x,v,h=>by simpa only[Rep] using h
 |.tup ds,v,h=>by
  simp only[Rep] at h ⊢;obtain⟨a,xs,e,q,r⟩:=h;exact#[a,xs,e,c.tp a xs q,Reps.go c ds xs r]
 |.lst ds,v,h=>by
  simp only[Rep] at h ⊢;obtain⟨a,xs,e,n,q,r⟩:=h;obtain⟨J,U⟩:=c.ls a xs n q;exact#[a,xs,e,U,J,Reps.go c ds xs r]
 |.feed,v,h=>by
  simp only[Rep] at h ⊢;obtain⟨a,e,q⟩:=h;exact#[a,c.fe a e,q]
 |.scr ns,v,h=>by
  simp only[Rep] at h ⊢;obtain⟨l,a,e,q⟩:=h;exact#[l,a,e,c.fz a (.inl _) q]
 |.fn x,v,h=>by simpa only[Rep] using h
 |.exc x ds,v,h=>by
  simp only[Rep] at h ⊢;obtain⟨a,C,xs,e,n,q,r⟩:=h;exact#[a,C,xs,e,n,q.go c,Reps.go c ds xs r]
theorem Reps.go (c:Car K N fa H N' fa' H'):∀(ds:vD_) (xs:List V),Reps K N fa H ds xs->Reps K N' fa' H' ds xs
 |[],xs,h=>by simpa only[Reps] using h
 |d::r,xs,h=>by
  simp only[Reps] at h ⊢;obtain⟨x,ys,e,h1,h2⟩:=h;exact#[x,ys,e,Rep.go c d x h1,Reps.go c r ys h2]
end
def Rep.b (J:∀a,fa=some a->N a) {v:V}(h:Rep K N fa H d v):RepB K N fa H d v:=by
 cases d with
 |lst ds=>
  simp only[Rep] at h;obtain⟨a,xs,e,n,q,r⟩:=h;exact#[a,xs,e,fun z=>n (J a z),q,r]
 |_=>simpa only[RepB] using h
def W9 (K:vF_) (N:vB_) (fa:vA_) (H:Hp):D->V->Prop
 |.lst ds,v=>∃a xs,v = .ref a/\H a=some (.lst xs)/\Reps K N fa H ds xs
 |d,v=>Rep K N fa H d v
def Rep.o {v:V}(h:Rep K N fa H d v):W9 K N fa H d v:=by
 cases d with
 |lst ds=>
  simp only[Rep] at h;obtain⟨a,xs,e,_,q,r⟩:=h;exact#[a,xs,e,q,r]
 |_=>simpa only[W9] using h
def RepB.o {v:V}(h:RepB K N fa H d v):W9 K N fa H d v:=by
 cases d with
 |lst ds=>
  obtain⟨a,xs,e,_,q,r⟩:=h;exact#[a,xs,e,q,r]
 |_=>simpa only[W9,RepB] using h
theorem Reps.length:∀{ds:vD_}{xs:List V},Reps K N fa H ds xs->xs.length=ds.length
 |[],xs,h=>by simp only[Reps] at h;subst h;rfl
 |d::r,xs,h=>by
  simp only[Reps] at h;obtain⟨x,ys,e,h1,h2⟩:=h;subst e;simp[Reps.length h2]
theorem Reps.get:∀{ds:vD_}{xs:List V}{i:Nat}{d:D},Reps K N fa H ds xs->ds[i]? = some d->∃x,xs[i]? = some x/\Rep K N fa H d x
 |[],xs,i,d,h,e=>by simp at e
 |d::r,xs,0,d',h,e=>by
  simp only[Reps] at h;obtain⟨x,ys,J,h1,h2⟩:=h;simp at e;subst J;subst e;exact#[x,rfl,h1]
 |d::r,xs,i+1,d',h,e=>by
  simp only[Reps] at h;obtain⟨x,ys,J,h1,h2⟩:=h;subst J;obtain⟨y,Y,U⟩:=Reps.get h2 (by simpa using e);exact#[y,by simpa using Y,U]
def Reps.get':∀{ds:vD_}{xs:List V}{i:Nat}{x:V},Reps K N fa H ds xs->xs[i]? = some x->∃d,ds[i]? = some d/\Rep K N fa H d x:=fun {ds xs i x} h e=>by
 have Y:=h.length;have hi:i<xs.length:=(Jj.mp e).1;obtain⟨y,J,U⟩:=Reps.get h (Ji (show i<ds.length by omega));rw[e] at J;cases J;exact#[_,Ji (show i<ds.length by omega),U]
theorem Reps.append:∀{ds es:vD_}{xs ys:List V},Reps K N fa H ds xs->Reps K N fa H es ys->Reps K N fa H (ds++es) (xs++ys)
 |[],es,xs,ys,h,q=>by simp only[Reps] at h;subst h;simpa using q
 |d::r,es,xs,ys,h,q=>by
  simp only[Reps] at h;obtain⟨x,zs,J,h1,h2⟩:=h;subst J;simp only[List.cons_append,Reps];exact#[x,_,rfl,h1,Reps.append h2 q]
def Reps.one {x:V}(h:Rep K N fa H d x):Reps K N fa H [d] [x]:=by
 simp only[Reps];exact#[x,[],rfl,h,rfl]
def Reps.nil:Reps K N fa H [] []:=by simp only[Reps]
theorem Reps.take:∀{ds:vD_}{xs:List V}(n:Nat),Reps K N fa H ds xs->Reps K N fa H (ds.take n) (xs.take n)
 |_,_,0,_=>by simp only[List.take_zero,Reps]
 |[],xs,n+1,h=>by simp only[Reps] at h;subst h;simp only[List.take_nil,Reps]
 |d::r,xs,n+1,h=>by
  simp only[Reps] at h;obtain⟨x,zs,J,h1,h2⟩:=h;subst J;simp only[List.take_succ_cons,Reps];exact#[x,_,rfl,h1,Reps.take n h2]
theorem Reps.drop:∀{ds:vD_}{xs:List V}(n:Nat),Reps K N fa H ds xs->Reps K N fa H (ds.drop n) (xs.drop n)
 |_,_,0,h=>by simpa using h
 |[],xs,n+1,h=>by simp only[Reps] at h;subst h;simp only[List.drop_nil,Reps]
 |d::r,xs,n+1,h=>by
  simp only[Reps] at h;obtain⟨x,zs,J,h1,h2⟩:=h;subst J;simpa using Reps.drop n h2
theorem Reps.ints:∀{ns:List Int},Reps K N fa H (ns.map D.int) (ns.map V.int)
 |[]=>by simp only[KY,Reps]
 |n::r=>by
  simp only[Js,Reps,Rep];exact#[_,_,rfl,rfl,Reps.ints]
theorem Reps.reverse:∀{ds:vD_}{xs:List V},Reps K N fa H ds xs->Reps K N fa H ds.reverse xs.reverse
 |[],xs,h=>by simp only[Reps] at h;subst h;simp only[List.reverse_nil,Reps]
 |d::r,xs,h=>by
  simp only[Reps] at h;obtain⟨x,zs,J,h1,h2⟩:=h;subst J;simp only[MW];exact Reps.append (Reps.reverse h2) (Reps.one h1)
end
inductive Sl where
 | no | v (d:D) | own (ds:vD_)
variable {sl:List Sl}{mk:List Sl->D->Option (List Sl)}
structure DS where
 sl:List Sl
 fs:Option FS
variable {s1 s2:DS}
def NN (F:vB_) (fa:vA_) (O:vL_):Addr->Prop:=fun b=>F b\/b∈O\/fa=some b
def SlR (K:vF_) (N:vB_) (fa:vA_) (H:Hp):List Sl->List (Option V)->List Addr->Prop
 |[],σ,O=>σ=[]/\O=[]
 |.no::r,σ,O=>∃v τ,σ=v::τ/\SlR K N fa H r τ O
 |.v d::r,σ,O=>∃u τ,σ=some u::τ/\Rep K N fa H d u/\SlR K N fa H r τ O
 |.own ds::r,σ,O=>∃a xs τ P,σ=some (.ref a)::τ/\O=a::P/\H a=some (.lst xs)/\Reps K N fa H ds xs/\SlR K N fa H r τ P
structure Stp (fa:vA_) (O:vL_) (H:Hp) (fa':vA_) (O':vL_) (H':Hp):Prop where
 sub:∀b∈O',b∈O\/H b=none
 fe:fa'=fa\/(fa=none/\∀a,fa'=some a->H a=none)
 same:∀b u,H b=some u->b ∉ O->fa≠some b->H' b=some u
 mon:∀b,H' b=none->H b=none
structure StE (fa:vA_) (O:vL_) (H:Hp) (fa':vA_) (O':vL_) (H':Hp):Prop where
 sub:∀b∈O',b∈O
 fe:fa'=fa\/(fa=none/\∀a,fa'=some a->H a=none)
 same:∀b u,H b=some u->fa≠some b->H' b=some u
 mon:∀b,H' b=none->H b=none
structure DI (K:vF_) (F:vB_) (H0:Hp) (fa0:vA_) (σ:St) (H:Hp) (fa:vA_) (O:vL_) (s:DS):Prop where
 nd:O.Nodup
 sl:SlR K (NN F fa O) fa H s.sl σ O
 fr:∀b∈O,H0 b=none
 st:Stp fa0 [] H0 fa [] H
 tr:∀b,F b->H0 b≠none
 ff:∀a,fa0=some a->F a
 fd:FeedR (NN F fa O) H fa s.fs
 nf:∀a,fa=some a->a ∉ O
section
variable {fa'':vA_}{O' O'':vL_}{H'':Hp}
def StE.stp (h:StE fa O H fa' O' H'):Stp fa O H fa' O' H':=#[fun b J=>.inl (h.sub b J),h.fe,fun b u e _ n=>h.same b u e n,h.mon]
def StE.refl:StE fa O H fa O H:=#[fun _ h=>h,.inl rfl,fun _ _ e _=>e,fun _ h=>h]
theorem Stp.refl:Stp fa O H fa O H:=StE.refl.stp
theorem StE.trans (a:StE fa O H fa' O' H') (b:StE fa' O' H' fa'' O'' H''):StE fa O H fa'' O'' H'':=by
 refine#[fun c J=>a.sub c (b.sub c J),?_,fun c u e n=>?_,fun c h=>a.mon c (b.mon c h)]
 .rcases a.fe with e | ⟨e,h⟩
  .rcases b.fe with e' | ⟨e',h'⟩
   .exact .inl (e'.trans e)
   .exact .inr #[e▸e',fun c z=>a.mon c (h' c z)]
  .rcases b.fe with e' | ⟨e',h'⟩
   .exact .inr #[e,fun c z=>h c (e'▸z)]
   .exact .inr #[e,fun c z=>a.mon c (h' c z)]
 .refine b.same c u (a.same c u e n) fun z=>?_
  rcases a.fe with q | ⟨q,h⟩
  .rw[q] at z;exact n z
  .rw[h c z] at e;cases e
theorem Stp.trans (a:Stp fa O H fa' O' H') (b:Stp fa' O' H' fa'' O'' H''):Stp fa O H fa'' O'' H'':=by
 refine#[fun c J=>?_,?_,fun c u e J n=>?_,fun c h=>a.mon c (b.mon c h)]
 .rcases b.sub c J with q | q
  .exact a.sub c q
  .exact .inr (a.mon c q)
 .rcases a.fe with e | ⟨e,h⟩
  .rcases b.fe with e' | ⟨e',h'⟩
   .exact .inl (e'.trans e)
   .exact .inr #[e▸e',fun c z=>a.mon c (h' c z)]
  .rcases b.fe with e' | ⟨e',h'⟩
   .exact .inr #[e,fun c z=>h c (e'▸z)]
   .exact .inr #[e,fun c z=>a.mon c (h' c z)]
 .refine b.same c u (a.same c u e J n) (fun z=>?_) fun z=>?_
  .rcases a.sub c z with q | q
   .exact J q
   .rw[q] at e;cases e
  .rcases a.fe with q | ⟨q,h⟩
   .rw[q] at z;exact n z
   .rw[h c z] at e;cases e
def Stp.fa_keep (a:Stp fa O H fa' O' H') {x:Addr}(h:fa=some x):fa'=some x:=by
 rcases a.fe with e | ⟨e,_⟩
 .rw[e,h]
 .rw[h] at e;cases e
variable {K:vF_}{F:vB_}{H0:Hp}{fa0:vA_}{s:DS}
def FeedR.no_frz {fs:vO_}{o:Obj}{u:HO}(h:FeedR N H fa fs) (e:fa=some a) (q:H a=some (.frz o u)):False:=by
 subst e;cases fs with
 |none=>exact h
 |some f=>
  obtain⟨_,c,h1,_⟩:=h;rw[h1] at q;exact zg (Jg q)
def FeedR.no_tup {fs:vO_}(h:FeedR N H fa fs) (e:fa=some a) (z:Rd H a (.tup xs)):False:=by
 rcases z with z | ⟨o,z⟩
 .subst e;cases fs with
  |none=>exact h
  |some f=>
   obtain⟨_,c,h1,_⟩:=h;rw[h1] at z;exact CG (Jg z)
 .exact h.no_frz e z
def FeedR.tracked {fs:vO_}(h:FeedR N H fa fs) (e:fa=some a):H a≠none:=by
 subst e;cases fs with
 |none=>exact h.elim
 |some f=>
  obtain⟨_,c,h1,_⟩:=h;rw[h1];simp
def SqT.stp' (a:Stp fa O H fa' O' H') (hf:∀x,fa=some x->∀xs,¬ Rd H x (.tup xs)) (Y:∀x∈O,∀xs,¬ Rd H x (.tup xs)) {b:Addr}(h:SqT K H b xs):SqT K H' b xs:=by
 rcases h with h | h
 .refine .inl ?_;have J:b ∉ O:=fun z=>Y b z xs h
  have U:fa≠some b:=fun z=>hf b z xs h
  rcases h with h | ⟨o,h⟩
  .exact .inl (a.same _ _ h J U)
  .exact .inr #[o,a.same _ _ h J U]
 .exact .inr h
theorem SlR.owned:∀{sl:List Sl}{N:vB_}{σ:List (Option V)}{O:vL_},SlR K N fa H sl σ O->∀b∈O,∃xs,H b=some (.lst xs)
 |[],N,σ,O,h,b,hb=>by simp only[SlR] at h;rw[h.2] at hb;cases hb
 |.no::r,N,σ,O,h,b,hb=>by
  simp only[SlR] at h;obtain⟨v,τ,_,h⟩:=h;exact SlR.owned h b hb
 |.v d::r,N,σ,O,h,b,hb=>by
  simp only[SlR] at h;obtain⟨v,τ,_,_,h⟩:=h;exact SlR.owned h b hb
 |.own ds::r,N,σ,O,h,b,hb=>by
  simp only[SlR] at h;obtain⟨a,xs,τ,P,_,rfl,e,_,h⟩:=h;rcases IH.mp hb with z | z
  .subst z;exact#[xs,e]
  .exact SlR.owned h b z
theorem DI.owned (I:DI K F H0 fa0 σ H fa O s) {b:Addr}(J:b∈O):∃xs,H b=some (.lst xs):=SlR.owned I.sl b J
def DI.trF (I:DI K F H0 fa0 σ H fa O s) {b:Addr}(J:F b):H b≠none:=fun z=>I.tr b J (I.st.mon b z)
def DI.nn_tracked (I:DI K F H0 fa0 σ H fa O s) {b:Addr}(h:NN F fa O b):H b≠none:=by
 rcases h with h | h | h
 .exact I.trF h
 .obtain⟨xs,e⟩:=I.owned h;rw[e];simp
 .exact I.fd.tracked h
def DI.nf_step (I:DI K F H0 fa0 σ H fa O s) (h:fa'=fa\/(fa=none/\∀a,fa'=some a->H a=none)):∀a,fa'=some a->a ∉ O:=fun a e m=>by
 rcases h with z | ⟨z,y⟩
 .rw[z] at e;exact I.nf a e m
 .obtain⟨xs,q⟩:=I.owned m;rw[y a e] at q;cases q
def DI.car (I:DI K F H0 fa0 σ H fa O s) (a:Stp fa O H fa' O' H'):Car K (NN F fa O) fa H (NN F fa' O') fa' H':=by
 have nt:∀x xs,H x=some (.lst xs)->∀ys,¬ Rd H x (.tup ys):=fun x xs e ys z=>by
  rcases z with z | ⟨o,z⟩ <;> · rw[e] at z;cases z
 refine#[fun b xs n q=>?_,fun b xs q=>?_,fun b xs q=>?_,fun x e=>a.fa_keep e]
 .have J:b ∉ O:=fun z=>n (.inr (.inl z))
  have U:fa≠some b:=fun z=>n (.inr (.inr z))
  have tr:H b≠none:=by rw[q];simp
  refine#[a.same _ _ q J U,fun z=>?_]
  .rcases z with z | z | z
   .exact n (.inl z)
   .rcases a.sub b z with y | y
    .exact J y
    .exact tr y
   .rcases a.fe with e | ⟨e,h⟩
    .rw[e] at z;exact U z
    .exact tr (h b z)
 .refine SqT.stp' a (fun x e ys z=>?_) (fun x hx ys=>?_) q
  .exact I.fd.no_tup e z
  .obtain⟨xs,e⟩:=I.owned hx;exact nt x xs e ys
 .have Y:∀o u,H b=some (.frz o u)->H' b=some (.frz o u):=fun o u q=>by
   refine a.same _ _ q (fun z=>?_) fun z=>?_
   .obtain⟨ys,e⟩:=I.owned z;rw[e] at q;cases q
   .exact I.fd.no_frz z q
  cases xs with
  |inl xs=>exact q.imp (fun ⟨o,q⟩=>#[o,Y _ _ q]) id
  |inr p=>exact Y _ _ q
end
structure Gh where
 F:Addr->Prop
 H0:Hp
 fa0:Option Addr
 xq:L2.St->XK
variable {g:Gh}
abbrev GI (K:vF_) (g:Gh):=DI K g.F g.H0 g.fa0
section
variable {K:vF_}{N':vB_}{σ:L2.St}{O':vL_}{s:DS}
theorem SlR.go (c:Car K N fa H N' fa' H'):∀{sl:List Sl}{σ:List (Option V)}{O:vL_},(∀a xs,a∈O->H a=some (.lst xs)->H' a=some (.lst xs))->SlR K N fa H sl σ O->SlR K N' fa' H' sl σ O
 |[],σ,O,_,h=>by simpa only[SlR] using h
 |.no::r,σ,O,ho,h=>by
  simp only[SlR] at h ⊢;obtain⟨v,τ,e,h⟩:=h;exact#[v,τ,e,SlR.go c ho h]
 |.v d::r,σ,O,ho,h=>by
  simp only[SlR] at h ⊢;obtain⟨u,τ,e,q,h⟩:=h;exact#[u,τ,e,Rep.go c d u q,SlR.go c ho h]
 |.own ds::r,σ,O,ho,h=>by
  simp only[SlR] at h ⊢;obtain⟨a,xs,τ,P,e,rfl,J,q,h⟩:=h;exact#[a,xs,τ,P,e,rfl,ho a xs (IY ..) J,Reps.go c ds xs q,SlR.go c (fun b ys U=>ho b ys (IT _ U)) h]
theorem SlR.val:∀{sl:List Sl}{σ:List (Option V)}{O:vL_}{i:Nat}{d:D},SlR K N fa H sl σ O->sl[i]? = some (.v d)->∃u,σ[i]? = some (some u)/\Rep K N fa H d u
 |[],σ,O,i,d,h,e=>by simp at e
 |.no::r,σ,O,i,d,h,e=>by
  simp only[SlR] at h;obtain⟨v,τ,rfl,h⟩:=h;cases i with
  |zero=>simp at e
  |succ i=>simpa using SlR.val h (by simpa using e)
 |.v d'::r,σ,O,i,d,h,e=>by
  simp only[SlR] at h;obtain⟨u,τ,rfl,q,h⟩:=h;cases i with
  |zero=>simp at e;subst e;exact#[u,rfl,q]
  |succ i=>simpa using SlR.val h (by simpa using e)
 |.own ds::r,σ,O,i,d,h,e=>by
  simp only[SlR] at h;obtain⟨a,xs,τ,P,rfl,rfl,J,q,h⟩:=h;cases i with
  |zero=>simp at e
  |succ i=>simpa using SlR.val h (by simpa using e)
theorem SlR.own:∀{sl:List Sl}{σ:List (Option V)}{O:vL_}{i:Nat}{ds:vD_},SlR K N fa H sl σ O->sl[i]? = some (.own ds)->∃a xs,σ[i]? = some (some (.ref a))/\a∈O/\H a=some (.lst xs)/\Reps K N fa H ds xs
 |[],σ,O,i,d,h,e=>by simp at e
 |.no::r,σ,O,i,d,h,e=>by
  simp only[SlR] at h;obtain⟨v,τ,rfl,h⟩:=h;cases i with
  |zero=>simp at e
  |succ i=>simpa using SlR.own h (by simpa using e)
 |.v d'::r,σ,O,i,d,h,e=>by
  simp only[SlR] at h;obtain⟨u,τ,rfl,q,h⟩:=h;cases i with
  |zero=>simp at e
  |succ i=>simpa using SlR.own h (by simpa using e)
 |.own ds::r,σ,O,i,d,h,e=>by
  simp only[SlR] at h;obtain⟨a,xs,τ,P,rfl,rfl,U,q,h⟩:=h;cases i with
  |zero=>simp at e;subst e;exact#[a,xs,rfl,IY ..,U,q]
  |succ i=>
   obtain⟨b,ys,Y,m,e2,J⟩:=SlR.own h (by simpa using e);exact#[b,ys,by simpa using Y,IT _ m,e2,J]
theorem SlR.len:∀{sl:List Sl}{σ:List (Option V)}{O:vL_},SlR K N fa H sl σ O->σ.length=sl.length
 |[],σ,O,h=>by simp only[SlR] at h;rw[h.1];rfl
 |.no::r,σ,O,h=>by
  simp only[SlR] at h;obtain⟨v,τ,rfl,h⟩:=h;simp[SlR.len h]
 |.v d'::r,σ,O,h=>by
  simp only[SlR] at h;obtain⟨u,τ,rfl,q,h⟩:=h;simp[SlR.len h]
 |.own ds::r,σ,O,h=>by
  simp only[SlR] at h;obtain⟨a,xs,τ,P,rfl,rfl,J,q,h⟩:=h;simp[SlR.len h]
theorem SlR.put:∀{sl:List Sl}{σ:List (Option V)}{O:vL_}(i:Nat) {d:D}{u:V},SlR K N fa H sl σ O->Rep K N fa H d u ->
  ∃P,P.Sublist O/\SlR K N fa H (sl.set i (.v d)) (σ.set i (some u)) P/\(O.Nodup->∀a,sl[i]?.isSome=true->(∃ds,sl[i]? = some (.own ds))->σ[i]? = some (some (.ref a))->a ∉ P)
 |[],σ,O,i,d,u,h,q=>by
  simp only[SlR] at h;refine#[O,MY _,?_,fun _ a z=>by simp at z];rw[h.1,h.2];simp[SlR]
 |.no::r,σ,O,i,d,u,h,q=>by
  simp only[SlR] at h;obtain⟨v,τ,rfl,h⟩:=h;cases i with
  |zero=>exact#[O,MY _,by simp only[Kl,SlR];exact#[u,τ,rfl,q,h],fun _ a _ z=>by obtain⟨ds,z⟩:=z;simp at z]
  |succ i=>
   obtain⟨P,U,h1,h2⟩:=SlR.put i h q;exact#[P,U,by simp only[JO,SlR];exact#[v,_,rfl,h1],by simpa using h2]
 |.v d'::r,σ,O,i,d,u,h,q=>by
  simp only[SlR] at h;obtain⟨v,τ,rfl,qv,h⟩:=h;cases i with
  |zero=>exact#[O,MY _,by simp only[Kl,SlR];exact#[u,τ,rfl,q,h],fun _ a _ z=>by obtain⟨ds,z⟩:=z;simp at z]
  |succ i=>
   obtain⟨P,U,h1,h2⟩:=SlR.put i h q;exact#[P,U,by simp only[JO,SlR];exact#[v,_,rfl,qv,h1],by simpa using h2]
 |.own ds::r,σ,O,i,d,u,h,q=>by
  simp only[SlR] at h;obtain⟨a,xs,τ,P,rfl,rfl,ha,qv,h⟩:=h;cases i with
  |zero=>
   refine#[P,List.sublist_cons_self ..,by simp only[Kl,SlR];exact#[u,τ,rfl,q,h],fun nd b _ _ e=>?_];simp at e;subst e;exact(Jv.mp nd).1
  |succ i=>
   obtain⟨P',U,h1,h2⟩:=SlR.put i h q;refine#[a::P',U.cons_cons a,by simp only[JO,SlR];exact#[a,xs,_,P',rfl,rfl,ha,qv,h1],fun nd b e1 Y e3=>?_];have J:=Jv.mp nd;have n1:=h2 J.2 b (by simpa using e1) (by simpa using Y) (by simpa using e3);intro z;rcases IH.mp z with z | z
   .subst z;obtain⟨dz,Y⟩:=Y;obtain⟨b',_,e4,m,_⟩:=SlR.own h (i:=i) (by simpa using Y);rw[MZ] at e3;rw[e3] at e4;cases e4;exact J.1 m
   .exact n1 z
theorem SlR.putN:∀{sl:List Sl}{σ:List (Option V)}{O:vL_}(i:Nat) {ds:vD_}{p:Addr}{xs:List V},SlR K N fa H sl σ O->i<sl.length->p ∉ O->O.Nodup->H p=some (.lst xs)->Reps K N fa H ds xs ->
  ∃P,(∀b∈P,b=p\/b∈O)/\P.Nodup/\SlR K N fa H (sl.set i (.own ds)) (σ.set i (some (.ref p))) P
 |[],σ,O,i,ds,p,xs,h,hi,hp,nd,e,q=>by simp at hi
 |.no::r,σ,O,i,ds,p,xs,h,hi,hp,nd,e,q=>by
  simp only[SlR] at h;obtain⟨v,τ,rfl,h⟩:=h;cases i with
  |zero=>exact#[p::O,fun b U=>IH.mp U,Jv.mpr #[hp,nd],by simp only[Kl,SlR];exact#[p,xs,τ,O,rfl,rfl,e,q,h]]
  |succ i=>
   obtain⟨P,h1,h2,Y⟩:=SlR.putN i h (by simpa using hi) hp nd e q;exact#[P,h1,h2,by simp only[JO,SlR];exact#[v,_,rfl,Y]]
 |.v d'::r,σ,O,i,ds,p,xs,h,hi,hp,nd,e,q=>by
  simp only[SlR] at h;obtain⟨v,τ,rfl,qv,h⟩:=h;cases i with
  |zero=>exact#[p::O,fun b U=>IH.mp U,Jv.mpr #[hp,nd],by simp only[Kl,SlR];exact#[p,xs,τ,O,rfl,rfl,e,q,h]]
  |succ i=>
   obtain⟨P,h1,h2,Y⟩:=SlR.putN i h (by simpa using hi) hp nd e q;exact#[P,h1,h2,by simp only[JO,SlR];exact#[v,_,rfl,qv,Y]]
 |.own ds'::r,σ,O,i,ds,p,xs,h,hi,hp,nd,e,q=>by
  simp only[SlR] at h;obtain⟨a,ys,τ,P,rfl,rfl,ha,qv,h⟩:=h;have J:=Jv.mp nd;cases i with
  |zero=>
   refine#[p::P,fun b U=>(IH.mp U).imp id fun z=>IT _ z,Jv.mpr #[fun z=>hp (IT _ z),J.2],?_];simp only[Kl,SlR];exact#[p,xs,τ,P,rfl,rfl,e,q,h]
  |succ i=>
   obtain⟨P',h1,h2,Y⟩:=SlR.putN i h (by simpa using hi) (fun z=>hp (IT _ z)) J.2 e q;refine#[a::P',fun b U=>?_,Jv.mpr #[fun z=>?_,h2],by simp only[JO,SlR];exact#[a,ys,_,P',rfl,rfl,ha,qv,Y]]
   .rcases IH.mp U with z | z
    .exact .inr (by rw[z];exact IY ..)
    .exact(h1 b z).imp id fun y=>IT _ y
   .rcases h1 a z with y | y
    .exact hp (by rw[y];exact IY ..)
    .exact J.1 y
theorem SlR.rew:∀{sl:List Sl}{σ:List (Option V)}{O:vL_}{i:Nat}{ds es:vD_}{a:Addr}{ys:List V},SlR K N fa H sl σ O->O.Nodup->(∀b∈O,N b)->sl[i]? = some (.own ds)->σ[i]? = some (some (.ref a))->H' a=some (.lst ys) ->
  Car K N fa H N fa H'->(∀b u,b≠a->H b=some u->H' b=some u)->Reps K N fa H' es ys->SlR K N fa H' (sl.set i (.own es)) σ O
 |[],σ,O,i,ds,es,a,ys,h,nd,hN,e1,e2,e3,c,k,q=>by simp at e1
 |.no::r,σ,O,i,ds,es,a,ys,h,nd,hN,e1,e2,e3,c,k,q=>by
  simp only[SlR] at h;obtain⟨v,τ,rfl,h⟩:=h;cases i with
  |zero=>simp at e1
  |succ i=>simp only[JO,SlR];exact#[v,τ,rfl,SlR.rew h nd hN (by simpa using e1) (by simpa using e2) e3 c k q]
 |.v d'::r,σ,O,i,ds,es,a,ys,h,nd,hN,e1,e2,e3,c,k,q=>by
  simp only[SlR] at h;obtain⟨v,τ,rfl,Y,h⟩:=h;cases i with
  |zero=>simp at e1
  |succ i=>simp only[JO,SlR];exact#[v,τ,rfl,Rep.go c _ _ Y,SlR.rew h nd hN (by simpa using e1) (by simpa using e2) e3 c k q]
 |.own ds'::r,σ,O,i,ds,es,a,ys,h,nd,hN,e1,e2,e3,c,k,q=>by
  simp only[SlR] at h;obtain⟨b,zs,τ,P,rfl,rfl,ha,Y,h⟩:=h;have J:=Jv.mp nd;cases i with
  |zero=>
   simp at e2;subst e2;simp only[Kl,SlR];exact#[b,ys,τ,P,rfl,rfl,e3,q,SlR.go c (fun x xs U z=>k x _ (fun y=>J.1 (y▸U)) z) h]
  |succ i=>
   have nb:b≠a:=fun z=>by
    obtain⟨a',_,e4,m,_⟩:=SlR.own h (i:=i) (by simpa using e1);rw[MZ] at e2;rw[e2] at e4;cases e4;exact J.1 (z▸m)
   simp only[JO,SlR];exact#[b,zs,τ,P,rfl,rfl,k b _ nb ha,Reps.go c _ _ Y,SlR.rew h J.2 (fun x U=>hN x (IT _ U)) (by simpa using e1) (by simpa using e2) e3 c k q]
theorem RepB.stp {v:V}(I:GI K g σ H fa O s) (a:StE fa O H fa' O' H') (h:RepB K (NN g.F fa O) fa H d v):RepB K (NN g.F fa' O') fa' H' d v:=by
 have c:=I.car a.stp;cases d with
 |lst ds=>
  obtain⟨x,xs,e,J,q,r⟩:=h;refine#[x,xs,e,fun z=>?_,a.same _ _ q J,Reps.go c ds xs r];rcases a.fe with y | ⟨_,y⟩
  .rw[y] at z;exact J z
  .rw[y x z] at q;cases q
 |_=>
  simp only[RepB] at h ⊢;exact Rep.go c _ _ h
def Rep.stp {v:V}(I:GI K g σ H fa O s) (a:Stp fa O H fa' O' H') (h:Rep K (NN g.F fa O) fa H d v):Rep K (NN g.F fa' O') fa' H' d v:=Rep.go (I.car a) d v h
def Reps.stp (I:GI K g σ H fa O s) (a:Stp fa O H fa' O' H') (h:Reps K (NN g.F fa O) fa H ds xs):Reps K (NN g.F fa' O') fa' H' ds xs:=Reps.go (I.car a) ds xs h
def D6 {o:HO}(h:H p=none):StE fa O H fa O (i6 H p o):=
 #[fun _ h=>h,.inl rfl,fun b u e _=>by rw[j6 (F2 e h)];exact e,fun b z=>by
  by_cases J:b=p
  .subst J;exact h
  .rw[j6 J] at z;exact z]
def FeedR.car {fs:vO_}(c:Car K N fa H N' fa H') (h:∀a,fa=some a->H' a=H a) (f:FeedR N H fa fs):FeedR N' H' fa fs:=by
 cases fa with
 |none=>cases fs <;> simpa only[FeedR] using f
 |some a=>
  cases fs with
  |none=>simpa only[FeedR] using f
  |some x=>
   simp only[FeedR] at f ⊢;obtain⟨l,b,h1,h2,J⟩:=f;obtain⟨q,n⟩:=c.ls b _ h2 J;exact#[l,b,by rw[h a rfl];exact h1,n,q]
def FeedR.same_new {fs:vO_}{o:HO}(f:FeedR N H fa fs) (h:H p=none):∀a,fa=some a->i6 H p o a=H a:=fun a e=>j6 fun z=>f.tracked e (z▸h)
def DI.new {o:HO}(I:GI K g σ H fa O s) (h:H p=none):GI K g σ (i6 H p o) fa O s:=by
 have a:StE fa O H fa O (i6 H p o):=D6 h;refine#[I.nd,SlR.go (I.car a.stp) (fun b xs J e=>?_) I.sl,I.fr,I.st.trans ((D6 (O:=[]) h).stp),I.tr,I.ff,I.fd.car (I.car a.stp) (I.fd.same_new h),I.nf];rw[j6 (F2 e h)];exact e
end
abbrev DE:=DS->Option (D × DS)
variable {fe:DE}
abbrev DT:=DS->Option (Bool × DS)
variable {fc:DT}
abbrev DA:=DS->Option (List D × DS)
variable {f fi:DA}
inductive Fl where
 | next | brk | cont | ret (d:D) | thr (c:Str) (ds:vD_)
abbrev DM:=DS->Option (Fl × DS)
structure NewL (K:vF_) (g:Gh) (σ:L2.St) (H:Hp) (fa:vA_) (O:vL_) (s:DS) (p:Addr) (xs:List V) (ds:vD_):Prop where
 gi:GI K g σ H fa O s
 ls:H p=some (.lst xs)
 sl:SlR K (fun b=>NN g.F fa O b\/b=p) fa H s.sl σ O
 fd:FeedR (fun b=>NN g.F fa O b\/b=p) H fa s.fs
 rs:Reps K (fun b=>NN g.F fa O b\/b=p) fa H ds xs
 nf:fa≠some p
section
variable (K:vF_) (g:Gh)
def liftE (f:DE):TE:=fun σ H Q=>∃fa O s d s',GI K g σ H fa O s/\f s=some (d,s') /\
 ∀v H' fa' O',StE fa O H fa' O' H'->GI K g σ H' fa' O' s'->Rep K (NN g.F fa' O') fa' H' d v->Q v H'
def liftB (f:DE):TE:=fun σ H Q=>∃fa O s d s',GI K g σ H fa O s/\f s=some (d,s') /\
 ∀v H' fa' O',StE fa O H fa' O' H'->GI K g σ H' fa' O' s'->RepB K (NN g.F fa' O') fa' H' d v->Q v H'
def liftF (f:DA):TE:=fun σ H Q=>∃fa O s ds s',GI K g σ H fa O s/\f s=some (ds,s') /\
 ∀p xs H' fa' O',StE fa O H fa' O' H'->NewL K g σ H' fa' O' s' p xs ds->H p=none->Q (.ref p) H'
def liftT (f:DT):TT:=fun σ H Q=>∃fa O s d s',GI K g σ H fa O s/\f s=some (d,s') /\
 ∀H' fa' O',StE fa O H fa' O' H'->GI K g σ H' fa' O' s'->Q d H'
def liftA (f:DA):TA:=fun σ H Q=>∃fa O s ds s',GI K g σ H fa O s/\f s=some (ds,s') /\
 ∀vs H' fa' O',StE fa O H fa' O' H'->GI K g σ H' fa' O' s'->Reps K (NN g.F fa' O') fa' H' ds vs->Q vs H'
def liftBA (f:DA):TA:=fun σ H Q=>∃fa O s ds s',GI K g σ H fa O s/\f s=some (ds,s') /\
 ∀vs H' fa' O',StE fa O H fa' O' H'->GI K g σ H' fa' O' s'->Y2 K (NN g.F fa' O') fa' H' ds vs->Q vs H'
def FlK (E:Ends) (fa:vA_) (O:vL_) (H:Hp) (fl:Fl) (s':DS):Prop:=
 match fl with
 |.next=>∀σ' H' fa' O',Stp fa O H fa' O' H'->GI K g σ' H' fa' O' s'->E.nx σ' H'
 |.brk=>∀σ' H' fa' O',Stp fa O H fa' O' H'->GI K g σ' H' fa' O' s'->E.bk σ' H'
 |.cont=>∀σ' H' fa' O',Stp fa O H fa' O' H'->GI K g σ' H' fa' O' s'->E.ct σ' H'
 |.ret d=>∀σ' v H' fa' O',Stp fa O H fa' O' H'->GI K g σ' H' fa' O' s'->Rep K (NN g.F fa' O') fa' H' d v->E.rt v H'
 |.thr c ds=>∀σ' C dx od xs H' fa' O',Stp fa O H fa' O' H'->GI K g σ' H' fa' O' s'->PySem.W.nsIn K mainGlobals c=some (some (.ref C))->H' dx=some (.frz od (.xd (fnm.zip xs)))->Reps K (NN g.F fa' O') fa' H' ds xs->g.xq σ' (.ref C) (some dx) H'
def liftS (f:DM):TS:=fun E σ H=>∃fa O s fl s',GI K g σ H fa O s/\f s=some (fl,s')/\FlK K g E fa O H fl s'
end
section
variable {K:vF_}{σ:L2.St}
def liftE.elim {f:DE}{Q:VK}(h:liftE K g f σ H Q) (k:∀fa O s d s',GI K g σ H fa O s->f s=some (d,s')->(∀v H' fa' O',StE fa O H fa' O' H'->GI K g σ H' fa' O' s'->Rep K (NN g.F fa' O') fa' H' d v->Q v H')->G):G:=by
 obtain⟨fa,O,s,d,s',a,b,c⟩:=h;exact k fa O s d s' a b c
def liftB.elim {f:DE}{Q:VK}(h:liftB K g f σ H Q) (k:∀fa O s d s',GI K g σ H fa O s->f s=some (d,s')->(∀v H' fa' O',StE fa O H fa' O' H'->GI K g σ H' fa' O' s'->RepB K (NN g.F fa' O') fa' H' d v->Q v H')->G):G:=by
 obtain⟨fa,O,s,d,s',a,b,c⟩:=h;exact k fa O s d s' a b c
def liftF.elim {Q:VK}(h:liftF K g f σ H Q) (k:∀fa O s d s',GI K g σ H fa O s->f s=some (d,s')->(∀p xs H' fa' O',StE fa O H fa' O' H'->NewL K g σ H' fa' O' s' p xs d->H p=none->Q (.ref p) H')->G):G:=by
 obtain⟨fa,O,s,d,s',a,b,c⟩:=h;exact k fa O s d s' a b c
def liftT.elim {f:DT}{Q:Bool->Hp->Prop}(h:liftT K g f σ H Q) (k:∀fa O s d s',GI K g σ H fa O s->f s=some (d,s')->(∀H' fa' O',StE fa O H fa' O' H'->GI K g σ H' fa' O' s'->Q d H')->G):G:=by
 obtain⟨fa,O,s,d,s',a,b,c⟩:=h;exact k fa O s d s' a b c
def liftA.elim {Q:List V->Hp->Prop}(h:liftA K g f σ H Q) (k:∀fa O s d s',GI K g σ H fa O s->f s=some (d,s')->(∀vs H' fa' O',StE fa O H fa' O' H'->GI K g σ H' fa' O' s'->Reps K (NN g.F fa' O') fa' H' d vs->Q vs H')->G):G:=by
 obtain⟨fa,O,s,d,s',a,b,c⟩:=h;exact k fa O s d s' a b c
def liftBA.elim {Q:List V->Hp->Prop}(h:liftBA K g f σ H Q) (k:∀fa O s d s',GI K g σ H fa O s->f s=some (d,s')->(∀vs H' fa' O',StE fa O H fa' O' H'->GI K g σ H' fa' O' s'->Y2 K (NN g.F fa' O') fa' H' d vs->Q vs H')->G):G:=by
 obtain⟨fa,O,s,d,s',a,b,c⟩:=h;exact k fa O s d s' a b c
def liftS.elim {f:DM}{E:Ends}(h:liftS K g f E σ H) (k:∀fa O s d s',GI K g σ H fa O s->f s=some (d,s')->(FlK K g E fa O H d s')->G):G:=by
 obtain⟨fa,O,s,d,s',a,b,c⟩:=h;exact k fa O s d s' a b c
end
structure EO (X:Cx) (g:Gh) (e:Expr) (f:DE):Prop where
 pe:PE X e (liftE X.K g f)
structure BO (X:Cx) (g:Gh) (e:Expr) (f:DE):Prop where
 pe:PE X e (liftB X.K g f)
structure FO (X:Cx) (g:Gh) (e:Expr) (f:DA):Prop where
 pe:PE X e (liftF X.K g f)
structure TO (X:Cx) (g:Gh) (e:Expr) (f:DT):Prop where
 pe:PT X e (liftT X.K g f)
structure WO (X:Cx) (g:Gh) (e:Expr) (f:DT):Prop where
 pe:PW X e (liftT X.K g f)
structure AO (X:Cx) (g:Gh) (es:List Expr) (f:DA):Prop where
 pe:PA X es (liftA X.K g f)
structure BAO (X:Cx) (g:Gh) (es:List Expr) (f:DA):Prop where
 pe:PA X es (liftBA X.K g f)
structure SO (X:Cx) (g:Gh) (st:Stmt) (f:DM):Prop where
 pe:PS X st (liftS X.K g f)
structure SSO (X:Cx) (g:Gh) (st:List Stmt) (f:DM):Prop where
 pe:PSs X st (liftS X.K g f)
section
variable {f:DE}
def kn {t t':TE}(h:PE X e t) (w:∀σ H Q,t' σ H Q->t σ H Q):PE X e t':=fun pins s σ H Q I q=>h pins s σ H Q I (w σ H Q q)
def wq {t t':TT}(h:PT X e t) (w:∀σ H Q,t' σ H Q->t σ H Q):PT X e t':=fun pins s σ H Q I q=>h pins s σ H Q I (w σ H Q q)
def wA {t t':TT}(h:PW X e t) (w:∀σ H Q,t' σ H Q->t σ H Q):PW X e t':=fun J pins s σ H Q I q=>h J pins s σ H Q I (w σ H Q q)
def rH {t t':TA}(h:PA X es t) (w:∀σ H Q,t' σ H Q->t σ H Q):PA X es t':=fun pos pins s σ H Q I q=>h pos pins s σ H Q I (w σ H Q q)
def Bk {st:Stmt}{t t':TS}(h:PS X st t) (w:∀E σ H,t' E σ H->t E σ H):PS X st t':=fun pins s σ H E I q=>h pins s σ H E I (w E σ H q)
def Dh {st:List Stmt}{t t':TS}(h:PSs X st t) (w:∀E σ H,t' E σ H->t E σ H):PSs X st t':=fun pins s σ H E I q=>h pins s σ H E I (w E σ H q)
theorem EO.w {f:DE}{t:TE}(h:PE X e t) (w:∀σ H Q,liftE X.K g f σ H Q->t σ H Q):EO X g e f:=#[kn h w]
theorem BO.w {f:DE}{t:TE}(h:PE X e t) (w:∀σ H Q,liftB X.K g f σ H Q->t σ H Q):BO X g e f:=#[kn h w]
theorem FO.w {f:DA}{t:TE}(h:PE X e t) (w:∀σ H Q,liftF X.K g f σ H Q->t σ H Q):FO X g e f:=#[kn h w]
theorem TO.w {f:DT}{t:TT}(h:PT X e t) (w:∀σ H Q,liftT X.K g f σ H Q->t σ H Q):TO X g e f:=#[wq h w]
theorem WO.w {f:DT}{t:TT}(h:PW X e t) (w:∀σ H Q,liftT X.K g f σ H Q->t σ H Q):WO X g e f:=#[wA h w]
theorem AO.w {f:DA}{t:TA}(h:PA X es t) (w:∀σ H Q,liftA X.K g f σ H Q->t σ H Q):AO X g es f:=#[rH h w]
theorem BAO.w {f:DA}{t:TA}(h:PA X es t) (w:∀σ H Q,liftBA X.K g f σ H Q->t σ H Q):BAO X g es f:=#[rH h w]
theorem SO.w {st:Stmt}{f:DM}{t:TS}(h:PS X st t) (w:∀E σ H,liftS X.K g f E σ H->t E σ H):SO X g st f:=#[Bk h w]
theorem SSO.w {st:List Stmt}{f:DM}{t:TS}(h:PSs X st t) (w:∀E σ H,liftS X.K g f E σ H->t E σ H):SSO X g st f:=#[Dh h w]
theorem EO.b (h:EO X g e f):BO X g e f:=BO.w h.pe fun σ H Q ⟨fa,O,s,d,s',I,e,k⟩=>#[fa,O,s,d,s',I,e,fun v H' fa' O' a J r=>k v H' fa' O' a J (r.b fun _ z=>.inr (.inr z))]
noncomputable def k6 (f:DA):DE:=fun s=>(f s).map fun p=>(.lst p.1,p.2)
def gJ {K:vF_}{O':vL_}{s s':DS}(I:GI K g σ H fa O s) (a:StE fa O H fa' O' H') (J:GI K g σ H' fa' O' s') (e:H p=none) (e':fa'≠some p):¬ NN g.F fa' O' p:=by
 rintro(z | z | z)
 .exact I.trF z e
 .obtain⟨ys,q⟩:=I.owned (a.sub p z);rw[e] at q;cases q
 .exact e' z
def FO.v {f:DA}(h:FO X g e f):EO X g e (k6 f):=EO.w h.pe fun σ H Q U=>by
 refine U.elim fun fa O s d s' I e k=>?_
 simp only[k6] at e;cases q:f s with
 |none=>rw[q] at e;cases e
 |some p=>
  obtain⟨ds,s1⟩:=p;rw[q] at e;simp only[MX,Jn,IQ] at e;obtain⟨J,Y⟩:=e;subst J;subst Y;refine#[fa,O,s,ds,s1,I,q,fun p xs H' fa' O' a L J=>k _ H' fa' O' a L.gi ?_];simp only[Rep];exact#[p,xs,rfl,gJ I a L.gi J L.nf,L.ls,Reps.go #[fun b ys n q=>#[q,fun z=>n (.inl z)],fun _ _ q=>q,fun _ _ q=>q,fun _ q=>q] ds xs L.rs]
end
def jv {K:vF_}{s:DS}{o:HO}(I:GI K g σ H fa O s) (J:H p=none):Car K (NN g.F fa O) fa H (fun b=>NN g.F fa O b\/b=p) fa (i6 H p o):=by
 have c:=I.car (D6 (fa:=fa) (O:=O) (o:=o) J).stp;refine#[fun b xs n q=>?_,c.tp,c.fz,c.fe];obtain⟨U,Y⟩:=c.ls b xs n q;refine#[U,?_];rintro(z | z)
 .exact Y z
 .subst z;rw[J] at q;cases q
def bB {K:vF_}{s:DS}(I:GI K g σ H fa O s) (J:H p=none) (r:Reps K (NN g.F fa O) fa H ds xs):NewL K g σ (i6 H p (.lst xs)) fa O s p xs ds:=
 #[I.new J,B0,SlR.go (jv I J) (fun b ys _ e=>by rw[j6 (F2 e J)];exact e) I.sl,I.fd.car (jv I J) (I.fd.same_new J),Reps.go (jv I J) ds xs r,fun z=>I.fd.tracked z J]
def dC (d:D):DE:=fun s=>some (d,s)
def dV (i:Nat):DE:=fun s=>match s.sl[i]? with
 |some (.v d)=>some (d,s)
 |some (.own ds)=>some (.lst ds,{ s with sl:=s.sl.set i (.v (.lst ds)) })
 |_=>none
def dL (i:Nat):DE:=fun s=>match s.sl[i]? with
 |some (.v d)=>some (d,s)
 |some (.own ds)=>some (.lst ds,s)
 |_=>none
def qr (h:PE X (.Name x pos) (Y7 i)):BO X g (.Name x pos) (dL i):=BO.w h fun σ H Q U=>by
 refine U.elim fun fa O s d s' I e k=>?_
 simp only[dL] at e;cases q:s.sl[i]? with
 |none=>rw[q] at e;cases e
 |some z=>
  rw[q] at e;cases z with
  |no=>cases e
  |v d'=>
   cases e;obtain⟨u,J,r⟩:=SlR.val I.sl q;exact#[u,J,k u H fa O StE.refl I (r.b fun _ z=>.inr (.inr z))]
  |own ds=>
   cases e;obtain⟨a,xs,J,m,Y,r⟩:=SlR.own I.sl q;exact#[_,J,k _ H fa O StE.refl I #[a,xs,rfl,fun z=>I.nf a z m,Y,r]]
def M5 (h:PE X (.Name x pos) (Y7 i)):EO X g (.Name x pos) (dV i):=EO.w h fun σ H Q hQ=>by
 refine hQ.elim fun fa O s d s' I e k=>?_
 simp only[dV] at e;cases q:s.sl[i]? with
 |none=>rw[q] at e;cases e
 |some z=>
  rw[q] at e;cases z with
  |no=>cases e
  |v d'=>
   cases e;obtain⟨u,J,r⟩:=SlR.val I.sl q;exact#[u,J,k u H fa O StE.refl I r]
  |own ds=>
   cases e;obtain⟨a,xs,J,m,e2,r⟩:=SlR.own I.sl q;have i':i<s.sl.length:=(Jj.mp q).1
   let N1:Addr->Prop:=fun b=>NN g.F fa O b/\b≠a
   have c1:Car X.K (NN g.F fa O) fa H N1 fa H:=#[fun b ys n z=>#[z,fun y=>n y.1],fun _ _ z=>z,fun _ _ z=>z,fun _ z=>z]
   have S1:=SlR.go c1 (fun _ _ _ z=>z) I.sl;have R1:Rep X.K N1 fa H (.lst ds) (.ref a):=by
    simp only[Rep];exact#[a,xs,rfl,fun z=>z.2 rfl,e2,Reps.go c1 ds xs r]
   obtain⟨P,hs,S2,hn⟩:=SlR.put i S1 R1;have na:a ∉ P:=hn I.nd a (by rw[q];rfl) #[ds,q] J;have eσ:σ.set i (some (V.ref a))=σ:=by
    apply Mc;intro j;by_cases hj:j=i
    .subst hj;rw[J,Kr (Jj.mp J).1]
    .rw[Kf (IK hj)]
   rw[eσ] at S2;have sub:∀b∈P,b∈O:=fun b Y=>hs.subset Y
   have a1:StE fa O H fa P H:=#[sub,.inl rfl,fun _ _ z _=>z,fun _ z=>z]
   have U:Car X.K N1 fa H (NN g.F fa P) fa H:=#[fun b ys n z=>#[z,fun y=>n #[by
     rcases y with y | y | y
     .exact .inl y
     .exact .inr (.inl (sub b y))
     .exact .inr (.inr y),fun w=>by
     subst w;rcases y with y | y | y
     .exact I.tr b y (I.fr b m)
     .exact na y
     .exact I.nf b y m]],fun _ _ z=>z,fun _ _ z=>z,fun _ z=>z]
   refine#[_,J,k _ H fa P a1 #[hs.nodup I.nd,SlR.go U (fun _ _ _ z=>z) S2,fun b Y=>I.fr b (sub b Y),I.st,I.tr,I.ff,(I.fd.car c1 fun _ _=>rfl).car U fun _ _=>rfl,fun b z y=>I.nf b z (sub b y)] (Rep.go U _ _ R1)]
def fU {v:V}(h:PE X e (tC v)) (r:∀K N fa H,Rep K N fa H d v):EO X g e (dC d):=EO.w h fun σ H Q U=>by
 refine U.elim fun fa O s d' s' I q k=>?_
 simp only[dC,Jn,IQ] at q;obtain⟨J,Y⟩:=q;subst J;subst Y;exact k v H fa O StE.refl I (r _ _ _ _)
def lV {i j pos}:EO X g (.Constant (.int i) j pos) (dC (.int i)):=fU cW fun _ _ _ _=>by simp only[Rep]
def nr {i j pos}:EO X g (.Constant (.bool i) j pos) (dC (.bl i)):=fU Aq fun _ _ _ _=>by simp only[Rep]
def Ih {j pos}:EO X g (.Constant .none j pos) (dC .non):=fU Cn fun _ _ _ _=>by simp only[Rep]
def CB {x j pos} (J:x.length<=sizeLine):EO X g (.Constant (.str x) j pos) (dC (.str x)):=fU yD fun _ _ _ _=>by simp only[Rep];exact#[trivial,J]
def K4 (K:vF_) (r:R2) (p:D->D->Option D):Prop:=
 ∀(g:Gh) (σ:L2.St) (H:Hp) (fa:vA_) (O:vL_) (s:DS) (x y:V) (d1 d2 d:D) (Q:VK),GI K g σ H fa O s->RepB K (NN g.F fa O) fa H d1 x->RepB K (NN g.F fa O) fa H d2 y->p d1 d2=some d ->
  (∀v H',StE fa O H fa O H'->GI K g σ H' fa O s->Rep K (NN g.F fa O) fa H' d v->Q v H')->r x y H Q
def ou (K:vF_) (r:V->Hp->VK->Prop) (p:D->Option D):Prop:=
 ∀(g:Gh) (σ:L2.St) (H:Hp) (fa:vA_) (O:vL_) (s:DS) (x:V) (d1 d:D) (Q:VK),GI K g σ H fa O s->RepB K (NN g.F fa O) fa H d1 x->p d1=some d ->
  (∀v H',StE fa O H fa O H'->GI K g σ H' fa O s->Rep K (NN g.F fa O) fa H' d v->Q v H')->r x H Q
def gK (K:vF_) (r:R2) (p:D->D->Option (List D)):Prop:=
 ∀(g:Gh) (σ:L2.St) (H:Hp) (fa:vA_) (O:vL_) (s:DS) (x y:V) (d1 d2:D) (ds:vD_) (Q:VK),GI K g σ H fa O s->RepB K (NN g.F fa O) fa H d1 x->RepB K (NN g.F fa O) fa H d2 y->p d1 d2=some ds ->
  (∀q xs H',StE fa O H fa O H'->NewL K g σ H' fa O s q xs ds->H q=none->Q (.ref q) H')->r x y H Q
def Y8 (K:vF_) (r:List V->Hp->VK->Prop) (p:List D->Option D):Prop:=
 ∀(g:Gh) (σ:L2.St) (H:Hp) (fa:vA_) (O:vL_) (s:DS) (xs:List V) (ds:vD_) (d:D) (Q:VK),GI K g σ H fa O s->Y2 K (NN g.F fa O) fa H ds xs->p ds=some d ->
  (∀v H',StE fa O H fa O H'->GI K g σ H' fa O s->Rep K (NN g.F fa O) fa H' d v->Q v H')->r xs H Q
def uh (K:vF_) (r:List V->Hp->VK->Prop) (p:List D->Option (List D)):Prop:=
 ∀(g:Gh) (σ:L2.St) (H:Hp) (fa:vA_) (O:vL_) (s:DS) (xs:List V) (ds es:vD_) (Q:VK),GI K g σ H fa O s->Y2 K (NN g.F fa O) fa H ds xs->p ds=some es ->
  (∀q ys H',StE fa O H fa O H'->NewL K g σ H' fa O s q ys es->H q=none->Q (.ref q) H')->r xs H Q
noncomputable def a9 (p:D->D->Option D) (a b:DE):DE:=fun s=>(a s).bind fun x=>(b x.2).bind fun y=>(p x.1 y.1).map fun d=>(d,y.2)
def S4 (p:D->D->Option (List D)) (a b:DE):DA:=fun s=>(a s).bind fun x=>(b x.2).bind fun y=>(p x.1 y.1).map fun d=>(d,y.2)
noncomputable def r8 (p:D->Option D) (a:DE):DE:=fun s=>(a s).bind fun x=>(p x.1).map fun d=>(d,x.2)
def rX {α:Type}{p:D->D->Option α}{a b:DE}{s s':DS}{d:α}(h:((a s).bind fun x=>(b x.2).bind fun y=>(p x.1 y.1).map fun d=>(d,y.2))=some (d,s')):∃x s1 y,a s=some (x,s1)/\b s1=some (y,s')/\p x y=some d:=by
 refine o8 h fun x s1 h1 h=>?_
 refine o8 h fun y s2 h2 h=>?_
 refine N6 h fun d' J h=>?_
 simp only[IQ] at h;obtain⟨U,Y⟩:=h;subst U;subst Y;exact#[x,s1,y,h1,h2,J]
section
variable {a b:Expr}{fa fb:DE}{r:R2}{p:D->D->Option D}
def jK {r:R2}{p:D->D->Option D}(hr:K4 X.K r p) (σ:L2.St) (H:Hp) (Q:VK) (h:liftE X.K g (a9 p fa fb) σ H Q):dj r (liftB X.K g fa) (liftB X.K g fb) σ H Q:=by
 obtain⟨f0,O,s,d,s',I,e,k⟩:=h;obtain⟨x,s1,y,h1,h2,h3⟩:=rX e;refine#[f0,O,s,x,s1,I,h1,fun v H1 f1 O1 a1 I1 r1=>#[f1,O1,s1,y,s',I1,h2,fun u H2 U Y J I2 r2=>?_]];exact hr g σ H2 U Y s' v u x y d Q I2 (RepB.stp I1 J r1) r2 h3 fun z H3 a3 I3 r3=>k z H3 U Y (a1.trans (J.trans a3)) I3 r3
def zJ {r:R2}{p:D->D->Option (List D)}(hr:gK X.K r p) (σ:L2.St) (H:Hp) (Q:VK) (h:liftF X.K g (S4 p fa fb) σ H Q):dj r (liftB X.K g fa) (liftB X.K g fb) σ H Q:=by
 obtain⟨f0,O,s,d,s',I,e,k⟩:=h;obtain⟨x,s1,y,h1,h2,h3⟩:=rX e;refine#[f0,O,s,x,s1,I,h1,fun v H1 f1 O1 Y I1 r1=>#[f1,O1,s1,y,s',I1,h2,fun u H2 U O2 J I2 r2=>?_]];exact hr g σ H2 U O2 s' v u x y d Q I2 (RepB.stp I1 J r1) r2 h3 fun q xs H3 a3 L e1=>k q xs H3 U O2 (Y.trans (J.trans a3)) L (Y.mon _ (J.mon _ e1))
def EN {J:Operator}(Y:OpR X (binaryOp J) r) (U:K4 X.K r p) (ha:BO X g a fa) (hb:BO X g b fb):EO X g (.BinOp a J b pos) (a9 p fa fb):=EO.w (uZ Y ha.pe hb.pe) (jK U)
def xO {J:Operator}{p:D->D->Option (List D)}(Y:OpR X (binaryOp J) r) (U:gK X.K r p) (ha:BO X g a fa) (hb:BO X g b fb):FO X g (.BinOp a J b pos) (S4 p fa fb):=FO.w (uZ Y ha.pe hb.pe) (zJ U)
def mI {J:CmpOp}(ho:OpR X (compareOp J) r) (Y:K4 X.K r p) (ha:BO X g a fa) (hb:BO X g b fb) (U:behindInMarks J b=false):EO X g (.Compare a [J] [b] pos) (a9 p fa fb):=EO.w (Ar ho ha.pe hb.pe U) (jK Y)
def wv {r:R2}(U:IxR X r) (J:K4 X.K r p) (Y:BO X g a fa) (hb:BO X g b fb) (hs:rL b):EO X g (.Subscript a b pos) (a9 p fa fb):=EO.w (oq U Y.pe hb.pe hs) (jK J)
def Gu {J:UnaryOp}{r:V->Hp->VK->Prop}{p:D->Option D}(ho:jC X (unaryOp J) r) (hr:ou X.K r p) (ha:BO X g a fa):EO X g (.UnaryOp J a pos) (r8 p fa):=EO.w (xA ho ha.pe) fun σ H Q hQ=>by
 refine hQ.elim fun f0 O s d s' I e k=>?_
 refine o8 e fun x s1 h1 h=>?_
 refine N6 h fun d' Y h=>?_
 simp only[IQ] at h;obtain⟨e1,e2⟩:=h;subst e1;subst e2;exact#[f0,O,s,x,s1,I,h1,fun v H1 f1 O1 a1 I1 U=>hr g σ H1 f1 O1 s1 v x d' Q I1 U Y fun z H3 a3 I3 r3=>k z H3 f1 O1 (a1.trans a3) I3 r3]
noncomputable def dB (f:DE):DT:=fun s=>(f s).bind fun x=>match x.1 with | .bl b=>some (b,x.2) | _=>none
def nR {f:DE}{s s':DS}{b:Bool}(h:dB f s=some (b,s')):f s=some (.bl b,s'):=by
 refine o8 h fun x s1 h1 h=>?_
 cases x with
 |bl c=>simp only[Jn,IQ] at h;rw[h1,h.1,h.2]
 |_=>cases h
def oM {J:CmpOp}(ho:OpR X (compareOp J) r) (hr:K4 X.K r p) (ha:BO X g a fa) (hb:BO X g b fb) (U:behindInMarks J b=false):TO X g (.Compare a [J] [b] pos) (dB (a9 p fa fb)):=
 TO.w (yz ho ha.pe hb.pe U) fun σ H Q ⟨Y,O,s,d,s',I,e,k⟩=>jK hr σ H _ #[Y,O,s,.bl d,s',I,nR e,fun v H' f1 O1 a I1 r=>by
  simp only[Rep] at r;exact#[d,r,k H' f1 O1 a I1]]
def Q3:D->Option Bool
 |.non=>some false
 |.bl b=>some b
 |.int i=>some (i != 0)
 |.str x=>some ((x.length:Int) != 0)
 |.tup ds=>some (!ds.isEmpty)
 |.lst ds=>some (!ds.isEmpty)
 |_=>none
noncomputable def j9 (f:DE):DT:=fun s=>(f s).bind fun x=>(Q3 x.1).map fun b=>(b,x.2)
def pG {α β:Type}{xs:List α}{ys:List β}(h:xs.length=ys.length):xs.isEmpty=ys.isEmpty:=by cases xs <;> cases ys <;> simp_all
def lL {e:Expr}{f:DE}(h:BO X g e f) (he:∀whole,isTrue e X.env whole=(do let v <-whole;standAt e.pos;holding [v] (truthy v)):=by intro _;rfl):TO X g e (j9 f):=
 TO.w (DC h.pe he) fun σ H Q U=>by
  refine U.elim fun Y O s d s' I e k=>?_
  obtain⟨⟨x,s1⟩,h1,h.pe⟩:=Kk.mp e;obtain⟨d',J,h.pe⟩:=Ly.mp h.pe;simp only[IQ] at h.pe;obtain⟨e1,e2⟩:=h.pe;subst e1;subst e2;refine#[Y,O,s,x,s1,I,h1,fun v H' f1 O1 a I1 r=>#[d',?_,k H' f1 O1 a I1]];cases x with
  |non=>simp only[RepB,Rep] at r;subst r;cases J;rfl
  |bl b=>simp only[RepB,Rep] at r;subst r;cases J;rfl
  |int i=>simp only[RepB,Rep] at r;subst r;cases J;rfl
  |str x=>simp only[RepB,Rep] at r;obtain⟨r,l⟩:=r;subst r;cases J;exact#[l,rfl]
  |tup ds=>
   simp only[RepB,Rep] at r;obtain⟨c,xs,r,q,w⟩:=r;subst r;cases J;exact .inr (.inl #[xs,q,by rw[pG w.length]])
  |lst ds=>
   obtain⟨c,xs,r,_,q,w⟩:=r;subst r;cases J;exact .inl #[xs,SqL.of q,by rw[pG w.length]]
  |feed=>cases J
  |scr _=>cases J
  |fn _=>cases J
  |exc _ _=>cases J
noncomputable def B4 (a b:DT):DT:=fun s=>(a s).bind fun x=>if x.1=true then b x.2 else some (false,x.2)
noncomputable def G1 (a b:DT):DT:=fun s=>(a s).bind fun x=>if x.1=true then some (true,x.2) else b x.2
def G8 (a:DT):DT:=fun s=>(a s).map fun x=>(!x.1,x.2)
noncomputable def R3 (a b:DE):DE:=fun s=>(dB a s).bind fun x=>if x.1=true then b x.2 else some (.bl false,x.2)
def O7 (a b:DE):DE:=fun s=>(dB a s).bind fun x=>if x.1=true then some (.bl true,x.2) else b x.2
def O0 (a:DE):DE:=fun s=>(dB a s).map fun x=>(.bl (!x.1),x.2)
variable {ta tb:DT}
def FJ (h:TO X g a ta):WO X g (.BoolOp .And [a] pos) ta:=#[Cj h.pe]
def Gw (h:TO X g a ta):WO X g (.BoolOp .Or [a] pos) ta:=#[Ho h.pe]
def vv (ha:TO X g a ta) (hb:WO X g (.BoolOp .And (b::rest) pos) tb):WO X g (.BoolOp .And (a::b::rest) pos) (B4 ta tb):=WO.w (Ey ha.pe hb.pe) fun σ H Q Y=>by
 refine Y.elim fun f0 O s d s' I e k=>?_
 refine o8 e fun x s1 h1 h=>?_
 refine#[f0,O,s,x,s1,I,h1,fun H1 f1 O1 J U=>?_];cases x with
 |true=>rw[iO rfl] at h ⊢;exact#[f1,O1,s1,d,s',U,h,fun H2 f2 O2 a2 I2=>k H2 f2 O2 (J.trans a2) I2]
 |false=>
  rw[iU IM] at h ⊢;simp only[Jn,IQ] at h;obtain⟨e1,e2⟩:=h;subst e1;subst e2;exact k H1 f1 O1 J U
def vw (ha:TO X g a ta) (hb:WO X g (.BoolOp .Or (b::rest) pos) tb):WO X g (.BoolOp .Or (a::b::rest) pos) (G1 ta tb):=WO.w (GW ha.pe hb.pe) fun σ H Q Y=>by
 refine Y.elim fun f0 O s d s' I e k=>?_
 refine o8 e fun x s1 h1 h=>?_
 refine#[f0,O,s,x,s1,I,h1,fun H1 f1 O1 J U=>?_];cases x with
 |false=>rw[iU IM] at h ⊢;exact#[f1,O1,s1,d,s',U,h,fun H2 f2 O2 a2 I2=>k H2 f2 O2 (J.trans a2) I2]
 |true=>
  rw[iO rfl] at h ⊢;simp only[Jn,IQ] at h;obtain⟨e1,e2⟩:=h;subst e1;subst e2;exact k H1 f1 O1 J U
def WO.t {f:DT}(h:WO X g e f):TO X g e f:=#[h.pe.pt]
def qY (ha:TO X g a ta):TO X g (.UnaryOp .Not a pos) (G8 ta):=TO.w (Cc ha.pe) fun σ H Q J=>by
 refine J.elim fun U O s d s' I e k=>?_
 refine mapP e fun x s1 h1 h=>?_
 simp only[IQ] at h;obtain⟨Y,e2⟩:=h;subst Y;subst e2;exact#[U,O,s,x,s1,I,h1,fun H1 f1 O1 a1 I1=>k H1 f1 O1 a1 I1]
def qy {op} {f:DE}(h:EO X g a f):EO X g (.BoolOp op [a] pos) f:=#[zF h.pe]
def vc (ha:EO X g a fa) (hb:EO X g (.BoolOp .Or (b::rest) pos) fb):EO X g (.BoolOp .Or (a::b::rest) pos) (O7 fa fb):=EO.w (ya ha.pe hb.pe) fun σ H Q Y=>by
 refine Y.elim fun f0 O s d s' I e k=>?_
 refine o8 e fun x s1 h1 h=>?_
 refine#[f0,O,s,_,s1,I,nR h1,fun v H1 f1 O1 J U r=>#[x,by simpa only[Rep] using r,?_]];cases x with
 |false=>rw[iU IM] at h ⊢;exact#[f1,O1,s1,d,s',U,h,fun v H2 f2 O2 a2 I2=>k v H2 f2 O2 (J.trans a2) I2]
 |true=>
  rw[iO rfl] at h ⊢;simp only[Jn,IQ] at h;obtain⟨e1,e2⟩:=h;subst e1;subst e2;exact k _ H1 f1 O1 J U (by simp only[Rep])
def vY (ha:EO X g a fa):EO X g (.UnaryOp .Not a pos) (O0 fa):=EO.w (zy ha.pe) fun σ H Q J=>by
 refine J.elim fun U O s d s' I e k=>?_
 refine mapP e fun x s1 h1 h=>?_
 simp only[IQ] at h;obtain⟨Y,e2⟩:=h;subst Y;subst e2;exact#[U,O,s,_,s1,I,nR h1,fun v H1 f1 O1 a1 I1 r=>#[x,by simpa only[Rep] using r,k _ H1 f1 O1 a1 I1 (by simp only[Rep])]]
noncomputable def D7 (c:DT) (a b:DE):DE:=fun s=>(c s).bind fun x=>if x.1=true then a x.2 else b x.2
def Dz {c:Expr}(hc:TO X g c fc) (ha:EO X g a fa) (hb:EO X g b fb):EO X g (.IfExp c a b pos) (D7 fc fa fb):=EO.w (sS hc.pe ha.pe hb.pe) fun σ H Q hQ=>by
 refine hQ.elim fun f0 O s d s' I e k=>?_
 refine o8 e fun x s1 h1 h=>?_
 refine#[f0,O,s,x,s1,I,h1,fun H1 f1 O1 a1 I1=>?_];cases x with
 |false=>rw[iU IM] at h ⊢;exact#[f1,O1,s1,d,s',I1,h,fun v H2 U Y J I2=>k v H2 U Y (a1.trans J) I2]
 |true=>rw[iO rfl] at h ⊢;exact#[f1,O1,s1,d,s',I1,h,fun v H2 U Y J I2=>k v H2 U Y (a1.trans J) I2]
def a8:DA:=fun s=>some ([],s)
def a7 (a:DE) (r:DA):DA:=fun s=>(a s).bind fun x=>(r x.2).map fun y=>(x.1::y.1,y.2)
def eQ {a:DE}{r:DA}{s s':DS}(h:a7 a r s=some (ds,s')):∃d s1 es,a s=some (d,s1)/\r s1=some (es,s')/\ds=d::es:=by
 refine o8 h fun x s1 h1 h=>?_
 refine mapP h fun y s2 h2 h=>?_
 simp only[IQ] at h;exact#[x,s1,y,h1,by rw[h2,h.2],h.1.symm]
variable {fr:DA}
def ee:AO X g [] a8:=AO.w ag fun σ H Q J=>by
 refine J.elim fun U O s d s' I e k=>?_
 simp only[a8,Jn,IQ] at e;obtain⟨Y,e2⟩:=e;subst Y;subst e2;exact k [] H U O StE.refl I (by simp only[Reps])
def mr (ha:EO X g a fa) (hr:AO X g es fr) (hs:starEach (a::es) X.env=(false,eval a X.env)::starEach es X.env:=by rfl):AO X g (a::es) (a7 fa fr):=AO.w (O9 ha.pe hr.pe hs) fun σ H Q hQ=>by
 refine hQ.elim fun f0 O s ds s' I e k=>?_
 obtain⟨d,s1,es,h1,h2,h3⟩:=eQ e;subst h3;refine#[f0,O,s,d,s1,I,h1,fun v H1 f1 O1 a1 U Y=>#[f1,O1,s1,es,s',U,h2,fun vs H2 f2 O2 J I2 r2=>?_]];refine k (v::vs) H2 f2 O2 (a1.trans J) I2 ?_;simp only[Reps];exact#[v,vs,rfl,Rep.stp U J.stp Y,r2]
def aF:BAO X g [] a8:=BAO.w ag fun σ H Q J=>by
 refine J.elim fun U O s d s' I e k=>?_
 simp only[a8,Jn,IQ] at e;obtain⟨Y,e2⟩:=e;subst Y;subst e2;exact k [] H U O StE.refl I (by simp only[Y2])
def Ev (ha:BO X g a fa) (hr:BAO X g es fr) (hs:starEach (a::es) X.env=(false,eval a X.env)::starEach es X.env:=by rfl):BAO X g (a::es) (a7 fa fr):=BAO.w (O9 ha.pe hr.pe hs) fun σ H Q hQ=>by
 refine hQ.elim fun f0 O s ds s' I e k=>?_
 obtain⟨d,s1,es,h1,h2,h3⟩:=eQ e;subst h3;refine#[f0,O,s,d,s1,I,h1,fun v H1 f1 O1 a1 U Y=>#[f1,O1,s1,es,s',U,h2,fun vs H2 f2 O2 J I2 r2=>?_]];exact k (v::vs) H2 f2 O2 (a1.trans J) I2 #[v,vs,rfl,RepB.stp U J Y,r2]
noncomputable def c9 (f:DA):DE:=fun s=>(f s).bind fun x=>if x.1.length<=sizeLine then some (.tup x.1,x.2) else none
noncomputable def j8 (f:DA):DA:=fun s=>(f s).bind fun x=>if x.1.length<=sizeLine then some (x.1,x.2) else none
def kv {x1} (h:AO X g es fr):EO X g (.Tuple es x1 pos) (c9 fr):=EO.w (oP h.pe) fun σ H Q hQ=>by
 refine hQ.elim fun f0 O s d s' I e k=>?_
 obtain⟨⟨ds,s1⟩,h1,h.pe⟩:=Kk.mp e;by_cases J:ds.length<=sizeLine
 .rw[iO J] at h.pe;simp only[Jn,IQ] at h.pe;obtain⟨e1,e2⟩:=h.pe;subst e1;subst e2;refine#[f0,O,s,ds,s1,I,h1,fun vs H1 f1 O1 a1 I1 U=>#[by rw[U.length];exact J,fun p hp=>?_]];have Y:StE f1 O1 H1 f1 O1 (i6 H1 p (.tup vs)):=D6 hp;refine k _ _ f1 O1 (a1.trans Y) (I1.new hp) ?_;simp only[Rep];exact#[p,vs,rfl,SqT.of B0,Reps.stp I1 Y.stp U]
 .rw[iU J] at h.pe;cases h.pe
def zW (h:AO X g es fr):FO X g (.List es pos) (j8 fr):=FO.w (tN h.pe) fun σ H Q hQ=>by
 refine hQ.elim fun f0 O s d s' I e k=>?_
 obtain⟨⟨ds,s1⟩,h1,h.pe⟩:=Kk.mp e;by_cases J:ds.length<=sizeLine
 .rw[iO J] at h.pe;simp only[Jn,IQ] at h.pe;obtain⟨e1,e2⟩:=h.pe;subst e1;subst e2;refine#[f0,O,s,ds,s1,I,h1,fun vs H1 f1 O1 a1 I1 Y=>#[by rw[Y.length];exact J,fun p U=>?_]];have a2:StE f1 O1 H1 f1 O1 (i6 H1 p (.lst vs)):=D6 U;exact k p vs _ f1 O1 (a1.trans a2) (bB I1 U Y) (a1.mon _ U)
 .rw[iU J] at h.pe;cases h.pe
end
section
variable {K:vF_}{σ:L2.St}{O':vL_}{s s':DS}
def NN.mono {F:vB_}{P:vL_}(h:∀b∈P,b∈O) {b:Addr}(z:NN F fa P b):NN F fa O b:=by
 rcases z with z | z | z
 .exact .inl z
 .exact .inr (.inl (h b z))
 .exact .inr (.inr z)
def oj {F:vB_}(h:∀b,NN F fa O b->N b):Car K N fa H (NN F fa O) fa H:=#[fun b xs n q=>#[q,fun z=>n (h b z)],fun _ _ q=>q,fun _ _ q=>q,fun _ q=>q]
theorem DI.put (I:GI K g σ H fa O s) (i:Nat) {v:V}(r:Rep K (NN g.F fa O) fa H d v):∃P,(∀b∈P,b∈O)/\GI K g (σ.set i (some v)) H fa P { s with sl:=s.sl.set i (.v d) }:=by
 obtain⟨P,U,S,_⟩:=SlR.put i I.sl r;have sub:∀b∈P,b∈O:=fun b J=>U.subset J
 have c:Car K (NN g.F fa O) fa H (NN g.F fa P) fa H:=oj fun b=>NN.mono sub
 exact#[P,sub,U.nodup I.nd,SlR.go c (fun _ _ _ z=>z) S,fun b J=>I.fr b (sub b J),I.st,I.tr,I.ff,I.fd.car c fun _ _=>rfl,fun b z y=>I.nf b z (sub b y)]
def bp {P:vL_}(h:∀b∈P,b∈O):StE fa O H fa P H:=#[h,.inl rfl,fun _ _ e _=>e,fun _ e=>e]
def NewL.put (L:NewL K g σ H fa O s p xs ds) (i:Nat) (hi:i<s.sl.length) (U:g.H0 p=none) (Y:p ∉ O):∃P,(∀b∈P,b=p\/b∈O)/\GI K g (σ.set i (some (.ref p))) H fa P { s with sl:=s.sl.set i (.own ds) }:=by
 obtain⟨P,h1,h2,S⟩:=SlR.putN i L.sl hi Y L.gi.nd L.ls L.rs;have c:Car K (fun b=>NN g.F fa O b\/b=p) fa H (NN g.F fa P) fa H:=oj fun b z=>by
  rcases z with z | z | z
  .exact .inl (.inl z)
  .rcases h1 b z with y | y
   .exact .inr y
   .exact .inl (.inr (.inl y))
  .exact .inl (.inr (.inr z))
 refine#[P,h1,h2,SlR.go c (fun _ _ _ z=>z) S,fun b J=>?_,L.gi.st,L.gi.tr,L.gi.ff,L.fd.car c fun _ _=>rfl,fun b z J=>?_]
 .rcases h1 b J with y | y
  .rw[y];exact U
  .exact L.gi.fr b y
 .rcases h1 b J with y | y
  .rw[y] at z;exact L.nf z
  .exact L.gi.nf b z y
theorem DI.rew (I:GI K g σ H fa O s) {es:vD_}(e1:s.sl[i]? = some (.own ds)) (Y:σ[i]? = some (some (.ref a))) (m:a∈O) (e3:H a=some (.lst xs)) (r:Reps K (NN g.F fa O) fa H es ys) :
  GI K g σ (i6 H a (.lst ys)) fa O { s with sl:=s.sl.set i (.own es) }/\Stp fa O H fa O (i6 H a (.lst ys)):=by
 have U:Stp fa O H fa O (i6 H a (.lst ys)):=#[fun b J=>.inl J,.inl rfl,fun b u e n _=>by
  rw[j6 (show b≠a from fun z=>n (by rw[z];exact m))];exact e,fun b z=>by
  by_cases J:b=a
  .subst J;rw[B0] at z;cases z
  .rw[j6 J] at z;exact z]
 have c:=I.car U;have k:∀b u,b≠a->H b=some u->i6 H a (.lst ys) b=some u:=fun b u n e=>by rw[j6 n];exact e
 refine#[#[I.nd,SlR.rew I.sl I.nd (fun b J=>.inr (.inl J)) e1 Y B0 c k (Reps.go c es ys r),I.fr,?_,I.tr,I.ff,I.fd.car c fun b J=>?_,I.nf],U]
 .refine#[fun b J=>(by cases J),I.st.fe,fun b u e n f=>?_,fun b z=>I.st.mon b (U.mon b z)];refine k b u (fun z=>?_) (I.st.same b u e n f);rw[z,I.fr a m] at e;cases e
 .refine j6 fun z=>?_
  subst z;exact I.nf _ J m
end
def FlK.shift {K:vF_}{E:Ends}{O':vL_}{s:DS}(a:Stp fa O H fa' O' H') (h:FlK K g E fa O H fl s):FlK K g E fa' O' H' fl s:=by
 cases fl with
 |next=>exact fun σ' H2 f2 Y J U=>h σ' H2 f2 Y (a.trans J) U
 |brk=>exact fun σ' H2 f2 Y J U=>h σ' H2 f2 Y (a.trans J) U
 |cont=>exact fun σ' H2 f2 Y J U=>h σ' H2 f2 Y (a.trans J) U
 |ret d=>exact fun σ' v H2 f2 Y J U=>h σ' v H2 f2 Y (a.trans J) U
 |thr c ds=>exact fun σ' C dx od xs H2 f2 Y J U=>h σ' C dx od xs H2 f2 Y (a.trans J) U
def n8:DM:=fun s=>some (.next,s)
def K6 (b:DM) (x:Fl × DS):Option (Fl × DS):=match x.1 with
 |.next=>b x.2
 |.brk=>some (.brk,x.2)
 |.cont=>some (.cont,x.2)
 |.ret d=>some (.ret d,x.2)
 |.thr c ds=>some (.thr c ds,x.2)
noncomputable def d8 (a b:DM):DM:=fun s=>(a s).bind (K6 b)
section
variable {st:Stmt}{rest:List Stmt}{a b:DM}{f:DE}
def W1:SSO X g [] n8:=SSO.w wF fun E σ H J=>by
 refine J.elim fun fa O s fl s' I e k=>?_
 cases e;exact k σ H fa O Stp.refl I
def F4 (h:SO X g st a):SSO X g [st] a:=#[Bf h.pe]
def n9 (h:SO X g st a) (hr:SSO X g rest b):SSO X g (st::rest) (d8 a b):=SSO.w (wU h.pe hr.pe) fun E σ H J=>by
 refine J.elim fun fa O s fl s' I e k=>?_
 refine o8 e fun f1 s1 h1 h2=>?_
 refine#[fa,O,s,f1,s1,I,h1,?_];cases f1 with
 |next=>exact fun σ' H' f1 O1 U Y=>#[f1,O1,s1,fl,s',Y,h2,k.shift U]
 |brk=>cases h2;exact k
 |cont=>cases h2;exact k
 |ret d=>cases h2;exact k
 |thr c ds=>cases h2;exact k
noncomputable def i5 (f:DE):DM:=fun s=>(f s).map fun x=>(.ret x.1,x.2)
def Q7 (Y:EO X g e f):SO X g (.Return (some e) pos) (i5 f):=SO.w (vn Y.pe) fun E σ H J=>by
 refine J.elim fun fa O s fl s' I q k=>?_
 refine mapP q fun d s1 h1 h2=>?_
 cases h2;exact#[fa,O,s,d,s1,I,h1,fun v H' f1 O1 U I1 r=>k σ v H' f1 O1 U.stp I1 r]
noncomputable def l7 (c:DT) (a b:DM):DM:=fun s=>(c s).bind fun x=>if x.1=true then a x.2 else b x.2
def W0 {c:Expr}(hc:TO X g c fc) (ha:SSO X g la a) (hb:SSO X g lb b):SO X g (.If c la lb pos) (l7 fc a b):=SO.w (zN hc.pe ha.pe hb.pe) fun E σ H Y=>by
 refine Y.elim fun fa O s fl s' I e k=>?_
 refine o8 e fun x s1 h1 h=>?_
 refine#[fa,O,s,x,s1,I,h1,fun H1 f1 O1 J U=>?_];cases x with
 |false=>rw[iU IM] at h ⊢;exact#[f1,O1,s1,fl,s',U,h,k.shift J.stp]
 |true=>rw[iO rfl] at h ⊢;exact#[f1,O1,s1,fl,s',U,h,k.shift J.stp]
def liftG (K:vF_) (g:Gh) (t:D->DS->Option DS):TG:=fun v σ H Q=>∃fa O s d s',GI K g σ H fa O s/\Rep K (NN g.F fa O) fa H d v/\t d s=some s'/\∀σ' H' fa' O',Stp fa O H fa' O' H'->GI K g σ' H' fa' O' s'->Q σ' H'
def liftGs (K:vF_) (g:Gh) (t:List D->DS->Option DS):W5:=fun vs σ H Q=>∃fa O s ds s',GI K g σ H fa O s/\Reps K (NN g.F fa O) fa H ds vs/\t ds s=some s'/\∀σ' H' fa' O',Stp fa O H fa' O' H'->GI K g σ' H' fa' O' s'->Q σ' H'
section
variable {K:vF_}{σ:L2.St}{Q:L2.St->Hp->Prop}
def liftG.elim {t:D->DS->Option DS}{v:V}(h:liftG K g t v σ H Q) (k:∀fa O s d s',GI K g σ H fa O s->Rep K (NN g.F fa O) fa H d v->t d s=some s'->(∀σ' H' fa' O',Stp fa O H fa' O' H'->GI K g σ' H' fa' O' s'->Q σ' H')->G):G:=by
 obtain⟨fa,O,s,d,s',a,r,b,c⟩:=h;exact k fa O s d s' a r b c
def liftGs.elim {t:List D->DS->Option DS}{v:List V}(h:liftGs K g t v σ H Q) (k:∀fa O s d s',GI K g σ H fa O s->Reps K (NN g.F fa O) fa H d v->t d s=some s'->(∀σ' H' fa' O',Stp fa O H fa' O' H'->GI K g σ' H' fa' O' s'->Q σ' H')->G):G:=by
 obtain⟨fa,O,s,d,s',a,r,b,c⟩:=h;exact k fa O s d s' a r b c
end
structure GO (X:Cx) (g:Gh) (e:Expr) (t:D->DS->Option DS):Prop where
 pe:PG X e (liftG X.K g t)
structure GsO (X:Cx) (g:Gh) (es:List Expr) (t:List D->DS->Option DS):Prop where
 pe:ah X es (liftGs X.K g t)
def d6 (i:Nat) (d:D):DS->Option DS:=fun s=>some { s with sl:=s.sl.set i (.v d) }
def Ap {t t':TG}(h:PG X e t) (w:∀v σ H Q,t' v σ H Q->t v σ H Q):PG X e t':=fun pins s σ H v u Q I r q=>h pins s σ H v u Q I r (w v σ H Q q)
def DZ {t t':W5}(h:ah X es t) (w:∀v σ H Q,t' v σ H Q->t v σ H Q):ah X es t':=fun pins s σ H v u Q I r q=>h pins s σ H v u Q I r (w v σ H Q q)
theorem GO.w {f:D->DS->Option DS}{t:TG}(h:PG X e t) (w:∀v σ H Q,liftG X.K g f v σ H Q->t v σ H Q):GO X g e f:=#[Ap h w]
theorem GsO.w {f:List D->DS->Option DS}{t:W5}(h:ah X es t) (w:∀v σ H Q,liftGs X.K g f v σ H Q->t v σ H Q):GsO X g es f:=#[DZ h w]
def xh (h:PG X (.Name x pos) (P1 i)):GO X g (.Name x pos) (d6 i):=GO.w h fun v σ H Q J=>by
 refine J.elim fun fa O s d s' I r e k=>?_
 cases e;obtain⟨P,sub,U⟩:=I.put i r;exact k _ H fa P (bp sub).stp U
def v5:List D->DS->Option DS
 |[],s=>some s
 |_::_,_=>none
def j4 (t:D->DS->Option DS) (u:List D->DS->Option DS):List D->DS->Option DS
 |[],_=>none
 |d::r,s=>(t d s).bind (u r)
def Ef:GsO X g [] v5:=GsO.w jd fun v σ H Q J=>by
 refine J.elim fun fa O s ds s' I r e k=>?_
 cases ds with
 |nil=>cases e;simp only[Reps] at r;exact#[r,k σ H fa O Stp.refl I]
 |cons d U=>cases e
def Gy {es:List Expr}{t:D->DS->Option DS}{u:List D->DS->Option DS}(h:GO X g e t) (hr:GsO X g es u) (hs:(assignEach (e::es) X.env).map (·.2)=assign e X.env::(assignEach es X.env).map (·.2):=by rfl):GsO X g (e::es) (j4 t u):=
 GsO.w (bn h.pe hr.pe hs) fun v σ H Q Y=>by
  refine Y.elim fun fa O s ds s' I r e k=>?_
  cases ds with
  |nil=>cases e
  |cons d r'=>
   refine X3 e fun s1 h1 h2=>?_
   simp only[Reps] at r;obtain⟨x,ys,rfl,rx,U⟩:=r;exact#[x,ys,rfl,fa,O,s,d,s1,I,rx,h1,fun σ1 H1 f1 O1 J I1=>#[f1,O1,s1,r',s',I1,Reps.stp I J U,h2,fun σ2 H2 f2 O2 a2 I2=>k σ2 H2 f2 O2 (J.trans a2) I2]]
def u9 (n:Nat) (u:List D->DS->Option DS) (d:D) (s:DS):Option DS:=match d with
 |.tup ds=>if ds.length=n then u ds s else none
 |_=>none
def DR {es:List Expr}{k:Nat}{n:Nat}{u:List D->DS->Option DS}(hc:X.calm=true) (h:GsO X g es u) (hn:(assignEach es X.env).length=n:=by rfl) (U:(assignEach es X.env).findIdx? (·.1)=none:=by rfl):GO X g (.Tuple es k pos) (u9 n u):=
 GO.w (jP hc h.pe hn U) fun v σ H Q Y=>by
  refine Y.elim fun fa O s d s' I r e k=>?_
  cases d with
  |tup ds=>
   simp only[u9] at e;by_cases J:ds.length=n
   .rw[iO J] at e;simp only[Rep] at r;obtain⟨a,xs,rfl,q,w⟩:=r;exact#[a,xs,rfl,q,by rw[w.length];exact J,fa,O,s,ds,s',I,w,e,k]
   .rw[iU J] at e;cases e
  |_=>cases e
noncomputable def e8 (f:DE) (t:D->DS->Option DS):DM:=fun s=>(f s).bind fun x=>(t x.1 x.2).map fun s'=>(.next,s')
def qm {f:DE}{t:D->DS->Option DS}(E:Ends) (σ:L2.St) (H:Hp) (h:liftS X.K g (e8 f t) E σ H):fN (liftE X.K g f) (liftG X.K g t) E σ H:=by
 obtain⟨fa,O,s,fl,s',I,q,k⟩:=h;refine o8 q fun d s1 h1 h2=>?_
 refine N6 h2 fun s2 J U=>?_
 cases U;exact#[fa,O,s,d,s1,I,h1,fun v H1 f1 O1 a1 I1 r=>#[f1,O1,s1,d,_,I1,r,J,fun σ2 H2 f2 O2 Y I2=>k σ2 H2 f2 O2 (a1.stp.trans Y) I2]]
def HD {tg:Expr}{t:D->DS->Option DS}(J:EO X g e f) (U:GO X g tg t) (hs:swapsWithSole [tg] e pos.line X.env=pure false:=by rfl) (Y:swappedStores [tg] e X.env=pure none:=by rfl)
  (h1:(assignEach [tg] X.env).map (·.2)=[assign tg X.env]:=by rfl):SO X g (.Assign [tg] e pos) (e8 f t):=SO.w (uE J.pe U.pe hs Y h1) qm
def eR {i:Nat}{x:Str}{pos':Pos}(J:X.N.Nodup) (hi:X.N[i]? = some x) (Y:X0 X.env.scope x) (he:EO X g e f) (hs:swapsWith e (some (.Name x pos')) pos.line X.env=pure false:=by rfl) (hf:X.fn x=true\/X.env.scope.names.lookup x=some .local:=by first | exact .inl rfl | exact .inr rfl | assumption) :
  SO X g (.Assign [.Name x pos'] e pos) (e8 f (d6 i)):=SO.w (kr J hi Y he.pe hs hf) fun E σ H h=>by
 obtain⟨fa,O,s,d,s1,I,h1,k⟩:=qm E σ H h;refine#[fa,O,s,d,s1,I,h1,fun v H1 f1 O1 a1 I1 r=>?_];obtain⟨f2,O2,s2,d2,s3,I2,U,e2,k2⟩:=k v H1 f1 O1 a1 I1 r;cases e2;obtain⟨P,sub,I'⟩:=I2.put i U;exact k2 _ H1 f2 P (bp sub).stp I'
noncomputable def B8 (i:Nat) (f:DA):DM:=fun s=>(f s).bind fun x=>if i<x.2.sl.length then some (.next,{ x.2 with sl:=x.2.sl.set i (.own x.1) }) else none
def nH {i:Nat}{x:Str}{f:DA}{pos':Pos}(hN:X.N.Nodup) (hi:X.N[i]? = some x) (hx:X0 X.env.scope x) (he:FO X g e f) (hs:swapsWith e (some (.Name x pos')) pos.line X.env=pure false:=by rfl) (hf:X.fn x=true\/X.env.scope.names.lookup x=some .local:=by first | exact .inl rfl | exact .inr rfl | assumption) :
  SO X g (.Assign [.Name x pos'] e pos) (B8 i f):=SO.w (kr hN hi hx he.pe hs hf) fun E σ H hQ=>by
 refine hQ.elim fun fa O s fl s' I q k=>?_
 refine o8 q fun ds s1 h1 h2=>?_
 by_cases U:i<s1.sl.length
 .simp only[] at h2;rw[iO U] at h2;cases h2;refine#[fa,O,s,ds,s1,I,h1,fun p xs H1 f1 O1 J L Y=>?_];have np:p ∉ O1:=fun z=>by
   obtain⟨ys,e⟩:=I.owned (J.sub p z);rw[Y] at e;cases e
  obtain⟨P,sub,I'⟩:=L.put i U (I.st.mon p Y) np;refine k _ H1 f1 P #[fun b hb=>?_,J.fe,fun b u e _ n=>J.same b u e n,J.mon] I';rcases sub b hb with y | y
  .exact .inr (by rw[y];exact Y)
  .exact .inl (J.sub b y)
 .simp only[] at h2;rw[iU U] at h2;cases h2
noncomputable def F9 (i:Nat) (f:DE):DM:=fun s=>match s.sl[i]? with
 |some (.own _)=>(f s).bind fun x=>match x.2.sl[i]? with
  |some (.own ds)=>if ds.length<sizeLine then some (.next,{ x.2 with sl:=x.2.sl.set i (.own (ds++[x.1])) }) else none
  |_=>none
 |_=>none
def Fe {i:Nat}{x:Str}{p1 p2 p3 p4:Pos}(hv:PE X (.Name x p1) (Y7 i)) (he:EO X g e f) (U:attributeBase (.Name x p1) ("append" : Str) X.env (eval (.Name x p1) X.env)=eval (.Name x p1) X.env:=by rfl)
  (hfew:((backTo p3 (starEach [e] X.env)).all (fun x=>!x.1)&&(backToKw p3 (keywordEach [] X.env)).all (fun x=>x.1.isSome)
   && decide ([e].length+([]:List Keyword).length+(if ([]:List Keyword).isEmpty then 0 else 1)<30))=true:=by rfl)
  (Y:(p2.endLine == p3.line)=true:=by rfl) (hs:starEach [e] X.env=(false,eval e X.env)::starEach [] X.env:=by rfl) (J:(backTo p3 (starEach [] X.env)).any (·.1)=false:=by rfl)
  (hsw:swapsWith (.Call (.Attribute (.Name x p1) ("append" : Str) p2) [e] [] p3) none p4.line X.env=pure false:=by rfl) :
  SO X g (.Expr (.Call (.Attribute (.Name x p1) ("append" : Str) p2) [e] [] p3) p4) (F9 i f):=
 SO.w (sX (Al NW PySem.F.slot_list_append PySem.F.type_list_append qo hv (O9 he.pe ag hs) U hfew Y hs J) hsw) fun E σ H hQ=>by
  refine hQ.elim fun fa O s fl s' I q k=>?_
  cases q0:s.sl[i]? with
  |none=>simp only[F9,q0] at q;cases q
  |some z=>
  cases z with
  |no=>simp only[F9,q0] at q;cases q
  |v _=>simp only[F9,q0] at q;cases q
  |own ds0=>
  simp only[F9,q0] at q;obtain⟨a,xs0,e1,m,e2,_⟩:=SlR.own I.sl q0;refine o8 q fun d s1 h1 h2=>?_
  cases q2:s1.sl[i]? with
  |none=>simp only[q2] at h2;cases h2
  |some z=>
   cases z with
   |no=>simp only[q2] at h2;cases h2
   |v _=>simp only[q2] at h2;cases h2
   |own ds=>
    simp only[q2] at h2;by_cases hl:ds.length<sizeLine
    .rw[iO hl] at h2;cases h2;refine#[_,e1,.inl #[rfl,xs0,SqL.of e2],fa,O,s,d,s1,I,h1,fun v H1 f1 O1 a1 I1 r=>?_];obtain⟨b,xs,e3,m1,e4,r1⟩:=SlR.own I1.sl q2;rw[e1] at e3;cases e3;obtain⟨I2,a2⟩:=I1.rew q2 e1 m1 e4 (Reps.append r1 (Reps.one r));exact#[a,xs,v,rfl,rfl,e4,by rw[r1.length];exact hl,k σ _ f1 O1 (a1.stp.trans a2) I2]
    .rw[iU hl] at h2;cases h2
end
noncomputable def B2 (t:D->DS->Option DS) (b:DM):List D->DS->Option (Fl × DS)
 |[],s=>some (.next,s)
 |d::r,s=>(t d s).bind fun s1=>(b s1).bind fun x=>match x.1 with
  |.next=>B2 t b r x.2
  |.cont=>B2 t b r x.2
  |.brk=>some (.next,x.2)
  |.ret v=>some (.ret v,x.2)
  |.thr c ds=>some (.thr c ds,x.2)
def U6 (K:vF_) (g:Gh) (f1:vA_) (O1:vL_) (H1:Hp) (t:D->DS->Option DS) (b:DM) (ds:vD_) (fl:Fl) (sf:DS) (i:Nat):L2.St->Hp->Prop:=fun σ' H'=>
 ∃fa' O' s',Stp f1 O1 H1 fa' O' H'/\GI K g σ' H' fa' O' s'/\B2 t b (ds.drop i) s'=some (fl,sf)
section
variable {K:vF_}{f1:vA_}{O1:vL_}{t:D->DS->Option DS}{b:DM}{fl:Fl}{sf:DS}{E:Ends}{σ':L2.St}
def vj {α:Type}{l:List α}{d:α}(h:l[i]? = some d):l.drop i=d::l.drop (i+1):=by
 obtain⟨hi,e⟩:=Jj.mp h;rw[List.drop_eq_getElem_cons hi,e]
def eC (hk:FlK K g E f1 O1 H1 fl sf) {x:V}(hd:ds[i]? = some d) (hr:∀fa' O',Stp f1 O1 H1 fa' O' H'->Rep K (NN g.F fa' O') fa' H' d x) (h:U6 K g f1 O1 H1 t b ds fl sf i σ' H') :
  liftG K g t x σ' H' fun σ2 H2=>liftS K g b { E with nx:=U6 K g f1 O1 H1 t b ds fl sf (i+1),ct:=U6 K g f1 O1 H1 t b ds fl sf (i+1),bk:=E.nx } σ2 H2:=by
 obtain⟨fa',O',s',st,I,e⟩:=h;rw[vj hd,B2] at e;refine X3 e fun s1 h1 h2=>?_
 refine o8 h2 fun fb s2 h3 h4=>?_
 refine#[fa',O',s',d,s1,I,hr fa' O' st,h1,fun σ2 H2 f2 O2 a2 I2=>#[f2,O2,s1,fb,s2,I2,h3,?_]];cases fb with
 |next=>exact fun σ3 H3 f3 Y J U=>#[f3,Y,s2,st.trans (a2.trans J),U,h4]
 |cont=>exact fun σ3 H3 f3 Y J U=>#[f3,Y,s2,st.trans (a2.trans J),U,h4]
 |brk=>cases h4;exact fun σ3 H3 f3 Y J U=>hk σ3 H3 f3 Y (st.trans (a2.trans J)) U
 |ret v=>cases h4;exact fun σ3 v H3 f3 Y J U r=>hk σ3 v H3 f3 Y (st.trans (a2.trans J)) U r
 |thr c es=>cases h4;exact fun σ3 C dx od xs H3 f3 Y J U=>hk σ3 C dx od xs H3 f3 Y (st.trans (a2.trans J)) U
def fE (J:FlK K g E f1 O1 H1 fl sf) (U:ds.length<=n) (h:U6 K g f1 O1 H1 t b ds fl sf n σ' H'):E.nx σ' H':=by
 obtain⟨fa',O',s',st,I,e⟩:=h;rw[NX U,B2] at e;cases e;exact J σ' H' fa' O' st I
end
noncomputable def Q5 (f:DE) (t:D->DS->Option DS) (b:DM):DM:=fun s=>(f s).bind fun x=>match x.1 with
 |.lst ds=>B2 t b ds x.2
 |.tup ds=>B2 t b ds x.2
 |_=>none
section
variable {f:DE}{t:D->DS->Option DS}{b:DM}
def Bo (K:vF_) (tl:TE):TI:=fun σ H R=>tl σ H fun x H1=>∃a,x = .ref a/\(((∃xs,SqL K H1 a xs)/\R (eW K a) H1)\/((∃xs,SqT K H1 a xs)/\R (dW K a) H1))
def kG {l:Expr}(hl:PE X l tl):PI X tg l (Bo X.K tl):=by
 intro pins s σ H R I h;refine l4 (hl pins s σ H _ I h) fun v s1 ⟨x,H1,J,r1,q1⟩=>?_
 obtain⟨a,e,q⟩:=q1;subst e;cases r1;rcases q with ⟨⟨xs,U⟩,q⟩ | ⟨⟨xs,U⟩,q⟩
 .obtain⟨its,rv,p,hz⟩:=J.list U;refine wpAny_pyIter_list p.isList ?_;refine#[s1.heap.objs.size,[s1.heap.objs.size],_,_,H1,rfl,J.kept (t':=s1.toks) fun b o e=>xu _ e,Bn a _,#[_,Jk _ rfl,rfl,rfl],fun b Y=>?_,q];have e:b=s1.heap.objs.size:=by simpa using Y
  subst e;exact J.fpOk (tv _) (J.hok.fresh (tv _))
 .obtain⟨its,rv,p,hz⟩:=J.tuple U;refine wpAny_pyIter_tuple (show s1.heap.IsTuple a its.toArray from p) ?_;refine#[s1.heap.objs.size,[s1.heap.objs.size],_,_,H1,rfl,J.kept (t':=s1.toks) fun b o e=>xu _ e,Fp a _,#[_,Jk _ rfl,rfl,rfl],fun b Y=>?_,q];have e:b=s1.heap.objs.size:=by simpa using Y
  subst e;exact J.fpOk (tv _) (J.hok.fresh (tv _))
def CL (hp:PassesOwn (model X.prog X.w) X.A X.env X.xe) (hc:X.calm=true) (he:EO X g iter f) (hg:GO X g tg t) (hb:SSO X g body b) (hs:∀x,foldedSetIterable iter X.env x=pure x:=by intro _;rfl) :
  SO X g (.For tg iter body [] pos) (Q5 f t b):=SO.w (gX hp hc (kG he.pe) hg.pe hb.pe hs) fun E σ H hQ=>by
 refine hQ.elim fun fa O s fl sf I q k=>?_
 refine o8 q fun d s1 h1 h2=>?_
 refine#[fa,O,s,d,s1,I,h1,fun v H1 f1 O1 a1 J r=>?_];have k1:=k.shift a1.stp;cases d with
 |lst ds=>
  simp only[Rep] at r;obtain⟨a,xs,rfl,na,q,w⟩:=r;refine#[a,rfl,.inl #[#[xs,SqL.of q],Bx (xs:=xs) (U6 X.K g f1 O1 H1 t b ds fl sf) #[f1,O1,s1,Stp.refl,J,h2] ?_ ?_ ?_]]
  .rintro i σ' H' _ ⟨fa',O',s',st,I',e⟩;exact SqL.of ((J.car st).ls a xs na q).1
  .intro i x σ' H' Y h;obtain⟨d,hd,U⟩:=Reps.get' w Y;exact eC k1 hd (fun fa' O' st=>Rep.stp J st U) h
  .intro σ' H' h;exact fE k1 (Mb w.length.symm) h
 |tup ds=>
  simp only[Rep] at r;obtain⟨a,xs,rfl,q,w⟩:=r;refine#[a,rfl,.inr #[#[xs,q],cq (xs:=xs) (U6 X.K g f1 O1 H1 t b ds fl sf) #[f1,O1,s1,Stp.refl,J,h2] ?_ ?_ ?_]]
  .rintro i σ' H' _ ⟨fa',O',s',st,I',e⟩;exact(J.car st).tp a xs q
  .intro i x σ' H' Y h;obtain⟨d,hd,U⟩:=Reps.get' w Y;exact eC k1 hd (fun fa' O' st=>Rep.stp J st U) h
  .intro σ' H' h;exact fE k1 (Mb w.length.symm) h
 |_=>cases h2
def D0 (lo:Int) (n:Nat):List D:=(List.range n).map fun (i:Nat)=>D.int (lo+(i:Int))
def me {lo:Int}(h:i<n):(D0 lo n)[i]? = some (.int (lo+(i:Int))):=by simp[D0,h]
def S7 (lo:Int) (n:Nat):(D0 lo n).length=n:=by simp[D0]
def ak:List D->Option (List D)
 |[.int j]=>if -(2 ^ 62)<=j/\j<2 ^ 62 then some (D0 0 j.toNat) else none
 |[.int i,.int j]=>if -(2 ^ 62)<=i/\i<2 ^ 62 /\ -(2 ^ 62)<=j/\j<2 ^ 62 then some (D0 i (j - i).toNat) else none
 |_=>none
noncomputable def W8 (f:DA) (t:D->DS->Option DS) (b:DM):DM:=fun s=>(f s).bind fun x=>(ak x.1).bind fun ds=>B2 t b ds x.2
def qK {es:vD_}{a:D}(h:ak ds=some es) (l:ds=[a]):∃j:Int,a = .int j /\ -(2 ^ 62)<=j/\j<2 ^ 62/\es=D0 0 j.toNat:=by
 subst l;cases a with
 |int j=>
  have h:(if -(2 ^ 62)<=j/\j<2 ^ 62 then some (D0 0 j.toNat) else none)=some es:=h;by_cases J:-(2 ^ 62)<=j/\j<2 ^ 62
  .rw[iO J] at h;cases h;exact#[j,rfl,J.1,J.2,rfl]
  .rw[iU J] at h;cases h
 |_=>cases h
def eG {a:Expr}{fa:DE}{p cpos:Pos}(hp:PassesOwn (model X.prog X.w) X.A X.env X.xe) (hc:X.calm=true) (U:Gl X "range") (hm:X.mg "range" = none) (ha:EO X g a fa) (hg:GO X g tg t) (hb:SSO X g body b)
  (J:starEach [a] X.env=[(false,eval a X.env)]:=by rfl) (hs:∀x,foldedSetIterable (.Call (.Name "range" p) [a] [] cpos) X.env x=pure x:=by intro _;rfl) :
  SO X g (.For tg (.Call (.Name "range" p) [a] [] cpos) body [] pos) (W8 (a7 fa a8) t b):=
 SO.w (gX hp hc (uw U hm (mr ha ee J).pe J) hg.pe hb.pe hs) fun E σ H hQ=>by
  refine hQ.elim fun fa O s fl sf I q k=>?_
  refine o8 q fun ds s1 h1 h2=>?_
  refine X3 h2 fun es h3 h4=>?_
  obtain⟨d,s2,rs,e1,e2,Y⟩:=eQ h1;cases e2;obtain⟨j,rfl,j1,j2,rfl⟩:=qK h3 Y;refine#[fa,O,s,ds,s1,I,h1,fun vs H1 f1 O1 a1 I1 r=>?_];have k1:=k.shift a1.stp;rw[Y] at r;simp only[Reps,Rep] at r;obtain⟨x,ys,rfl,rfl,rfl⟩:=r;refine#[j,rfl,j1,j2,wI (lo:=0) (n:=j.toNat) (U6 X.K g f1 O1 H1 t b (D0 0 j.toNat) fl sf) #[f1,O1,s1,Stp.refl,I1,h4] ?_ ?_]
  .intro i σ' H' hi h;exact eC k1 (me hi) (fun fa' O' st=>by simp only[Rep]) h
  .intro σ' H' h;exact fE k1 (by rw[S7];exact tv _) h
def G5 (c:DT) (b:DM):Nat->DS->Option (Fl × DS)
 |0,_=>none
 |n+1,s=>(c s).bind fun x=>if x.1=true then (b x.2).bind fun y=>match y.1 with
   |.next=>G5 c b n y.2
   |.cont=>G5 c b n y.2
   |.brk=>some (.next,y.2)
   |.ret v=>some (.ret v,y.2)
   |.thr c ds=>some (.thr c ds,y.2)
  else some (.next,x.2)
open Classical in
def A9 (c:DT) (b:DM):DM:=fun s=>if h:∃n r,G5 c b n s=some r then G5 c b h.choose s else none
theorem kN {c:DT}{b:DM}:∀(n:Nat) {s:DS}{r:Fl × DS},G5 c b n s=some r->G5 c b (n+1) s=some r
 |0,s,r,h=>by cases h
 |n+1,s,r,h=>by
  rw[G5] at h ⊢;refine o8 h fun x s1 h1 h2=>?_
  refine Kk.mpr #[(x,s1),h1,?_];cases x with
  |false=>exact h2
  |true=>
   simp only[Jh] at h2 ⊢;refine o8 h2 fun y s2 U J=>?_
   refine Kk.mpr #[(y,s2),U,?_];cases y with
   |next=>exact kN n J
   |cont=>exact kN n J
   |brk=>exact J
   |ret v=>exact J
   |thr c ds=>exact J
def qU {c:DT}{b:DM}(J:n<=m) {s:DS}{r:Fl × DS}(h:G5 c b n s=some r):G5 c b m s=some r:=by
 induction J with
 |refl=>exact h
 |step _ U=>exact kN _ U
def gZ {c:DT}{b:DM}{s:DS}{r:Fl × DS}(h:G5 c b n s=some r):A9 c b s=some r:=by
 have J:∃n r,G5 c b n s=some r:=#[n,r,h]
 unfold A9;rw[dif_pos J];obtain⟨r',h'⟩:=J.choose_spec;have Y:=qU (Nat.le_max_left n J.choose) h;have U:=qU (Nat.le_max_right n J.choose) h';rw[Y] at U;rw[h',U]
def qX {c:DT}{b:DM}{s:DS}{r:Fl × DS}(h:A9 c b s=some r):∃n,G5 c b n s=some r:=by
 unfold A9 at h;by_cases J:∃n r,G5 c b n s=some r
 .rw[dif_pos J] at h;exact#[_,h]
 .rw[dif_neg J] at h;cases h
def W4 {c:DT}{b:DM}{s:DS}{r:Fl × DS}(h1:c s=some (true,s1)) (h2:b s1=some (.next,s2)) (J:A9 c b s2=some r):A9 c b s=some r:=by
 obtain⟨n,h⟩:=qX J;refine gZ (n:=n+1) ?_;rw[G5,h1];simp only[xo,Jh,h2];exact h
def Z8 {c:DT}{b:DM}{s:DS}(h1:c s=some (false,s1)):A9 c b s=some (.next,s1):=by
 refine gZ (n:=1) ?_;rw[G5,h1];simp
def ox {c:Expr}(hp:PassesOwn (model X.prog X.w) X.A X.env X.xe) (hc:TO X g c fc) (hb:SSO X g body b):SO X g (.While c body [] pos) (A9 fc b):=SO.w (An hp hc.pe hb.pe) fun E σ H hQ=>by
 refine hQ.elim fun fa O s fl sf I q k=>?_
 obtain⟨n,h⟩:=qX q;refine#[fun m σ' H'=>∃fa' O' s',Stp fa O H fa' O' H'/\GI X.K g σ' H' fa' O' s'/\G5 fc b m s'=some (fl,sf),#[n,fa,O,s,Stp.refl,I,h],?_];rintro m σ1 H1 ⟨f1,O1,s1,a1,I1,h1⟩;cases m with
 |zero=>cases h1
 |succ m=>
  rw[G5] at h1;refine o8 h1 fun x s2 h2 h3=>?_
  refine#[f1,O1,s1,x,s2,I1,h2,fun H2 f2 O2 a2 I2=>?_];cases x with
  |false=>rw[iU IM] at h3 ⊢;cases h3;exact k σ1 H2 f2 O2 (a1.trans a2.stp) I2
  |true=>
   rw[iO rfl] at h3 ⊢;refine o8 h3 fun y s3 h4 h5=>?_
   refine#[fun σ' H'=>∃fa' O' s',Stp fa O H fa' O' H'/\GI X.K g σ' H' fa' O' s'/\G5 fc b m s'=some (fl,sf),fun σ' H' z=>#[m,Nat.lt_succ_self m,z],f2,O2,s2,y,s3,I2,h4,?_];have J:=a1.trans a2.stp;cases y with
   |next=>exact fun σ3 H3 f3 O3 U Y=>#[f3,O3,s3,J.trans U,Y,h5]
   |cont=>exact fun σ3 H3 f3 O3 U Y=>#[f3,O3,s3,J.trans U,Y,h5]
   |brk=>cases h5;exact fun σ3 H3 f3 O3 U Y=>k σ3 H3 f3 O3 (J.trans U) Y
   |ret v=>cases h5;exact fun σ3 v H3 f3 O3 U Y r=>k σ3 v H3 f3 O3 (J.trans U) Y r
   |thr c es=>cases h5;exact fun σ3 C dx od xs H3 f3 O3 U Y=>k σ3 C dx od xs H3 f3 O3 (J.trans U) Y
end
abbrev c6:=List D->Option FS->Option (D × Option FS)
variable {m01 m00 m02 m05 m03 m04 m06 m07:c6}
def aG (K:vF_) (n:Nat) (m:c6):Sp:=fun vs H Q _=>∃(F:vB_) (fa:vA_) (ds:vD_) (fs:vO_) (d:D) (fs':vO_),
 (∀b,F b->H b≠none)/\(∀a,fa=some a->F a)/\Reps K F fa H ds vs/\FeedR F H fa fs/\m ds fs=some (d,fs')/\ds.length=n /\
  ∀v H' fa',Stp fa [] H fa' [] H'->FeedR (fun b=>F b\/fa'=some b) H' fa' fs'->Rep K (fun b=>F b\/fa'=some b) fa' H' d v->Q v H'
abbrev eu (P:Program) (w:World) (K:vF_) (mg:vG_) (base:Heap) (k:Nat) (f:Addr) (fd:FuncData) (ps:List Str) (m:c6):Prop:=FnOk P w K mg base U3 k f fd ps (aG K ps.length m)
noncomputable def m6 (n:Nat) (b:DM):c6:=fun ds fs=>(b #[ds.map .v++List.replicate (n - ds.length) .no,fs]).bind fun x=>match x.1 with
 |.ret d=>some (d,x.2.fs)
 |.next=>some (.non,x.2.fs)
 |_=>none
theorem tX {K:vF_}:∀n:Nat,SlR K N fa H (List.replicate n .no) (List.replicate n none) []
 |0=>by simp[SlR]
 |n+1=>by
  simp only[Kx,SlR];exact#[_,_,rfl,tX n]
theorem kL {K:vF_}:∀{ds:vD_}{vs:List V},Reps K N fa H ds vs->SlR K N fa H (ds.map .v++List.replicate n .no) (vs.map some++List.replicate n none) []
 |[],vs,h=>by simp only[Reps] at h;subst h;simpa using tX n
 |d::r,vs,h=>by
  simp only[Reps] at h;obtain⟨x,ys,rfl,h1,h2⟩:=h;simp only[Js,List.cons_append,SlR];exact#[x,_,rfl,h1,kL h2]
section
variable {P:Program}{w:World}{K:vF_}
def ug {st:Stmt}{f:Addr}{N:List Str}{k:Nat}{b:DM}(F:Fun K x qual st f fd) (S:FnScope N ps (A2 st))
  (J:∀(cdv:Value) (A:Around) (outer:List Env) (s:Shared) (H:Hp) (E:XK) (g:Gh),Room k (A.deeper (PyProof.Rows.envOfC qual (A2 st) s.heap.objs.size f cdv))->SSO (N4 U3 P w K mg base N qual (A2 st) f cdv A outer s H E).nox g (M2 st) b) :
  eu P w K mg base (k+1) f fd ps (m6 N.length b):=by
 refine F.ok S (fun vs H Q E h=>?_) (fun cdv A outer s H vs Q E hr h=>?_)
 .obtain⟨F,fa,ds,fs,d,fs',_,_,r,_,_,hl,_⟩:=h;rw[r.length];exact hl
 obtain⟨F,fa,ds,fs,d,fs',tr,ff,r,fd,e,hl,q⟩:=h;refine#[_,(J cdv A outer s H E #[F,H,fa,fun _=>E0] hr).pe,?_];refine o8 e fun fl s' h1 h2=>?_
 have hN:∀b,NN F fa [] b->F b:=fun b z=>by
  rcases z with z | z | z
  .exact z
  .cases z
  .exact ff b z
 have c:Car K F fa H (NN F fa []) fa H:=#[fun b xs n q=>#[q,fun z=>n (hN b z)],fun _ _ q=>q,fun _ _ q=>q,fun _ q=>q]
 have el:(L2.start N vs)=vs.map some++List.replicate (N.length - ds.length) none:=by rw[L2.start,r.length]
 have I:GI K #[F,H,fa,fun _=>E0] (L2.start N vs) H fa [] #[ds.map .v++List.replicate (N.length - ds.length) .no,fs]:=by
  refine#[Na,?_,fun b hb=>(by cases hb),Stp.refl,tr,ff,fd.car c fun _ _=>rfl,fun _ _ z=>(by cases z)];rw[el];exact kL (Reps.go c ds vs r)
 have fin:∀{fa':vA_}{O':vL_}{H':Hp}{σ':L2.St}{v:V}{dd:D},Stp fa [] H fa' O' H'->GI K #[F,H,fa,fun _=>E0] σ' H' fa' O' s'->Rep K (NN F fa' O') fa' H' dd v->dd=d->s'.fs=fs'->Q v H':=by
  intro fa' O' H' σ' v dd U Y r1 e1 e2;subst e1;subst e2;have c1:Car K (NN F fa' O') fa' H' (fun b=>F b\/fa'=some b) fa' H':=#[fun b xs n q=>#[q,fun z=>n (by
   rcases z with z | z
   .exact .inl z
   .exact .inr (.inr z))],fun _ _ q=>q,fun _ _ q=>q,fun _ q=>q]
  exact q v H' fa' #[fun b hb=>(by cases hb),U.fe,U.same,U.mon] (Y.fd.car c1 fun _ _=>rfl) (Rep.go c1 _ _ r1)
 refine#[fa,[],_,fl,s',I,h1,?_];cases fl with
 |next=>
  simp only[Jn,IQ] at h2;exact fun σ' H' fa' O' U Y=>fin U Y (v:=.non) (dd:=.non) (by simp only[Rep]) h2.1 h2.2
 |ret dd=>
  simp only[Jn,IQ] at h2;exact fun σ' v H' fa' O' U Y r1=>fin U Y r1 h2.1 h2.2
 |brk=>cases h2
 |cont=>cases h2
 |thr _ _=>cases h2
end
noncomputable def c8 (m:c6) (f:DA):DE:=fun s=>(f s).bind fun x=>(m x.1 x.2.fs).map fun y=>(y.1,{ x.2 with fs:=y.2 })
section
variable {k:Nat}{f:Addr}{m:c6}{p:Pos}{t:DA}
def BJ (hn:∀s ds s',t s=some (ds,s')->ds.length=n) (σ:L2.St) (H:Hp) (Q:VK) (h:liftE X.K g (c8 m t) σ H Q):kE (aG X.K n m) [] E0 (liftA X.K g t) σ H Q:=by
 obtain⟨fa,O,s,d,s',I,q,k⟩:=h;refine o8 q fun ds s1 h1 h2=>?_
 refine mapP h2 fun d1 fs1 h3 h4=>?_
 simp only[IQ] at h4;obtain⟨e1,e2⟩:=h4;subst e1;subst e2;refine#[fa,O,s,ds,s1,I,h1,fun vs H1 f1 O1 a1 J r=>?_];show aG X.K n m (vs++[]) H1 Q E0;rw[Ju];refine#[NN g.F f1 O1,f1,ds,s1.fs,d1,fs1,fun b U=>J.nn_tracked U,fun a ha=>.inr (.inr ha),r,J.fd,h3,hn s ds s1 h1,fun v H2 f2 Y fd2 r2=>?_];have a3:StE f1 O1 H1 f2 O1 H2:=#[fun b U=>U,Y.fe,fun b u e n=>Y.same b u e (by simp) n,Y.mon]
 have c:=J.car a3.stp;have c2:Car X.K (fun b=>NN g.F f1 O1 b\/f2=some b) f2 H2 (NN g.F f2 O1) f2 H2:=#[fun b xs n q=>#[q,fun z=>n (by
   rcases z with z | z | z
   .exact .inl (.inl z)
   .exact .inl (.inr (.inl z))
   .exact .inr z)],fun _ _ q=>q,fun _ _ q=>q,fun _ q=>q]
 refine k v H2 f2 O1 (a1.trans a3) #[J.nd,SlR.go c (fun b xs U e=>?_) J.sl,J.fr,J.st.trans #[fun b U=>(by cases U),Y.fe,fun b u e n z=>Y.same b u e n z,Y.mon],J.tr,J.ff,fd2.car c2 fun _ _=>rfl,J.nf_step a3.fe] (Rep.go c2 _ _ r2);exact a3.same b _ e fun z=>J.nf b z U
def CQ (F:eu X.prog X.w X.K X.mg X.base k f fd ps m) (hr:Room k X.A) (hg:Gl X x) (hm:X.mg x=some (.ref f)) (Y:PySem.W.keepIn X.K (.ref f)=true) (hb:Binds X.K fd ps [])
  (ha:AO X g (e::es) t) (hn:∀s ds s',t s=some (ds,s')->ds.length=ps.length) (J:(x == ("__debug__" : Str))=false:=by decide) (he:starEach (e::es) X.env=(false,eval e X.env)::starEach es X.env:=by rfl) (U:(backTo pos (starEach es X.env)).any (·.1)=false:=by rfl) :
  EO X g (.Call (.Name x p) (e::es) [] pos) (c8 m t):=EO.w (qz F hr hg hm Y hb .nil ph ha.pe J he U) (BJ hn)
def bv:∀s ds s',a8 s=some (ds,s')->ds.length=0:=fun s ds s' h=>by cases h;rfl
def K9 {a:DE}{r:DA}(h:∀s ds s',r s=some (ds,s')->ds.length=n):∀s ds s',a7 a r s=some (ds,s')->ds.length=n+1:=fun s ds s' q=>by
 obtain⟨d,s1,es,h1,h2,J⟩:=eQ q;subst J;simp[h _ _ _ h2]
end
def jU (K:vF_) (N:vB_) (fa:vA_) (H1:Hp) (J:It) (ds:vD_):Prop:=∀N' fa' H',Car K N fa H1 N' fa' H'->(∀b u,H1 b=some u->fa≠some b->H' b=some u)->∀i:Nat,
 (∀d,ds[i]? = some d->J.go i H'/\∀x H'',J.yld i H' x H''->H''=H'/\Rep K N' fa' H' d x)/\(ds.length<=i->J.stop i H')
def liftI (K:vF_) (g:Gh) (f:DA):TI:=fun σ H R=>∃fa O s ds s',GI K g σ H fa O s/\f s=some (ds,s')/\ds.length<=sizeLine /\
 ∀J H' fa' O',StE fa O H fa' O' H'->GI K g σ H' fa' O' s'->jU K (NN g.F fa' O') fa' H' J ds->R J H'
section
variable {K:vF_}{σ:L2.St}
def liftI.elim {R:It->Hp->Prop}(h:liftI K g f σ H R) (k:∀fa O s ds s',GI K g σ H fa O s->f s=some (ds,s')->ds.length<=sizeLine->(∀J H' fa' O',StE fa O H fa' O' H'->GI K g σ H' fa' O' s'->jU K (NN g.F fa' O') fa' H' J ds->R J H')->G):G:=by
 obtain⟨fa,O,s,d,s',a,r,b,c⟩:=h;exact k fa O s d s' a r b c
end
structure IO (X:Cx) (g:Gh) (tg iter:Expr) (f:DA):Prop where
 pe:PI X tg iter (liftI X.K g f)
def F6 (f:DE):DA:=fun s=>(f s).bind fun x=>match x.1 with
 |.lst ds=>some (ds,x.2)
 |.tup ds=>some (ds,x.2)
 |_=>none
def aP (f:DA):DA:=fun s=>(f s).bind fun x=>(ak x.1).map fun ds=>(ds,x.2)
section
variable {f:DE}
def yd {t t':TI}(h:PI X tg iter t) (w:∀σ H R,t' σ H R->t σ H R):PI X tg iter t':=fun pins s σ H R I q=>h pins s σ H R I (w σ H R q)
theorem IO.w {f:DA}{t:TI}(h:PI X tg iter t) (w:∀σ H R,liftI X.K g f σ H R->t σ H R):IO X g tg iter f:=#[yd h w]
def Q6 (h:EO X g iter f):IO X g tg iter (F6 f):=IO.w (kG h.pe) fun σ H R hQ=>by
 refine hQ.elim fun fa O s ds s' I e hz k=>?_
 refine o8 e fun d s1 h1 h2=>?_
 refine#[fa,O,s,d,s1,I,h1,fun v H1 f1 O1 a1 I1 r=>?_];cases d with
 |lst es=>
  cases h2;simp only[Rep] at r;obtain⟨a,xs,rfl,na,q,w⟩:=r;refine#[a,rfl,.inl #[#[xs,SqL.of q],k _ H1 f1 O1 a1 I1 fun N' fa' H' c _ i=>#[fun d hd=>?_,fun hl=>?_]]]
  .obtain⟨x,U,rx⟩:=Reps.get w hd;have J:=(c.ls a xs na q).1;refine#[#[xs,x,SqL.of J,U],fun y H'' hy=>?_];obtain⟨Y,e2⟩:=hy;have:=e2 xs (SqL.of J);rw[U] at this;cases this;exact#[Y,Rep.go c d x rx]
  .exact#[xs,SqL.of (c.ls a xs na q).1,by rw[w.length];exact hl]
 |tup es=>
  cases h2;simp only[Rep] at r;obtain⟨a,xs,rfl,q,w⟩:=r;refine#[a,rfl,.inr #[#[xs,q],k _ H1 f1 O1 a1 I1 fun N' fa' H' c _ i=>#[fun d hd=>?_,fun hl=>?_]]]
  .obtain⟨x,U,rx⟩:=Reps.get w hd;have J:=c.tp a xs q;refine#[#[xs,x,J,U],fun y H'' hy=>?_];obtain⟨Y,e2⟩:=hy;have:=e2 xs J;rw[U] at this;cases this;exact#[Y,Rep.go c d x rx]
  .exact#[xs,c.tp a xs q,by rw[w.length];exact hl]
 |_=>cases h2
def HF {K:vF_}(lo:Int) (n:Nat):jU K N fa H1 (aY lo n) (D0 lo n):=fun N' fa' H' c _ i=>#[fun d J=>by
 have hi:i<n:=by have:=(Jj.mp J).1;rwa [S7] at this
 rw[me hi] at J;cases J;refine#[hi,fun x H'' hy=>?_];obtain⟨Y,e2⟩:=hy;subst e2;exact#[Y,by simp only[Rep]],fun U=>by rw[S7] at U;exact U]
def uy {a:Expr}{fa:DE}{p cpos:Pos}(U:Gl X "range") (hm:X.mg "range" = none) (ha:EO X g a fa) (J:starEach [a] X.env=[(false,eval a X.env)]:=by rfl) :
  IO X g tg (.Call (.Name "range" p) [a] [] cpos) (aP (a7 fa a8)):=IO.w (uw U hm (mr ha ee J).pe J) fun σ H R hQ=>by
 refine hQ.elim fun fa O s es s' I q hz k=>?_
 refine o8 q fun ds s1 h1 h2=>?_
 refine N6 h2 fun es' h3 h4=>?_
 cases h4;obtain⟨d,s2,rs,e1,e2,Y⟩:=eQ h1;cases e2;obtain⟨j,rfl,j1,j2,rfl⟩:=qK h3 Y;refine#[fa,O,s,ds,_,I,h1,fun vs H1 f1 O1 a1 I1 r=>?_];rw[Y] at r;simp only[Reps,Rep] at r;obtain⟨x,ys,rfl,rfl,rfl⟩:=r;exact#[j,rfl,j1,j2,k _ H1 f1 O1 a1 I1 (HF 0 j.toNat)]
end
def dq (sl:List Sl) (i:Nat):Sl:=match sl[i]? with
 |some (Sl.v d)=>Sl.v d
 |_=>Sl.no
def L4 (idx:List Nat) (sl:List Sl):List Sl:=idx.map (dq sl)
noncomputable def C0 (mk:D->Option (List Sl)) (fc:DT) (fe:DE):List D->Option FS->Option (List D × Option FS)
 |[],fs=>some ([],fs)
 |d::r,fs=>(mk d).bind fun sl=>(fc #[sl,fs]).bind fun c=>if c.1=true then (fe c.2).bind fun y=>(C0 mk fc fe r y.2.fs).map fun z=>(y.1::z.1,z.2) else C0 mk fc fe r c.2.fs
noncomputable def K2 (idx:List Nat) (fi:DA) (fc:DT) (fe:DE):DA:=fun s=>(fi s).bind fun x=>if x.1.length<=sizeLine then (C0 (fun d=>some (.v d::L4 idx x.2.sl)) fc fe x.1 x.2.fs).map fun y=>(y.1,{ x.2 with fs:=y.2 }) else none
def FF (g:Gh) (fa:vA_) (O:vL_) (p:Addr):Addr->Prop:=fun b=>NN g.F fa O b\/b=p
structure CI (K:vF_) (g:Gh) (f1:vA_) (O1:vL_) (Hd:Hp) (p:Addr) (fa:vA_) (H:Hp) (ys:List V) (res:vD_) (fs:vO_):Prop where
 st:Stp f1 [p] Hd fa [p] H
 ls:H p=some (.lst ys)
 rs:Reps K (FF g fa O1 p) fa H res ys
 fd:FeedR (FF g fa O1 p) H fa fs
 nf:fa≠some p
section
variable {K:vF_}{f1:vA_}{O1:vL_}{Hd:Hp}{res:vD_}{fs:vO_}
def CI.nofa (c:CI K g f1 O1 Hd p fa H ys res fs):fa≠some p:=c.nf
def Dv (U:∀xs,fa≠none->∀a,fa=some a->¬ Rd H a (.tup xs)) (J:∀a,fa=some a->∀o u,¬ H a=some (.frz o u)) (a:StE fa [] H fa' [] H'):Car K (FF g fa O1 p) fa H (FF g fa' O1 p) fa' H':=by
 refine#[fun b xs n q=>#[a.same b _ q fun z=>n (.inl (.inr (.inr z))),fun z=>?_],fun b xs q=>?_,fun b xs q=>?_,fun x e=>a.stp.fa_keep e]
 .rcases z with (z | z | z) | z
  .exact n (.inl (.inl z))
  .exact n (.inl (.inr (.inl z)))
  .rcases a.fe with e | ⟨e,h⟩
   .exact n (.inl (.inr (.inr (e▸z))))
   .rw[h b z] at q;cases q
  .exact n (.inr z)
 .refine SqT.stp' a.stp (fun x e ys=>U ys (by rw[e];simp) x e) (fun x Y=>by cases Y) q
 .cases xs with
  |inl xs=>exact q.imp (fun ⟨o,q⟩=>#[o,a.same _ _ q fun z=>J b z _ _ q]) id
  |inr p=>exact a.same _ _ q fun z=>J b z _ _ q
def BC (h:FeedR N H fa fs):∀xs,fa≠none->∀a,fa=some a->¬ Rd H a (.tup xs):=fun xs _ a e z=>h.no_tup e z
def CI.step (c:CI K g f1 O1 Hd p fa H ys res fs) (a:StE fa [] H fa' [] H') {g':Gh}{s':DS}(U:∀b,FF g fa' O1 p b->NN g'.F fa' [] b) (I:GI K g' σ H' fa' [] s'):CI K g f1 O1 Hd p fa' H' ys res s'.fs:=by
 have J:Car K (FF g fa O1 p) fa H (FF g fa' O1 p) fa' H':=Dv (BC c.fd) (fun x e o u=>c.fd.no_frz e) a;refine#[c.st.trans #[fun b Y=>.inl Y,a.fe,fun b u e _ n=>a.same b u e n,a.mon],a.same p _ c.ls c.nofa,Reps.go J _ _ c.rs,I.fd.car (K:=K) #[fun b xs n q=>#[q,fun z=>n (U b z)],fun _ _ q=>q,fun _ _ q=>q,fun _ q=>q] fun _ _=>rfl,fun z=>?_];rcases a.fe with y | ⟨_,y⟩
 .rw[y] at z;exact c.nf z
 .have:=c.ls;rw[y p z] at this;cases this
def CI.app (c:CI K g f1 O1 Hd p fa H ys res fs) {v:V}(hF:∀b,FF g fa O1 p b->N b) (r:Rep K N fa H d v):CI K g f1 O1 Hd p fa (i6 H p (.lst (ys++[v]))) (ys++[v]) (res++[d]) fs:=by
 have U:Car K (FF g fa O1 p) fa H (FF g fa O1 p) fa (i6 H p (.lst (ys++[v]))):=by
  refine#[fun b xs n q=>#[by rw[j6 (fun z=>n (.inr z))];exact q,n],fun b xs q=>?_,fun b xs q=>?_,fun _ q=>q]
  .rcases q with (q | ⟨o,q⟩) | q
   .exact .inl (.inl (by rw[j6 (fun z=>by rw[z,c.ls] at q;cases q)];exact q))
   .exact .inl (.inr #[o,by rw[j6 (fun z=>by rw[z,c.ls] at q;cases q)];exact q])
   .exact .inr q
  .have Y:∀o u,H b=some (.frz o u)->i6 H p (.lst (ys++[v])) b=some (.frz o u):=fun o u q=>by rw[j6 (fun z=>by rw[z,c.ls] at q;cases q)];exact q
   cases xs with
   |inl xs=>exact q.imp (fun ⟨o,q⟩=>#[o,Y _ _ q]) id
   |inr p=>exact Y _ _ q
 have c0:Car K N fa H (FF g fa O1 p) fa H:=#[fun b xs n q=>#[q,fun z=>n (hF b z)],fun _ _ q=>q,fun _ _ q=>q,fun _ q=>q]
 refine#[c.st.trans #[fun b J=>.inl J,.inl rfl,fun b u e n _=>by rw[j6 (fun z=>n (by simp[z]))];exact e,fun b z=>?_],B0,?_,c.fd.car U fun a e=>j6 fun z=>c.nofa (z▸e),c.nf]
 .by_cases J:b=p
  .subst J;rw[B0] at z;cases z
  .rw[j6 J] at z;exact z
 .exact Reps.append (Reps.go U _ _ c.rs) (Reps.one (Rep.go U _ _ (Rep.go c0 _ _ r)))
end
def Z6 (X:Cx) (g:Gh) (ifs:List Expr) (f:DT):Prop:=bO X ifs (liftT X.K g f)
def A8:DT:=fun s=>some (true,s)
def R8:Z6 X g [] A8:=fun pins s σ H Q I ⟨fa,O,s0,d,s',G,e,k⟩=>Gi pins s σ H Q I (by cases e;exact k H fa O StE.refl G)
def sj {c:Expr}{f:DT}(h:TO X g c f):Z6 X g [c] f:=HH h.pe
theorem vL {K:vF_}(h:SlR K N fa H sl σ O):∀idx:List Nat,SlR K N fa H (L4 idx sl) (idx.map fun i=>(σ[i]?).join) []
 |[]=>by simp[L4,SlR]
 |i::r=>by
  have J:=vL h r;have U:∀e:sl[i]? = none\/(∃z,sl[i]? = some z/\∀d,z ≠ .v d),dq sl i = .no:=fun e=>by
   unfold dq;rcases e with e | ⟨z,e,n⟩
   .rw[e]
   .rw[e];cases z with
    |v d=>exact absurd rfl (n d)
    |no=>rfl
    |own ds=>rfl
  show SlR K N fa H (dq sl i::L4 r sl) ((σ[i]?).join::r.map fun i=>(σ[i]?).join) [];cases e:sl[i]? with
  |none=>
   rw[U (.inl e)];simp only[SlR];exact#[_,_,rfl,J]
  |some z=>
   cases z with
   |no=>
    rw[U (.inr #[_,e,fun d z=>by cases z])];simp only[SlR];exact#[_,_,rfl,J]
   |own ds=>
    rw[U (.inr #[_,e,fun d z=>by cases z])];simp only[SlR];exact#[_,_,rfl,J]
   |v d=>
    obtain⟨u,e1,q⟩:=SlR.val h e;have Y:dq sl i = .v d:=by unfold dq;rw[e]
    rw[Y];simp only[SlR];exact#[u,_,by rw[e1];rfl,q,J]
def zK (mk:List Sl->D->Option (List Sl)) (fi:DA) (fc:DT) (fe:DE):DA:=fun s=>(fi s).bind fun x=>if x.1.length<=sizeLine then (C0 (mk x.2.sl) fc fe x.1 x.2.fs).map fun y=>(y.1,{ x.2 with fs:=y.2 }) else none
def ua {G:TG}(hG:∀(N:vB_) (fa:vA_) (sl:List Sl) (d:D) (sl0:List Sl) (x:V) (σ:L2.St) (H:Hp) (Q:L2.St->Hp->Prop),mk sl d=some sl0->Rep X.K N fa H d x->SlR X.K N fa H (L4 idx sl) (idx.map fun i=>(σ[i]?).join) [] ->
  (∀σ':L2.St,(σ'.length=(E7 n idx σ).length/\∀(j:Nat) (v:V),(E7 n idx σ)[j]? = some (some v)->σ'[j]? = some (some v))->SlR X.K N fa H sl0 σ' []->Q σ' H)->G x (E7 n idx σ) H Q):∀σ H Q,liftF X.K g (zK mk fi fc fe) σ H Q->cL n idx (liftI X.K g fi) G (fun σ H Q=>∃g',liftT X.K g' fc σ H Q) (fun σ H Q=>∃g',liftE X.K g' fe σ H Q) σ H Q:=by
 intro σ H Q ⟨fa,O,s,res,s',I,e,kk⟩;refine o8 e fun ds s1 h1 h2=>?_
 by_cases hz:ds.length<=sizeLine
 .simp only[iO hz] at h2;refine mapP h2 fun out fsf h3 h4=>?_
  simp only[IQ] at h4;obtain⟨e1,e2⟩:=h4;subst e1;subst e2;refine#[fa,O,s,ds,s1,I,h1,hz,fun J H1 f1 O1 a1 U J1 p hp=>?_];have stE:∀{fa':vA_}{H':Hp},Stp f1 [p] (i6 H1 p (.lst [])) fa' [p] H'->StE f1 O1 H1 fa' O1 H':=fun {fa' H'} a=>by
   refine#[fun _ h=>h,?_,fun b u e n=>?_,fun b z=>(D6 (fa:=f1) (O:=O1) hp).mon b (a.mon b z)]
   .rcases a.fe with e | ⟨e,h⟩
    .exact .inl e
    .exact .inr #[e,fun x z=>(D6 (fa:=f1) (O:=O1) hp).mon x (h x z)]
   .have nb:b≠p:=F2 e hp;exact a.same b u (by rw[j6 nb];exact e) (by simp[nb]) n
  have carP:∀{fa':vA_}{H':Hp},Stp f1 [p] (i6 H1 p (.lst [])) fa' [p] H'->Car X.K (NN g.F f1 O1) f1 H1 (FF g fa' O1 p) fa' H':=fun {fa' H'} a=>by
   have c:=U.car (stE a).stp;refine#[fun b xs n q=>?_,c.tp,c.fz,c.fe];obtain⟨q',n'⟩:=c.ls b xs n q;refine#[q',?_];rintro(z | z)
   .exact n' z
   .subst z;rw[hp] at q;cases q
  refine#[fun i m H'=>m=ds.length - i/\i<=ds.length/\∃fa' ys Y rest fs',CI X.K g f1 O1 (i6 H1 p (.lst [])) p fa' H' ys Y fs'/\C0 (mk s1.sl) fc fe (ds.drop i) fs'=some (rest,fsf)/\Y++rest=out/\ys.length<=i,?_,?_]
  .refine#[ds.length,by simp,JK _,f1,[],[],out,s1.fs,#[Stp.refl,B0,Reps.nil,?_,fun z=>U.fd.tracked z hp],by simpa using h3,rfl,tv _];exact U.fd.car (jv U hp) (U.fd.same_new hp)
  .rintro i m H' ⟨rfl,hil,fa',ys,Y,rest,fs',c,hd,ho,hy⟩;have Hcar:=carP c.st;obtain⟨jgo,jstop⟩:=J1 _ _ _ Hcar (fun b u e n=>(stE c.st).same b u e n) i;by_cases hlt:i<ds.length
   .have hdi:ds[i]? = some ds[i]:=Ji hlt;obtain⟨go,yl⟩:=jgo _ hdi;refine .inr #[go,fun x H'' hx=>?_];obtain⟨e1,rx⟩:=yl x H'' hx;subst e1;rw[vj hdi,C0] at hd;refine X3 hd fun sl0 hm hd=>?_
    refine o8 hd fun b sb h5 h6=>?_
    have hNN:∀b,NN (FF g fa' O1 p) fa' [] b->FF g fa' O1 p b:=fun b z=>by
     rcases z with z | z | z
     .exact z
     .cases z
     .exact .inl (.inr (.inr z))
    have cN:Car X.K (FF g fa' O1 p) fa' H'' (NN (FF g fa' O1 p) fa' []) fa' H'':=#[fun b xs n q=>#[q,fun z=>n (hNN b z)],fun _ _ q=>q,fun _ _ q=>q,fun _ q=>q]
    have bP:∀b,FF g fa' O1 p b->H'' b≠none:=fun b z=>by
     rcases z with (z | z | z) | z
     .exact fun w=>U.trF z ((stE c.st).mon b w)
     .obtain⟨xs,e⟩:=U.owned z;exact fun w=>by have:=(stE c.st).mon b w;rw[e] at this;cases this
     .exact c.fd.tracked z
     .rw[z,c.ls];simp
    refine hG (NN (FF g fa' O1 p) fa' []) fa' s1.sl ds[i] sl0 x σ H'' _ hm (Rep.go cN _ _ rx) (SlR.go cN (fun a xs ha=>by cases ha) (vL (SlR.go Hcar (fun a xs ha e=>(stE c.st).same a _ e fun z=>U.nf a z ha) U.sl) idx)) fun σ1 hσ hsl=>#[hσ,?_]
    have G0:GI X.K #[FF g fa' O1 p,H'',fa',fun _=>E0] σ1 H'' fa' [] #[sl0,fs']:=#[Na,hsl,fun b hb=>(by cases hb),Stp.refl,bP,fun a ha=>.inl (.inr (.inr ha)),c.fd.car cN fun _ _=>rfl,fun _ _ z=>(by cases z)]
    refine#[#[FF g fa' O1 p,H'',fa',fun _=>E0],fa',[],_,b,sb,G0,h5,fun H3 f3 O3 a3 I3=>?_];have eO:O3=[]:=NY.mpr fun z hz=>by have:=a3.sub z hz;cases this
    subst eO;have hF3:∀b,FF g f3 O1 p b->NN (FF g fa' O1 p) f3 [] b:=fun b z=>by
     rcases z with (z | z | z) | z
     .exact .inl (.inl (.inl z))
     .exact .inl (.inl (.inr (.inl z)))
     .exact .inr (.inr z)
     .exact .inl (.inr z)
    have c3:=c.step a3 hF3 I3;cases b with
    |false=>
     rw[iU IM] at h6;refine xR ?_;exact#[ds.length - (i+1),by omega,rfl,hlt,f3,ys,Y,rest,sb.fs,c3,h6,ho,Nat.le_succ_of_le hy]
    |true=>
     rw[iO rfl] at h6;refine HR ?_;refine o8 h6 fun dd sd h7 h8=>?_
     refine mapP h8 fun rest2 fs2 h9 h10=>?_
     simp only[IQ] at h10;refine#[#[FF g fa' O1 p,H'',fa',fun _=>E0],f3,[],sb,dd,sd,I3,h7,fun v H4 f4 O4 a4 I4 r4=>?_];have eO:O4=[]:=NY.mpr fun z hz=>by have:=a4.sub z hz;cases this
     subst eO;have hF4:∀b,FF g f4 O1 p b->NN (FF g fa' O1 p) f4 [] b:=fun b z=>by
      rcases z with (z | z | z) | z
      .exact .inl (.inl (.inl z))
      .exact .inl (.inl (.inr (.inl z)))
      .exact .inr (.inr z)
      .exact .inl (.inr z)
     have c4:=c3.step a4 hF4 I4;refine#[ys,c4.ls,by omega,ds.length - (i+1),by omega,rfl,hlt,f4,ys++[v],Y++[dd],rest2,sd.fs,c4.app hF4 r4,by rw[h9,h10.2],?_,by simp;omega];rw[<-ho,<-h10.1];simp
   .refine .inl #[jstop (Ma hlt),?_];rw[NX (Ma hlt),C0] at hd;simp only[Jn,IQ] at hd;obtain⟨hd1,hd2⟩:=hd;subst hd1;subst hd2;rw[Ju] at ho;subst ho;have aE:=stE c.st;have car1:=U.car aE.stp;have sameO:∀a xs,a∈O1->H1 a=some (.lst xs)->H' a=some (.lst xs):=fun a xs ha e=>aE.same a _ e fun z=>U.nf a z ha
    refine kk p ys H' fa' O1 (a1.trans aE) #[#[U.nd,SlR.go car1 sameO U.sl,U.fr,U.st.trans #[fun b hb=>(by cases hb),aE.fe,fun b u e _ n=>aE.same b u e n,aE.mon],U.tr,U.ff,?_,U.nf_step aE.fe],c.ls,SlR.go Hcar sameO U.sl,c.fd,c.rs,c.nf] (a1.mon p hp);exact c.fd.car (K:=X.K) #[fun b xs n q=>#[q,fun z=>n (.inl z)],fun _ _ q=>q,fun _ _ q=>q,fun _ q=>q] fun _ _=>rfl
 .simp only[iU hz] at h2;cases h2
def om (k:CompOk X scope cl N' 1 idx):∀σ H Q,liftF X.K g (K2 idx fi fc fe) σ H Q->cL 1 idx (liftI X.K g fi) (P1 0) (fun σ H Q=>∃g',liftT X.K g' fc σ H Q) (fun σ H Q=>∃g',liftE X.K g' fe σ H Q) σ H Q:=
 ua (mk:=fun sl d=>some (.v d::L4 idx sl)) fun N fa sl d U x σ H Q Y rx hc kk=>by
  cases Y;refine kk _ #[by simp,fun j v J=>?_] ?_
  .cases j with
   |zero=>simp[E7] at J
   |succ j=>rw[Kf (by simp)];exact J
  .have eb:(E7 1 idx σ).set 0 (some x)=some x::idx.map fun i=>(σ[i]?).join:=by simp[E7]
   rw[eb];simp only[SlR];exact#[x,_,rfl,rx,hc]
def ao (Y:X.calm=true) (k:CompOk X scope cl N' 1 idx) (hi:IO X g tg iter fi) (U:∀C s0 H0 ex,PG (m7 X N' scope cl C s0 H0 ex) tg (P1 0))
  (J:∀C s0 H0 ex g',Z6 (m7 X N' scope cl C s0 H0 ex) g' ifs fc) (he:∀C s0 H0 ex g',EO (m7 X N' scope cl C s0 H0 ex) g' elt fe) (hs:∀x,foldedSetIterable iter X.env x=pure x:=by intro _;rfl) :
  FO X g (.ListComp elt [#[tg,iter,ifs,0]] scope pos) (K2 idx fi fc fe):=by
 exact FO.w (lF (tc:=fun σ H Q=>∃g',liftT X.K g' fc σ H Q) (te:=fun σ H Q=>∃g',liftE X.K g' fe σ H Q) Y k hi.pe U (fun C s0 H0 ex pins s σ H Q I ⟨g',h⟩=>J C s0 H0 ex g' pins s σ H Q I h) (fun C s0 H0 ex pins s σ H Q I ⟨g',h⟩=>(he C s0 H0 ex g').pe pins s σ H Q I h) hs) (om k)
end DL
variable {d:DL.D}{ds:DL.vD_}{fs':DL.vO_}{sl:List DL.Sl}{mk:List DL.Sl->DL.D->Option (List DL.Sl)}{s1 s2:DL.DS}{g:DL.Gh}{fe:DL.DE}{fc:DL.DT}{f fi:DL.DA}{m01 m00 m02 m05 m03 m04 m06 m07:DL.c6}
namespace HT2
open PySem PyProof.Rows
def cat_tup0 {w:World}{t b:Addr}{ws:vV_}(ht:IsTup s.heap t ([]:vV_).toArray) (hb:IsTup s.heap b ws.toArray)
  (h:Q (.ref b) s):wpAny (model prog w) A (binaryOp .Add (.ref t) (.ref b)) Q E s:=by
 obtain⟨⟨cls,dd,data,sl⟩,ho,hc,n,hd⟩:=id ht;obtain⟨⟨cls2,dd2,data2,sl2⟩,U,J,n2,Y⟩:=id hb;simp only at hc hd J Y;subst hc hd J Y;exact concat_meets #[_,ho,rfl] #[_,U,rfl] MR seq_tuple_add MS MT (MU _ _)
  (tuple_addW0 t b _ ws.toArray n n2 dd dd2 sl sl2 (by simp)) #[ho,U,h]
end HT2
namespace DL
open PySem PySem.Spec L2
def v7 (i:Int):Bool:=decide (i.natAbs.log2<1000000)
def pZ {i:Int}(h:v7 i=true):Builtin.Int.intBits i<=2 ^ 20:=by
 have h1:i.natAbs.log2<1000000:=IZ h;unfold Builtin.Int.intBits;split
 .exact JK _
 .have e:(2:Nat) ^ 20=1048576:=by decide
  rw[e];omega
def D2 (j:Int):Bool:=decide (j≠0)&&decide (j.natAbs.log2<9000)
def op_mulB:OpR X (binaryOp .Mult) (rI (fun i j=>v7 i=true/\v7 j=true) fun i j=>.int (i*j)):=iu fun _ _ _ _ _ _ _ J q=>PyProof.Rows.mul_int q (IntMulOk.of_bits (pZ J.1) (pZ J.2))
def Fq:OpR X (binaryOp .FloorDiv) (rI (fun _ j=>D2 j=true) fun i j=>.int (i.fdiv j)):=iu fun i j _ _ _ _ _ U q=>by
 have J:D2 j=true:=U;unfold D2 at J;rw[Je] at J;exact PyProof.Rows.floordiv_int (IZ J.1) q (.inl (PyProof.noPylong_of_log2 (IZ J.2)))
def tU (K:vF_):R2:=fun x y H Q=>∃a b ys,x = .ref a/\y = .ref b/\SqT K H a []/\SqT K H b ys/\Q (.ref b) H
def op_catT0:OpR X (binaryOp .Add) (tU X.K):=by
 intro pins s σ H x y v u Q I rx Y h;obtain⟨a,b,ys,rfl,rfl,ha,hb,q⟩:=h;cases rx;cases Y;obtain⟨its,r1,ht,_⟩:=I.tuple ha;obtain⟨U,r2,J,_⟩:=I.tuple hb;cases r1;exact HT2.cat_tup0 ht J #[.ref b,H,I,rfl,q]
def rV (K:vF_):R2:=fun x y H Q=>(T5 (fun i j=>.int (i+j)) x y H Q\/(∃i j,x = .str i/\y = .str j/\i.length+j.length<=sizeLine/\Q (.str (i++j)) H))\/((tU K x y H Q\/oS K x y H Q)\/nM x y H Q)
def Hu:OpR X (binaryOp .Add) (rV X.K):=(op_add.or CN).or ((op_catT0.or ym).or sY)
def pg:R2:=fun x y H Q=>rI (fun i j=>v7 i=true/\v7 j=true) (fun i j=>.int (i*j)) x y H Q\/kI x y H Q
def wK:OpR X (binaryOp .Mult) pg:=op_mulB.or sP
def o9:D->D->Option D
 |.int i,.int j=>some (.int (i+j))
 |.str x,.str y=>if x.length+y.length<=sizeLine then some (.str (x++y)) else none
 |.tup xs,.tup ys=>if xs.length+ys.length<=sizeLine then some (.tup (xs++ys)) else none
 |.lst xs,.lst ys=>if xs.length+ys.length<=sizeLine then some (.lst (xs++ys)) else none
 |_,_=>none
def B7:D->D->Option D
 |.int i,.int j=>some (.int (i - j))
 |_,_=>none
def i8:D->D->Option D
 |.int i,.int j=>if v7 i&&v7 j then some (.int (i*j)) else none
 |.lst xs,.int k=>if -(2 ^ 63)<=k/\k<2 ^ 63/\xs.length*k.toNat<=sizeLine then some (.lst (List.replicate k.toNat xs).flatten) else none
 |_,_=>none
def u6:D->D->Option D
 |.int i,.int j=>if D2 j then some (.int (i.fdiv j)) else none
 |_,_=>none
def y8:D->D->Option D
 |.int i,.int j=>if j≠0 then some (.int (i.fmod j)) else none
 |_,_=>none
def P8:D->D->Option D
 |.int i,.int j=>if 0<=j/\j<=1000000/\i.natAbs<2 ^ 64 then some (.int (i ^ j.toNat)) else none
 |_,_=>none
def v6:D->Option D
 |.int i=>some (.int (-i))
 |_=>none
def k9 (p:Int->Int->Bool):D->D->Option D
 |.int i,.int j=>some (.bl (p i j))
 |_,_=>none
def rR:D->D->Option D
 |.non,.non=>some (.bl true)
 |.feed,.non=>none
 |.scr _,.non=>none
 |.fn _,.non=>none
 |.exc _ _,.non=>none
 |_,.non=>some (.bl false)
 |_,_=>none
def nk {K:vF_}(r:Reps K N fa H ds xs):xs=[]↔ds=[]:=by
 have:=r.length;cases xs <;> cases ds <;> simp_all
theorem Reps.flat {K:vF_}(r:Reps K N fa H ds xs):∀k:Nat,Reps K N fa H (List.replicate k ds).flatten (List.replicate k xs).flatten
 |0=>by simp[Reps]
 |k+1=>by
  simp only[Kx,Lw];exact Reps.append r (Reps.flat r k)
section
variable {K:vF_}
def zr:K4 K (rV K) o9:=by
 intro g σ H fa O s x y d1 d2 d Q I Y r2 e k;cases d1 with
 |int i=>
  cases d2 with
  |int j=>
   cases e;simp only[RepB,Rep] at Y r2;exact .inl (.inl #[i,j,Y,r2,k _ H StE.refl I (by simp only[Rep])])
  |_=>cases e
 |str a=>
  cases d2 with
  |str b=>
   have e:(if a.length+b.length<=sizeLine then some (D.str (a++b)) else none)=some d:=e;by_cases h:a.length+b.length<=sizeLine
   .rw[iO h] at e;cases e;simp only[RepB,Rep] at Y r2;refine .inl (.inr #[a,b,Y.1,r2.1,h,k _ H StE.refl I ?_]);simp only[Rep];exact#[trivial,by rw[strLen_append];exact h]
   .rw[iU h] at e;cases e
  |_=>cases e
 |tup as=>
  cases d2 with
  |tup bs=>
   have e:(if as.length+bs.length<=sizeLine then some (D.tup (as++bs)) else none)=some d:=e;by_cases h:as.length+bs.length<=sizeLine
   .rw[iO h] at e;cases e;simp only[RepB,Rep] at Y r2;obtain⟨a,xs,rfl,qa,U⟩:=Y;obtain⟨b,ys,rfl,qb,J⟩:=r2;by_cases hx:xs=[]
    .have ha:=(nk U).mp hx;subst hx;subst ha;refine .inr (.inl (.inl #[a,b,ys,rfl,rfl,qa,qb,k _ H StE.refl I ?_]));simp only[Rep,Kj];exact#[b,ys,rfl,qb,J]
    .refine .inr (.inl (.inr #[a,b,xs,ys,rfl,rfl,qa,qb,hx,by rw[U.length,J.length];exact h,fun hy=>?_,fun hy p hp=>?_]))
     .have hb:=(nk J).mp hy;subst hy;subst hb;refine k _ H StE.refl I ?_;simp only[Rep,Ju];exact#[a,xs,rfl,qa,U]
     .have a2:StE fa O H fa O (i6 H p (.tup (xs++ys))):=D6 hp;refine k _ _ a2 (I.new hp) ?_;simp only[Rep];exact#[p,_,rfl,SqT.of B0,Reps.stp I a2.stp (Reps.append U J)]
   .rw[iU h] at e;cases e
  |_=>cases e
 |lst as=>
  cases d2 with
  |lst bs=>
   have e:(if as.length+bs.length<=sizeLine then some (D.lst (as++bs)) else none)=some d:=e;by_cases h:as.length+bs.length<=sizeLine
   .rw[iO h] at e;cases e;obtain⟨a,xs,rfl,_,qa,U⟩:=Y;obtain⟨b,ys,rfl,_,qb,J⟩:=r2;refine .inr (.inr #[a,b,xs,ys,rfl,rfl,qa,qb,by rw[U.length,J.length];exact h,fun p hp=>?_]);have a2:StE fa O H fa O (i6 H p (.lst (xs++ys))):=D6 hp;have L:=bB I hp (Reps.append U J);refine k _ _ a2 L.gi ?_;simp only[Rep];exact#[p,_,rfl,gJ I a2 L.gi hp L.nf,B0,Reps.stp I a2.stp (Reps.append U J)]
   .rw[iU h] at e;cases e
  |_=>cases e
 |_=>cases e
def U1:D->D->Option (List D)
 |.lst xs,.lst ys=>if xs.length+ys.length<=sizeLine then some (xs++ys) else none
 |_,_=>none
def zu:gK K nM U1:=by
 intro g σ H fa O s x y d1 d2 ds Q I r1 r2 e k;cases d1 with
 |lst as=>
  cases d2 with
  |lst bs=>
   simp only[U1] at e;by_cases h:as.length+bs.length<=sizeLine
   .rw[iO h] at e;cases e;obtain⟨a,xs,rfl,_,qa,Y⟩:=r1;obtain⟨b,ys,rfl,_,qb,U⟩:=r2;refine#[a,b,xs,ys,rfl,rfl,qa,qb,by rw[Y.length,U.length];exact h,fun p J=>?_];exact k p _ _ (D6 J) (bB I J (Reps.append Y U)) J
   .rw[iU h] at e;cases e
  |_=>cases e
 |_=>cases e
def gG:D->D->Option (List D)
 |.lst xs,.int k=>if -(2 ^ 63)<=k/\k<2 ^ 63/\xs.length*k.toNat<=sizeLine then some (List.replicate k.toNat xs).flatten else none
 |_,_=>none
def wS:gK K kI gG:=by
 intro g σ H fa O s x y d1 d2 ds Q I r1 Y e k;cases d1 with
 |lst as=>
  cases d2 with
  |int j=>
   simp only[gG] at e;by_cases h:-(2 ^ 63)<=j/\j<2 ^ 63/\as.length*j.toNat<=sizeLine
   .rw[iO h] at e;cases e;obtain⟨a,xs,rfl,_,qa,U⟩:=r1;simp only[RepB,Rep] at Y;subst Y;refine#[a,j,xs,rfl,rfl,qa,h.1,h.2.1,by rw[U.length];exact h.2.2,fun p J=>?_];exact k p _ _ (D6 J) (bB I J (U.flat _)) J
   .rw[iU h] at e;cases e
  |_=>cases e
 |_=>cases e
def ma {C:Int->Int->Prop}{f:Int->Int->D}{p:D->D->Option D}(Y:∀d1 d2 d,p d1 d2=some d->∃i j,d1 = .int i/\d2 = .int j/\C i j/\d=f i j) (hf:∀N fa H i j,Rep K N fa H (f i j) (f' i j)):K4 K (rI C f') p:=by
 intro g σ H fa O s x y d1 d2 d Q I J U e k;obtain⟨i,j,rfl,rfl,c,rfl⟩:=Y d1 d2 d e;simp only[RepB,Rep] at J U;exact#[i,j,J,U,c,k _ H StE.refl I (hf _ _ _ _ _)]
def nV {f:Int->Int->D}{p:D->D->Option D}(Y:∀d1 d2 d,p d1 d2=some d->∃i j,d1 = .int i/\d2 = .int j/\d=f i j) (hf:∀N fa H i j,Rep K N fa H (f i j) (f' i j)):K4 K (T5 f') p:=by
 intro g σ H fa O s x y d1 d2 d Q I J U e k;obtain⟨i,j,rfl,rfl,rfl⟩:=Y d1 d2 d e;simp only[RepB,Rep] at J U;exact#[i,j,J,U,k _ H StE.refl I (hf _ _ _ _ _)]
def nA (F:Int->Int->Option D):D->D->Option D
 |.int i,.int j=>F i j
 |_,_=>none
def rE {F:Int->Int->Option D}(e:nA F d1 d2=some d):∃i j,d1 = .int i/\d2 = .int j/\F i j=some d:=by
 cases d1 with
 |int i=>
  cases d2 with
  |int j=>exact#[i,j,rfl,rfl,e]
  |_=>cases e
 |_=>cases e
def km {C:Int->Int->Prop}[∀i j,Decidable (C i j)] {f:Int->Int->D}(e:nA (fun i j=>if C i j then some (f i j) else none) d1 d2=some d):∃i j,d1 = .int i/\d2 = .int j/\C i j/\d=f i j:=by
 obtain⟨i,j,h1,h2,J⟩:=rE e;by_cases h:C i j
 .have J:(if C i j then some (f i j) else none)=some d:=J;rw[iO h] at J;exact#[i,j,h1,h2,h,(Jg J).symm]
 .have J:(if C i j then some (f i j) else none)=some d:=J;rw[iU h] at J;cases J
def vk {f:Int->Int->D}(e:nA (fun i j=>some (f i j)) d1 d2=some d):∃i j,d1 = .int i/\d2 = .int j/\d=f i j:=by
 obtain⟨i,j,h1,h2,J⟩:=rE e;exact#[i,j,h1,h2,(Jg J).symm]
def xF:K4 K (T5 fun i j=>.int (i - j)) B7:=nV (f:=fun i j=>.int (i - j)) (fun J U d e=>vk (f:=fun i j=>.int (i - j)) e) fun _ _ _ _ _=>by simp only[Rep]
def zC (p:Int->Int->Bool):K4 K (T5 fun i j=>.bl (p i j)) (k9 p):=nV (f:=fun i j=>.bl (p i j)) (fun J U d e=>vk (f:=fun i j=>.bl (p i j)) e) fun _ _ _ _ _=>by simp only[Rep]
def EW:K4 K pg i8:=by
 intro g σ H fa O s x y d1 d2 d Q I U J e k;cases d1 with
 |int i=>
  cases d2 with
  |int j=>
   have e:(if v7 i&&v7 j then some (D.int (i*j)) else none)=some d:=e;by_cases h:(v7 i&&v7 j)=true
   .rw[iO h] at e;cases e;rw[Je] at h;simp only[RepB,Rep] at U J;exact .inl #[i,j,U,J,h,k _ H StE.refl I (by simp only[Rep])]
   .rw[iU h] at e;cases e
  |_=>cases e
 |lst as=>
  cases d2 with
  |int j=>
   simp only[i8] at e;by_cases h:-(2 ^ 63)<=j/\j<2 ^ 63/\as.length*j.toNat<=sizeLine
   .rw[iO h] at e;cases e;obtain⟨a,xs,rfl,_,qa,Y⟩:=U;simp only[RepB,Rep] at J;subst J;refine .inr #[a,j,xs,rfl,rfl,qa,h.1,h.2.1,by rw[Y.length];exact h.2.2,fun p hp=>?_];have a2:StE fa O H fa O (i6 H p (.lst (List.replicate j.toNat xs).flatten)):=D6 hp;have L:=bB I hp (Y.flat j.toNat);refine k _ _ a2 L.gi ?_;simp only[Rep];exact#[p,_,rfl,gJ I a2 L.gi hp L.nf,B0,Reps.stp I a2.stp (Y.flat j.toNat)]
   .rw[iU h] at e;cases e
  |_=>cases e
 |_=>cases e
def wt:K4 K (rI (fun _ j=>D2 j=true) fun i j=>.int (i.fdiv j)) u6:=ma (f:=fun i j=>.int (i.fdiv j)) (fun U J d e=>km (C:=fun _ j=>D2 j=true) (f:=fun i j=>.int (i.fdiv j)) e) fun _ _ _ _ _=>by simp only[Rep]
def wJ:K4 K (rI (fun _ j=>j≠0) fun i j=>.int (i.fmod j)) y8:=ma (f:=fun i j=>.int (i.fmod j)) (fun U J d e=>km (C:=fun _ j=>j≠0) (f:=fun i j=>.int (i.fmod j)) e) fun _ _ _ _ _=>by simp only[Rep]
def Gv:K4 K (rI pM fun i j=>.int (i ^ j.toNat)) P8:=ma (f:=fun i j=>.int (i ^ j.toNat)) (fun J U d e=>km (C:=fun i j=>0<=j/\j<=1000000/\i.natAbs<2 ^ 64) (f:=fun i j=>.int (i ^ j.toNat)) e) fun _ _ _ _ _=>by simp only[Rep]
def wp:ou K (rU fun i=>.int (-i)) v6:=by
 intro g σ H fa O s x U d Q I J e k;cases U with
 |int i=>cases e;simp only[RepB,Rep] at J;exact#[i,J,k _ H StE.refl I (by simp only[Rep])]
 |_=>cases e
def uS:D->Bool
 |.non=>true
 |_=>false
def Au {x:V}(r:RepB K N fa H d x):decide (x = .non)=uS d:=by
 cases d with
 |non=>simp only[RepB,Rep] at r;subst r;rfl
 |bl b=>simp only[RepB,Rep] at r;subst r;rfl
 |int i=>simp only[RepB,Rep] at r;subst r;rfl
 |str x=>simp only[RepB,Rep] at r;obtain⟨r,_⟩:=r;subst r;rfl
 |tup ds=>simp only[RepB,Rep] at r;obtain⟨a,xs,rfl,_⟩:=r;rfl
 |lst ds=>obtain⟨a,xs,rfl,_⟩:=r;rfl
 |feed=>simp only[RepB,Rep] at r;obtain⟨a,_,rfl⟩:=r;rfl
 |scr ns=>simp only[RepB,Rep] at r;obtain⟨_,a,rfl,_⟩:=r;rfl
 |fn x=>simp only[RepB,Rep] at r;obtain⟨a,rfl,_⟩:=r;rfl
 |exc c ds=>simp only[RepB,Rep] at r;obtain⟨a,C,xs,rfl,_⟩:=r;rfl
def wC:K4 K (fun x y H Q=>y = .non/\Q (.bl (decide (x = .non))) H) rR:=by
 intro g σ H fa O s x y Y U d Q I r1 J e k;have h2:U = .non:=by cases Y <;> cases U <;> first | rfl | cases e
 subst h2;simp only[RepB,Rep] at J;refine#[J,k _ H StE.refl I ?_];rw[Au r1];cases Y <;> first | (cases e;simp[Rep,uS];done) | cases e
end
section
variable {σ:L2.St}
mutual
theorem cf (I:Inv X pins σ H s):∀(d:D) (v:V) (u:Value),W9 X.K N fa H d v->RelV v u->d.plain=true->∃as,Reads s.heap u d.py as
 |.non,v,u,r,ru,_=>by
  simp only[W9,Rep] at r;subst r;cases ru;simp only[D.py];exact#[[],.none]
 |.bl b,v,u,r,ru,_=>by
  simp only[W9,Rep] at r;subst r;cases ru;simp only[D.py];exact#[[],.bool b]
 |.int i,v,u,r,ru,_=>by
  simp only[W9,Rep] at r;subst r;obtain⟨t,rfl⟩:=ru;simp only[D.py];exact#[[],.int i t]
 |.str x,v,u,r,ru,_=>by
  simp only[W9,Rep] at r;obtain⟨r,_⟩:=r;subst r;obtain⟨t,rfl⟩:=ru;simp only[D.py];exact#[[],.str x t]
 |.tup ds,v,u,r,ru,hp=>by
  simp only[W9,Rep] at r;obtain⟨a,xs,rfl,q,w⟩:=r;cases ru;obtain⟨its,U,⟨o,h1,h2,n,Y⟩,_⟩:=I.tuple q;obtain⟨as,J⟩:=mV I ds xs its w U (by simpa only[D.plain] using hp);simp only[D.py];exact#[as,.tuple h1 h2 Y (by simpa using J)]
 |.lst ds,v,u,r,ru,hp=>by
  obtain⟨a,xs,rfl,q,w⟩:=r;cases ru;obtain⟨its,U,⟨o,n,h1,h2,Y,h4⟩,_⟩:=I.list (SqL.of q);obtain⟨as,J⟩:=mV I ds xs its w U (by simpa only[D.plain] using hp);simp only[D.py];exact#[_,.list h1 h2 h4 (by simpa using J)]
 |.feed,v,u,r,ru,hp=>by simp only[D.plain] at hp;cases hp
 |.scr _,v,u,r,ru,hp=>by simp only[D.plain] at hp;cases hp
 |.fn _,v,u,r,ru,hp=>by simp only[D.plain] at hp;cases hp
 |.exc _ _,v,u,r,ru,hp=>by simp only[D.plain] at hp;cases hp
theorem mV (I:Inv X pins σ H s):∀(ds:vD_) (xs:List V) (us:vV_),Reps X.K N fa H ds xs->Vals xs us->D.plains ds=true->∃as,ReadsAll s.heap us (D.pys ds) as
 |[],xs,us,r,ru,_=>by
  simp only[Reps] at r;subst r;cases ru;simp only[D.pys];exact#[[],.nil]
 |d::ds,xs,us,r,ru,hp=>by
  simp only[Reps] at r;obtain⟨x,ys,rfl,J,Y⟩:=r;cases ru with
  |cons q U=>
   simp only[D.plains,Je] at hp;obtain⟨as,h1⟩:=cf I d x _ J.o q hp.1;obtain⟨bs,h2⟩:=mV I ds ys _ Y U hp.2;simp only[D.pys];exact#[_,.cons h1 h2]
end
end
def E1 (d:D):Bool:=d.plain&&SeqAt.shaped d.py
def C8 (J U:D):Option D:=match J,U with
 |.str x,.str y=>some (.bl (decide (x=y)))
 |J,U=>if E1 J&&E1 U then some (.bl (PyData.eqv J.py U.py)) else none
def C5 (J U:D):Option D:=match J,U with
 |.str x,.str y=>some (.bl (!decide (x=y)))
 |J,U=>if E1 J&&E1 U then some (.bl (!PyData.eqv J.py U.py)) else none
def bZ (K:vF_) (f:Bool->Bool):R2:=fun x y H Q=>∃N fa d1 d2,RepB K N fa H d1 x/\RepB K N fa H d2 y/\E1 d1=true/\E1 d2=true/\Q (.bl (f (PyData.eqv d1.py d2.py))) H
section
variable {K:vF_}
def Aw (hu:X.A.units+64<cLine):OpR X (compareOp .Eq) (bZ X.K id):=by
 intro pins s σ H x y v u Q I rx Y h;obtain⟨N,fa,d1,d2,r1,r2,U,J,q⟩:=h;unfold E1 at U J;rw[Je] at U J;obtain⟨as,h1⟩:=cf I d1 x v r1.o rx U.1;obtain⟨bs,h2⟩:=cf I d2 y u r2.o Y J.1;exact PyProof.Rows.eq_dataH h1 h2 U.2 J.2 hu #[.bl _,H,I,rfl,q]
def Ay (hu:X.A.units+64<cLine):OpR X (compareOp .NotEq) (bZ X.K not):=by
 intro pins s σ H x y v u Q I rx Y h;obtain⟨N,fa,d1,d2,r1,r2,U,J,q⟩:=h;unfold E1 at U J;rw[Je] at U J;obtain⟨as,h1⟩:=cf I d1 x v r1.o rx U.1;obtain⟨bs,h2⟩:=cf I d2 y u r2.o Y J.1;exact PyProof.Rows.ne_dataH h1 h2 U.2 J.2 hu #[.bl _,H,I,rfl,q]
def kY (J:X.A.units+64<cLine):OpR X (compareOp .Eq) (fun x y H Q=>ld x y H Q\/bZ X.K id x y H Q):=op_eq.or (Aw J)
def po (J:X.A.units+64<cLine):OpR X (compareOp .NotEq) (fun x y H Q=>kX x y H Q\/bZ X.K not x y H Q):=op_ne.or (Ay J)
def Da {J U:D}(h:C8 J U=some d):(∃x y,J = .str x/\U = .str y/\d = .bl (decide (x=y)))\/(E1 J=true/\E1 U=true/\d = .bl (PyData.eqv J.py U.py)):=by
 unfold C8 at h;split at h
 .cases h;exact .inl #[_,_,rfl,rfl,rfl]
 .split at h
  .rename_i q;rw[Je] at q;cases h;exact .inr #[q.1,q.2,rfl]
  .cases h
def Cr {J U:D}(h:C5 J U=some d):(∃x y,J = .str x/\U = .str y/\d = .bl (!decide (x=y)))\/(E1 J=true/\E1 U=true/\d = .bl (!PyData.eqv J.py U.py)):=by
 unfold C5 at h;split at h
 .cases h;exact .inl #[_,_,rfl,rfl,rfl]
 .split at h
  .rename_i q;rw[Je] at q;cases h;exact .inr #[q.1,q.2,rfl]
  .cases h
def sL (x y:Str):decide (V.str x=V.str y)=decide (x=y):=by
 by_cases h:x=y
 .subst h;simp
 .rw[ID h,ID fun z=>h (V.str.inj z)]
def kR:K4 K (fun x y H Q=>ld x y H Q\/bZ K id x y H Q) C8:=by
 intro g σ H fa O s x y d1 Y d Q I J U e k;rcases Da e with ⟨a,b,rfl,rfl,rfl⟩ | ⟨h1,h2,rfl⟩
 .simp only[RepB,Rep] at J U;obtain⟨rfl,_⟩:=J;obtain⟨rfl,_⟩:=U;exact .inl #[rfl,k _ H StE.refl I (by simp only[Rep,sL])]
 .exact .inr #[_,_,d1,Y,J,U,h1,h2,k _ H StE.refl I (by simp only[Rep,id])]
def pK:K4 K (fun x y H Q=>kX x y H Q\/bZ K not x y H Q) C5:=by
 intro g σ H fa O s x y d1 Y d Q I J U e k;rcases Cr e with ⟨a,b,rfl,rfl,rfl⟩ | ⟨h1,h2,rfl⟩
 .simp only[RepB,Rep] at J U;obtain⟨rfl,_⟩:=J;obtain⟨rfl,_⟩:=U;exact .inl #[rfl,k _ H StE.refl I (by simp only[Rep,sL])]
 .exact .inr #[_,_,d1,Y,J,U,h1,h2,k _ H StE.refl I (by simp only[Rep])]
def d7:D->D->Option D
 |.tup ds,.int i=>p9 ds i
 |.lst ds,.int i=>p9 ds i
 |_,_=>none
abbrev Ow(i:Int):DE:=dC (.int i)
abbrev Ox(i:Nat)(j:Int):DE:=a9 d7 (dL i) (Ow j)
def pC {i:Int}(r:Reps K N fa H ds xs) (h:p9 ds i=some d):∃v,p9 xs i=some v/\Rep K N fa H d v:=by
 unfold p9 at h ⊢;rw[r.length];cases e:U5 ds.length i with
 |none=>rw[e] at h;cases h
 |some j=>
  rw[e] at h;simp only[xo] at h ⊢;exact Reps.get r h
def BX:K4 K (fun x y H Q=>mB K x y H Q\/nF K x y H Q) d7:=by
 intro g σ H fa O s x y d1 d2 d Q I U J e k;cases d1 with
 |tup ds=>
  cases d2 with
  |int i=>
   simp only[RepB,Rep] at U J;obtain⟨a,xs,rfl,q,w⟩:=U;obtain⟨v,Y,rv⟩:=pC w (show p9 ds i=some d from e);exact .inr #[a,xs,i,v,rfl,J,q,Y,k v H StE.refl I rv]
  |_=>cases e
 |lst ds=>
  cases d2 with
  |int i=>
   obtain⟨a,xs,rfl,_,q,w⟩:=U;simp only[RepB,Rep] at J;obtain⟨v,Y,rv⟩:=pC w (show p9 ds i=some d from e);exact .inl #[a,xs,i,v,rfl,J,SqL.of q,Y,k v H StE.refl I rv]
  |_=>cases e
 |_=>cases e
def zk:IxR X (fun x y H Q=>mB X.K x y H Q\/nF X.K x y H Q):=ix_list.or zU
end
noncomputable def i9 (p:List D->Option D) (f:DA):DE:=fun s=>(f s).bind fun x=>(p x.1).map fun d=>(d,x.2)
def cz (p:List D->Option (List D)) (f:DA):DA:=fun s=>(f s).bind fun x=>(p x.1).map fun d=>(d,x.2)
section
variable {p:Pos}{t:DA}{id T:String}{r:List V->Hp->VK->Prop}{pr:List D->Option D}{pf:List D->Option (List D)}
def oY (hr:Y8 X.K r pr) (σ:L2.St) (H:Hp) (Q:VK) (h:liftE X.K g (i9 pr t) σ H Q):cX r (liftBA X.K g t) σ H Q:=by
 obtain⟨Y,O,s,d,s',I,e,k⟩:=h;refine o8 e fun ds s1 h1 h=>?_
 refine N6 h fun d' U h=>?_
 simp only[IQ] at h;obtain⟨e1,e2⟩:=h;subst e1;subst e2;exact#[Y,O,s,ds,s1,I,h1,fun vs H1 f1 O1 a1 I1 J=>hr g σ H1 f1 O1 s1 vs ds d' Q I1 J U fun z H3 a3 I3 r3=>k z H3 f1 O1 (a1.trans a3) I3 r3]
def Cm (hr:uh X.K r pf) (σ:L2.St) (H:Hp) (Q:VK) (h:liftF X.K g (cz pf t) σ H Q):cX r (liftBA X.K g t) σ H Q:=by
 obtain⟨f0,O,s,d,s',I,e,k⟩:=h;refine o8 e fun ds s1 h1 h=>?_
 refine N6 h fun d' Y h=>?_
 simp only[IQ] at h;obtain⟨e1,e2⟩:=h;subst e1;subst e2;exact#[f0,O,s,ds,s1,I,h1,fun vs H1 f1 O1 J I1 U=>hr g σ H1 f1 O1 s1 vs ds d' Q I1 U Y fun q ys H3 a3 L e3=>k q ys H3 f1 O1 (J.trans a3) L (J.mon _ e3)]
def lG (hc:CallR X (.builtin id) r) (hr:Y8 X.K r pr) (hg:Gl X x) (Y:X.mg x=none) (hv:bootBuiltins x=some (.builtin id)) (ha:BAO X g (e::es) t) (hn:x ≠ "__name__" := by decide) (J:(x == ("__debug__" : Str))=false:=by decide)
  (he:starEach (e::es) X.env=(false,eval e X.env)::starEach es X.env:=by rfl) (U:(backTo pos (starEach es X.env)).any (·.1)=false:=by rfl):EO X g (.Call (.Name x p) (e::es) [] pos) (i9 pr t):=
 EO.w (dI hc hg Y hv ha.pe hn J he U) (oY hr)
def bU (hc:CallR X (.type T) r) (hr:Y8 X.K r pr) (hg:Gl X x) (Y:X.mg x=none) (hv:bootBuiltins x=some (.type T)) (ha:BAO X g (e::es) t) (hn:x ≠ "__name__" := by decide) (J:(x == ("__debug__" : Str))=false:=by decide)
  (he:starEach (e::es) X.env=(false,eval e X.env)::starEach es X.env:=by rfl) (U:(backTo pos (starEach es X.env)).any (·.1)=false:=by rfl):EO X g (.Call (.Name x p) (e::es) [] pos) (i9 pr t):=
 EO.w (HX hc hg Y hv ha.pe hn J he U) (oY hr)
end
def Hk {K:vF_}(r:Y2 K N fa H [d] xs):∃x,xs=[x]/\RepB K N fa H d x:=by
 obtain⟨x,ys,rfl,U,J⟩:=r;simp only[Y2] at J;subst J;exact#[x,rfl,U]
def one {α:Type}(p:D->Option α):List D->Option α
 |[d]=>p d
 |_=>none
def GY {α:Type}{p:D->Option α}{a:α}(h:one p ds=some a):∃d,ds=[d]/\p d=some a:=by
 cases ds with
 |nil=>cases h
 |cons d r=>
  cases r with
  |nil=>exact#[d,rfl,h]
  |cons _ _=>cases h
def j5:D->Option D
 |.tup ds=>some (.int (ds.length:Nat))
 |.lst ds=>some (.int (ds.length:Nat))
 |.str x=>some (.int (x.length:Nat))
 |_=>none
def ar:D->Option D
 |.int i=>some (.int (if i<0 then -i else i))
 |_=>none
def nK:D->Option D
 |.int i=>some (.int i)
 |.bl b=>some (.int (if b then 1 else 0))
 |_=>none
def J9:D->Option D
 |.tup ds=>some (.tup ds)
 |.lst ds=>some (.tup ds)
 |_=>none
def aj (d:D):Bool:=d.plain&&d.py.showable&&d.py.canLay0&&decide (d.py.depth<=64)&&decide (d.py.shown.length<=sizeLine)
def M4 (d:D):Option D:=if aj d then some (.str d.py.shown) else none
section
variable {K:vF_}
def Fd:CallR X (.builtin "len") (fun xs H Q=>(∃p ys,xs=[.ref p]/\(SqL X.K H p ys\/SqT X.K H p ys)/\Q (.int ys.length) H)\/(∃z,xs=[.str z]/\z.length<=sizeLine/\Q (.int z.length) H)):=call_len_seq.or Fi
def fu {r:List V->Hp->VK->Prop}{p:D->Option D}(h:∀(g:Gh) (σ:L2.St) (H:Hp) (fa:vA_) (O:vL_) (s:DS) (x:V) (d1 d:D) (Q:VK),GI K g σ H fa O s->RepB K (NN g.F fa O) fa H d1 x->p d1=some d ->
  (∀v H',StE fa O H fa O H'->GI K g σ H' fa O s->Rep K (NN g.F fa O) fa H' d v->Q v H')->r [x] H Q):Y8 K r (one p):=by
 intro g σ H fa O s xs ds d Q I Y e k;obtain⟨d1,rfl,J⟩:=GY e;obtain⟨x,rfl,U⟩:=Hk Y;exact h g σ H fa O s x d1 d Q I U J k
def Er:Y8 K (fun xs H Q=>(∃p ys,xs=[.ref p]/\(SqL K H p ys\/SqT K H p ys)/\Q (.int ys.length) H)\/(∃z,xs=[.str z]/\z.length<=sizeLine/\Q (.int z.length) H)) (one j5):=fu fun g σ H fa O s x J d Q I r e k=>by
 cases J with
 |tup es=>
  cases e;simp only[RepB,Rep] at r;obtain⟨a,ys,rfl,q,w⟩:=r;exact .inl #[a,ys,rfl,.inr q,k _ H StE.refl I (by rw[w.length];simp only[Rep])]
 |lst es=>
  cases e;obtain⟨a,ys,rfl,_,q,w⟩:=r;exact .inl #[a,ys,rfl,.inl (SqL.of q),k _ H StE.refl I (by rw[w.length];simp only[Rep])]
 |str z=>
  cases e;simp only[RepB,Rep] at r;obtain⟨rfl,l⟩:=r;exact .inr #[z,rfl,l,k _ H StE.refl I (by simp only[Rep])]
 |_=>cases e
def Gm:Y8 K (fun xs H Q=>∃i,xs=[.int i]/\Q (.int (if i<0 then -i else i)) H) (one ar):=fu fun g σ H fa O s x J d Q I r e k=>by
 cases J with
 |int i=>
  cases e;simp only[RepB,Rep] at r;subst r;exact#[i,rfl,k _ H StE.refl I (by simp only[Rep])]
 |_=>cases e
def xV:Y8 K (fun xs H Q=>(∃i,xs=[.int i]/\Q (.int i) H)\/∃k,xs=[.bl k]/\Q (.int (if k then 1 else 0)) H) (one nK):=fu fun g σ H fa O s x J d Q I r e k=>by
 cases J with
 |int i=>
  cases e;simp only[RepB,Rep] at r;subst r;exact .inl #[i,rfl,k _ H StE.refl I (by simp only[Rep])]
 |bl b=>
  cases e;simp only[RepB,Rep] at r;subst r;exact .inr #[b,rfl,k _ H StE.refl I (by simp only[Rep])]
 |_=>cases e
def cj:Y8 K (fun xs H Q=>∃p ys,xs=[.ref p]/\((SqL K H p ys/\∀l,H l=none->Q (.ref l) (i6 H l (.tup ys)))\/(SqT K H p ys/\Q (.ref p) H))) (one J9):=fu fun g σ H fa O s x Y d Q I r e k=>by
 cases Y with
 |tup es=>
  cases e;simp only[RepB,Rep] at r;obtain⟨a,ys,rfl,q,w⟩:=r;exact#[a,ys,rfl,.inr #[q,k _ H StE.refl I (by simp only[Rep];exact#[a,ys,rfl,q,w])]]
 |lst es=>
  cases e;obtain⟨a,ys,rfl,_,q,w⟩:=r;refine#[a,ys,rfl,.inl #[SqL.of q,fun p U=>?_]];have J:StE fa O H fa O (i6 H p (.tup ys)):=D6 U;refine k _ _ J (I.new U) ?_;simp only[Rep];exact#[p,ys,rfl,SqT.of B0,Reps.stp I J.stp w]
 |_=>cases e
def rP (K:vF_):List V->Hp->VK->Prop:=fun xs H Q=>∃N fa d x,xs=[x]/\RepB K N fa H d x/\aj d=true/\Q (.str d.py.shown) H
def lX (hu:X.A.units+66<cLine) (hg:X.A.guards=some []):CallR X (.builtin "repr") (rP X.K):=by
 intro pins s σ H xs us Q I r h;obtain⟨N,fa,d,x,rfl,J,ok,q⟩:=h;obtain⟨u,rfl,Y⟩:=aV r;unfold aj at ok;simp only[Je,Md] at ok;obtain⟨⟨⟨⟨hp,hs⟩,hl⟩,hd⟩,hz⟩:=ok;obtain⟨as,ra⟩:=cf I d x u J.o Y hp;have U:∀(h':Heap) (tk:Nat) (t:Tok),(∀b o,s.heap.get? b=some o->h'.get? b=some o)->EP X pins σ Q (.str d.py.shown t) { s with heap:=h',toks:=tk }:=fun h' tk t hk=>#[.str d.py.shown,H,I.kept hk,#[t,rfl],q]
 cases d with
 |non=>
  simp only[RepB,Rep] at J;subst J;cases Y;exact P.repr_of_none (U s.heap _ _ fun _ _ e=>e)
 |bl b=>
  simp only[RepB,Rep] at J;subst J;cases Y;have:=U s.heap (s.toks+1) s.toks fun _ _ e=>e
  refine P.repr_of_bool ?_;cases b <;> simpa only[D.py,PyData.shown] using this
 |int i=>
  simp only[RepB,Rep] at J;subst J;obtain⟨t,rfl⟩:=Y;have:=U s.heap (s.toks+1) s.toks fun _ _ e=>e
  simp only[D.py,PyData.showable,Md] at hs;exact P.repr_of_int hs (by simpa only[D.py,PyData.shown] using this)
 |str z=>
  simp only[RepB,Rep] at J;obtain⟨J,_⟩:=J;subst J;obtain⟨t,rfl⟩:=Y;have:=U s.heap (s.toks+1) s.toks fun _ _ e=>e
  exact P.repr_of_str (by simpa only[D.py,PyData.shown] using this) (by simpa only[D.py,PyData.shown] using hz)
 |tup ds=>
  simp only[RepB,Rep] at J;obtain⟨a,ys,rfl,_⟩:=J;cases Y;exact repr_of_reads' ra hs (PyData.noDict_hsm (PyData.hasDict_of_canLay _ hl)) hg ∅ (fun _ _ e=>e) (fun h' t tk hk=>U h' tk t hk) hz
 |lst ds=>
  obtain⟨a,ys,rfl,_⟩:=J;cases Y;exact repr_of_reads' ra hs (PyData.noDict_hsm (PyData.hasDict_of_canLay _ hl)) hg ∅ (fun _ _ e=>e) (fun h' t tk hk=>U h' tk t hk) hz
 |feed=>cases hp
 |scr _=>cases hp
 |fn _=>cases hp
 |exc _ _=>cases hp
def lE:Y8 K (rP K) (one M4):=fu fun g σ H fa O s x J d Q I r e k=>by
 unfold M4 at e;by_cases h:aj J=true
 .rw[iO h] at e;cases e;refine#[_,_,J,x,rfl,r,h,k _ H StE.refl I ?_];simp only[Rep];unfold aj at h;simp only[Je,Md] at h;exact#[trivial,h.2]
 .rw[iU h] at e;cases e
end
end DL
namespace DL
open PySem PySem.Spec L2
def FS.get (key:Str) (f:FS):Option D:=
 if f.kind=0 then if key = "cells" then some (.lst (f.cells.map .int)) else if key = "at" then some (.int f.pos) else if key = "left" then some (.int f.left) else if key = "turn" then some (.int f.turn) else none else none
def FS.put (key:Str) (n:Int) (f:FS):Option FS:=
 if f.kind=0 then if key = "at" then some { f with pos:=n } else if key = "left" then some { f with left:=n } else if key = "turn" then some { f with turn:=n } else none else none
def IB (i:Nat) (key:Str):DE:=fun s=>match s.sl[i]? with
 |some (.v .feed)=>s.fs.bind fun f=>(f.get key).map fun d=>(d,s)
 |_=>none
def IC (i:Nat) (key:Str) (fe:DE):DM:=fun s=>(fe s).bind fun x=>match x.2.sl[i]?,x.1 with
 |some (.v .feed),.int n=>x.2.fs.bind fun f=>(f.put key n).map fun f'=>(.next,{ x.2 with fs:=some f' })
 |_,_=>none
section
variable {key:Str}
def zT (xs:List V) (h:xs.length<=63):S6 xs none (some 63)=xs:=by
 unfold S6;have J:HT.sIx xs.length 0 none=0:=rfl;have U:HT.sIx xs.length xs.length (some 63)=xs.length:=by
  have:=HT.sIx_nat xs.length xs.length 63;rw[show ((63:Nat):Int)=63 from rfl] at this;rw[this];omega
 rw[J,U,Nb,Me,List.take_length]
end
def FS.tget (n:Int) (f:FS):Option D:=
 if f.kind=0 then none else if n=0 then some (.lst (f.cells.map .int)) else if n=1 then some (.int f.pos) else if n=2 then some (.int f.left) else if n=3/\f.kind≠1 then some (.int f.turn) else none
def FS.tput (n v:Int) (f:FS):Option FS:=
 if f.kind=0 then none else if n=1 then some { f with pos:=v } else if n=2 then some { f with left:=v } else if n=3/\f.kind≠1 then some { f with turn:=v } else none
def D1 (i:Nat) (n:Int):DE:=fun s=>match s.sl[i]? with
 |some (.v .feed)=>s.fs.bind fun f=>(f.tget n).map fun d=>(d,s)
 |_=>none
def Y3 (i:Nat) (n:Int) (fe:DE):DM:=fun s=>(fe s).bind fun x=>match x.2.sl[i]?,x.1 with
 |some (.v .feed),.int v=>x.2.fs.bind fun f=>(f.tput n v).map fun f'=>(.next,{ x.2 with fs:=some f' })
 |_,_=>none
def je (i:Nat):DE:=fun s=>match s.sl[i]?,s.fs with
 |some (.v (.scr ns)),none=>some (.feed,{ s with fs:=some #[ns,0,0,0,1] })
 |_,_=>none
def FS.tget_val {n:Int}{f:FS}(h:f.tget n=some d) (c:Addr):∃v,p9 (M6 c f) n=some v/\((v = .ref c/\d = .lst (f.cells.map .int))\/∃i,v = .int i/\d = .int i)/\f.kind≠0:=by
 unfold FS.tget at h;split at h
 .cases h
 rename_i J;unfold M6;split at h
 .rename_i e;subst e;cases h;refine#[.ref c,?_,.inl #[rfl,rfl],J];split <;> rfl
 split at h
 .rename_i e;subst e;cases h;refine#[.int f.pos,?_,.inr #[_,rfl,rfl],J];split <;> rfl
 split at h
 .rename_i e;subst e;cases h;refine#[.int f.left,?_,.inr #[_,rfl,rfl],J];split <;> rfl
 split at h
 .rename_i e;obtain⟨e,U⟩:=e;subst e;cases h;refine#[.int f.turn,?_,.inr #[_,rfl,rfl],J];rw[iU U];rfl
 .cases h
def FS.tput_val {n v:Int}{f f':FS}(h:f.tput n v=some f') (c:Addr):∃j,U5 (M6 c f).length n=some j/\(M6 c f).set j (.int v)=M6 c f'/\f'.cells=f.cells/\f.kind≠0/\f'.kind≠0:=by
 unfold FS.tput at h;split at h
 .cases h
 rename_i J;split at h
 .rename_i e;subst e;cases h;refine#[1,?_,?_,rfl,J,J]
  .unfold M6;split <;> rfl
  .by_cases z:f.kind=1
   .simp[M6,z]
   .simp[M6,z]
 split at h
 .rename_i e;subst e;cases h;refine#[2,?_,?_,rfl,J,J]
  .unfold M6;split <;> rfl
  .by_cases z:f.kind=1
   .simp[M6,z]
   .simp[M6,z]
 split at h
 .rename_i e;obtain⟨e,U⟩:=e;subst e;cases h;refine#[3,?_,?_,rfl,J,J]
  .unfold M6;rw[iU U];rfl
  .simp[M6,U]
 .cases h
section
variable {n:Int}
def Br (hv:PE X (.Name x p1) (Y7 i)):EO X g (.Subscript (.Name x p1) (.Constant (.int n) j p2) pos) (D1 i n):=
 EO.w (oq ix_list hv cW (fun _ _=>rfl)) fun σ H Q hQ=>by
  refine hQ.elim fun fa O s d s' I e k=>?_
  unfold D1 at e;cases q:s.sl[i]? with
  |none=>rw[q] at e;cases e
  |some z=>
   rw[q] at e;cases z with
   |no=>cases e
   |own _=>cases e
   |v dz=>
    cases dz with
    |feed=>
     refine X3 e fun f h1 h2=>?_
     refine N6 h2 fun d' h3 h4=>?_
     cases h4;obtain⟨u,e1,r⟩:=SlR.val I.sl q;simp only[Rep] at r;obtain⟨a,U,rfl⟩:=r;have fd:=I.fd;rw[h1,U] at fd;obtain⟨_,c,Y,nc,lc⟩:=fd;obtain⟨v,J,hd,hk⟩:=FS.tget_val h3 c;rw[lv hk] at Y;refine#[_,e1,a,_,n,v,rfl,rfl,SqL.of Y,J,k v H fa O StE.refl I ?_];rcases hd with ⟨rfl,rfl⟩ | ⟨n,rfl,rfl⟩
     .simp only[Rep];exact#[c,_,rfl,by rw[U];exact nc,lc,Reps.ints]
     .simp only[Rep]
    |_=>cases e
def wY {e:Expr}{fe:DE}(hv:PE X (.Name x p1) (Y7 i)) (he:EO X g e fe) (hs:swapsWithSole [.Subscript (.Name x p1) (.Constant (.int n) j p2) pos'] e pos.line X.env=pure false:=by rfl) (hw:swappedStores [.Subscript (.Name x p1) (.Constant (.int n) j p2) pos'] e X.env=pure none:=by rfl) :
  SO X g (.Assign [.Subscript (.Name x p1) (.Constant (.int n) j p2) pos'] e pos) (Y3 i n fe):=
 SO.w (uE he.pe (wW hv cW wj) hs hw) fun E σ H hQ=>by
  refine hQ.elim fun fa O s fl s' I q k=>?_
  refine o8 q fun d s1 h1 h2=>?_
  simp only[] at h2;cases q1:s1.sl[i]? with
  |none=>rw[q1] at h2;cases h2
  |some z=>
   rw[q1] at h2;cases z with
   |no=>cases h2
   |own _=>cases h2
   |v dz=>
    cases dz with
    |feed=>
     cases d with
     |int w=>
      simp only[] at h2;refine X3 h2 fun f h3 h4=>?_
      refine N6 h4 fun f' h5 h6=>?_
      cases h6;refine#[fa,O,s,.int w,s1,I,h1,fun v H1 f1 O1 a1 J r=>?_];simp only[Rep] at r;subst r;obtain⟨u,e1,ru⟩:=SlR.val J.sl q1;simp only[Rep] at ru;obtain⟨a,ha,rfl⟩:=ru;have fd:=J.fd;rw[h3,ha] at fd;obtain⟨lc63,c,hc,nc,lc⟩:=fd;obtain⟨m,hix,hput,U,hk,hk'⟩:=FS.tput_val h5 c;rw[lv hk] at hc;refine#[_,e1,a,_,n,m,rfl,rfl,hc,hix,?_];rw[hput];have a2:StE f1 O1 H1 f1 O1 (i6 H1 a (.lst (M6 c f'))):=#[fun _ h=>h,.inl rfl,fun b w e nb=>by rw[j6 (fun z=>nb (by rw[z];exact ha))];exact e,fun b z=>by
       by_cases Y:b=a
       .subst Y;rw[B0] at z;cases z
       .rw[j6 Y] at z;exact z]
      have cr:=J.car a2.stp;refine k σ _ f1 O1 (a1.stp.trans a2.stp) #[J.nd,SlR.go cr (fun b xs Y e=>a2.same b _ e fun z=>J.nf b z Y) J.sl,J.fr,?_,J.tr,J.ff,?_,J.nf]
      .refine#[fun b Y=>(by cases Y),J.st.fe,fun b w e _ nb=>?_,fun b z=>J.st.mon b (a2.mon b z)];refine a2.same b w (J.st.same b w e (by simp) nb) fun z=>?_
       rcases J.st.fe with y | ⟨y,y2⟩
       .rw[y] at z;exact nb z
       .rw[y2 b z] at e;cases e
      .rw[ha];refine#[by rw[U];exact lc63,c,by rw[lv hk',B0],nc,?_];rw[j6 (fun z=>nc (.inr (.inr (by rw[z])))),U];exact lc
     |_=>cases h2
    |_=>cases h2
def FE {j63 j0 j1:Nat}(hv:PE X (.Name x p1) (Y7 i)) :
  EO X g (.List [.Subscript (.Name x p1) (.Slice none (some (.Constant (.int 63) j63 q5)) none q6) q7,.Constant (.int 0) j0 q8,.Constant (.int 0) j1 q9] pos) (je i):=
 EO.w (tN (O9 (qT vB hv qC (qV cW)) (O9 cW (O9 cW ag)))) fun σ H Q hQ=>by
  refine hQ.elim fun fa O s d s' I e k=>?_
  unfold je at e;cases q:s.sl[i]? with
  |none=>rw[q] at e;cases e
  |some z=>
   rw[q] at e;cases z with
   |no=>cases e
   |own _=>cases e
   |v dz=>
    cases dz with
    |scr ns=>
     cases hf:s.fs with
     |some f=>rw[hf] at e;cases e
     |none=>
      rw[hf] at e;cases e;obtain⟨u,e1,r⟩:=SlR.val I.sl q;simp only[Rep] at r;obtain⟨l63,a,rfl,sq⟩:=r;have fd:=I.fd;rw[hf] at fd;have fan:fa=none:=by cases fa with | none=>rfl | some _=>exact fd.elim
      subst fan;refine#[_,e1,63,rfl,a,_,rfl,sq.sq,fun c J=>?_];rw[zT _ (by rw[td];exact l63)];refine#[by show 3<=sizeLine;decide,fun p U=>?_];have npc:c≠p:=fun z=>by rw[<-z,B0] at U;cases U
      have hp:H p=none:=by rw[j6 (IK npc)] at U;exact U
      have fresh:∀b u,H b=some u->b≠p/\b≠c:=fun b u e=>#[F2 e hp,F2 e J]
      have Y:StE none O H (some p) O (i6 (i6 H c (.lst (ns.map V.int))) p (.lst [V.ref c,V.int 0,V.int 0])):=by
       refine#[fun _ h=>h,.inr #[rfl,fun b z=>by cases z;exact hp],fun b u e _=>?_,fun b z=>?_]
       .obtain⟨n1,n2⟩:=fresh b u e;rw[j6 n1,j6 n2];exact e
       .by_cases h1:b=p
        .subst h1;exact hp
        .by_cases h2:b=c
         .subst h2;exact J
         .rw[j6 h1,j6 h2] at z;exact z
      have cr:=I.car Y.stp;refine k _ _ (some p) O Y #[I.nd,SlR.go cr (fun b xs hb e=>Y.same b _ e (by simp)) I.sl,I.fr,I.st.trans #[fun b hb=>(by cases hb),Y.fe,fun b u e _ n=>Y.same b u e n,Y.mon],I.tr,I.ff,?_,I.nf_step Y.fe] (by simp only[Rep];exact#[p,rfl,rfl]);refine#[l63,c,B0,?_,?_]
      .rintro(z | z | z)
       .exact I.trF z J
       .obtain⟨xs,e⟩:=I.owned z;rw[J] at e;cases e
       .exact npc (Jg z).symm
      .rw[j6 npc,B0]
    |_=>cases e
end
structure Cal (P:Program) (w:World) (K:vF_) (mg:vG_) (base:Heap) (k:Nat) (x:Str) (ps:List Str) (m:c6):Prop where
 ex:∃(f:Addr) (fd:FuncData),eu P w K mg base k f fd ps m/\mg x=some (.ref f)/\PySem.W.keepIn K (.ref f)=true/\Binds K fd ps []
structure Blt (mg:vG_):Prop where
 len:mg "len" = none
 range:mg "range" = none
 abs:mg "abs" = none
 tuple:mg "tuple" = none
 list:mg "list" = none
 int:mg "int" = none
 bool:mg "bool" = none
 str:mg "str" = none
 repr:mg "repr" = none
 all:mg "all" = none
 isinstance:mg "isinstance" = none
 zip:mg "zip" = none
 enumerate:mg "enumerate" = none
 min:mg "min" = none
 max:mg "max" = none
 reversed:mg "reversed" = none
 any:mg "any" = none
 sum:mg "sum" = none
 sorted:mg "sorted" = none
section
variable {k:Nat}{m:c6}{p:Pos}{t:DA}
def ye (C:Cal X.prog X.w X.K X.mg X.base k x ps m) (k':Nat) (hr:Room k' X.A) (hk:k<=k') (hg:Gl X x)
  (ha:AO X g (e::es) t) (hn:∀s ds s',t s=some (ds,s')->ds.length=ps.length) (U:(x == ("__debug__" : Str))=false:=by decide) (he:starEach (e::es) X.env=(false,eval e X.env)::starEach es X.env:=by rfl) (Y:(backTo pos (starEach es X.env)).any (·.1)=false:=by rfl) :
  EO X g (.Call (.Name x p) (e::es) [] pos) (c8 m t):=by
 obtain⟨f,fd,F,hm,J,hb⟩:=C.ex;exact CQ F (hr.mono hk) hg hm J hb ha hn U he Y
end
def yF {w:World}{K:vF_}{st:Stmt}{f:Addr}{N:List Str}{k:Nat}{b:DM}(F:Fun K x x st f fd) (U:mg x=some (.ref f)) (Y:Binds K fd ps []) (S:FnScope N ps (A2 st))
  (J:∀(cdv:Value) (A:Around) (outer:List Env) (s:Shared) (H:Hp) (E:XK) (g:Gh),Room k (A.deeper (PyProof.Rows.envOfC x (A2 st) s.heap.objs.size f cdv))->SSO (N4 U3 P w K mg base N x (A2 st) f cdv A outer s H E).nox g (M2 st) b) :
  Cal P w K mg base (k+1) x ps (m6 N.length b):=#[f,fd,ug F S J,U,F.kp,Y]
def fg {k:Nat}(J:Room k A):A.units+64<cLine:=by have:=J.un;omega
def kJ {k:Nat}(J:Room k A):A.units+66<cLine:=by have:=J.un;omega
def Ic:bootBuiltins ("len" : Str)=some (.builtin "len"):=by decide +kernel
def Ib:bootBuiltins ("abs" : Str)=some (.builtin "abs"):=by decide +kernel
def mO:bootBuiltins ("repr" : Str)=some (.builtin "repr"):=by decide +kernel
def hJ:bootBuiltins ("isinstance" : Str)=some (.builtin "isinstance"):=by decide +kernel
def cu:bootBuiltins ("tuple" : Str)=some (.type "tuple"):=by decide +kernel
def tZ:bootBuiltins ("list" : Str)=some (.type "list"):=by decide +kernel
def AB:bootBuiltins ("int" : Str)=some (.type "int"):=by decide +kernel
theorem iD {κ:Type}[BEq κ] [LawfulBEq κ] {β:Type}:∀{l:List (κ × β)}{x:κ}{v:β},l.lookup x=some v->(x,v)∈l
 |[],_,_,h=>by simp at h
 |(a,b)::r,x,v,h=>by
  rw[List.lookup_cons] at h;cases e:x == a with
  |true=>
   rw[e] at h;cases h;rw[eq_of_beq e];exact IY ..
  |false=>
   rw[e] at h;exact IT _ (iD h)
def hasAll (J:List (Str × NameKind)) (cl:List (Str × Addr)):Bool:=J.all fun p=>!(p.2 == .cell||p.2 == .free)||(cl.lookup p.1).isSome
def pI {J:List (Str × NameKind)}(h:hasAll J cl=true):∀x,(J.lookup x=some .cell\/J.lookup x=some .free)->∃c,cl.lookup x=some c:=fun x Y=>by
 have key:∀U,J.lookup x=some U->(U == NameKind.cell||U == NameKind.free)=true->∃c,cl.lookup x=some c:=fun U e q=>by
  have m:=iD e;have z:=Jc.mp h _ m;simp only[q,Bool.not_true,Bool.false_or] at z;exact NU.mp z
 rcases Y with e | e
 .exact key _ e rfl
 .exact key _ e rfl
inductive CapL (X:Cx) (scope:Scope):List Nat->List Str->Prop where
 | nil:CapL X scope [] []
 | cons {i:Nat}{y:Str}{r:List Nat}{ys:List Str}(h1:X.N[i]? = some y) (h2:X.env.scope.names.lookup y=some .cell\/X.env.scope.names.lookup y=some .free)
   (h3:(relabel scope X.env).names.lookup y=some .cell\/(relabel scope X.env).names.lookup y=some .free) (t:CapL X scope r ys):CapL X scope (i::r) (y::ys)
def CapL.len :∀{idx:List Nat}{ys:List Str},CapL X scope idx ys->ys.length=idx.length
:= by
 intro idx ys h;induction h with
 |nil=>rfl
 |cons _ _ _ t ih=>rw[Ja,Ja,ih]
def CapL.at :∀{idx:List Nat}{ys:List Str},CapL X scope idx ys->∀(j i:Nat) (y:Str),idx[j]? = some i->ys[j]? = some y ->
  X.N[i]? = some y/\(X.env.scope.names.lookup y=some .cell\/X.env.scope.names.lookup y=some .free)/\((relabel scope X.env).names.lookup y=some .cell\/(relabel scope X.env).names.lookup y=some .free)
:= by
 intro idx ys h;induction h with
 |nil=>intro j i y h;cases h
 |cons h1 h2 h3 t ih=>
  intro j i y e1 e2;cases j with
  |zero=>
   cases e1;cases e2;exact#[h1,h2,h3]
  |succ j=>exact ih j i y e1 e2
inductive SubL (cells:List (Str × Addr)):List (Str × Addr)->Prop where
 | nil:SubL cells []
 | cons {x:Str}{c:Addr}{r:List (Str × Addr)}(h:cells.lookup x=some c) (t:SubL cells r):SubL cells ((x,c)::r)
def SubL.mem {J:List (Str × Addr)}:∀{cl:List (Str × Addr)},SubL J cl->∀x c,(x,c)∈cl->J.lookup x=some c
:= by
 intro cl h;induction h with
 |nil=>intro x c h;cases h
 |cons e t ih=>
  intro x c h;rcases IH.mp h with z | z
  .cases z;exact e
  .exact ih x c z
def W3 (U:closureFor scope X.env=pure cl) (sub:SubL X.env.cells cl) (cell:∀y∈scope.names,y.2 ≠ .cell) (kind:scope.kind = .function)
  (names:∀y∈scope.names,y.2 = .local->scope.names.lookup y.1=some .local) (Y:hasAll (relabel scope X.env).names cl=true) (J:CapL X scope idx caps):CompOk X scope cl (x::caps) 1 idx:=
 #[U,fun y c e=>sub.mem y c (iD e),cell,kind,names,pI Y,by rw[Ja,J.len,Kz],fun j i y e1 e2=>J.at j i y e1 (by rw[Kz] at e2;simpa using e2)]
def J0 (i j:Nat) (f:DA):DM:=fun s=>(f s).bind fun x=>match x.1 with
 |[a,b]=>some (.next,{ x.2 with sl:=(x.2.sl.set i (.v a)).set j (.v b) })
 |_=>none
def Hv {i j:Nat}{x y:Str}{a b:Expr}{f:DA}{px py pt pos:Pos}{kt k2 pt2} (hc:X.calm=true) (hN:X.N.Nodup) (hi:X.N[i]? = some x) (hj:X.N[j]? = some y) (U:i≠j)
  (hx:X.env.scope.names.lookup x=some .local) (hy:X.env.scope.names.lookup y=some .local) (ha:AO X g [a,b] f)
  (hw:swappedStores [.Tuple [.Name x px,.Name y py] kt pt] (.Tuple [a,b] k2 pt2) X.env=pure (some [x,y]))
  (hs:swapsWithSole [.Tuple [.Name x px,.Name y py] kt pt] (.Tuple [a,b] k2 pt2) pos.line X.env=pure false:=by rfl) :
  SO X g (.Assign [.Tuple [.Name x px,.Name y py] kt pt] (.Tuple [a,b] k2 pt2) pos) (J0 i j f):=SO.w (xU hc hN hi hj U hx hy ha.pe hw hs) fun E σ H hQ=>by
 refine hQ.elim fun fa O s fl s' I q k=>?_
 refine o8 q fun ds s1 h1 h2=>?_
 refine#[fa,O,s,ds,s1,I,h1,fun vs H1 f1 O1 a1 I1 r=>?_]
 match ds,h2,r with
 |[d1,d2],h2,r=>
  simp only[Jn,IQ] at h2;obtain⟨e1,e2⟩:=h2;subst e1;subst e2;simp only[Reps] at r;obtain⟨v,ys,rfl,rv,u,zs,rfl,ru,rfl⟩:=r;refine#[v,u,rfl,?_];obtain⟨P,sub,I2⟩:=I1.put i rv;have Y:StE f1 O1 H1 f1 P H1:=bp sub;obtain⟨P3,J,I3⟩:=I2.put j (Rep.stp I1 Y.stp ru);exact k _ H1 f1 P3 (a1.stp.trans (Y.stp.trans (bp J).stp)) I3
def walkD {l:PySem.W.OpenLaw}{q:Program}{d:DefRec}{K:Params->PySem.W.Frag}{m:c6}{k:Nat}(hn:l.most=some 63) (U:d.params.defaults=[]) (hr:Room k callerA)
  (hY:∀(w:World) (h:Heap),YP w h->(K w.params).In h)
  (F:∀(w:World) (mg:vG_) (fa:Addr) (h:Heap),(K w.params).In h->h.Ns mainGlobals mg->mg d.name=some (.ref fa) ->
   ∃fd:FuncData,(∀(s:Shared) (u:Value),BindsTo s fd #[[u],[]] [("_law_script",u)])/\∀base:Heap,(K w.params).In base->base.Ns mainGlobals mg->FnOk l.prog w (K w.params) mg base U3 k fa fd ["_law_script"] (aG (K w.params) 1 m))
  (J:∀ns:List Int,ns.length<=63->∃fs',m [.scr ns] none=some (.bl true,fs')) :
  PySem.W.WalkO q loose XP YP l.row.toRowW d [] (fun f vs=>PySem.call f vs):=
 L2.walk_of (n:=63) (k:=k) (x := "_law_script") (CX:=fun _=>U3) (sp:=fun w=>aG (K w.params) 1 m) hn #[] U hr hY F (fun w H a ns Y hO hS=>by
  obtain⟨fs',e⟩:=J ns Y;refine#[fun _=>False,none,[.scr ns],none,.bl true,fs',fun b z=>z.elim,fun a z=>(by cases z),?_,trivial,e,rfl,fun v H' fa' _ _ r=>by simpa only[Rep] using r];simp only[Reps,Rep];refine#[_,_,rfl,#[Y,a,rfl,?_],rfl];rcases hS with (z | ⟨o,z⟩) | z
  .rcases hO a with y | ⟨o,xs,y⟩ <;> · rw[z] at y;cases y
  .exact .inl #[o,z]
  .exact .inr z) fun _ _ _ _ _ z=>z
def pj:D->Option String
 |.non=>some "NoneType"
 |.bl _=>some "bool"
 |.int _=>some "int"
 |.str _=>some "str"
 |.tup _=>some "tuple"
 |.lst _=>some "list"
 |_=>none
def fj (T C:String):Bool:=T == C||(T == "bool" && C == "int")
def mF (C:String) (d:D):Option D:=(pj d).map fun T=>.bl (fj T C)
def kK (K:vF_) (C:String):Prop:=∀T,T = "NoneType" \/ T = "bool" \/ T = "int" \/ T = "str" \/ T = "tuple" \/ T = "list" -> PySem.W.kitOne K (.type T) (.type C)=some (fj T C)
def FA {K:vF_}:kK K "list" := by rintro T (rfl | rfl | rfl | rfl | rfl | rfl) <;> rfl
def BS (K:vF_) (C:String):List V->Hp->VK->Prop:=fun xs H Q=>∃N fa d T x,xs=[x,.ty C]/\RepB K N fa H d x/\pj d=some T/\Q (.bl (fj T C)) H
def Cp {C:String}(hk:kK X.K C):CallR X (.builtin "isinstance") (BS X.K C):=by
 intro pins s σ H xs us Q I r h;obtain⟨N,fa,d,T,x,rfl,J,Y,q⟩:=h;obtain⟨u,c,rfl,ru,rc⟩:=mx r;cases (show c=Value.type C from rc);have U:∀tk,EP X pins σ Q (.bool (fj T C)) { s with toks:=tk }:=fun tk=>#[.bl (fj T C),H,I.tok tk,rfl,q]
 cases d with
 |non=>
  cases Y;simp only[RepB,Rep] at J;subst J;cases ru;exact KC PySem.W.kitx_none I.kIn True.intro (hk _ (by simp)) (fun z=>nomatch z) U
 |bl b=>
  cases Y;simp only[RepB,Rep] at J;subst J;cases ru;exact KC PySem.W.kitx_bool I.kIn True.intro (hk _ (by simp)) (fun z=>nomatch z) U
 |int i=>
  cases Y;simp only[RepB,Rep] at J;subst J;obtain⟨t,rfl⟩:=ru;exact KC PySem.W.kitx_int I.kIn True.intro (hk _ (by simp)) (fun z=>nomatch z) U
 |str i=>
  cases Y;simp only[RepB,Rep] at J;obtain⟨J,_⟩:=J;subst J;obtain⟨t,rfl⟩:=ru;exact KC PySem.W.kitx_str I.kIn True.intro (hk _ (by simp)) (fun z=>nomatch z) U
 |tup ds=>
  cases Y;simp only[RepB,Rep] at J;obtain⟨a,ys,rfl,sq,_⟩:=J;cases ru;obtain⟨its,_,⟨o,h1,h2,_⟩,_⟩:=I.tuple sq;exact KC PySem.W.kitx_tuple I.kIn #[o,h1,h2] (hk _ (by simp)) (fun z=>nomatch z) U
 |lst ds=>
  cases Y;obtain⟨a,ys,rfl,_,sq,_⟩:=J;cases ru;obtain⟨its,_,⟨o,n,h1,h2,_⟩,_⟩:=I.list (SqL.of sq);exact KC PySem.W.kitx_list I.kIn #[o,h1,h2] (hk _ (by simp)) (fun z=>nomatch z) U
 |feed=>cases Y
 |scr _=>cases Y
 |fn _=>cases Y
 |exc _ _=>cases Y
section
variable {a b c:Expr}{fa fb fc:DE}
def xL {C:String}{p p2:Pos}(hk:kK X.K C) (hg:Gl X "isinstance") (hm:X.mg "isinstance" = none) (hgc:Gl X cn) (hmc:X.mg cn=none) (Y:bootBuiltins cn=some (.type C)) (ha:BO X g a fa)
  (hn:cn ≠ "__name__" := by decide) (hd:(cn == ("__debug__" : Str))=false:=by decide) (U:starEach [.Name cn p2] X.env=(false,eval (.Name cn p2) X.env)::starEach [] X.env:=by rfl)
  (he:starEach [a,.Name cn p2] X.env=(false,eval a X.env)::starEach [.Name cn p2] X.env:=by rfl) (J:(backTo pos (starEach [.Name cn p2] X.env)).any (·.1)=false:=by rfl) :
  EO X g (.Call (.Name "isinstance" p) [a,.Name cn p2] [] pos) (r8 (mF C) fa):=
 EO.w (dI (Cp hk) hg hm hJ (O9 ha.pe (O9 (oN (v:=.ty C) hgc hmc Y rfl hn hd) ag U) he) #[] #[] he J) fun σ H Q hQ=>by
  refine hQ.elim fun f0 O s d s' I e k=>?_
  refine o8 e fun x s1 h1 h=>?_
  refine N6 h fun d' h3 h=>?_
  simp only[IQ] at h;obtain⟨e1,e2⟩:=h;subst e1;subst e2;refine N6 h3 fun T h4 h5=>?_
  subst h5;exact#[f0,O,s,x,s1,I,h1,fun v H1 f1 O1 a1 I1 r1=>#[_,_,x,T,v,rfl,r1,h4,k _ H1 f1 O1 a1 I1 (by simp only[Rep])]]
abbrev DO:=DS->Option (Option Int × DS)
def liftO (K:vF_) (g:Gh) (f:DO):L2.TO:=fun σ H Q=>∃fa O s d s',GI K g σ H fa O s/\f s=some (d,s')/\∀H' fa' O',StE fa O H fa' O' H'->GI K g σ H' fa' O' s'->Q d H'
def liftO.elim {K:vF_}{σ:L2.St}{f:DO}{Q:Option Int->Hp->Prop}(h:liftO K g f σ H Q) (k:∀fa O s d s',GI K g σ H fa O s->f s=some (d,s')->(∀H' fa' O',StE fa O H fa' O' H'->GI K g σ H' fa' O' s'->Q d H')->G):G:=by
 obtain⟨fa,O,s,d,s',a,b,c⟩:=h;exact k fa O s d s' a b c
structure OO (X:Cx) (g:Gh) (e:Option Expr) (f:DO):Prop where
 pe:PO X e (liftO X.K g f)
def P5:DO:=fun s=>some (none,s)
def P6 (f:DE):DO:=fun s=>(f s).bind fun x=>match x.1 with | .int i=>some (some i,x.2) | _=>none
def Cq {e:Option Expr}{t t':L2.TO}(h:PO X e t) (w:∀σ H Q,t' σ H Q->t σ H Q):PO X e t':=fun pins s σ H Q I q=>h pins s σ H Q I (w σ H Q q)
theorem OO.w {e:Option Expr}{f:DO}{t:L2.TO}(h:PO X e t) (w:∀σ H Q,liftO X.K g f σ H Q->t σ H Q):OO X g e f:=#[Cq h w]
def DP:OO X g none P5:=OO.w qC fun σ H Q J=>by
 refine J.elim fun U O s d s' I e k=>?_
 cases e;exact k H U O StE.refl I
def BF (h:BO X g a fa):OO X g (some a) (P6 fa):=OO.w (qV h.pe) fun σ H Q U=>by
 refine U.elim fun Y O s d s' I e k=>?_
 refine o8 e fun x s1 h1 e=>?_
 cases x with
 |int i=>
  simp only[Jn,IQ] at e;obtain⟨e1,e2⟩:=e;subst e1;subst e2;exact#[Y,O,s,.int i,s1,I,h1,fun v H1 f1 O1 a1 I1 J=>#[i,by simpa only[RepB,Rep] using J,k H1 f1 O1 a1 I1]]
 |_=>cases e
def Q9 (xs:vD_) (lo hi:Option Int):List D:=(xs.drop (HT.sIx xs.length 0 lo)).take (HT.sIx xs.length xs.length hi - HT.sIx xs.length 0 lo)
def mU {K:vF_}{fa:vA_}(r:Reps K N fa H ds xs) (lo hi:Option Int):Reps K N fa H (Q9 ds lo hi) (S6 xs lo hi):=by
 unfold Q9 S6;rw[r.length];exact(r.drop _).take _
end
end DL
namespace HT2
open PySem PyProof.Rows HT
section
variable {w:World}
def getItem_tuple_whole {t sl:Addr}{lo hi:Option Int}(J:IsTup s.heap t items) (hs:s.heap.IsSliceOf sl vl vu .none) (pl:IsPart vl lo) (pu:IsPart vu hi)
  (hw:sIx items.size 0 lo=0/\sIx items.size items.size hi=items.size) (h:Q (.ref t) s):wpAny (model prog w) A (getItem (.ref t) (.ref sl)) Q E s:=by
 obtain⟨os,hos,Y,hds⟩:=id hs;have hTs:s.TypeIs (.ref sl) "slice" := #[os,hos,Y]
 unfold getItem
 try with_reducible refine JD ?_
 first | refine gV (iR ?_) | skip
 refine gV (LR J.typeIs #[] ?_);refine gV (JM (name:=Str.ofString "__getitem__") J.typeIs JN
  (Jy JN J.typeIs LS ?_ (LU _ _)))
 show wpAny _ _ (Builtin.Tuple.tupleItemsOf (.ref t) >>= _) _ _ s;refine gV (tupleItemsOf_ J ?_);refine gV (Ki hTs ?_);rw[iO #[]];refine gV (qp hs pl pu ?_);have U:(((sIx items.size 0 lo:Nat):Int) == 0&&(1:Int) == 1&&(sIx items.size items.size hi - sIx items.size 0 lo) == items.size)=true:=by
  rw[hw.1,hw.2];simp
 show wpAny _ _ (if (((sIx items.size 0 lo:Nat):Int) == 0&&(1:Int) == 1&&(sIx items.size items.size hi - sIx items.size 0 lo) == items.size)=true then _ else _) _ _ s;rw[iO U];refine gV (m:=Builtin.Tuple.tupleIsExact _) (gV (Ki J.typeIs (iR ?_)));rw[iO #[]]
 first
  | exact gV (JI (gV (iR (iR #[_,rfl,iR h]))))
  | exact gV (JI (iR #[_,rfl,iR h]))
  | exact gV (JI (gV (iR #[_,rfl,iR h])))
end
end HT2
namespace DL
open PySem PySem.Spec L2
section
variable {a:Expr}{fa:DE}
def xK (K:vF_):V->Option Int->Option Int->Hp->VK->Prop:=fun x lo hi H Q=>∃a xs,x = .ref a/\SqT K H a xs/\(HT.sIx xs.length 0 lo=0/\HT.sIx xs.length xs.length hi=xs.length)/\Q (.ref a) H
def yv:L2.SlR X (xK X.K):=by
 intro pins s σ H x v vl vu lo hi sl Q I rx hs pl pu h;obtain⟨a,xs,rfl,Y,hw,q⟩:=h;cases rx;obtain⟨its,r,U,hz⟩:=I.tuple Y;have J:its.toArray.size=xs.length:=by rw[IU];exact r.length.symm
 refine#["tuple",_,JN.lookup,U.typeIs,?_];exact HT2.getItem_tuple_whole U hs pl pu (by rw[J];exact hw) #[.ref a,H,I,rfl,q]
def AR {xs:vD_}{lo hi:Option Int}(h:HT.sIx xs.length 0 lo=0/\HT.sIx xs.length xs.length hi=xs.length):Q9 xs lo hi=xs:=by
 unfold Q9;rw[h.1,h.2,Nb,Me,List.take_length]
noncomputable def Q2 (f:DE) (lo hi:DO):DE:=fun s=>(f s).bind fun x=>(lo x.2).bind fun l=>(hi l.2).bind fun h=>match x.1 with
 |.tup ds=>some (.tup (Q9 ds l.1 h.1),h.2)
 |.lst ds=>some (.lst (Q9 ds l.1 h.1),h.2)
 |_=>none
def zX {x r:D}{F:List D->List D}{t z:DS}(e:(match x with
 |.tup ds=>some (D.tup (F ds),t)
 |.lst ds=>some (D.lst (F ds),t)
 |_=>none)=some (r,z)):t=z/\((∃ds,x = .lst ds/\r = .lst (F ds))\/∃ds,x = .tup ds/\r = .tup (F ds)):=by
 cases x with
 |tup ds=>cases e;exact#[rfl,.inr #[ds,rfl,rfl]]
 |lst ds=>cases e;exact#[rfl,.inl #[ds,rfl,rfl]]
 |_=>cases e
def Ga {lo hi:Option Expr}{fl fh:DO}(ha:BO X g a fa) (hl:OO X g lo fl) (hh:OO X g hi fh):EO X g (.Subscript a (.Slice lo hi none p2) pos) (Q2 fa fl fh):=
 EO.w (qT (L2.SlR.or (L2.SlR.or Ce yv) vB) ha.pe hl.pe hh.pe) fun σ H Q hQ=>by
  refine hQ.elim fun f0 O s d s' I e k=>?_
  refine o8 e fun x s1 h1 e=>?_
  refine o8 e fun l s2 h2 e=>?_
  refine o8 e fun h s3 h3 e=>?_
  obtain⟨rfl,c⟩:=zX (F:=fun ds=>Q9 ds l h) e;refine#[f0,O,s,x,s1,I,h1,fun v H1 f1 O1 a1 I1 r1=>#[f1,O1,s1,l,s2,I1,h2,fun H2 f2 O2 a2 I2=>#[f2,O2,s2,h,s3,I2,h3,fun H3 U J a3 I3=>?_]]];have r3:=RepB.stp I2 a3 (RepB.stp I1 a2 r1);rcases c with ⟨ds,rfl,rfl⟩ | ⟨ds,rfl,rfl⟩
  .obtain⟨c,xs,rfl,_,q,w⟩:=r3;refine .inr #[c,xs,rfl,SqL.of q,fun p Y=>?_];have a4:StE U J H3 U J (i6 H3 p (.lst (S6 xs l h))):=D6 Y;have L:=bB I3 Y (mU w l h);refine k _ _ U J (a1.trans (a2.trans (a3.trans a4))) L.gi ?_;simp only[Rep];exact#[p,_,rfl,gJ I3 a4 L.gi Y L.nf,B0,Reps.stp I3 a4.stp (mU w l h)]
  .simp only[RepB,Rep] at r3;obtain⟨c,xs,rfl,q,w⟩:=r3;by_cases hw:HT.sIx xs.length 0 l=0/\HT.sIx xs.length xs.length h=xs.length
   .refine .inl (.inr #[c,xs,rfl,q,hw,k _ H3 U J (a1.trans (a2.trans a3)) I3 ?_]);rw[w.length] at hw;rw[AR hw];simp only[Rep];exact#[c,xs,rfl,q,w]
   .refine .inl (.inl #[c,xs,rfl,q,hw,fun p Y=>?_]);have a4:StE U J H3 U J (i6 H3 p (.tup (S6 xs l h))):=D6 Y;refine k _ _ U J (a1.trans (a2.trans (a3.trans a4))) (I3.new Y) ?_;simp only[Rep];exact#[p,_,rfl,SqT.of B0,Reps.stp I3 a4.stp (mU w l h)]
end
end DL
namespace HT3
open PySem PyProof.Rows HT
section
variable {w:World}
def ER (n:Nat):Builtin.Slice.sliceAdjust none none (-1) (n:Int)=((n:Int) - 1,-1):=by
 have h1:((-1:Int)<0):=by omega
 unfold Builtin.Slice.sliceAdjust;simp only[h1,Jh]
def yh (n:Nat):Builtin.Slice.slicePlaces ((n:Int) - 1) (-1) (-1)=n:=by
 unfold Builtin.Slice.slicePlaces;have h1:¬ ((-1:Int)>0):=by omega
 simp only[h1,Jw];have e:-(-1:Int)=1:=rfl;rw[e,Int.ediv_one];split <;> omega
def Ew {sl:Addr}{t:Tok}{Q:Int × Int × Nat->Shared->Prop}(hs:s.heap.IsSliceOf sl .none .none (.int (-1) t))
  (h:Q ((n:Int) - 1,-1,n) s):wpAny (model prog w) A (Builtin.Slice.sliceApplied (.ref sl) (pure (n:Int))) Q E s:=by
 obtain⟨os,U,Y,J⟩:=id hs;unfold Builtin.Slice.sliceApplied Builtin.Slice.sliceFields;refine gV (gV (IL U J (x:=.none) rfl (gV (IL U J (x:=.none) rfl (gV (IL U J (x:=.int (-1) t) rfl (iR ?_)))))));refine gV (slicePart_int ?_);show wpAny _ _ (if ((-1:Int) == 0)=true then _ else _) _ _ s;rw[iU #[]];refine gV (KW (gV (KW (gV (iR ?_)))));show wpAny _ _ (match Builtin.Slice.sliceAdjust none none (-1) (n:Int) with | (lo,hi)=>pure (lo,(-1:Int),Builtin.Slice.slicePlaces lo hi (-1))) _ _ s;rw[ER n];show wpAny _ _ (pure ((n:Int) - 1,(-1:Int),Builtin.Slice.slicePlaces ((n:Int) - 1) (-1) (-1))) _ _ s;rw[yh];exact iR h
def yO (xs:vR_):((List.range xs.size).filterMap fun (m:Nat)=>xs[(((xs.size:Int) - 1)+(m:Int)*(-1)).toNat]?).toArray=xs.toList.reverse.toArray:=by
 congr 1;have e:((List.range xs.size).filterMap fun (m:Nat)=>xs[(((xs.size:Int) - 1)+(m:Int)*(-1)).toNat]?)=((List.range xs.size).filterMap fun (m:Nat)=>xs.toList.reverse[m]?):=by
  have cg:∀(l:List Nat) (f g:Nat->Option Value),(∀m∈l,f m=g m)->l.filterMap f=l.filterMap g:=by
   intro l f g;induction l with
   |nil=>intro _;rfl
   |cons a r Y=>intro h;rw[Kq,Kq,h a (IY ..),Y fun m J=>h m (IT _ J)]
  refine cg _ _ _ fun m J=>?_
  have U:m<xs.size:=KQ.mp J;have:(((xs.size:Int) - 1)+(m:Int)*(-1)).toNat=xs.size - 1 - m:=by omega
  rw[this,List.getElem?_reverse (by simpa using U)];simp
 rw[e];have hl:xs.size=xs.toList.reverse.length:=by simp
 rw[hl];generalize xs.toList.reverse=l;clear e hl;induction l with
 |nil=>rfl
 |cons a r Y=>
  rw[Ja,List.range_succ_eq_map,Kq];simp only[List.getElem?_cons_zero,List.filterMap_map];congr 1
def getItem_tuple_rev {t sl:Addr}{items:vR_}{Q:vQ_}(U:IsTup s.heap t items) (hs:s.heap.IsSliceOf sl .none .none (.int (-1) tk))
  (h:Q (.ref s.heap.objs.size) { s with heap:=s.heap.push { cls:=.type "tuple",data:=.seq items.toList.reverse.toArray } })
  (hsz:items.size<=sizeLine):wpAny (model prog w) A (getItem (.ref t) (.ref sl)) Q E s:=by
 have J:sizeOk (.seq items.toList.reverse.toArray):=by
  show items.toList.reverse.toArray.size<=sizeLine;rw[IU,List.length_reverse,LP];exact hsz
 obtain⟨os,hos,hcs,hds⟩:=id hs;have hTs:s.TypeIs (.ref sl) "slice" := #[os,hos,hcs]
 unfold getItem
 try with_reducible refine JD ?_
 first | refine gV (iR ?_) | skip
 refine gV (LR U.typeIs #[] ?_);refine gV (JM (name:=Str.ofString "__getitem__") U.typeIs JN
  (Jy JN U.typeIs LS ?_ (LU _ _)))
 show wpAny _ _ (Builtin.Tuple.tupleItemsOf (.ref t) >>= _) _ _ s;refine gV (tupleItemsOf_ U ?_);refine gV (Ki hTs ?_);rw[iO #[]];refine gV (Ew hs ?_);have Y:¬ ((((items.size:Int) - 1) == 0&&(-1:Int) == 1&&items.size == items.size)=true):=by
  intro q;rw[Je,Je] at q;exact absurd q.1.2 #[]
 show wpAny _ _ (if (((items.size:Int) - 1) == 0&&(-1:Int) == 1&&items.size == items.size)=true then _ else _) _ _ s;rw[iU Y,yO]
 first
  | exact gV (m:=Builtin.Tuple.tupleExact _) (JE (iR #[_,rfl,iR h]) J)
  | exact gV (m:=Builtin.Tuple.tupleExact _) (JE (gV (iR (iR #[_,rfl,iR h]))) J)
  | exact gV (gV (m:=Builtin.Tuple.tupleExact _) (JE (iR (iR #[_,rfl,iR h])) J))
  | exact gV (gV (m:=Builtin.Tuple.tupleExact _) (JE (iR #[_,rfl,iR h]) J))
def zM {sl:Addr}{t:Tok}{Q:Int × Int × Nat->Shared->Prop}(hs:s.heap.IsSliceOf sl .none .none (.int 1 t))
  (h:Q (0,1,n) s):wpAny (model prog w) A (Builtin.Slice.sliceApplied (.ref sl) (pure (n:Int))) Q E s:=by
 obtain⟨os,U,Y,J⟩:=id hs;unfold Builtin.Slice.sliceApplied Builtin.Slice.sliceFields;refine gV (gV (IL U J (x:=.none) rfl (gV (IL U J (x:=.none) rfl (gV (IL U J (x:=.int 1 t) rfl (iR ?_)))))));refine gV (slicePart_int ?_);show wpAny _ _ (if ((1:Int) == 0)=true then _ else _) _ _ s;rw[iU #[]];refine gV (KW (gV (KW (gV (iR ?_)))));show wpAny _ _ (match Builtin.Slice.sliceAdjust none none 1 (n:Int) with | (lo,hi)=>pure (lo,(1:Int),Builtin.Slice.slicePlaces lo hi 1)) _ _ s;rw[va none none n];show wpAny _ _ (pure (((sIx n 0 none:Nat):Int),(1:Int),Builtin.Slice.slicePlaces ((sIx n 0 none:Nat):Int) ((sIx n n none:Nat):Int) 1)) _ _ s;rw[uI];exact iR h
def getItem_tuple_one {t sl:Addr}(J:IsTup s.heap t items) (hs:s.heap.IsSliceOf sl .none .none (.int 1 tk)) (h:Q (.ref t) s):wpAny (model prog w) A (getItem (.ref t) (.ref sl)) Q E s:=by
 obtain⟨os,hos,Y,hds⟩:=id hs;have hTs:s.TypeIs (.ref sl) "slice" := #[os,hos,Y]
 unfold getItem
 try with_reducible refine JD ?_
 first | refine gV (iR ?_) | skip
 refine gV (LR J.typeIs #[] ?_);refine gV (JM (name:=Str.ofString "__getitem__") J.typeIs JN
  (Jy JN J.typeIs LS ?_ (LU _ _)))
 show wpAny _ _ (Builtin.Tuple.tupleItemsOf (.ref t) >>= _) _ _ s;refine gV (tupleItemsOf_ J ?_);refine gV (Ki hTs ?_);rw[iO #[]];refine gV (zM hs ?_);have U:((0:Int) == 0&&(1:Int) == 1&&items.size == items.size)=true:=by simp
 show wpAny _ _ (if ((0:Int) == 0&&(1:Int) == 1&&items.size == items.size)=true then _ else _) _ _ s;rw[iO U];refine gV (m:=Builtin.Tuple.tupleIsExact _) (gV (Ki J.typeIs (iR ?_)));rw[iO #[]]
 first
  | exact gV (JI (gV (iR (iR #[_,rfl,iR h]))))
  | exact gV (JI (iR #[_,rfl,iR h]))
  | exact gV (JI (gV (iR #[_,rfl,iR h])))
end
end HT3
namespace DL
open PySem PySem.Spec L2 PyProof.Rows
section
variable {a st:Expr}{fa fs:DE}
def GQ (K:vF_) (te J:TE):TE:=fun σ H Q=>te σ H fun x H1=>J σ H1 fun y H2=>(y = .int (-1)/\∃p xs,x = .ref p/\SqT K H2 p xs/\∀l,H2 l=none->Q (.ref l) (i6 H2 l (.tup xs.reverse)))\/(y = .int 1/\∃p xs,x = .ref p/\SqT K H2 p xs/\Q (.ref p) H2)
def Ex (he:PE X a te) (hs:PE X st ts):PE X (.Subscript a (.Slice none none (some st) p2) pos) (GQ X.K te ts):=by
 intro pins s σ H Q I h;refine Subscript_ (l4 (he pins s σ H _ I h) fun v s1 ⟨x,H1,I1,r1,q1⟩=>?_);refine wpAny_Slice ?_;rw[evalPart_none];refine iR (iR ?_);rw[evalPart_some];refine l4 (hs pins s1 σ H1 _ I1 q1) fun u s3 ⟨y,H3,I3,r3,q3⟩=>?_
 rcases q3 with ⟨rfl,p,xs,rfl,hx,q⟩ | ⟨rfl,p,xs,rfl,hx,q⟩
 case inr=>
  obtain⟨J,rfl⟩:=r3;cases r1;have U:Inv X pins σ H3 { s3 with heap:=s3.heap.push { cls:=.type "slice",data:=.fields #v[.none,.none,.int 1 J] } }:=I3.kept (t':=s3.toks) fun b ob q=>xu _ q
  obtain⟨its,r,ht,hz⟩:=U.tuple hx;show wpAny (model X.prog X.w) X.A (subscriptTail a (.Slice none none (some st) p2) (.ref p) (.ref s3.heap.objs.size)) (EP X pins σ Q) X.xe { s3 with heap:=s3.heap.push { cls:=.type "slice",data:=.fields #v[.none,.none,.int 1 J] } };refine tail_any (ops:=[.ref p,.ref s3.heap.objs.size]) ht.typeIs JN.lookup ?_ (by with_unfolding_all rfl);exact HT3.getItem_tuple_one ht (MV ..) #[.ref p,H3,U,rfl,q]
 obtain⟨J,rfl⟩:=r3;cases r1;have U:Inv X pins σ H3 { s3 with heap:=s3.heap.push { cls:=.type "slice",data:=.fields #v[.none,.none,.int (-1) J] } }:=I3.kept (t':=s3.toks) fun b ob q=>xu _ q
 obtain⟨its,r,ht,hz⟩:=U.tuple hx;have Y:its.toArray.size=xs.length:=by rw[IU];exact r.length.symm
 show wpAny (model X.prog X.w) X.A (subscriptTail a (.Slice none none (some st) p2) (.ref p) (.ref s3.heap.objs.size)) (EP X pins σ Q) X.xe { s3 with heap:=s3.heap.push { cls:=.type "slice",data:=.fields #v[.none,.none,.int (-1) J] } };refine tail_any (ops:=[.ref p,.ref s3.heap.objs.size]) ht.typeIs JN.lookup ?_ (by with_unfolding_all rfl);refine HT3.getItem_tuple_rev ht (MV ..) ?_ (by rw[Y];exact hz);refine#[.ref (s3.heap.push { cls:=.type "slice",data:=.fields #v[.none,.none,.int (-1) J] }).objs.size,_,U.laid (t':=s3.toks) (o:=.tup xs.reverse) (fun b ob q=>xu _ q) (tv _) ?_,rfl,q _ (U.hok.fresh (tv _))];exact#[by rw[List.length_reverse];exact hz,_,r.reverse,IsTup.new _ _]
def gh (f h:DE):DE:=fun s=>(f s).bind fun x=>(h x.2).bind fun y=>match x.1,y.1 with
 |.tup ds,.int i=>if i = -1 then some (.tup ds.reverse,y.2) else if i=1 then some (.tup ds,y.2) else none
 |_,_=>none
def El {x y r:D}{t:DS}{z:DS}(e:(match x,y with
 |.tup ds,.int i=>if i = -1 then some (D.tup ds.reverse,t) else if i=1 then some (.tup ds,t) else none
 |_,_=>none)=some (r,z)):∃ds i,x = .tup ds/\y = .int i/\t=z/\((i = -1/\r = .tup ds.reverse)\/(i=1/\r = .tup ds)):=by
 cases x with
 |tup ds=>
  cases y with
  |int i=>
   have e:(if i = -1 then some (D.tup ds.reverse,t) else if i=1 then some (.tup ds,t) else none)=some (r,z):=e;by_cases hi:i = -1
   .rw[iO hi] at e;cases e;exact#[ds,i,rfl,rfl,rfl,.inl #[hi,rfl]]
   .rw[iU hi] at e;by_cases h1:i=1
    .rw[iO h1] at e;cases e;exact#[ds,i,rfl,rfl,rfl,.inr #[h1,rfl]]
    .rw[iU h1] at e;cases e
  |_=>cases e
 |_=>cases e
def yr (ha:BO X g a fa) (hs:BO X g st fs):EO X g (.Subscript a (.Slice none none (some st) p2) pos) (gh fa fs):=EO.w (Ex ha.pe hs.pe) fun σ H Q hQ=>by
 refine hQ.elim fun f0 O s d s' I e k=>?_
 refine o8 e fun x s1 h1 e=>?_
 refine o8 e fun y s2 h2 e=>?_
 obtain⟨ds,i,rfl,rfl,rfl,c⟩:=El e;refine#[f0,O,s,_,s1,I,h1,fun v H1 f1 O1 a1 I1 r1=>#[f1,O1,s1,_,s2,I1,h2,fun u H2 U J Y I2 r2=>?_]];have r3:=RepB.stp I1 Y r1;simp only[RepB,Rep] at r2 r3;subst r2;obtain⟨c',xs,rfl,q,w⟩:=r3;rcases c with ⟨rfl,rfl⟩ | ⟨rfl,rfl⟩
 .refine .inl #[rfl,c',xs,rfl,q,fun l hl=>?_];have a4:StE U J H2 U J (i6 H2 l (.tup xs.reverse)):=D6 hl;refine k _ _ U J (a1.trans (Y.trans a4)) (I2.new hl) ?_;simp only[Rep];exact#[l,_,rfl,SqT.of B0,Reps.stp I2 a4.stp (Reps.reverse w)]
 .refine .inr #[rfl,c',xs,rfl,q,k _ _ U J (a1.trans Y) I2 ?_];simp only[Rep];exact#[c',xs,rfl,q,w]
end
end DL
namespace DL
open PySem PySem.Spec L2
def noStar:Expr->Bool
 |.Starred _ _=>false
 |_=>true
def tw {a:Expr}(h:noStar a=true):starEach (a::es) env=(false,eval a env)::starEach es env:=by
 cases a <;> first | rfl | (cases h)
section
variable {a:Expr}{fa:DE}{fr:DA}
def ac (Y:EO X g a fa) (J:AO X g es fr) (U:noStar a=true:=by rfl):AO X g (a::es) (a7 fa fr):=mr Y J (tw U)
def bc (Y:BO X g a fa) (J:BAO X g es fr) (U:noStar a=true:=by rfl):BAO X g (a::es) (a7 fa fr):=Ev Y J (tw U)
end
end DL
namespace DL
open PySem PySem.Spec L2 PyProof.Rows
structure LitV (K:vF_) (d:D) (u:Value):Prop where
 ex:∃v:V,RelV v u/\∀N fa H,Rep K N fa H d v
section
variable {K:vF_}
def Ht (i:Int) (t:Tok):LitV K (.int i) (.int i t):=#[.int i,#[t,rfl],fun _ _ _=>by simp only[Rep]]
end
structure Con (K:vF_) (mg:vG_) (x:Str) (d:D):Prop where
 ex:∃u:Value,mg x=some u/\LitV K d u
def GR {X:Cx}{g:Gh}{x:Str}{d:D}{pos:Pos}(C:Con X.K X.mg x d) (hg:Gl X x) (hd:(x == ("__debug__" : Str))=false:=by decide):EO X g (.Name x pos) (dC d):=by
 obtain⟨u,J,h⟩:=C.ex;obtain⟨v,r,q⟩:=h.ex;exact EO.w (ly (v:=v) hg J r hd) fun σ H Q Y=>by
  refine Y.elim fun fa O s d' s' I e k=>?_
  simp only[dC,Jn,IQ] at e;obtain⟨U,q2⟩:=e;subst U;subst q2;exact k v H fa O StE.refl I (q _ _ _)
end DL
namespace DL
open PySem PySem.Spec L2
def lA (i:Nat) (s:DS):DS:=match s.sl[i]? with
 |some (.own ds)=>{ s with sl:=s.sl.set i (.v (.lst ds)) }
 |_=>s
def gP:List Nat->DS->DS
 |[],s=>s
 |i::r,s=>gP r (lA i s)
section
variable {K:vF_}{σ:L2.St}{s:DS}
def FN (i:Nat) (I:GI K g σ H fa O s):∃P,StE fa O H fa P H/\GI K g σ H fa P (lA i s):=by
 unfold lA;cases q:s.sl[i]? with
 |none=>exact#[O,StE.refl,I]
 |some z=>
  cases z with
  |no=>exact#[O,StE.refl,I]
  |v d'=>exact#[O,StE.refl,I]
  |own ds=>
   simp only;obtain⟨a,xs,Y,m,e2,r⟩:=SlR.own I.sl q
   let N1:Addr->Prop:=fun b=>NN g.F fa O b/\b≠a
   have J:Car K (NN g.F fa O) fa H N1 fa H:=#[fun b ys n z=>#[z,fun y=>n y.1],fun _ _ z=>z,fun _ _ z=>z,fun _ z=>z]
   have S1:=SlR.go J (fun _ _ _ z=>z) I.sl;have R1:Rep K N1 fa H (.lst ds) (.ref a):=by
    simp only[Rep];exact#[a,xs,rfl,fun z=>z.2 rfl,e2,Reps.go J ds xs r]
   obtain⟨P,hs,S2,hn⟩:=SlR.put i S1 R1;have na:a ∉ P:=hn I.nd a (by rw[q];rfl) #[ds,q] Y;have eσ:σ.set i (some (V.ref a))=σ:=by
    apply Mc;intro j;by_cases hj:j=i
    .subst hj;rw[Y,Kr (Jj.mp Y).1]
    .rw[Kf (IK hj)]
   rw[eσ] at S2;have sub:∀b∈P,b∈O:=fun b U=>hs.subset U
   have a1:StE fa O H fa P H:=#[sub,.inl rfl,fun _ _ z _=>z,fun _ z=>z]
   have c2:Car K N1 fa H (NN g.F fa P) fa H:=#[fun b ys n z=>#[z,fun y=>n #[by
     rcases y with y | y | y
     .exact .inl y
     .exact .inr (.inl (sub b y))
     .exact .inr (.inr y),fun w=>by
     subst w;rcases y with y | y | y
     .exact I.tr b y (I.fr b m)
     .exact na y
     .exact I.nf b y m]],fun _ _ z=>z,fun _ _ z=>z,fun _ z=>z]
   exact#[P,a1,hs.nodup I.nd,SlR.go c2 (fun _ _ _ z=>z) S2,fun b U=>I.fr b (sub b U),I.st,I.tr,I.ff,(I.fd.car J fun _ _=>rfl).car c2 fun _ _=>rfl,fun b z y=>I.nf b z (sub b y)]
theorem qW:∀(is:List Nat) {O:vL_}{s:DS},GI K g σ H fa O s->∃P,StE fa O H fa P H/\GI K g σ H fa P (gP is s)
 |[],O,s,I=>#[O,StE.refl,I]
 |i::r,O,s,I=>by
  obtain⟨P,a,Y⟩:=FN i I;obtain⟨J,a',U⟩:=qW r Y;exact#[J,a.trans a',U]
end
def lQ (J:List Nat) (f:DA):DA:=fun s=>f (gP J s)
def AD (J:List Nat) (h:FO X g e f):FO X g e (lQ J f):=FO.w h.pe fun σ H Q U=>by
 refine U.elim fun fa O s d s' I q k=>?_
 obtain⟨P,a,I1⟩:=qW J I;exact#[fa,P,gP J s,d,s',I1,q,fun p xs H' f1 O1 a1 L Y=>k p xs H' f1 O1 (a.trans a1) L Y]
def V1 (idx:List Nat) (sl:List Sl):D->Option (List Sl)
 |.tup [a,b]=>some (.v a :: .v b::L4 idx sl)
 |_=>none
def Ax {r:List Sl}(h:V1 idx sl d=some r):∃a b,d = .tup [a,b]/\r = .v a :: .v b::L4 idx sl:=by
 cases d with
 |tup ds=>
  match ds,h with
  |[a,b],h=>cases h;exact#[a,b,rfl,rfl]
 |_=>cases h
noncomputable def Q0 (idx:List Nat) (fi:DA) (fc:DT) (fe:DE):DA:=fun s=>(fi s).bind fun x=>if x.1.length<=sizeLine then (C0 (V1 idx x.2.sl) fc fe x.1 x.2.fs).map fun y=>(y.1,{ x.2 with fs:=y.2 }) else none
def tW {G:TG}(k:CompOk X scope cl N' 2 idx)
  (hG:∀(a:Addr) (x y:V) (σ:L2.St) (H:Hp) (Q:L2.St->Hp->Prop),SqT X.K H a [x,y]->Q ((σ.set 0 (some x)).set 1 (some y)) H->G (.ref a) σ H Q):∀σ H Q,liftF X.K g (Q0 idx fi fc fe) σ H Q->cL 2 idx (liftI X.K g fi) G (fun σ H Q=>∃g',liftT X.K g' fc σ H Q) (fun σ H Q=>∃g',liftE X.K g' fe σ H Q) σ H Q:=
 ua (mk:=V1 idx) fun N fa sl d sl0 x σ H Q hm rx hc kk=>by
  obtain⟨da,db,rfl,rfl⟩:=Ax hm;simp only[Rep,Reps] at rx;obtain⟨ad,xs0,rfl,J,u,ys0,rfl,ru,w,ys1,rfl,Y,rfl⟩:=rx;refine hG ad u w _ _ _ J (kk _ #[by simp,fun j v U=>?_] ?_)
  .cases j with
   |zero=>simp[E7] at U
   |succ j=>
    cases j with
    |zero=>simp[E7] at U
    |succ j=>rw[Kf (by simp),Kf (by simp)];exact U
  .have eb:((E7 2 idx σ).set 0 (some u)).set 1 (some w)=some u::some w::idx.map fun i=>(σ[i]?).join:=by simp[E7]
   rw[eb];simp only[SlR];exact#[u,_,rfl,ru,w,_,rfl,Y,hc]
def GX {G:TG}(hc:X.calm=true) (k:CompOk X scope cl N' 2 idx) (hi:IO X g tg iter fi) (Y:∀C s0 H0 ex,PG (m7 X N' scope cl C s0 H0 ex) tg G)
  (J:∀(a:Addr) (x y:V) (σ:L2.St) (H:Hp) (Q:L2.St->Hp->Prop),SqT X.K H a [x,y]->Q ((σ.set 0 (some x)).set 1 (some y)) H->G (.ref a) σ H Q)
  (U:∀C s0 H0 ex g',Z6 (m7 X N' scope cl C s0 H0 ex) g' ifs fc) (he:∀C s0 H0 ex g',EO (m7 X N' scope cl C s0 H0 ex) g' elt fe) (hs:∀x,foldedSetIterable iter X.env x=pure x:=by intro _;rfl) :
  FO X g (.ListComp elt [#[tg,iter,ifs,0]] scope pos) (Q0 idx fi fc fe):=by
 exact FO.w (lF (tc:=fun σ H Q=>∃g',liftT X.K g' fc σ H Q) (te:=fun σ H Q=>∃g',liftE X.K g' fe σ H Q) hc k hi.pe Y (fun C s0 H0 ex pins s σ H Q I ⟨g',h⟩=>U C s0 H0 ex g' pins s σ H Q I h) (fun C s0 H0 ex pins s σ H Q I ⟨g',h⟩=>(he C s0 H0 ex g').pe pins s σ H Q I h) hs) (tW k J)
def fP (U:closureFor scope X.env=pure cl) (sub:SubL X.env.cells cl) (cell:∀y∈scope.names,y.2 ≠ .cell) (kind:scope.kind = .function)
  (names:∀y∈scope.names,y.2 = .local->scope.names.lookup y.1=some .local) (Y:hasAll (relabel scope X.env).names cl=true) (J:CapL X scope idx caps):CompOk X scope cl (x::y::caps) 2 idx:=
 #[U,fun y c e=>sub.mem y c (iD e),cell,kind,names,pI Y,by rw[Ja,Ja,J.len];omega,fun j i y e1 e2=>J.at j i y e1 (by
  rw[show 2+j=j+1+1 by omega] at e2;simpa using e2)]
def RwIt (h:Heap) (i l:Addr) (xs:vR_) (k:Nat):Prop:=(h.IsListIter i l k/\h.IsList l xs)\/(h.IsTupleIter i l k/\h.IsTuple l xs)
section
variable {i l:Addr}{xs:vR_}{k:Nat}
def RwIt.at (x:RwIt h i l xs k) (U:∀o,h.get? i=some o->h'.get? i=some o) (J:∀o,h.get? l=some o->h'.get? l=some o):RwIt h' i l xs k:=by
 rcases x with ⟨⟨o,q,r⟩,⟨p,u,v⟩⟩ | ⟨⟨o,q,r⟩,⟨p,u,v⟩⟩
 .exact .inl #[#[o,U o q,r],#[p,J p u,v]]
 .exact .inr #[#[o,U o q,r],#[p,J p u,v]]
def RwIt.lt (x:RwIt h i l xs k):i<h.objs.size:=by
 rcases x with ⟨⟨o,q,r⟩,_⟩ | ⟨⟨o,q,r⟩,_⟩ <;> exact xl q
end
section
variable {w:World}
def Dj {it t:Addr}{i:Nat}{items:vR_}{x:Value}{Q:vQ_}(J:s.heap.IsTupleIter it t i) (ht:s.heap.IsTuple t items) (hx:items[i]? = some x)
  (hQ:∀h',h'.IsTupleIter it t (i+1)->Heap.SameBut it s.heap h'->Q x { s with heap:=h' }):wpAny (model prog w) A (Builtin.SmallTypes.nextOf (.ref it)) Q E s:=by
 obtain⟨o,Y,hc,U⟩:=id J;obtain⟨ol,hol,_,nl,hdl⟩:=ht;unfold Builtin.SmallTypes.nextOf;refine gV (JM (name:=Str.ofString "__next__") J.typeIs Mf (Jy Mf J.typeIs NZ ?_ (Oa _)));show wpAny _ _ (field (.ref it) 0 >>= _) _ _ s;refine gV (IL Y U (x:=.ref t) rfl ?_);show wpAny _ _ (if (Value.ref t == Value.none)=true then _ else _) _ _ s;rw[iU (show ¬ ((Value.ref t == Value.none)=true) from IM)];show wpAny _ _ (field (.ref it) 1 >>= _) _ _ s;refine gV (IL Y U (x:=.int i 0) rfl ?_);show wpAny _ _ (seqItems? (.ref t) >>= _) _ _ s;refine gV (JQ hol hdl ?_);simp only[Kc,hx];refine gV (KZ Y U (by simp) (iR #[x,rfl,iR (hQ _ ?_ (Heap.SameBut.update ..))]));exact#[_,JW _ Y (Mg (Lz U _)),(Obj.cls_mapFields ..).trans hc,by rw[Lz U];simp[rawInt]]
def zj {it t:Addr}{i:Nat}{items:vR_}{Q:vQ_}(hh:A.handled=none) (J:s.heap.IsTupleIter it t i) (ht:s.heap.IsTuple t items) (hx:items[i]? = none)
  (hE:∀h' e,Heap.ExtBut it s.heap h'->(∃o,h'.get? e=some o/\o.cls = .type "StopIteration")->E (.ref e) { s with heap:=h' }):wpAny (model prog w) A (Builtin.SmallTypes.nextOf (.ref it)) Q E s:=by
 obtain⟨o,ho,hc,Y⟩:=id J;obtain⟨ol,hol,_,nl,U⟩:=ht;unfold Builtin.SmallTypes.nextOf;refine gV (JM (name:=Str.ofString "__next__") J.typeIs Mf (Jy Mf J.typeIs NZ ?_ (Oa _)));show wpAny _ _ (field (.ref it) 0 >>= _) _ _ s;refine gV (IL ho Y (x:=.ref t) rfl ?_);show wpAny _ _ (if (Value.ref t == Value.none)=true then _ else _) _ _ s;rw[iU (show ¬ ((Value.ref t == Value.none)=true) from IM)];show wpAny _ _ (field (.ref it) 1 >>= _) _ _ s;refine gV (IL ho Y (x:=.int i 0) rfl ?_);show wpAny _ _ (seqItems? (.ref t) >>= _) _ _ s;refine gV (JQ hol U ?_);simp only[Kc,hx];refine gV (JI (gV (KZ ho Y (by simp) ?_)));show wpAny _ _ (newExc (.type "StopIteration") [] >>= _) _ _ _;refine gV ?_;simp only[newExc,newTuple];refine gV (JE ?_ (by size_fits));refine gV (m:=firstArgMember _ _) (wpAny_of_eq (a:=Value.none) (by first | rfl | (simp only[firstArgMember];rfl)) ?_);refine JE ?_ (by size_fits);simp only[raiseNew];refine gV (wpAny_handled ?_)
 first | rw[show A.in1.handled=none from hh] | rw[hh]
 refine gV (iR (wpAny_throw ?_));exact hE _ _ (((Heap.SameBut.update ..).extBut.push _).push _) #[_,Jk _ rfl,rfl]
def bE {it l:Addr}{i:Nat}{xs:vR_}{x:Value}{Q:vQ_}(r:RwIt s.heap it l xs i) (hl:l≠it) (Y:xs[i]? = some x)
  (hQ:∀h',RwIt h' it l xs (i+1)->Heap.SameBut it s.heap h'->Q x { s with heap:=h' }):wpAny (model prog w) A (Builtin.SmallTypes.nextOf (.ref it)) Q E s:=by
 rcases r with ⟨a,b⟩ | ⟨a,b⟩
 .exact wpAny_nextOf_list_item a b Y fun h' U J=>hQ h' (.inl #[U,b.extBut J.extBut hl]) J
 .exact Dj a b Y fun h' U J=>hQ h' (.inr #[U,b.extBut J.extBut hl]) J
def iI {it l:Addr}{i:Nat}{xs:vR_}{Q:vQ_}(J:A.handled=none) (r:RwIt s.heap it l xs i) (U:xs[i]? = none)
  (Y:∀h' e,Heap.ExtBut it s.heap h'->(∃o,h'.get? e=some o/\o.cls = .type "StopIteration")->E (.ref e) { s with heap:=h' }):wpAny (model prog w) A (Builtin.SmallTypes.nextOf (.ref it)) Q E s:=by
 rcases r with ⟨a,b⟩ | ⟨a,b⟩
 .exact wpAny_nextOf_list_end J a b U Y
 .exact zj J a b U Y
abbrev D9 (h:Heap) (z TI TO:Addr) (f0 f1:Value):Prop:=h.get? z=some { cls:=.type "zip",dict:=none,data:=.fields #v[f0,f1,.bool false,.ref TI,.ref TO],slots:=#v[] }
variable {z TI TO i1 i2 l1 l2:Addr}{xs ys:vR_}{k:Nat}
def sV {x y a b:Value}{Q:vQ_}(D:ZipApart z TI TO i1 i2 l1 l2)
  (hz:D9 s.heap z TI TO .none (.bool false)) (hTI:IsPair s.heap TI (.ref i1) (.ref i2)) (hTO:IsPair s.heap TO a b) (h1:RwIt s.heap i1 l1 xs k) (h2:RwIt s.heap i2 l2 ys k) (hx:xs[k]? = some x) (hy:ys[k]? = some y)
  (hQ:∀h',D9 h' z TI TO (rawInt s.heap.objs.size) (.bool false)->RwIt h' i1 l1 xs (k+1)->RwIt h' i2 l2 ys (k+1)->IsPair h' s.heap.objs.size x y ->
   (∀c o,c≠z->c≠TO->c≠i1->c≠i2->s.heap.get? c=some o->h'.get? c=some o)->IsPair h' TO x y->Q (.ref s.heap.objs.size) { s with heap:=h' }) :
  wpAny (model prog w) A (Builtin.«zip.__next__» #[[.ref z],[]]) (fun fin s'=>∃v,fin = .done (.ret v)/\Q v s') E s:=by
 show wpAny _ _ (field (.ref z) 2 >>= _) _ _ _;refine gV (IL hz rfl (x:=.bool false) rfl ?_);show wpAny _ _ (field (.ref z) 3 >>= _) _ _ _;refine gV (IL hz rfl (x:=.ref TI) rfl ?_);refine gV (JQ hTI rfl ?_);show wpAny _ _ (Builtin.SmallTypes.ownedTupleIsFree (.ref z) >>= _) _ _ _;refine gV ?_;unfold Builtin.SmallTypes.ownedTupleIsFree;refine gV (IL hz rfl (x:=.none) rfl (iR ?_));simp only[Jh];refine gV (JI ?_);refine gV (IL hz rfl (x:=.ref TO) rfl ?_);refine gV (Km hz (by simp) fun g1 z1 k1=>?_)
 replace z1:D9 g1 z TI TO .ellipsis (.bool false):=z1
 refine gV ?_;simp only[List.zipIdx_cons,List.zipIdx_nil,Mh,Mi];refine gV (gV (LA ?_));show wpAny _ _ (Builtin.SmallTypes.nextOf (.ref i1) >>= _) _ _ _;refine gV (bE (h1.at (fun o e=>k1.extBut _ o D.i1z e) fun o e=>k1.extBut _ o D.l1z e) D.l1i1 hx fun g2 r2 k2=>iR ?_);have o2:IsPair g2 TO a b:=k2.extBut _ _ D.TOi1 (k1.extBut _ _ D.TOz hTO);refine gV (JQ o2 rfl ?_);refine gV (Nc o2 fun g3 o3 k3=>?_)
 replace o3:IsPair g3 TO x b:=o3
 refine gV (Mj (iR ?_));refine gV (gV (LA ?_));show wpAny _ _ (Builtin.SmallTypes.nextOf (.ref i2) >>= _) _ _ _;refine gV (bE (h2.at (fun o e=>k3.extBut _ o D.TOi2.symm (k2.extBut _ o D.i12.symm (k1.extBut _ o D.i2z e))) fun o e=>k3.extBut _ o D.l2TO (k2.extBut _ o D.l2i1 (k1.extBut _ o D.l2z e))) D.l2i2 hy fun g4 r4 Y=>iR ?_);have o4:IsPair g4 TO x b:=Y.extBut _ _ D.TOi2 o3;refine gV (JQ o4 rfl ?_);refine gV (Nc o4 fun J o5 k5=>?_)
 replace o5:IsPair J TO x y:=o5
 refine gV (Mj (iR (iR ?_)));refine gV (JQ o5 rfl ?_);refine gV (wpAny_newTuple ?_);have sz:J.objs.size=s.heap.objs.size:=by rw[k5.1,Y.1,k3.1,k2.1,k1.1]
 have z5:D9 J z TI TO .ellipsis (.bool false):=k5.extBut _ _ D.TOz.symm (Y.extBut _ _ D.i2z.symm (k3.extBut _ _ D.TOz.symm (k2.extBut _ _ D.i1z.symm z1)));have q5:∀c o,c≠z->c≠TO->c≠i1->c≠i2->s.heap.get? c=some o->J.get? c=some o:=fun c o U c2 c3 c4 e=>
  k5.extBut _ _ c2 (Y.extBut _ _ c4 (k3.extBut _ _ c2 (k2.extBut _ _ c3 (k1.extBut _ _ U e))))
 have p1:RwIt J i1 l1 xs (k+1):=r2.at (fun o e=>k5.extBut _ o D.TOi1.symm (Y.extBut _ o D.i12 (k3.extBut _ o D.TOi1.symm e))) fun o e=>k5.extBut _ o D.l1TO (Y.extBut _ o D.l1i2 (k3.extBut _ o D.l1TO e))
 have p2:RwIt J i2 l2 ys (k+1):=r4.at (fun o e=>k5.extBut _ o D.TOi2.symm e) fun o e=>k5.extBut _ o D.l2TO e
 have zl:z<J.objs.size:=xl z5;show wpAny _ _ (Builtin.SmallTypes.ownedTupleHandOut (.ref z) (.ref J.objs.size) >>= _) _ _ _;refine gV ?_;unfold Builtin.SmallTypes.ownedTupleHandOut;have z6:D9 (J.push { cls:=.type "tuple",data:=.seq #v[x,y] }) z TI TO .ellipsis (.bool false):=xu _ z5;refine gV (Km z6 (by simp) fun g7 z7 k7=>?_)
 replace z7:D9 g7 z TI TO (rawInt J.objs.size) (.bool false):=z7
 refine Km z7 (by simp) fun g8 z8 k8=>?_
 replace z8:D9 g8 z TI TO (rawInt J.objs.size) (.bool false):=z8
 have up:∀c o,c≠z->J.get? c=some o->g8.get? c=some o:=fun c o U e=>k8.extBut _ _ U (k7.extBut _ _ U (xu _ e))
 have t8:IsPair g8 J.objs.size x y:=k8.extBut _ _ (Jx zl) (k7.extBut _ _ (Jx zl) (Jk _ rfl));rw[sz] at z8 t8;refine iR #[_,rfl,?_];show Q (.ref J.objs.size) _;rw[sz];exact hQ g8 z8 (p1.at (fun o e=>up _ o D.i1z e) fun o e=>up _ o D.l1z e) (p2.at (fun o e=>up _ o D.i2z e) fun o e=>up _ o D.l2z e) t8 (fun c o U c2 c3 c4 e=>up c o U (q5 c o U c2 c3 c4 e)) (up _ _ D.TOz o5)
def tE {a b:Value}{Q:Fin->Shared->Prop}(hh:A.handled=none) (D:ZipApart z TI TO i1 i2 l1 l2)
  (hz:D9 s.heap z TI TO .none (.bool false)) (hTI:IsPair s.heap TI (.ref i1) (.ref i2)) (hTO:IsPair s.heap TO a b) (h1:RwIt s.heap i1 l1 xs k) (h2:RwIt s.heap i2 l2 ys k) (hend:xs[k]? = none\/ys[k]? = none)
  (hE:∀h' e,(∀c o,c≠z->c≠TO->c≠i1->c≠i2->s.heap.get? c=some o->h'.get? c=some o)->(∃o,h'.get? e=some o/\o.cls = .type "StopIteration")->E (.ref e) { s with heap:=h' }) :
  wpAny (model prog w) A (Builtin.«zip.__next__» #[[.ref z],[]]) Q E s:=by
 show wpAny _ _ (field (.ref z) 2 >>= _) _ _ _;refine gV (IL hz rfl (x:=.bool false) rfl ?_);show wpAny _ _ (field (.ref z) 3 >>= _) _ _ _;refine gV (IL hz rfl (x:=.ref TI) rfl ?_);refine gV (JQ hTI rfl ?_);show wpAny _ _ (Builtin.SmallTypes.ownedTupleIsFree (.ref z) >>= _) _ _ _;refine gV ?_;unfold Builtin.SmallTypes.ownedTupleIsFree;refine gV (IL hz rfl (x:=.none) rfl (iR ?_));simp only[Jh];refine gV (JI ?_);refine gV (IL hz rfl (x:=.ref TO) rfl ?_);refine gV (Km hz (by simp) fun g1 z1 k1=>?_)
 replace z1:D9 g1 z TI TO .ellipsis (.bool false):=z1
 refine gV ?_;simp only[List.zipIdx_cons,List.zipIdx_nil,Mh,Mi];refine gV (gV (LA ?_));show wpAny _ _ (Builtin.SmallTypes.nextOf (.ref i1) >>= _) _ _ _;cases hx:xs[k]? with
 |none=>
  refine gV (iI hh (h1.at (fun o e=>k1.extBut _ o D.i1z e) fun o e=>k1.extBut _ o D.l1z e) hx fun g2 e k2 he=>?_);obtain⟨oe,J,U⟩:=he;have z2:D9 g2 z TI TO .ellipsis (.bool false):=k2 _ _ D.i1z.symm z1;have Y:e≠z:=fun x=>by subst x;rw[z2] at J;cases J;simp at U
  exact Km z2 (by simp) fun g3 _ k3=>hE g3 e (fun c o c1 _ c3 _ x=>k3.extBut _ _ c1 (k2 _ _ c3 (k1.extBut _ _ c1 x))) #[oe,k3.extBut _ _ Y J,U]
 |some x=>
  have hy:ys[k]? = none:=by
   rcases hend with h | h
   .rw[hx] at h;cases h
   .exact h
  refine gV (bE (h1.at (fun o e=>k1.extBut _ o D.i1z e) fun o e=>k1.extBut _ o D.l1z e) D.l1i1 hx fun g2 r2 k2=>iR ?_);have o2:IsPair g2 TO a b:=k2.extBut _ _ D.TOi1 (k1.extBut _ _ D.TOz hTO);refine gV (JQ o2 rfl ?_);refine gV (Nc o2 fun g3 o3 k3=>?_);refine gV (Mj (iR ?_));refine gV (gV (LA ?_));show wpAny _ _ (Builtin.SmallTypes.nextOf (.ref i2) >>= _) _ _ _;refine gV (iI hh (h2.at (fun o e=>k3.extBut _ o D.TOi2.symm (k2.extBut _ o D.i12.symm (k1.extBut _ o D.i2z e))) fun o e=>k3.extBut _ o D.l2TO (k2.extBut _ o D.l2i1 (k1.extBut _ o D.l2z e))) hy fun g4 e k4 he=>?_);obtain⟨oe,J,U⟩:=he;have z4:D9 g4 z TI TO .ellipsis (.bool false):=k4 _ _ D.i2z.symm (k3.extBut _ _ D.TOz.symm (k2.extBut _ _ D.i1z.symm z1));have Y:e≠z:=fun x=>by subst x;rw[z4] at J;cases J;simp at U
  exact Km z4 (by simp) fun g5 _ k5=>hE g5 e (fun c o c1 c2 c3 c4 x=>k5.extBut _ _ c1 (k4 _ _ c4 (k3.extBut _ _ c2 (k2.extBut _ _ c3 (k1.extBut _ _ c1 x))))) #[oe,k5.extBut _ _ Y J,U]
end
section
variable {w:World}
variable {z TI TO i1 i2 l1 l2:Addr}{xs ys:vR_}{k:Nat}
def CT {o:Obj}{Q:Option Obj->Shared->Prop}(J:s.heap.get? a=some o) (h:Q (some o) s):wpAny (model prog w) A (loadIfAlive a) Q E s:=by
 have h':Q (s.heap.get? a) s:=by rw[J];exact h
 exact fun _ _ _=>h'
def vT {T:Addr}{f:Bool}{U:Obj}{Q:Bool->Shared->Prop}(hz:D9 s.heap z TI TO (rawInt T) (.bool f)) (hT:s.heap.get? T=some U)
  (J:∀h',D9 h' z TI TO (rawInt T) (.bool true)->Heap.SameBut z s.heap h'->Q false { s with heap:=h' }):wpAny (model prog w) A (Builtin.SmallTypes.ownedTupleIsFree (.ref z)) Q E s:=by
 unfold Builtin.SmallTypes.ownedTupleIsFree;refine gV (IL hz rfl (x:=rawInt T) rfl ?_);show wpAny _ _ (loadIfAlive ((T:Int).toNat) >>= _) _ _ _;rw[Kc];refine gV (CT hT ?_);simp only[Option.isNone_some,JX,Jw];refine gV (IL hz rfl (x:=.bool f) rfl ?_);cases f with
 |true=>
  rw[iU (show ¬ ((Value.bool true != Value.bool true)=true) from IM)];exact iR (J s.heap hz (Heap.SameBut.refl _ _))
 |false=>
  rw[iO (show (Value.bool false != Value.bool true)=true from rfl)];exact gV (Km hz (by simp) fun g Y gk=>iR (J g Y gk))
def wO {x y:Value}{T:Addr}{f:Bool}{oT:Obj}{Q:vQ_}(D:ZipApart z TI TO i1 i2 l1 l2)
  (hz:D9 s.heap z TI TO (rawInt T) (.bool f)) (hT:s.heap.get? T=some oT) (hTI:IsPair s.heap TI (.ref i1) (.ref i2)) (h1:RwIt s.heap i1 l1 xs k) (h2:RwIt s.heap i2 l2 ys k) (hx:xs[k]? = some x) (hy:ys[k]? = some y)
  (hQ:∀h',D9 h' z TI TO (rawInt T) (.bool true)->RwIt h' i1 l1 xs (k+1)->RwIt h' i2 l2 ys (k+1)->IsPair h' s.heap.objs.size x y ->
   (∀c o,c≠z->c≠TO->c≠i1->c≠i2->s.heap.get? c=some o->h'.get? c=some o)->Q (.ref s.heap.objs.size) { s with heap:=h' }) :
  wpAny (model prog w) A (Builtin.«zip.__next__» #[[.ref z],[]]) (fun fin s'=>∃v,fin = .done (.ret v)/\Q v s') E s:=by
 show wpAny _ _ (field (.ref z) 2 >>= _) _ _ _;refine gV (IL hz rfl (x:=.bool false) rfl ?_);show wpAny _ _ (field (.ref z) 3 >>= _) _ _ _;refine gV (IL hz rfl (x:=.ref TI) rfl ?_);refine gV (JQ hTI rfl ?_);show wpAny _ _ (Builtin.SmallTypes.ownedTupleIsFree (.ref z) >>= _) _ _ _;refine gV (vT hz hT fun g1 z1 k1=>?_);simp only[JX,Jw];simp only[List.forIn_toArray,Mh,Mi];refine gV (gV (gV (JD ?_)));show wpAny _ _ (Builtin.SmallTypes.nextOf (.ref i1) >>= _) _ _ _;refine gV (bE (h1.at (fun o e=>k1.extBut _ o D.i1z e) fun o e=>k1.extBut _ o D.l1z e) D.l1i1 hx fun g2 r2 k2=>iR ?_);refine iR ?_;refine gV (gV (JD ?_));show wpAny _ _ (Builtin.SmallTypes.nextOf (.ref i2) >>= _) _ _ _;refine gV (bE (h2.at (fun o e=>k2.extBut _ o D.i12.symm (k1.extBut _ o D.i2z e)) fun o e=>k2.extBut _ o D.l2i1 (k1.extBut _ o D.l2z e)) D.l2i2 hy fun g4 r4 J=>iR ?_);refine iR (iR ?_);show wpAny _ _ (newTuple [x,y] >>= _) _ _ _;refine gV (wpAny_newTuple (items:=[x,y]) ?_ (show 2<=sizeLine by decide));have sz:g4.objs.size=s.heap.objs.size:=by rw[J.1,k2.1,k1.1]
 have q4:∀c o,c≠z->c≠i1->c≠i2->s.heap.get? c=some o->g4.get? c=some o:=fun c o U c3 Y e=>J.extBut _ _ Y (k2.extBut _ _ c3 (k1.extBut _ _ U e))
 refine iR #[_,rfl,?_];show Q (.ref g4.objs.size) _;rw[sz];refine hQ _ (xu _ (J.extBut _ _ D.i2z.symm (k2.extBut _ _ D.i1z.symm z1)))
  (r2.at (fun o e=>xu _ (J.extBut _ o D.i12 e)) fun o e=>xu _ (J.extBut _ o D.l1i2 e))
  (r4.at (fun o e=>xu _ e) fun o e=>xu _ e) ?_ fun c o U c2 c3 Y e=>xu _ (q4 c o U c3 Y e)
 rw[<-sz];exact Jk _ rfl
def Hl {T:Addr}{f:Bool}{oT:Obj}{Q:Fin->Shared->Prop}(hh:A.handled=none) (D:ZipApart z TI TO i1 i2 l1 l2)
  (hz:D9 s.heap z TI TO (rawInt T) (.bool f)) (hT:s.heap.get? T=some oT) (Y:IsPair s.heap TI (.ref i1) (.ref i2)) (h1:RwIt s.heap i1 l1 xs k) (h2:RwIt s.heap i2 l2 ys k) (J:xs[k]? = none\/ys[k]? = none)
  (hE:∀h' e,(∀c o,c≠z->c≠TO->c≠i1->c≠i2->s.heap.get? c=some o->h'.get? c=some o)->(∃o,h'.get? e=some o/\o.cls = .type "StopIteration")->E (.ref e) { s with heap:=h' }) :
  wpAny (model prog w) A (Builtin.«zip.__next__» #[[.ref z],[]]) Q E s:=by
 show wpAny _ _ (field (.ref z) 2 >>= _) _ _ _;refine gV (IL hz rfl (x:=.bool false) rfl ?_);show wpAny _ _ (field (.ref z) 3 >>= _) _ _ _;refine gV (IL hz rfl (x:=.ref TI) rfl ?_);refine gV (JQ Y rfl ?_);show wpAny _ _ (Builtin.SmallTypes.ownedTupleIsFree (.ref z) >>= _) _ _ _;refine gV (vT hz hT fun g1 z1 k1=>?_);simp only[JX,Jw];simp only[List.forIn_toArray,Mh,Mi];refine gV (gV (gV (JD ?_)));show wpAny _ _ (Builtin.SmallTypes.nextOf (.ref i1) >>= _) _ _ _;cases hx:xs[k]? with
 |none=>
  refine gV (iI hh (h1.at (fun o e=>k1.extBut _ o D.i1z e) fun o e=>k1.extBut _ o D.l1z e) hx fun g2 e k2 he=>?_);exact hE g2 e (fun c o U _ c3 _ x=>k2 _ _ c3 (k1.extBut _ _ U x)) he
 |some x=>
  have hy:ys[k]? = none:=by
   rcases J with h | h
   .rw[hx] at h;cases h
   .exact h
  refine gV (bE (h1.at (fun o e=>k1.extBut _ o D.i1z e) fun o e=>k1.extBut _ o D.l1z e) D.l1i1 hx fun g2 r2 k2=>iR ?_);refine iR ?_;refine gV (gV (JD ?_));show wpAny _ _ (Builtin.SmallTypes.nextOf (.ref i2) >>= _) _ _ _;refine gV (iI hh (h2.at (fun o e=>k2.extBut _ o D.i12.symm (k1.extBut _ o D.i2z e)) fun o e=>k2.extBut _ o D.l2i1 (k1.extBut _ o D.l2z e)) hy fun g4 e k4 he=>?_);exact hE g4 e (fun c o U c2 c3 c4 x=>k4 _ _ c4 (k2.extBut _ _ c3 (k1.extBut _ _ U x))) he
structure ZSt (h:Heap) (z TI TO i1 i2 l1 l2 S:Addr) (xs ys:vR_) (k:Nat):Prop where
 ti:IsPair h TI (.ref i1) (.ref i2)
 r1:RwIt h i1 l1 xs k
 r2:RwIt h i2 l2 ys k
 zz:(D9 h z TI TO .none (.bool false)/\∃a b,IsPair h TO a b)\/∃(T:Addr) (f:Bool) (oT:Obj),D9 h z TI TO (rawInt T) (.bool f)/\h.get? T=some oT/\T≠z/\T≠TO/\T≠i1/\T≠i2/\T≠S
def xp {S:Addr}{x y:Value}{Q:Option Value->Shared->Prop}(D:ZipApart z TI TO i1 i2 l1 l2) (st:ZSt s.heap z TI TO i1 i2 l1 l2 S xs ys k) (hS:S<s.heap.objs.size) (hTO:TO<s.heap.objs.size) (hx:xs[k]? = some x) (hy:ys[k]? = some y)
  (hQ:∀h',ZSt h' z TI TO i1 i2 l1 l2 S xs ys (k+1)->IsPair h' s.heap.objs.size x y->(∀c o,c ∉ [z,TO,i1,i2]->s.heap.get? c=some o->h'.get? c=some o)->Q (some (.ref s.heap.objs.size)) { s with heap:=h' }) :
  wpAny (model prog w) A (pyNext (.ref z)) Q E s:=by
 obtain⟨ti,r1,r2,zz⟩:=st;have K:∀{h':Heap},(∀c o,c≠z->c≠TO->c≠i1->c≠i2->s.heap.get? c=some o->h'.get? c=some o)->∀c o,c ∉ [z,TO,i1,i2]->s.heap.get? c=some o->h'.get? c=some o:=fun k c o hc e=>by
  simp only[IH,Jq,Jr,not_or] at hc;exact k c o hc.1 hc.2.1 hc.2.2.1 hc.2.2.2 e
 unfold pyNext;rcases zz with ⟨U,a,b,ho⟩ | ⟨T,f,oT,U,hT,t1,t2,t3,t4,t5⟩
 .have Y:s.TypeIs (.ref z) "zip" := #[_,U,rfl]
  exact gV (KD (JM (name:=Str.ofString "__next__") Y Jz (Jy Jz Y La
   (sV D U ti ho r1 r2 hx hy fun h' a1 a2 a3 a4 J _=>iR (hQ h' #[J _ _ D.TIz D.TITO D.TIi1 D.TIi2 ti,a2,a3,.inr #[_,_,_,a1,a4,Jx (xl U),Jx hTO,Jx r1.lt,Jx r2.lt,Jx hS]] a4 (K J))) (Lb _))))
 .have Y:s.TypeIs (.ref z) "zip" := #[_,U,rfl]
  exact gV (KD (JM (name:=Str.ofString "__next__") Y Jz (Jy Jz Y La
   (wO D U hT ti r1 r2 hx hy fun h' a1 a2 a3 a4 J=>iR (hQ h' #[J _ _ D.TIz D.TITO D.TIi1 D.TIi2 ti,a2,a3,.inr #[T,true,oT,a1,J _ _ t1 t2 t3 t4 hT,t1,t2,t3,t4,t5]] a4 (K J))) (Lb _))))
def Hw {S:Addr}{Q:Option Value->Shared->Prop}(hh:A.handled=none) (D:ZipApart z TI TO i1 i2 l1 l2) (st:ZSt s.heap z TI TO i1 i2 l1 l2 S xs ys k) (U:xs[k]? = none\/ys[k]? = none)
  (hQ:∀h',(∀c o,c ∉ [z,TO,i1,i2]->s.heap.get? c=some o->h'.get? c=some o)->Q none { s with heap:=h' }):wpAny (model prog w) A (pyNext (.ref z)) Q E s:=by
 obtain⟨ti,r1,r2,zz⟩:=st;have K:∀{h':Heap},(∀c o,c≠z->c≠TO->c≠i1->c≠i2->s.heap.get? c=some o->h'.get? c=some o)->∀c o,c ∉ [z,TO,i1,i2]->s.heap.get? c=some o->h'.get? c=some o:=fun k c o J e=>by
  simp only[IH,Jq,Jr,not_or] at J;exact k c o J.1 J.2.1 J.2.2.1 J.2.2.2 e
 unfold pyNext;rcases zz with ⟨hz,a,b,Y⟩ | ⟨T,f,oT,hz,hT,t1,t2,t3,t4,t5⟩
 .have tz:s.TypeIs (.ref z) "zip" := #[_,hz,rfl]
  refine gV (KD (JM (name:=Str.ofString "__next__") tz Jz (Jy Jz tz La (tE hh D hz ti Y r1 r2 U fun h' e hk he=>?_) (Lb _))));obtain⟨o,Y,J⟩:=he;refine gV (Nd (T := "StopIteration") (b:=true) #[o,Y,J] isSubtype_stop ?_);exact iR (hQ _ (K hk))
 .have tz:s.TypeIs (.ref z) "zip" := #[_,hz,rfl]
  refine gV (KD (JM (name:=Str.ofString "__next__") tz Jz (Jy Jz tz La (Hl hh D hz hT ti r1 r2 U fun h' e hk he=>?_) (Lb _))));obtain⟨o,Y,J⟩:=he;refine gV (Nd (T := "StopIteration") (b:=true) #[o,Y,J] isSubtype_stop ?_);exact iR (hQ _ (K hk))
end
structure LW (prog:Program) (w:World) (A:Around) (I S:Addr) (wr:vL_) (n:Nat) (P:Nat->Value->Heap->Prop) (St:Nat->Heap->Prop):Prop where
 item:∀(i:Nat) (s:Shared) (Q:Option Value->Shared->Prop) (E:vQ_),i<n->St i s.heap->S<s.heap.objs.size ->
  (∀v h',P i v h'->St (i+1) h'->(∀j u,P j u s.heap->u≠v)->(∀b o,b ∉ wr->s.heap.get? b=some o->h'.get? b=some o)->Q (some v) { s with heap:=h' })->wpAny (model prog w) A (pyNext (.ref I)) Q E s
 done:∀(s:Shared) (Q:Option Value->Shared->Prop) (E:vQ_),St n s.heap->(∀h',(∀b o,b ∉ wr->s.heap.get? b=some o->h'.get? b=some o)->Q none { s with heap:=h' })->wpAny (model prog w) A (pyNext (.ref I)) Q E s
 stay:∀i h h',St i h->(∀b o,b≠S->h.get? b=some o->h'.get? b=some o)->St i h'
 pay:∀i v h h',P i v h->(∀b o,b≠S->b ∉ wr->h.get? b=some o->h'.get? b=some o)->P i v h'
 self:∀(A:Around) (s:Shared) (Q:vQ_) (E:vQ_),St 0 s.heap->Q (.ref I) s->wpAny (model prog w) A (pyIter (.ref I)) Q E s
 out:S ∉ wr
section
variable {w:World}{I S:Addr}{wr:vL_}{P:Nat->Value->Heap->Prop}{St:Nat->Heap->Prop}{R:Result->Shared->Prop}
def ez (P:Nat->Value->Heap->Prop) (h:Heap) (J:vR_) (i:Nat):Prop:=J.size=i/\(∀j v,J[j]? = some v->P j v h)/\J.toList.Nodup
abbrev aN (h:Heap) (S:Addr) (acc:vR_) (c:Nat):Prop:=h.get? S=some { cls:=.type "list",dict:=none,data:=.seq acc c,slots:=#v[] }
def zn (W:LW prog w A.in1 I S wr n P St) (hn:n<=sizeLine) (res:Value) {h₁:Heap}
  (hR:∀h' acc c,(∀b o,b≠S->b ∉ wr->h₁.get? b=some o->h'.get? b=some o)->aN h' S acc c->ez P h' acc n->R (.ok (.ret res)) { s with heap:=h' }) :
  ∀(k i:Nat) (h:Heap) (c:Nat) (acc:vR_),n - i=k->i<=n->St i h->(∀b o,b≠S->b ∉ wr->h₁.get? b=some o->h.get? b=some o)->aN h S acc c->ez P h acc i ->
   codeAny (model prog w) A (.builtin "list.extend.loop" #[[.ref S,.ref I,res],[]]) R { s with heap:=h }:=by
 intro k;induction k with
 |zero=>
  intro i h c acc hk hi hst kp hS Y;have e:i=n:=by omega
  subst e;refine Nf Ob ?_;rw[Around.under_plainId Mk _];show wpAny _ A.in1 (pyNext (.ref I) >>= _) _ _ _;refine gV (W.done { s with heap:=h } _ _ hst fun h' U=>?_);exact iR (hR h' acc c (fun b o h1 h2 e=>U b o h2 (kp b o h1 h2 e)) (U S _ W.out hS) #[Y.1,fun j v e=>W.pay j v h h' (Y.2.1 j v e) fun b o _ h2 e=>U b o h2 e,Y.2.2])
 |succ k ih=>
  intro i h c acc hk hi hst kp hS Y;have hlt:i<n:=by omega
  refine Nf Ob ?_;rw[Around.under_plainId Mk _];show wpAny _ A.in1 (pyNext (.ref I) >>= _) _ _ _;refine gV (W.item i { s with heap:=h } _ _ hlt hst (xl hS) fun v h' hP hst' hne U=>?_)
  dsimp only at U hne ⊢
  have hS':aN h' S acc c:=U S _ W.out hS;have up:∀b o,b≠S->h'.get? b=some o->(h'.update S (Obj.mapSeq (·.push v))).get? b=some o:=fun b o hb e=>(JC _ _ (IK hb)).trans e
  show wpAny _ A.in1 (updateSeq S (·.push v) >>= _) _ _ _;refine gV ?_;have J:=Y.1;refine Ml hS' rfl (iR #[plainId_quiet Mk _,ih (i+1) _ _ (acc.push v) ∅ hlt (W.stay _ h' _ hst' up)
   (fun b o h1 h2 e=>up b o h1 (U b o h2 (kp b o h1 h2 e))) (JW _ hS' rfl) #[by rw[Array.size_push,J],fun j x hj=>?_,?_]]) (by rw[J];omega) (by show (acc.push v).size<=sizeLine+1;rw[Array.size_push,J];omega)
  .rw[Array.getElem?_push] at hj;split at hj
   .rename_i e;cases hj;rw[e,J];exact W.pay i v h' _ hP fun b o h1 _ e=>up b o h1 e
   .exact W.pay j x h _ (Y.2.1 j x hj) fun b o h1 h2 e=>up b o h1 (U b o h2 e)
  .rw[Array.toList_push];refine List.nodup_append.mpr #[Y.2.2,by simp,fun a ha b hb=>?_];have e:b=v:=by simpa using hb
   subst e;obtain⟨j,hj⟩:=Mm.mp ha;exact hne j a (Y.2.1 j a (by simpa using hj))
def FK (W:LW prog w A.in1 I S wr n P St) (hn:n<=sizeLine) (Y:s.TypeIs (.ref I) T) (hl:(Value.type T == Value.type "list")=false) (ht:(Value.type T == Value.type "tuple")=false)
  (nl:typeLookup (.type T) "__len__" = pure none) (nh:typeLookup (.type T) "__length_hint__" = pure none) (U:St 0 s.heap) (hSI:S≠I) (res:Value) (c₀:Nat) (hS:aN s.heap S #v[] c₀)
  (hR:∀h' acc c,(∀b o,b≠S->b ∉ wr->s.heap.get? b=some o->h'.get? b=some o)->aN h' S acc c->ez P h' acc n->R (.ok (.ret res)) { s with heap:=h' }) :
  wpAny (model prog w) A.in1 (Builtin.List.listExtendWith (.ref S) (.ref I) res)
   (fun fin s'=>match fin with | .done f=>R (.ok f) s' | .again c'=>c'.quiet=true/\codeAny (model prog w) A c' R s') (fun e s'=>R (.error e) s') s:=by
 have key:∀(h:Heap) (c₁:Nat),(∀b o,b≠S->s.heap.get? b=some o->h.get? b=some o)->aN h S #v[] c₁ ->
   codeAny (model prog w) A (.builtin "list.extend.loop" #[[.ref S,.ref I,res],[]]) R { s with heap:=h }:=fun h c₁ hk hS₁=>
  zn (h₁:=s.heap) W hn res hR n 0 h c₁ #v[] (Me _) (JK _) (W.stay 0 _ h U hk) (fun b o h1 _ e=>hk b o h1 e) hS₁ #[rfl,fun j v e=>by simp at e,by simp]
 unfold Builtin.List.listExtendWith;refine gV (Ki Y ?_);have h1:Builtin.List.listSameRef (.ref S) (.ref I)=false:=by simp[Builtin.List.listSameRef,hSI]
 simp only[h1,hl,ht,Bool.or_false,JX,Jw];refine gV (W.self _ _ _ _ U ?_);refine gV (JD ?_);unfold Builtin.List.listLengthHint;refine gV (wpAny_specialOf Y nl ?_);show wpAny _ A.in1 (specialOf (Value.ref I) (Str.ofString "__length_hint__") >>= _) _ _ _;refine gV (wpAny_specialOf Y nh ?_);refine iR ?_;show wpAny _ A.in1 (rule "list.extend.makes-room" >>= fun _=>Builtin.List.listTouch (.ref S) >>= fun _=>
  again (.builtin "list.extend.loop" #[[.ref S,.ref I,res],[]])) _ _ _
 refine gV (JI ?_);refine gV ?_;show wpAny _ A.in1 (updateSeq S (·.push .none) >>= fun _=>updateSeq S (·.pop)) _ _ _;refine gV (Ml hS rfl ?_);have J:=JW (Obj.mapSeq (·.push Value.none)) hS rfl;refine Ml (hz:=by seq_fits) J rfl ?_;have hS₃:=JW (Obj.mapSeq (·.pop)) J rfl;refine iR #[plainId_quiet Mk _,key _ _ (fun b o hb e=>?_) hS₃];exact(JC _ _ (IK hb)).trans ((JC _ _ (IK hb)).trans e)
def Bw {E:vQ_}{Q:vQ_}(W:LW prog w A.in1.in1 I s.heap.objs.size wr n P St) (hn:n<=sizeLine) (hT:s.TypeIs (.ref I) T) (hl:(Value.type T == Value.type "list")=false) (ht:(Value.type T == Value.type "tuple")=false)
  (nl:typeLookup (.type T) "__len__" = pure none) (nh:typeLookup (.type T) "__length_hint__" = pure none) (hst:St 0 s.heap)
  (hQ:∀h' acc c,(∀b o,b ∉ wr->s.heap.get? b=some o->h'.get? b=some o)->aN h' s.heap.objs.size acc c->ez P h' acc n->Q (.ref s.heap.objs.size) { s with heap:=h' }) :
  wpAny (model prog w) A (call (.type "list") [.ref I]) Q E s:=by
 refine callType_codes (Q₁:=fun Y s₁=>Y = .ref s.heap.objs.size/\s₁={ s with heap:=s.heap.push { cls:=.type "list",data:=.seq #v[] } }) PySem.F.called_list (PySem.F.typeCall_list_1 _) PySem.F.entry_list_init
  (code_list_new _ #[rfl,rfl]) fun Y s₁ h₁=>?_
 obtain⟨rfl,rfl⟩:=h₁;have hS:(s.heap.push { cls:=.type "list",data:=.seq #v[] }).get? s.heap.objs.size=some { cls:=.type "list",data:=.seq #v[] }:=Jk _ rfl;obtain⟨oI,U,hcI⟩:=id hT;have hI:I<s.heap.objs.size:=xl U;refine#[#[_,hS,rfl],PySem.F.args_list_init_2 _ _,?_];show wpAny _ _ (do let old <-Builtin.List.listItems (.ref s.heap.objs.size);Builtin.List.listUpdate (.ref s.heap.objs.size) (fun _=>#v[]);letGo old.toList.reverse;Builtin.List.listExtendWith (.ref s.heap.objs.size) (.ref I) .none) _ _ _;refine gV ?_;unfold Builtin.List.listItems;refine gV (JQ hS rfl (iR ?_));show wpAny _ _ (updateSeq s.heap.objs.size (fun _=>#v[]) >>= fun _=>letGo (#v[]:vR_).toList.reverse >>= fun _=>Builtin.List.listExtendWith (.ref s.heap.objs.size) (.ref I) .none) _ _ _;refine gV (Ml hS rfl ?_);have hS₂:=JW (Obj.mapSeq (fun _=>(#v[]:vR_))) hS rfl;have J:∀b o,b≠s.heap.objs.size->s.heap.get? b=some o->((s.heap.push { cls:=.type "list",data:=.seq #v[] }).update s.heap.objs.size (Obj.mapSeq (fun _=>(#v[]:vR_)))).get? b=some o:=
  fun b o hb e=>(JC _ _ (IK hb)).trans (xu _ e)
 refine gV (Mj ?_);refine FK (A:=A.in1) W hn #[oI,J I _ (Jd hI) U,hcI] hl ht nl nh (W.stay 0 s.heap _ hst J) (Jx hI) .none _ hS₂ fun h' acc c hk hS' hG=>?_
 exact#[rfl,hQ h' acc c (fun b o h2 e=>hk b o (Jd (xl e)) h2 (J b o (Jd (xl e)) e)) hS' hG]
end
def xx:typeLookup (.type "zip") "__len__" = pure none:=by rw[typeLookup_type,builtinLookup_eq_fast];kernel_rfl
def zZ:typeLookup (.type "zip") "__length_hint__" = pure none:=by rw[typeLookup_type,builtinLookup_eq_fast];kernel_rfl
def GZ {w:World}{z TI TO i1 i2 l1 l2 S:Addr}{xs ys:vR_}(hh:A.handled=none) (D:ZipApart z TI TO i1 i2 l1 l2) (hTO:TO<S) (hS:S ∉ [z,TI,TO,i1,i2,l1,l2]) (top:∀b∈[z,TO,i1,i2],b<S) :
  LW prog w A z S [z,TO,i1,i2] (min xs.size ys.size) (fun j v h=>∃a x y,v = .ref a/\S<=a/\a≠S/\xs[j]? = some x/\ys[j]? = some y/\IsPair h a x y) (fun k h=>ZSt h z TI TO i1 i2 l1 l2 S xs ys k) where
 item:=fun i s Q E hi st hs Y=>by
  have hix:i<xs.size:=IJ hi (Mn ..);have hiy:i<ys.size:=IJ hi (Nat.min_le_right ..);exact xp D st hs (Nat.lt_trans hTO hs) (Mo hix) (Mo hiy) fun h' a1 a2 a3=>Y _ h' #[_,_,_,rfl,JZ hs,Jx hs,Mo hix,Mo hiy,a2] a1 (fun j u ⟨a,x,y,e,_,_,_,_,q⟩ z=>by
   rw[e] at z;cases z;exact absurd (xl q) (JB _)) a3
 done:=fun s Q E st Y=>by
  have U:xs[min xs.size ys.size]? = none\/ys[min xs.size ys.size]? = none:=by
   rcases Nat.le_total xs.size ys.size with h | h
   .exact .inl (by rw[Ng h];exact Oc (tv _))
   .exact .inr (by rw[Nh h];exact Oc (tv _))
  exact Hw hh D st U Y
 stay:=fun i h h' st k=>by
  simp only[IH,Jq,Jr,not_or] at hS;obtain⟨n1,n2,n3,n4,n5,n6,n7⟩:=hS;obtain⟨ti,r1,r2,zz⟩:=st;refine#[k _ _ (IK n2) ti,r1.at (fun o e=>k _ o (IK n4) e) (fun o e=>k _ o (IK n6) e),r2.at (fun o e=>k _ o (IK n5) e) (fun o e=>k _ o (IK n7) e),?_];rcases zz with ⟨J,a,b,ho⟩ | ⟨T,f,oT,J,hT,t1,t2,t3,t4,t5⟩
  .exact .inl #[k _ _ (IK n1) J,a,b,k _ _ (IK n3) ho]
  .exact .inr #[T,f,oT,k _ _ (IK n1) J,k _ _ t5 hT,t1,t2,t3,t4,t5]
 pay:=fun i v h h' p k=>by
  obtain⟨a,x,y,e,ha,na,hx,hy,q⟩:=p;refine#[a,x,y,e,ha,na,hx,hy,k _ _ na (fun hb=>?_) q];exact absurd (IJ (top a hb) ha) (JB _)
 self:=fun A s Q E st Y=>by
  have tz:s.TypeIs (.ref z) "zip":= by
   rcases st.zz with ⟨J,_⟩ | ⟨T,f,oT,J,_⟩ <;> exact#[_,J,rfl]
  refine Ni tz Lc (Jy Lc tz Nj ?_ (Nk _));show wpAny _ _ (ret (.ref z)) _ _ s;exact iR #[_,rfl, "zip",_,tz,Jz.lookup,Y]
 out:=fun h=>hS (by
  simp only[IH,Jq,Jr] at h ⊢;rcases h with h | h | h | h <;> simp[h])
def V6 (t:Bool) (l:Addr):Obj:={ cls:=.type (if t then "tuple_iterator" else "list_iterator"),data:=.fields #v[.ref l,.int 0 0] }
def RwB (t:Bool) (h:Heap) (l:Addr) (xs:vR_):Prop:=if t then h.IsTuple l xs else h.IsList l xs
section
variable {w:World}
def pU {t:Bool}{l:Addr}{xs:vR_}{Q:vQ_}(h:RwB t s.heap l xs) (J:Q (.ref s.heap.objs.size) { s with heap:=s.heap.push (V6 t l) }):wpAny (model prog w) A (pyIter (.ref l)) Q E s:=by
 cases t with
 |true=>exact wpAny_pyIter_tuple h J
 |false=>exact wpAny_pyIter_list h J
end
abbrev jz (h:Heap) (t1:Bool) (l1:Addr):Heap:=h.push (V6 t1 l1)
abbrev gD (h:Heap) (t1 t2:Bool) (l1 l2:Addr):Heap:=(jz h t1 l1).push (V6 t2 l2)
abbrev gv (h:Heap) (t1 t2:Bool) (l1 l2:Addr):Heap:=(gD h t1 t2 l1 l2).push { cls:=.type "tuple",data:=.seq #v[.ref h.objs.size,.ref (jz h t1 l1).objs.size] }
abbrev jH (h:Heap) (t1 t2:Bool) (l1 l2:Addr):Heap:=(gv h t1 t2 l1 l2).push { cls:=.type "tuple",data:=.seq #v[.none,.none] }
abbrev aO (h:Heap) (t1 t2:Bool) (l1 l2:Addr):Heap:=(jH h t1 t2 l1 l2).push { cls:=.type "zip",data:=.fields #v[.none,.bool false,.bool false,.ref (gD h t1 t2 l1 l2).objs.size,.ref (gv h t1 t2 l1 l2).objs.size] }
theorem RwB.push {t:Bool}{l:Addr}{xs:vR_}(x:RwB t h l xs) (o:Obj):RwB t (h.push o) l xs:=by
 cases t with
 |true=>exact Heap.IsTuple.push x o
 |false=>exact Heap.IsList.push x o
def Cu (J U:Bool) (l1 l2:Addr) (xs ys:vR_) :
  Meets (Builtin.«zip.__new__» #[[.type "zip",.ref l1,.ref l2],[]]) (fun _ R s=>RwB J s.heap l1 xs/\RwB U s.heap l2 ys /\
   R (.ok (.ret (.ref (jH s.heap J U l1 l2).objs.size))) { s with heap:=aO s.heap J U l1 l2 }):=
 .of_wp fun prog w A R s h=>by
  obtain⟨hp,g,d,tk,os⟩:=s;obtain⟨hl1,hl2,h⟩:=h;have hsub:=sub_zip;have hL1:RwB J (Shared.heap #[hp,g,d,tk,os]) l1 xs:=hl1;have Y:RwB U (Shared.heap #[hp.push (V6 J l1),g,d,tk,os]) l2 ys:=RwB.push hl2 _
  wp_walk using pU hL1,pU Y
  exact#[_,rfl,h]
section
variable {w:World}
def RwB.it {t:Bool}{i l:Addr}{xs:vR_}(x:RwB t h l xs) (e:h.get? i=some (V6 t l)):RwIt h i l xs 0:=by
 cases t with
 |true=>exact .inr #[#[_,e,rfl,rfl],x]
 |false=>exact .inl #[#[_,e,rfl,rfl],x]
def RwB.at {t:Bool}{l:Addr}{xs:vR_}(x:RwB t h l xs) (e:∀o,h.get? l=some o->h'.get? l=some o):RwB t h' l xs:=by
 cases t with
 |true=>obtain⟨o,q,r⟩:=x;exact#[o,e o q,r]
 |false=>obtain⟨o,q,r⟩:=x;exact#[o,e o q,r]
def RwB.lt {t:Bool}{l:Addr}{xs:vR_}(x:RwB t h l xs):l<h.objs.size:=by
 cases t with
 |true=>obtain⟨o,q,r⟩:=x;exact xl q
 |false=>obtain⟨o,q,r⟩:=x;exact xl q
def qP (h:Heap) (m:Nat) (xs ys:vR_):Prop:=∃l1 l2,ZipApart (m+4) (m+2) (m+3) m (m+1) l1 l2/\l1<m/\l2<m/\h.objs.size=m+5/\∀S,m+5<=S->ZSt h (m+4) (m+2) (m+3) m (m+1) l1 l2 S xs ys 0
def zf (h:Heap) (m:Nat) (J U:Bool) (l1 l2:Addr):Prop:=ZipApart (m+4) (m+2) (m+3) m (m+1) l1 l2/\h.get? m=some (V6 J l1)/\h.get? (m+1)=some (V6 U l2)/\IsPair h (m+2) (.ref m) (.ref (m+1))/\D9 h (m+4) (m+2) (m+3) .none (.bool false)/\∃a b,IsPair h (m+3) a b
def oi {J U:Bool}{xs ys:vR_}{Q:vQ_}(h1:RwB J s.heap l1 xs) (h2:RwB U s.heap l2 ys)
  (h:∀h',qP h' s.heap.objs.size xs ys->(∀c o,s.heap.get? c=some o->h'.get? c=some o)->zf h' s.heap.objs.size J U l1 l2->Q (.ref (s.heap.objs.size+4)) { s with heap:=h' }) :
  wpAny (model prog w) A (call (.type "zip") [.ref l1,.ref l2]) Q E s:=by
 refine callType_new PySem.F.called_zip #[] (PySem.F.typeCall_zip_2 _ _) (PySem.F.newCall_zip_2 _ _) (fun obj=>PySem.F.args_object_init_3 obj _ _) PySem.F.entry_zip_new
  (Cu J U l1 l2 xs ys) #[h1,h2,?_]
 have z1:(jz s.heap J l1).objs.size=s.heap.objs.size+1:=KA ..;have z2:(gD s.heap J U l1 l2).objs.size=s.heap.objs.size+2:=by rw[KA,z1]
 have z3:(gv s.heap J U l1 l2).objs.size=s.heap.objs.size+3:=by rw[KA,z2]
 have z4:(jH s.heap J U l1 l2).objs.size=s.heap.objs.size+4:=by rw[KA,z3]
 have z5:(aO s.heap J U l1 l2).objs.size=s.heap.objs.size+5:=by rw[KA,z4]
 have fr:∀t l,(V6 t l).isFreed=false:=fun t l=>rfl
 have Y:(aO s.heap J U l1 l2).get? (jH s.heap J U l1 l2).objs.size=some _:=Jk _ rfl;have g4:(aO s.heap J U l1 l2).get? (gv s.heap J U l1 l2).objs.size=some _:=xu _ (Jk _ rfl);have g3:(aO s.heap J U l1 l2).get? (gD s.heap J U l1 l2).objs.size=some _:=xu _ (xu _ (Jk _ rfl));have g2:(aO s.heap J U l1 l2).get? (jz s.heap J l1).objs.size=some (V6 U l2):=xu _ (xu _ (xu _ (Jk _ (fr _ _))));have g1:(aO s.heap J U l1 l2).get? s.heap.objs.size=some (V6 J l1):=xu _ (xu _ (xu _ (xu _ (Jk _ (fr _ _)))));show _/\_;rw[z2,z3,z4] at Y;rw[z1,z2] at g3;rw[z3] at g4;rw[z1] at g2;rw[z4];have up:∀c o,s.heap.get? c=some o->(aO s.heap J U l1 l2).get? c=some o:=fun c o x=>
  xu _ (xu _ (xu _ (xu _ (xu _ x))))
 refine#[#[_,Y,rfl],h _ #[l1,l2,Od h1.lt h2.lt,h1.lt,h2.lt,z5,fun S hS=>#[g3,(h1.at fun o e=>up _ o e).it g1,(h2.at fun o e=>up _ o e).it g2,.inl #[Y,_,_,g4]]] up #[Od h1.lt h2.lt,g1,g2,g3,Y,_,_,g4]]
structure LZ (h h':Heap) (S:Addr) (xs ys:vR_) (as:vL_) (c:Nat):Prop where
 keep:∀b o,h.get? b=some o->h'.get? b=some o
 low:h.objs.size<=S
 lst:aN h' S (as.map Value.ref).toArray c
 len:as.length=min xs.size ys.size
 new:∀a∈as,h.objs.size<=a/\a≠S
 nd:as.Nodup
 at':∀(j:Nat) a,as[j]? = some a->∃x y,xs[j]? = some x/\ys[j]? = some y/\IsPair h' a x y
def yt {P:Nat->Value->Heap->Prop}{J:vR_}(g:ez P h J n) (hp:∀j v,P j v h->∃a,v = .ref a):∃as:List Addr,J=(as.map Value.ref).toArray:=by
 have:∀l:List Value,(∀v∈l,∃a,v=Value.ref a)->∃as:List Addr,l=as.map Value.ref:=by
  intro l;induction l with
  |nil=>exact fun _=>#[[],rfl]
  |cons v r Y=>
   intro U;obtain⟨a,e⟩:=U v (.head _);obtain⟨as,e'⟩:=Y fun u hu=>U u (.tail _ hu)
   exact#[a::as,by rw[e,e'];rfl]
 obtain⟨as,e⟩:=this J.toList fun v U=>by
  obtain⟨j,hj⟩:=Mm.mp U;exact hp j v (g.2.1 j v (by simpa using hj))
 exact#[as,by rw[<-e,Array.toArray_toList]]
def Il {m:Nat}{h₀:Heap}{xs ys:vR_}{Q:vQ_}(hh:A.handled=none) (Z:qP s.heap m xs ys) (k₀:∀c o,h₀.get? c=some o->s.heap.get? c=some o) (hm:h₀.objs.size=m) (hn:xs.size<=sizeLine)
  (hQ:∀S h' as c,LZ h₀ h' S xs ys as c->Q (.ref S) { s with heap:=h' }):wpAny (model prog w) A (call (.type "list") [.ref (m+4)]) Q E s:=by
 obtain⟨l1,l2,D,b1,b2,sz,st⟩:=Z;have J:=st s.heap.objs.size ∅;have tz:s.TypeIs (.ref (m+4)) "zip":= by
  rcases J.zz with ⟨hz,_⟩ | ⟨T,f,oT,hz,_⟩ <;> exact#[_,hz,rfl]
 refine Bw (T := "zip") (GZ (A:=A.in1.in1) hh D (show (m+3:Nat)<s.heap.objs.size by omega) (by
  simp only[IH,Jq,Jr,not_or];have ms:m<=s.heap.objs.size:=by omega
  exact#[show (s.heap.objs.size:Nat)≠m+4 by omega,show (s.heap.objs.size:Nat)≠m+2 by omega,show (s.heap.objs.size:Nat)≠m+3 by omega,show (s.heap.objs.size:Nat)≠m by omega,show (s.heap.objs.size:Nat)≠m+1 by omega,
   Jx (IJ b1 ms),Jx (IJ b2 ms)]) (by
  simp only[IH,Jq,Jr];intro b hb;have Y:∀j,j<=4->m+j<s.heap.objs.size:=fun j _=>by omega
  rcases hb with e | e | e | e
  .rw[e];exact Y 4 ∅
  .rw[e];exact Y 3 ∅
  .rw[e];exact Y 0 ∅
  .rw[e];exact Y 1 ∅)) (xr (Mn ..) hn) tz #[] #[] xx zZ J fun h' acc c k l g=>?_
 obtain⟨as,ea⟩:=yt g fun j v ⟨a,_,_,e,_⟩=>#[a,e]
 subst ea;refine hQ _ h' as c #[fun b o e=>k b o (fun hb=>?_) (k₀ b o e),by omega,l,by simpa using g.1,fun a ha=>?_,?_,fun j a e=>?_]
 .have U:b<m:=hm▸xl e;simp only[IH,Jq,Jr] at hb;have up:∀j:Nat,¬ (m+j<m):=fun j=>by omega
  rcases hb with e | e | e | e
  .exact up 4 (e▸U)
  .exact up 3 (e▸U)
  .exact up 0 (e▸U)
  .exact up 1 (e▸U)
 .obtain⟨j,hj⟩:=Mm.mp ha;obtain⟨a',x,y,e,q1,q2,_⟩:=g.2.1 j (.ref a) (by simp[hj]);cases e;exact#[xr (show (h₀.objs.size:Nat)<=s.heap.objs.size by omega) q1,q2]
 .have nd:=g.2.2;simp only[List.toList_toArray] at nd;exact(List.pairwise_map.mp nd).imp fun h e=>h (by rw[e])
 .obtain⟨a',x,y,e',q1,q2,q3,q4,q5⟩:=g.2.1 j (.ref a) (by simp[e]);cases e';exact#[x,y,q3,q4,q5]
end
def P9 (H:Hp):List (Addr × List V)->Hp
 |[]=>H
 |(a,p)::r=>i6 (P9 H r) a (.tup p)
theorem eL:∀{ps:List (Addr × List V)}{b:Addr},(∀q∈ps,q.1≠b)->P9 H ps b=H b
 |[],b,h=>rfl
 |(a,p)::r,b,h=>by
  show i6 (P9 H r) a (.tup p) b=H b;rw[j6 (IK (h _ (.head _)))];exact eL fun q J=>h q (.tail _ J)
theorem qQ:∀{ps:List (Addr × List V)}{b:Addr}{u:HO},P9 H ps b=some u->(∃p,(b,p)∈ps/\u = .tup p)\/H b=some u
 |[],b,u,h=>.inr h
 |(a,p)::r,b,u,h=>by
  replace h:i6 (P9 H r) a (.tup p) b=some u:=h
  by_cases J:b=a
  .subst J;rw[B0] at h;cases h;exact .inl #[p,.head _,rfl]
  .rw[j6 J] at h;rcases qQ h with ⟨p',q,e⟩ | e
   .exact .inl #[p',.tail _ q,e]
   .exact .inr e
theorem qS:∀{ps:List (Addr × List V)}{b:Addr}{p:List V},(ps.map (·.1)).Nodup->(b,p)∈ps->P9 H ps b=some (.tup p)
 |(a,p')::r,b,p,nd,h=>by
  show i6 (P9 H r) a (.tup p') b=_;rcases IH.mp h with e | h
  .cases e;exact B0
  .have J:=Jv.mp nd;have U:b≠a:=fun e=>J.1 (e▸IW.mpr #[(b,p),h,rfl])
   rw[j6 U];exact qS J.2 h
def Bj {fs ex:vL_}(k:∀b u,h.get? b=some u->h'.get? b=some u) (U:∀b,b<h.objs.size->H' b=H b) (J:∀b u,H b=some u->H' b=some u):Un fs ex H H' h h' where
 keep:=fun b u q _ _ _=>k b u q
 slot:=fun b u q _ _ _=>#[u.slots,k b u q]
 free:=fun b u q n _=>by rw[U b (xl q)];exact n
 there:=fun b u q _=>#[u,k b u q]
 tups:=fun b xs q=>J b _ q
 frzs:=fun b u xs q=>J b _ q
 tbls:=fun b ps q=>#[#v[],by rw[J b _ q];simp]
def E2 (xs ys:List V):List (List V):=List.zipWith (fun x y=>[x,y]) xs ys
def yi {p:List V}(e:(E2 xs ys)[j]? = some p):∃x y,xs[j]? = some x/\ys[j]? = some y/\p=[x,y]:=by
 unfold E2 at e;rw[Oe] at e;cases J:xs[j]? with
 |none=>rw[J] at e;simp at e
 |some x=>
  cases U:ys[j]? with
  |none=>rw[J,U] at e;simp at e
  |some y=>rw[J,U] at e;simp at e;exact#[x,y,rfl,rfl,e.symm]
def Sq (K:vF_) (H:Hp) (a:Addr) (xs:List V):Prop:=SqL K H a xs\/SqT K H a xs
def uf (K:vF_):List V->Hp->VK->Prop:=fun vs H Q=>∃p q xs ys,vs=[.ref p,.ref q]/\Sq K H p xs/\Sq K H q ys /\
 ∀S as,(S::as).Nodup->(∀a∈S::as,H a=none)->as.length=(E2 xs ys).length->Q (.ref S) (i6 (P9 H (as.zip (E2 xs ys))) S (.lst (as.map V.ref)))
def sF (I:Inv X pins σ H s) (h:Sq X.K H p xs):∃(t:Bool) (its:vV_),Vals xs its/\RwB t s.heap p its.toArray/\xs.length<=sizeLine:=by
 rcases h with h | h
 .obtain⟨its,r,⟨o,n,e,c,_,d⟩,z⟩:=I.list h;exact#[false,its,r,#[o,e,c,n,d],z]
 .obtain⟨its,r,⟨o,e,c,n,d⟩,z⟩:=I.tuple h;exact#[true,its,r,#[o,e,c,n,d],z]
def pO {J:vL_}{ps:List (List V)}(h:J.length=ps.length):(J.zip ps).map (·.1)=J:=by
 rw[List.map_fst_zip ∅]
def Inv.lz {it jt:vV_}{S:Addr}{J:vL_}{c:Nat}(I:Inv X pins σ H s) (rx:Vals xs it) (ry:Vals ys jt) (zx:xs.length<=sizeLine) (Z:LZ s.heap h' S it.toArray jt.toArray J c) :
  (S::J).Nodup/\(∀a∈S::J,H a=none)/\J.length=(E2 xs ys).length/\Inv X pins σ (i6 (P9 H (J.zip (E2 xs ys))) S (.lst (J.map V.ref))) { s with heap:=h' }:=by
 have hl:J.length=(E2 xs ys).length:=by
  have e:=Z.len;simp only[IU] at e;rw[e,E2,Nl,rx.length,ry.length]
 have fr:∀a∈S::J,s.heap.objs.size<=a:=fun a U=>by
  rcases IH.mp U with e | e
  .rw[e];exact Z.low
  .exact(Z.new a e).1
 have nn:∀a∈S::J,H a=none:=fun a U=>I.hok.fresh (fr a U)
 have nd:(S::J).Nodup:=Jv.mpr #[fun h=>(Z.new S h).2 rfl,Z.nd];have ky:=pO hl;have ndz:((J.zip (E2 xs ys)).map (·.1)).Nodup:=by rw[ky];exact Z.nd
 have Y:∀q∈J.zip (E2 xs ys),q.1∈J:=fun q hq=>(Kw hq).1
 refine#[nd,nn,hl,?_];have hs:∀b u,H b=some u->i6 (P9 H (J.zip (E2 xs ys))) S (.lst (J.map V.ref)) b=some u:=fun b u e=>by
  have n:∀a∈S::J,a≠b:=fun a U z=>by rw[z] at U;rw[nn b U] at e;cases e
  rw[j6 (IK (n S (.head _))),eL fun q hq=>n _ (.tail _ (Y q hq))];exact e
 refine I.un (t':=s.toks) (Bj Z.keep (fun b hb=>?_) hs) fun b u e=>?_
 .have n:∀a∈S::J,a≠b:=fun a U z=>absurd (IJ hb (z▸fr a U)) (JB _)
  rw[j6 (IK (n S (.head _))),eL fun q hq=>n _ (.tail _ (Y q hq))]
 .by_cases hb:b=S
  .subst hb;rw[B0] at e;cases e;refine#[?_,J.map Value.ref,c,?_,Z.lst]
   .rw[td,hl,E2,Nl];exact xr (Mn ..) zx
   .have:∀l:List Addr,Vals (l.map V.ref) (l.map Value.ref):=fun l=>by
     induction l with
     |nil=>exact .nil
     |cons a r ih=>exact .cons rfl ih
    exact this J
  .rw[j6 hb] at e;rcases qQ e with ⟨p,hp,rfl⟩ | e0
   .obtain⟨j,hj⟩:=Mm.mp hp;obtain⟨U,hpj⟩:=Ld.mp hj;obtain⟨x,y,ex,ey,rfl⟩:=yi hpj;obtain⟨x',y',ex',ey',q⟩:=Z.at' j b U;obtain⟨u1,f1,g1⟩:=rx.get ex;obtain⟨u2,f2,g2⟩:=ry.get ey;have e1:u1=x':=by simpa [f1] using ex'
    have e2:u2=y':=by simpa [f2] using ey'
    subst e1;subst e2;exact#[show 2<=sizeLine by decide,[u1,u2],.cons g1 (.cons g2 .nil),#[_,q,rfl,_,rfl]]
   .exact(I.hok b u e0).stay (fun c v _ q=>Z.keep c v q) (fun c q=>hs c _ q) fun c xs q=>hs c _ q
section
variable {p p':Pos}{t:TA}
def GT (hc:X.calm=true) (hgl:Gl X "list") (hml:X.mg "list" = none) (Y:Gl X "zip") (hmz:X.mg "zip" = none) (ha:PA X (e::es) t)
  (he:starEach (e::es) X.env=(false,eval e X.env)::starEach es X.env:=by rfl) (hpl:(backTo pos' (starEach es X.env)).any (·.1)=false:=by rfl)
  (U:starEach [.Call (.Name "zip" p') (e::es) [] pos'] X.env=[(false,eval (.Call (.Name "zip" p') (e::es) [] pos') X.env)]:=by rfl) :
  PE X (.Call (.Name "list" p) [.Call (.Name "zip" p') (e::es) [] pos'] [] pos) (cX (uf X.K) t):=by
 intro pins s σ H Q I h;refine Kh (aK I hgl hml (show bootBuiltins ("list" : Str)=some (.type "list") by decide +kernel) ?_ #[] #[]);refine KR ?_ U rfl;rw[U];show wpAny _ _ (spliced [(false,eval (.Call (.Name "zip" p') (e::es) [] pos') X.env)]) _ _ s;refine Calls.spliced_cons ?_;refine Kh (aK I Y hmz (show bootBuiltins ("zip" : Str)=some (.type "zip") by decide +kernel) ?_ #[] #[]);refine KR (l4 (ha pos' pins s σ H _ I h) fun us s1 ⟨vs,H1,I1,J,q1⟩=>?_) he hpl;obtain⟨a,b,xs,ys,rfl,qa,qb,k⟩:=q1;obtain⟨u1,u2,rfl,e1,e2⟩:∃u1 u2,us=[u1,u2]/\u1=Value.ref a/\u2=Value.ref b:=by
  cases J with
  |cons h1 J=>
   cases J with
   |cons h2 J=>cases J;exact#[_,_,rfl,h1,h2]
 subst e1;subst e2;obtain⟨ta,it,rx,wa,za⟩:=sF I1 qa;obtain⟨tb,jt,ry,wb,zb⟩:=sF I1 qb;refine oi wa wb fun h1 Z1 k1 _=>?_
 refine Calls.spliced_nil ?_;refine Il (h₀:=s1.heap) (I.ok.hd hc) Z1 k1 rfl (by simpa [<-rx.length] using za) fun S h2 as c Z=>?_
 obtain⟨nd,nn,hl,I2⟩:=Inv.lz I1 rx ry za Z;exact#[.ref S,_,I2,rfl,k S as nd nn hl]
end
def T3:D->Option (List D)
 |.tup ds=>some ds
 |.lst ds=>some ds
 |_=>none
def O8 (x y:D):D:=.tup [x,y]
def bN:List D->Option (List D)
 |[a,b]=>(T3 a).bind fun xs=>(T3 b).map fun ys=>List.zipWith O8 xs ys
 |_=>none
theorem pD {K:vF_}{s:DS}(I:GI K g σ H fa O s):∀(ps:List (Addr × List V)),(ps.map (·.1)).Nodup->(∀q∈ps,H q.1=none)->GI K g σ (P9 H ps) fa O s/\StE fa O H fa O (P9 H ps)
 |[],_,_=>#[I,StE.refl]
 |(a,p)::r,nd,h=>by
  have J:=Jv.mp nd;obtain⟨I1,s1⟩:=pD I r J.2 fun q U=>h q (.tail _ U)
  have Y:P9 H r a=none:=by
   rw[eL fun q U z=>J.1 (IW.mpr #[q,U,z])];exact h _ (.head _)
  exact#[I1.new Y,s1.trans (D6 Y)]
theorem sQ {K:vF_}:∀{ds es:vD_}{xs ys:List V}{as:vL_},Reps K N fa H ds xs->Reps K N fa H es ys->as.length=(E2 xs ys).length->(∀q∈as.zip (E2 xs ys),H q.1=some (.tup q.2)) ->
  Reps K N fa H (List.zipWith O8 ds es) (as.map V.ref)
 |[],es,xs,ys,as,h,q,l,k=>by
  simp only[Reps] at h;subst h;simp only[E2,Of,Kn] at l;rw[Nm l];simp only[Of,KY,Reps]
 |d::r,[],xs,ys,as,h,q,l,k=>by
  simp only[Reps] at q;subst q;simp only[E2,Og,Kn] at l;rw[Nm l];simp only[Og,KY,Reps]
 |d::r,e::f,xs,ys,as,h,q,l,k=>by
  simp only[Reps] at h q;obtain⟨x,J,rfl,h1,h2⟩:=h;obtain⟨y,U,rfl,q1,Y⟩:=q;cases as with
  |nil=>simp[E2] at l
  |cons a as=>
   have hz:(a::as).zip (E2 (x::J) (y::U))=(a,[x,y])::as.zip (E2 J U):=rfl;rw[hz] at k;simp only[Nn,Js,Reps];refine#[_,_,rfl,?_,sQ h2 Y (by simpa [E2] using l) fun q hq=>k q (.tail _ hq)];simp only[O8,Rep,Reps];exact#[a,[x,y],rfl,SqT.of (k _ (.head _)),x,[y],rfl,h1,y,[],rfl,q1,rfl]
def uY {K:vF_}{v:V}(r:RepB K N fa H d v) (e:T3 d=some ds):∃a xs,v = .ref a/\Sq K H a xs/\Reps K N fa H ds xs:=by
 cases d with
 |tup es=>
  cases e;simp only[RepB,Rep] at r;obtain⟨a,ys,rfl,q,w⟩:=r;exact#[a,ys,rfl,.inr q,w]
 |lst es=>
  cases e;obtain⟨a,ys,rfl,_,q,w⟩:=r;exact#[a,ys,rfl,.inl (SqL.of q),w]
 |_=>cases e
def Bq {K:vF_}:uh K (uf K) bN:=by
 intro g σ H fa O s xs ds es Q I rs e k
 match ds,e with
 |[d1,d2],e=>
  refine X3 (show (T3 d1).bind (fun xs=>(T3 d2).map fun ys=>List.zipWith O8 xs ys)=some es from e) fun xs1 e1 e=>?_
  refine N6 e fun ys1 e2 e=>?_
  subst e;simp only[Y2] at rs;obtain⟨x,zs,rfl,r1,y,zs',rfl,r2,rfl⟩:=rs;obtain⟨a,vs,rfl,q1,w1⟩:=uY r1 e1;obtain⟨b,us,rfl,q2,w2⟩:=uY r2 e2;refine#[a,b,vs,us,rfl,q1,q2,fun S U nd nn hl=>?_];have Y:=Jv.mp nd;have ky:=pO hl;have kin:∀q∈U.zip (E2 vs us),q.1∈U:=fun q J=>(Kw J).1
  have ndz:((U.zip (E2 vs us)).map (·.1)).Nodup:=by rw[ky];exact Y.2
  obtain⟨I1,s1⟩:=pD I (U.zip (E2 vs us)) ndz fun q J=>nn _ (.tail _ (kin q J))
  have hS:P9 H (U.zip (E2 vs us)) S=none:=by
   rw[eL fun q J (z:q.1=S)=>Y.1 (by rw[<-z];exact kin q J)];exact nn S (.head _)
  have rp:=sQ (Reps.stp I s1.stp w1) (Reps.stp I s1.stp w2) hl fun q J=>qS (b:=q.1) (p:=q.2) ndz J
  exact k S (U.map V.ref) _ (s1.trans (D6 hS)) (bB I1 hS rp) (nn S (.head _))
section
variable {p p':Pos}{t:DA}
def tG (hc:X.calm=true) (hgl:Gl X "list") (U:X.mg "list" = none) (J:Gl X "zip") (hmz:X.mg "zip" = none) (ha:BAO X g (e::es) t)
  (he:starEach (e::es) X.env=(false,eval e X.env)::starEach es X.env:=by rfl) (hpl:(backTo pos' (starEach es X.env)).any (·.1)=false:=by rfl)
  (Y:starEach [.Call (.Name "zip" p') (e::es) [] pos'] X.env=[(false,eval (.Call (.Name "zip" p') (e::es) [] pos') X.env)]:=by rfl) :
  FO X g (.Call (.Name "list" p) [.Call (.Name "zip" p') (e::es) [] pos'] [] pos) (cz bN t):=
 FO.w (GT hc hgl U J hmz ha.pe he hpl Y) (Cm Bq)
end
section
variable {px py pp:Pos}{kt:Nat}
def jr (hc:X.calm=true) (k:CompOk X scope cl (x::y::caps) 2 idx) (hi:IO X g (.Tuple [.Name x px,.Name y py] kt pp) iter fi) (J:(x::y::caps).Nodup)
  (Y:∀C s0 H0 ex,(m7 X (x::y::caps) scope cl C s0 H0 ex).env.scope.names.lookup x=some .local) (U:∀C s0 H0 ex,(m7 X (x::y::caps) scope cl C s0 H0 ex).env.scope.names.lookup y=some .local)
  (ht:∀C s0 H0 ex g',Z6 (m7 X (x::y::caps) scope cl C s0 H0 ex) g' ifs fc) (he:∀C s0 H0 ex g',EO (m7 X (x::y::caps) scope cl C s0 H0 ex) g' elt fe) (hs:∀x,foldedSetIterable iter X.env x=pure x:=by intro _;rfl) :
  FO X g (.ListComp elt [#[.Tuple [.Name x px,.Name y py] kt pp,iter,ifs,0]] scope pos) (Q0 idx fi fc fe):=
 GX (G:=iQ X.K 2 (aW (P1 0) (aW (P1 1) iJ))) hc k hi (fun C s0 H0 ex=>jP (X:=m7 X (x::y::caps) scope cl C s0 H0 ex) (n:=2) hc (bn (X:=m7 X (x::y::caps) scope cl C s0 H0 ex) (L9 (X:=m7 X (x::y::caps) scope cl C s0 H0 ex) (i:=0) J rfl (Or.inl (Y C s0 H0 ex)) (Or.inr (Y C s0 H0 ex))) (bn (X:=m7 X (x::y::caps) scope cl C s0 H0 ex) (L9 (X:=m7 X (x::y::caps) scope cl C s0 H0 ex) (i:=1) J rfl (Or.inl (U C s0 H0 ex)) (Or.inr (U C s0 H0 ex))) jd)))
  (fun a x y σ H Q h q=>#[a,[x,y],rfl,h,rfl,x,[y],rfl,y,[],rfl,rfl,q]) ht he hs
end
def PC (X:Cx) (e:Expr) (te:TE):Prop:=∀(i:Nat) (y:Str) (py spos:Pos),X.N.Nodup->X.N[i]? = some y->X0 X.env.scope y->swapsWith e (some (.Name y py)) spos.line X.env=pure true->(X.fn y=true\/X.env.scope.names.lookup y=some .local)->PS X (.Assign [.Name y py] e spos) (fN te (P1 i))
structure CO (X:Cx) (g:Gh) (e:Expr) (f:DA):Prop where
 pe:PC X e (liftF X.K g f)
theorem CO.w {t:TE}(h:PC X e t) (w:∀σ H Q,liftF X.K g f σ H Q->t σ H Q):CO X g e f:=
 #[fun i y py J h1 h2 Y h4 U pins s σ H D I q=>h i y py J h1 h2 Y h4 U pins s σ H D I (w σ H _ q)]
def sK (hc:X.calm=true) (k:CompOk X scope cl N' 1 idx) (hi:IO X g tg iter fi) (hg:∀C s0 H0 ex,PG (m7 X N' scope cl C s0 H0 ex) tg (P1 0))
  (ht:∀C s0 H0 ex g',Z6 (m7 X N' scope cl C s0 H0 ex) g' ifs fc) (he:∀C s0 H0 ex g',EO (m7 X N' scope cl C s0 H0 ex) g' elt fe) (hs:∀x,foldedSetIterable iter X.env x=pure x:=by intro _;rfl) :
  CO X g (.ListComp elt [#[tg,iter,ifs,0]] scope pos) (K2 idx fi fc fe):=
 CO.w (fun i y py J h1 h2 Y h4 U=>vK (tc:=fun σ H Q=>∃g',liftT X.K g' fc σ H Q) (te:=fun σ H Q=>∃g',liftE X.K g' fe σ H Q) h1 h2 Y hc k hi.pe hg (fun C s0 H0 ex pins s σ H Q I ⟨g',h⟩=>ht C s0 H0 ex g' pins s σ H Q I h) (fun C s0 H0 ex pins s σ H Q I ⟨g',h⟩=>(he C s0 H0 ex g').pe pins s σ H Q I h) hs h4 U) (om k)
def yL {G:TG}(hc:X.calm=true) (k:CompOk X scope cl N' 2 idx) (hi:IO X g tg iter fi) (hg:∀C s0 H0 ex,PG (m7 X N' scope cl C s0 H0 ex) tg G)
  (U:∀(a:Addr) (x y:V) (σ:L2.St) (H:Hp) (Q:L2.St->Hp->Prop),SqT X.K H a [x,y]->Q ((σ.set 0 (some x)).set 1 (some y)) H->G (.ref a) σ H Q)
  (ht:∀C s0 H0 ex g',Z6 (m7 X N' scope cl C s0 H0 ex) g' ifs fc) (he:∀C s0 H0 ex g',EO (m7 X N' scope cl C s0 H0 ex) g' elt fe) (hs:∀x,foldedSetIterable iter X.env x=pure x:=by intro _;rfl) :
  CO X g (.ListComp elt [#[tg,iter,ifs,0]] scope pos) (Q0 idx fi fc fe):=
 CO.w (fun i y py J h1 h2 h3 h4 Y=>vK (tc:=fun σ H Q=>∃g',liftT X.K g' fc σ H Q) (te:=fun σ H Q=>∃g',liftE X.K g' fe σ H Q) h1 h2 h3 hc k hi.pe hg (fun C s0 H0 ex pins s σ H Q I ⟨g',h⟩=>ht C s0 H0 ex g' pins s σ H Q I h) (fun C s0 H0 ex pins s σ H Q I ⟨g',h⟩=>(he C s0 H0 ex g').pe pins s σ H Q I h) hs h4 Y) (tW k U)
def lY {e:Expr}{i:Nat}{x:Str}{f:DA}{pos':Pos}(hN:X.N.Nodup) (hi:X.N[i]? = some x) (hx:X0 X.env.scope x) (he:CO X g e f) (hs:swapsWith e (some (.Name x pos')) pos.line X.env=pure true:=by rfl) (hf:X.fn x=true\/X.env.scope.names.lookup x=some .local:=by first | exact .inl rfl | exact .inr rfl | assumption) :
  SO X g (.Assign [.Name x pos'] e pos) (B8 i f):=SO.w (he.pe i x pos' pos hN hi hx hs hf) fun E σ H hQ=>by
 refine hQ.elim fun fa O s fl s' I q k=>?_
 refine o8 q fun ds s1 h1 h2=>?_
 by_cases U:i<s1.sl.length
 .simp only[] at h2;rw[iO U] at h2;cases h2;refine#[fa,O,s,ds,s1,I,h1,fun p xs H1 f1 O1 J L Y=>?_];have np:p ∉ O1:=fun z=>by
   obtain⟨ys,e⟩:=I.owned (J.sub p z);rw[Y] at e;cases e
  obtain⟨P,sub,I'⟩:=L.put i U (I.st.mon p Y) np;refine k _ H1 f1 P #[fun b hb=>?_,J.fe,fun b u e _ n=>J.same b u e n,J.mon] I';rcases sub b hb with y | y
  .exact .inr (by rw[y];exact Y)
  .exact .inl (J.sub b y)
 .simp only[] at h2;rw[iU U] at h2;cases h2
section
variable {px py pp:Pos}{kt:Nat}
def HU (hc:X.calm=true) (k:CompOk X scope cl (x::y::caps) 2 idx) (hi:IO X g (.Tuple [.Name x px,.Name y py] kt pp) iter fi) (J:(x::y::caps).Nodup)
  (Y:∀C s0 H0 ex,(m7 X (x::y::caps) scope cl C s0 H0 ex).env.scope.names.lookup x=some .local) (U:∀C s0 H0 ex,(m7 X (x::y::caps) scope cl C s0 H0 ex).env.scope.names.lookup y=some .local)
  (ht:∀C s0 H0 ex g',Z6 (m7 X (x::y::caps) scope cl C s0 H0 ex) g' ifs fc) (he:∀C s0 H0 ex g',EO (m7 X (x::y::caps) scope cl C s0 H0 ex) g' elt fe) (hs:∀x,foldedSetIterable iter X.env x=pure x:=by intro _;rfl) :
  CO X g (.ListComp elt [#[.Tuple [.Name x px,.Name y py] kt pp,iter,ifs,0]] scope pos) (Q0 idx fi fc fe):=
 yL (G:=iQ X.K 2 (aW (P1 0) (aW (P1 1) iJ))) hc k hi (fun C s0 H0 ex=>jP (X:=m7 X (x::y::caps) scope cl C s0 H0 ex) (n:=2) hc (bn (X:=m7 X (x::y::caps) scope cl C s0 H0 ex) (L9 (X:=m7 X (x::y::caps) scope cl C s0 H0 ex) (i:=0) J rfl (Or.inl (Y C s0 H0 ex)) (Or.inr (Y C s0 H0 ex))) (bn (X:=m7 X (x::y::caps) scope cl C s0 H0 ex) (L9 (X:=m7 X (x::y::caps) scope cl C s0 H0 ex) (i:=1) J rfl (Or.inl (U C s0 H0 ex)) (Or.inr (U C s0 H0 ex))) jd)))
  (fun a x y σ H Q h q=>#[a,[x,y],rfl,h,rfl,x,[y],rfl,y,[],rfl,rfl,q]) ht he hs
end
end DL
namespace L2
open PySem PySem.Spec PyProof.Rows
section
variable {σ:List (Option V)}
def Inv.turned2 {t':Nat}{b:Addr}(I:Inv X pins σ H s) (k:∀c o,c≠a->c≠b->s.heap.get? c=some o->h'.get? c=some o) (fa:M7 X pins H a) (fb:M7 X pins H b):Inv X pins σ H { s with heap:=h',toks:=t' }:=by
 have na:∀c u,H c=some u->c≠a:=fun c u e z=>by rw[z,fa.1] at e;cases e
 have U:∀c u,H c=some u->c≠b:=fun c u e z=>by rw[z,fb.1] at e;cases e
 refine I.step (g':=s.gens) (d':=s.drawn) (ch:=[a,b]) (fun c J=>?_) (fun c o _ _ J e _=>k c o (fun z=>J (by simp[z])) (fun z=>J (by simp[z])) e) (fun c o _ _ J e _=>#[o.slots,k c o (fun z=>J (by simp[z])) (fun z=>J (by simp[z])) e]) (fun _ _ _ _ n=>n)
  (fun c o J e=>#[o,k c o (fun z=>J (by simp[z])) (fun z=>J (by simp[z])) e]) (fun _ _ e=>e) (fun _ _ _ e=>e) (fun c ps e=>#[#v[],by rw[e];simp]) (fun m hm=>?_) (fun c u e=>?_) I.bare
 .simp only[IH,Jq,Jr] at J;rcases J with rfl | rfl
  .exact#[fa.2.2.2.1,fa.2.1,fa.2.2.2.2.1,fa.2.2.2.2.2]
  .exact#[fb.2.2.2.1,fb.2.1,fb.2.2.2.2.1,fb.2.2.2.2.2]
 .obtain⟨o,es,ep,ho,r⟩:=hm;exact#[o,es,ep,k _ o (IK fa.2.1) (IK fb.2.1) ho,r]
 .refine(I.hok c u e).stay (fun d v Y q=>k d v ?_ ?_ q) (fun _ q=>q) fun _ _ q=>q
  .rcases Y with z | z
   .rw[z];exact na c u e
   .exact na d _ z
  .rcases Y with z | z
   .rw[z];exact U c u e
   .exact U d _ z
end
def eU (K:vF_) (a:Addr):It:=
 #[fun i H=>∃xs x,SqL K H a xs/\xs[i]? = some x,fun i H v H'=>∃p x,H p=none/\v = .ref p/\H'=i6 H p (.tup [.int (i:Int),x])/\∀xs,SqL K H a xs->xs[i]? = some x,fun i H=>∃xs,SqL K H a xs/\xs.length<=i]
def Hj {w:World}{K:vF_}{x1} (a e it:Addr) (hne:e≠it):Turn P w K (.Tuple elts x1 pos) (eU K a) [e,it] e (fun i h=>(∃old,IsEnum h e it ((i:Nat):Int) old)/\h.IsListIter it a i) where
 mem:=by simp
 obj:=fun i h st b hb=>by
  obtain⟨⟨old,U⟩,hi⟩:=st;simp only[IH,Jq,Jr] at hb;rcases hb with rfl | rfl
  .exact#[_,U,fun v z=>by
    have z':Data.fields _=Data.cell v:=z;cases z']
  .obtain⟨o,q,c,d⟩:=hi;exact#[o,q,fun v z=>by rw[d] at z;cases z]
 keep:=fun i h h' st k=>#[let ⟨old,U⟩:=st.1;#[old,k e (by simp) _ U],st.2.at fun o q=>k it (by simp) o q]
 item:=by
  intro X hP hw hK hc i pins s σ H E I hf st hg;subst hP hw hK;obtain⟨xs,x,hq,hx⟩:=hg;obtain⟨⟨old,U⟩,Y⟩:=st;obtain⟨its,rv,p,hz⟩:=I.list hq;obtain⟨u,hu,ru⟩:=rv.get hx;have fe:=hf e (by simp);have fi:=hf it (by simp);have hx':its.toArray[i]? = some u:=by simpa using hu
  have hes:e<s.heap.objs.size:=xl U;have his:it<s.heap.objs.size:=by obtain⟨o,q,_⟩:=id Y;exact xl q
  refine wpAny_pyNext_enum_item U Y p.isList hx' hne fun h₁ heo hit₁ ht₁ hz₁ hk₁=>?_
  refine#[_,rfl,wpAny_letOwnedTupleGo_enum heo fun h₂ he₂ J=>?_]
  replace J:Heap.SameBut e h₁ h₂:=J
  have hn:H s.heap.objs.size=none:=I.hok.fresh (tv _);have I1:Inv X pins σ (i6 H s.heap.objs.size (.tup [.int (i:Int),x])) { s with heap:=s.heap.push { cls:=.type "tuple",data:=.seq #v[.int i s.toks,u] },toks:=s.toks }:=
   I.laid (t':=s.toks) (fun b o q=>xu _ q) (tv _) #[by show 2<=sizeLine;decide,[.int i s.toks,u],.cons #[_,rfl] (.cons ru .nil),#[_,Jk _ rfl,rfl,_,rfl]]
  have up:∀b,b<s.heap.objs.size->M7 X pins H b->M7 X pins (i6 H s.heap.objs.size (.tup [.int (i:Int),x])) b:=fun b hb f=>#[by rw[j6 (Jd hb)];exact f.1,f.2]
  have I2:=I1.turned2 (h':=h₂) (t':=s.toks+1) (a:=e) (b:=it) (fun c o ce ci q=>by
   rcases Heap.get?_push_cases q with ⟨rfl,rfl⟩ | q1
   .exact(J.2 _ ce).trans ht₁
   .exact(J.2 _ ce).trans (hk₁ c o ce ci q1)) (up e hes fe) (up it his fi)
  refine#[.ref s.heap.objs.size,_,I2,rfl,#[_,x,hn,rfl,rfl,fun ys hy=>by rw[I.list_inj hy hq];exact hx],#[#[u,?_],hit₁.extBut J.extBut (IK hne)],fun b hb=>?_]
  .have:((i+1:Nat):Int)=(i:Int)+1:=by push_cast;rfl
   rw[this];exact he₂
  .simp only[IH,Jq,Jr] at hb;rcases hb with rfl | rfl
   .exact(up _ hes fe).1
   .exact(up _ his fi).1
 done:=by
  intro X hP hw hK hc i pins s σ H E I hf st hg;subst hP hw hK;obtain⟨xs,hq,hx⟩:=hg;obtain⟨⟨old,U⟩,Y⟩:=st;obtain⟨its,rv,p,hz⟩:=I.list hq;obtain⟨f0,f1,f2,f3,f4,f5⟩:=hf it (by simp);have hl:=rv.length;exact wpAny_pyNext_enum_end (I.ok.hd hc) U Y p.isList (by simp;omega) fun h' eb=>#[rfl,I.turned (t':=s.toks) (fun b o hb q=>eb b o hb q) f0 f1 f3 f4 f5]
 self:=fun _ _ _ _ _ st h=>by obtain⟨⟨old,U⟩,_⟩:=st;exact wpAny_pyIter_enum U h
def BH (K:vF_) (ta:TA):TI:=fun σ H R=>ta σ H fun vs H1=>∃a,vs=[.ref a]/\(∃xs,SqL K H1 a xs)/\R (eU K a) H1
def HE:bootBuiltins ("enumerate" : Str)=some (.type "enumerate"):=by decide +kernel
def AI {a:Expr}{ta:TA}{p pos pt:Pos}{elts:List Expr}{x1} (hg:Gl X "enumerate") (hm:X.mg "enumerate" = none) (ha:PA X [a] ta) (hs:starEach [a] X.env=[(false,eval a X.env)]:=by rfl):PI X (.Tuple elts x1 pt) (.Call (.Name "enumerate" p) [a] [] pos) (BH X.K ta):=by
 intro pins s σ H R I h;refine Call_ (aK I hg hm HE (KR (l4 (ha pos pins s σ H _ I h) fun us s1 ⟨vs,H1,J,r1,q1⟩=>?_) hs rfl));obtain⟨l,e,⟨xs,hq⟩,q⟩:=q1;subst e;cases r1 with
 |cons r rr=>
  cases rr;cases r;obtain⟨its,rv,pp,hz⟩:=J.list hq;refine call_enumerate_list pp.isList fun h' Y U hsz hk=>wpAny_pyIter_enum Y ?_
  refine#[s1.heap.objs.size+1,[s1.heap.objs.size+1,s1.heap.objs.size],_,_,H1,rfl,J.kept (t':=s1.toks) hk,Hj l (s1.heap.objs.size+1) s1.heap.objs.size (Nat.succ_ne_self _),#[#[_,Y],U],fun b hb=>?_,q];simp only[IH,Jq,Jr] at hb;rcases hb with rfl | rfl
  .exact J.fpOk (Lx _) (J.hok.fresh (Lx _))
  .exact J.fpOk (tv _) (J.hok.fresh (tv _))
def xS {K:vF_}{a:Addr}{xs:List V}{g:TG}{tb:TS}{D:Ends}{H:Hp}(J:Nat->St->Hp->Prop) (h0:J 0 σ H) (Y:∀i σ H,i<=xs.length->J i σ H->SqL K H a xs)
  (hs:∀i x p σ H,xs[i]? = some x->H p=none->J i σ H->g (.ref p) σ (i6 H p (.tup [.int (i:Int),x])) fun σ2 H2=>tb { D with nx:=J (i+1),ct:=J (i+1),bk:=D.nx } σ2 H2) (hd:∀σ H,J xs.length σ H->D.nx σ H) :
  ∃W:Nat->Nat->St->Hp->Prop,(∃m,W 0 m σ H)/\∀i m σ H,W i m σ H ->
   ((eU K a).stop i H/\D.nx σ H)\/((eU K a).go i H/\∃N:St->Hp->Prop,(∀σ' H',N σ' H'->∃m',m'<m/\W (i+1) m' σ' H')/\∀x H',(eU K a).yld i H x H'->g x σ H' fun σ2 H2=>tb { D with nx:=N,ct:=N,bk:=D.nx } σ2 H2):=by
 refine#[fun i m σ H=>m=xs.length - i/\i<=xs.length/\J i σ H,#[xs.length,by simp,JK _,h0],?_];rintro i m σ H ⟨rfl,hi,p⟩;have q:=Y i σ H hi p;by_cases U:i<xs.length
 .refine .inr #[#[xs,xs[i],q,by simp[U]],J (i+1),fun σ' H' p'=>#[xs.length - (i+1),by omega,rfl,U,p'],fun v H' y=>?_];obtain⟨pp,x,hp,rfl,rfl,y⟩:=y;exact hs i x pp σ _ (y xs q) hp p
 .have e:i=xs.length:=by omega
  subst e;exact .inl #[#[xs,q,tv _],hd σ H p]
end L2
namespace DL
open PySem PySem.Spec L2 PyProof.Rows
def T2 (ds:vD_):List D:=ds.zipIdx.map fun p=>.tup [.int (p.2:Int),p.1]
def tH (h:ds[i]? = some d):(T2 ds)[i]? = some (.tup [.int (i:Int),d]):=by
 unfold T2;rw[Jl,List.getElem?_zipIdx,h];simp
def eI (f:DA) (t:D->DS->Option DS) (b:DM):DM:=fun s=>(f s).bind fun x=>match x.1 with
 |[.lst ds]=>B2 t b (T2 ds) x.2
 |_=>none
def mf (s:DS) (i:Nat):Option (List D):=match s.sl[i]? with
 |some (.own ds)=>some ds
 |_=>none
def zQ {s:DS}(h:mf s i=some ds):s.sl[i]? = some (.own ds):=by
 unfold mf at h;cases q:s.sl[i]? with
 |none=>rw[q] at h;cases h
 |some z=>
  rw[q] at h;cases z with
  |own ds=>cases h;rfl
  |no=>cases h
  |v _=>cases h
def CD {t:D->DS->Option DS}{b:DM}{s:DS}{r:Fl × DS}(q:eI f t b s=some r):∃ds s1,f s=some ([.lst ds],s1)/\B2 t b (T2 ds) s1=some r:=by
 refine o8 q fun xs s1 h1 h2=>?_
 cases xs with
 |nil=>cases h2
 |cons d xs=>
  cases xs with
  |cons _ _=>cases d <;> cases h2
  |nil=>
   cases d with
   |lst ds=>exact#[ds,s1,h1,h2]
   |_=>cases h2
section
variable {t:D->DS->Option DS}{b:DM}{pt:Pos}{x1:Nat}
def Im (hp:PassesOwn (model X.prog X.w) X.A X.env X.xe) (hc:X.calm=true) (U:Gl X "enumerate") (hm:X.mg "enumerate" = none) (he:AO X g [e] f) (hg:GO X g (.Tuple elts x1 pt) t) (hb:SSO X g body b)
  (hst:starEach [e] X.env=[(false,eval e X.env)]:=by rfl) (hs:∀x,foldedSetIterable (.Call (.Name "enumerate" p1) [e] [] p2) X.env x=pure x:=by intro _;rfl) :
  SO X g (.For (.Tuple elts x1 pt) (.Call (.Name "enumerate" p1) [e] [] p2) body [] pos) (eI f t b):=SO.w (gX hp hc (AI U hm he.pe hst) hg.pe hb.pe hs) fun E σ H hQ=>by
 refine hQ.elim fun fa O s fl sf I q k=>?_
 obtain⟨ds,s1,h1,h2⟩:=CD q;refine#[fa,O,s,_,s1,I,h1,fun vs H1 f1 O1 a1 Y r=>?_];have k1:=k.shift a1.stp
 .simp only[Reps,Rep] at r;obtain⟨v,ys,rfl,⟨a,xs,rfl,na,q,w⟩,rfl⟩:=r;refine#[a,rfl,#[xs,SqL.of q],xS (xs:=xs) (U6 X.K g f1 O1 H1 t b (T2 ds) fl sf) #[f1,O1,s1,Stp.refl,Y,h2] ?_ ?_ ?_]
  .rintro i σ' H' _ ⟨fa',O',s',st,I',e⟩;exact SqL.of ((Y.car st).ls a xs na q).1
  .intro i x p σ' H' hx J h;obtain⟨d,hd,rd⟩:=Reps.get' w hx;have h':U6 X.K g f1 O1 H1 t b (T2 ds) fl sf i σ' (i6 H' p (.tup [.int (i:Int),x])):=by
    obtain⟨fa',O',s',st,I',e⟩:=h;exact#[fa',O',s',st.trans (D6 J).stp,I'.new J,e]
   refine eC k1 (tH hd) (fun fa' O' st=>?_) h';simp only[Rep,Reps];exact#[p,[.int (i:Int),x],rfl,SqT.of B0,_,_,rfl,rfl,_,_,rfl,Rep.stp Y st rd,rfl]
  .intro σ' H' h;refine fE k1 ?_ h;unfold T2;rw[td,Np,w.length];exact tv _
end
end DL
namespace L2
open PySem PySem.Spec PyProof.Rows
section
variable {σ:List (Option V)}
def Inv.turnedL {t':Nat}(I:Inv X pins σ H s) (k:∀c o,c ∉ ch->s.heap.get? c=some o->h'.get? c=some o) (f:∀b∈ch,M7 X pins H b):Inv X pins σ H { s with heap:=h',toks:=t' }:=by
 have U:∀c u,H c=some u->c ∉ ch:=fun c u e J=>by rw[(f c J).1] at e;cases e
 refine I.step (g':=s.gens) (d':=s.drawn) (ch:=ch) (fun c J=>#[(f c J).2.2.2.1,(f c J).2.1,(f c J).2.2.2.2.1,(f c J).2.2.2.2.2]) (fun c o _ _ J e _=>k c o J e) (fun c o _ _ J e _=>#[o.slots,k c o J e]) (fun _ _ _ _ n=>n)
  (fun c o J e=>#[o,k c o J e]) (fun _ _ e=>e) (fun _ _ _ e=>e) (fun c ps e=>#[#v[],by rw[e];simp]) (fun m Y=>?_) (fun c u e=>?_) I.bare
 .obtain⟨o,es,ep,ho,r⟩:=Y;exact#[o,es,ep,k _ o (fun z=>(f _ z).2.1 rfl) ho,r]
 .refine(I.hok c u e).stay (fun d v hd q=>k d v ?_ q) (fun _ q=>q) fun _ _ q=>q
  rcases hd with z | z
  .rw[z];exact U c u e
  .exact U d _ z
end
end L2
namespace DL
open PySem PySem.Spec L2 PyProof.Rows
def N2 (K:vF_) (t:Bool) (H:Hp) (a:Addr) (xs:List V):Prop:=if t then SqT K H a xs else SqL K H a xs
def RwI (t:Bool) (h:Heap) (i l:Addr) (k:Nat):Prop:=if t then h.IsTupleIter i l k else h.IsListIter i l k
def RwI.it {t:Bool}{i l:Addr}{xs:vR_}{k:Nat}(x:RwI t h i l k) (y:RwB t h l xs):RwIt h i l xs k:=by
 cases t with
 |true=>exact .inr #[x,y]
 |false=>exact .inl #[x,y]
def RwI.at {t:Bool}{i l:Addr}{k:Nat}(x:RwI t h i l k) (e:∀o,h.get? i=some o->h'.get? i=some o):RwI t h' i l k:=by
 cases t with
 |true=>obtain⟨o,q,r⟩:=x;exact#[o,e o q,r]
 |false=>obtain⟨o,q,r⟩:=x;exact#[o,e o q,r]
def RwI.ob {t:Bool}{i l:Addr}{k:Nat}(x:RwI t h i l k):∃o,h.get? i=some o/\∀v,o.data ≠ .cell v:=by
 cases t with
 |true=>obtain⟨o,q,c,d⟩:=x;exact#[o,q,fun v z=>by rw[d] at z;cases z]
 |false=>obtain⟨o,q,c,d⟩:=x;exact#[o,q,fun v z=>by rw[d] at z;cases z]
def RwIt.kind {t:Bool}{i l:Addr}{xs ys:vR_}{k:Nat}(x:RwIt h i l xs k) (y:RwB t h l ys):RwI t h i l k:=by
 cases t with
 |true=>
  rcases x with ⟨_,o,q,c,_⟩ | ⟨x,_⟩
  .obtain⟨o',J,c',_⟩:=y;rw[q] at J;cases J;rw[c] at c';exact absurd c' #[]
  .exact x
 |false=>
  rcases x with ⟨x,_⟩ | ⟨_,o,q,c,_⟩
  .exact x
  .obtain⟨o',J,c',_⟩:=y;rw[q] at J;cases J;rw[c] at c';exact absurd c' #[]
def di {t:Bool}(I:Inv X pins σ H s) (h:N2 X.K t H p xs):∃its:List Value,Vals xs its/\RwB t s.heap p its.toArray/\xs.length<=sizeLine:=by
 cases t with
 |false=>
  obtain⟨its,r,⟨o,n,e,c,_,d⟩,z⟩:=I.list h;exact#[its,r,#[o,e,c,n,d],z]
 |true=>
  obtain⟨its,r,⟨o,e,c,n,d⟩,z⟩:=I.tuple h;exact#[its,r,#[o,e,c,n,d],z]
def qi {t:Bool}(I:Inv X pins σ H s) (h:N2 X.K t H p xs) (h':N2 X.K t H p ys):xs=ys:=by
 cases t with
 |false=>exact I.list_inj h h'
 |true=>exact I.tuple_inj h h'
section
variable {w:World}{z TI TO i1 i2 l1 l2:Addr}{xs ys:vR_}{k:Nat}
def ze {x y a b:Value}{Q:Option Value->Shared->Prop}(D:ZipApart z TI TO i1 i2 l1 l2) (hz:D9 s.heap z TI TO .none (.bool false)) (J:IsPair s.heap TI (.ref i1) (.ref i2)) (U:IsPair s.heap TO a b) (h1:RwIt s.heap i1 l1 xs k) (h2:RwIt s.heap i2 l2 ys k) (hx:xs[k]? = some x) (hy:ys[k]? = some y)
  (hQ:∀h',D9 h' z TI TO (rawInt s.heap.objs.size) (.bool false)->RwIt h' i1 l1 xs (k+1)->RwIt h' i2 l2 ys (k+1)->IsPair h' s.heap.objs.size x y ->
   (∀c o,c≠z->c≠TO->c≠i1->c≠i2->s.heap.get? c=some o->h'.get? c=some o)->IsPair h' TO x y->Q (some (.ref s.heap.objs.size)) { s with heap:=h' }):wpAny (model prog w) A (pyNext (.ref z)) Q E s:=by
 unfold pyNext;have Y:s.TypeIs (.ref z) "zip" := #[_,hz,rfl]
 exact gV (KD (JM (name:=Str.ofString "__next__") Y Jz (Jy Jz Y La
  (sV D hz J U h1 h2 hx hy fun h' a1 a2 a3 a4 a5 a6=>iR (hQ h' a1 a2 a3 a4 a5 a6)) (Lb _))))
def wH {a b:Value}{Q:Option Value->Shared->Prop}(hh:A.handled=none) (D:ZipApart z TI TO i1 i2 l1 l2) (hz:D9 s.heap z TI TO .none (.bool false)) (U:IsPair s.heap TI (.ref i1) (.ref i2)) (Y:IsPair s.heap TO a b) (h1:RwIt s.heap i1 l1 xs k) (h2:RwIt s.heap i2 l2 ys k) (J:xs[k]? = none\/ys[k]? = none)
  (hQ:∀h',(∀c o,c≠z->c≠TO->c≠i1->c≠i2->s.heap.get? c=some o->h'.get? c=some o)->Q none { s with heap:=h' }):wpAny (model prog w) A (pyNext (.ref z)) Q E s:=by
 unfold pyNext;have tz:s.TypeIs (.ref z) "zip" := #[_,hz,rfl]
 refine gV (KD (JM (name:=Str.ofString "__next__") tz Jz (Jy Jz tz La (tE hh D hz U Y h1 h2 J fun h' e hk he=>?_) (Lb _))));obtain⟨o,ho,hc⟩:=he;refine gV (Nd (T := "StopIteration") (b:=true) #[o,ho,hc] isSubtype_stop ?_);exact iR (hQ _ hk)
def HZ {elts:List Expr}{x1} {pos:Pos}{a:Addr}{Q:Unit->Shared->Prop}(hz:D9 s.heap z TI TO (rawInt a) (.bool false))
  (Y:∀h',D9 h' z TI TO .none (.bool false)->Heap.SameBut z s.heap h'->Q () { s with heap:=h' }):wpAny (model prog w) A (letOwnedTupleGo (.Tuple elts x1 pos) (.ref z) (.ref a)) Q E s:=by
 unfold letOwnedTupleGo;refine gV (wpAny_load hz ?_);show wpAny _ A (if (["enumerate", "zip", "dict_itemiterator", "dict_reverseitemiterator", "odict_iterator", "itertools.zip_longest", "itertools.pairwise"].contains "zip" &&
   (#v[rawInt a,.bool false,.bool false,.ref TI,.ref TO]:vR_)[0]? == some (rawInt a))=true then _ else _) Q E s
 rw[iO (by simp)];refine gV (JI ?_);show wpAny _ A (setField (.ref z) 0 .none) Q E s;exact Km hz (by simp) fun h' J U=>Y h' J U
end
def fk (K:vF_) (t u:Bool) (a b:Addr):It:=
 #[fun i H=>∃xs ys x y,N2 K t H a xs/\N2 K u H b ys/\xs[i]? = some x/\ys[i]? = some y,fun i H v H'=>∃p x y,H p=none/\v = .ref p/\H'=i6 H p (.tup [x,y])/\(∀xs,N2 K t H a xs->xs[i]? = some x)/\∀ys,N2 K u H b ys->ys[i]? = some y,fun i H=>∃xs ys,N2 K t H a xs/\N2 K u H b ys/\(xs.length<=i\/ys.length<=i)]
def BQ (t u:Bool) (z TI TO i1 i2 a b:Addr) (i:Nat) (h:Heap):Prop:=D9 h z TI TO .none (.bool false)/\IsPair h TI (.ref i1) (.ref i2)/\(∃x y,IsPair h TO x y)/\RwI t h i1 a i/\RwI u h i2 b i
def BK {w:World}{K:vF_}{x1} {t u:Bool}{z TI TO i1 i2 b:Addr}(D:ZipApart z TI TO i1 i2 a b):Turn P w K (.Tuple elts x1 pos) (fk K t u a b) [z,TI,TO,i1,i2] z (BQ t u z TI TO i1 i2 a b) where
 mem:=by simp
 obj:=fun i h st c J=>by
  obtain⟨hz,Y,⟨x,y,ho⟩,r1,r2⟩:=st;simp only[IH,Jq,Jr] at J;rcases J with rfl | rfl | rfl | rfl | rfl
  .exact#[_,hz,fun v q=>by
    have q':Data.fields _=Data.cell v:=q;cases q']
  .exact#[_,Y,fun v q=>by
    have q':Data.seq _ _=Data.cell v:=q;cases q']
  .exact#[_,ho,fun v q=>by
    have q':Data.seq _ _=Data.cell v:=q;cases q']
  .exact r1.ob
  .exact r2.ob
 keep:=fun i h h' st k=>by
  obtain⟨hz,Y,⟨x,y,ho⟩,r1,r2⟩:=st;exact#[k z (by simp) _ hz,k TI (by simp) _ Y,#[x,y,k TO (by simp) _ ho],r1.at fun o q=>k i1 (by simp) o q,r2.at fun o q=>k i2 (by simp) o q]
 item:=by
  intro X hP hw hK J i pins s σ H E I hf st hg;subst hP hw hK;obtain⟨xs,ys,x,y,q1,q2,hx,hy⟩:=hg;obtain⟨hz,Y,⟨o1,o2,ho⟩,r1,r2⟩:=st;obtain⟨its,rv,w1,_⟩:=di I q1;obtain⟨jts,rw_,w2,_⟩:=di I q2;obtain⟨p,hp,rp⟩:=rv.get hx;obtain⟨q,hq,rq⟩:=rw_.get hy;have hx':its.toArray[i]? = some p:=by simpa using hp
  have hy':jts.toArray[i]? = some q:=by simpa using hq
  have lz:∀c∈[z,TI,TO,i1,i2],c<s.heap.objs.size:=fun c J=>by
   simp only[IH,Jq,Jr] at J;rcases J with rfl | rfl | rfl | rfl | rfl
   .exact xl hz
   .exact xl Y
   .exact xl ho
   .obtain⟨o,e,_⟩:=r1.ob;exact xl e
   .obtain⟨o,e,_⟩:=r2.ob;exact xl e
  refine ze D hz Y ho (r1.it w1) (r2.it w2) hx' hy' fun h1 a1 a2 a3 a4 a5 a6=>?_
  refine#[_,rfl,HZ a1 fun h2 hz2 U=>?_]
  replace U:Heap.SameBut z h1 h2:=U
  have hn:H s.heap.objs.size=none:=I.hok.fresh (tv _);have I1:Inv X pins σ (i6 H s.heap.objs.size (.tup [x,y])) { s with heap:=s.heap.push { cls:=.type "tuple",data:=.seq #v[p,q] },toks:=s.toks }:=
   I.laid (t':=s.toks) (fun b o q=>xu _ q) (tv _) #[by show 2<=sizeLine;decide,[p,q],.cons rp (.cons rq .nil),#[_,Jk _ rfl,rfl,_,rfl]]
  have up:∀c,c<s.heap.objs.size->M7 X pins H c->M7 X pins (i6 H s.heap.objs.size (.tup [x,y])) c:=fun c J f=>#[by rw[j6 (Jd J)];exact f.1,f.2]
  have k2:∀c o,c≠z->c≠TO->c≠i1->c≠i2->s.heap.get? c=some o->h2.get? c=some o:=fun c o c1 c2 c3 c4 e=>(U.2 _ c1).trans (a5 c o c1 c2 c3 c4 e)
  have I2:=I1.turnedL (h':=h2) (t':=s.toks) (ch:=[z,TO,i1,i2]) (fun c o J e=>by
   simp only[IH,Jq,Jr,not_or] at J;rcases Heap.get?_push_cases e with ⟨rfl,rfl⟩ | e1
   .exact(U.2 _ J.1).trans a4
   .exact k2 c o J.1 J.2.1 J.2.2.1 J.2.2.2 e1) (fun c J=>by
   have hc':c∈[z,TI,TO,i1,i2]:=by
    simp only[IH,Jq,Jr] at J ⊢;rcases J with h | h | h | h <;> simp[h]
   exact up c (lz c hc') (hf c hc'))
  have wa:RwB t h1 a its.toArray:=w1.at fun o e=>a5 a o D.l1z D.l1TO D.l1i1 D.l1i2 e
  have wb:RwB u h1 b jts.toArray:=w2.at fun o e=>a5 b o D.l2z D.l2TO D.l2i1 D.l2i2 e
  refine#[.ref s.heap.objs.size,_,I2,rfl,#[_,x,y,hn,rfl,rfl,fun xs' h=>by rw[qi I h q1];exact hx,fun ys' h=>by rw[qi I h q2];exact hy],#[hz2,k2 _ _ D.TIz D.TITO D.TIi1 D.TIi2 Y,#[p,q,(U.2 _ D.TOz).trans a6],(a2.kind wa).at fun o e=>(U.2 _ D.i1z).trans e,(a3.kind wb).at fun o e=>(U.2 _ D.i2z).trans e],fun c J=>(up c (lz c J) (hf c J)).1]
 done:=by
  intro X hP hw hK J i pins s σ H E I hf st hg;subst hP hw hK;obtain⟨xs,ys,q1,q2,hl⟩:=hg;obtain⟨hz,Y,⟨o1,o2,ho⟩,r1,r2⟩:=st;obtain⟨its,rv,w1,_⟩:=di I q1;obtain⟨jts,rw_,w2,_⟩:=di I q2;have e1:=rv.length;have e2:=rw_.length;refine wH (I.ok.hd J) D hz Y ho (r1.it w1) (r2.it w2) (by
   rcases hl with h | h
   .exact .inl (by simp;omega)
   .exact .inr (by simp;omega)) fun h' k=>#[rfl,I.turnedL (t':=s.toks) (ch:=[z,TO,i1,i2]) (fun c o J e=>by
    simp only[IH,Jq,Jr,not_or] at J;exact k c o J.1 J.2.1 J.2.2.1 J.2.2.2 e) fun c J=>hf c (by
    simp only[IH,Jq,Jr] at J ⊢;rcases J with h | h | h | h <;> simp[h])]
 self:=fun A i s Q E st hQ=>by
  have tz:s.TypeIs (.ref z) "zip" := #[_,st.1,rfl]
  refine Ni tz Lc (Jy Lc tz Nj ?_ (Nk _));show wpAny _ _ (ret (.ref z)) _ _ s;exact iR #[_,rfl, "zip",_,tz,Jz.lookup,hQ]
def Dm (K:vF_) (ta:TA):TI:=fun σ H R=>ta σ H fun vs H1=>∃a b t u,vs=[.ref a,.ref b]/\(∃xs,N2 K t H1 a xs)/\(∃ys,N2 K u H1 b ys)/\R (fk K t u a b) H1
def Cv {e:Expr}{es:List Expr}{ta:TA}{p pos pt:Pos}{elts:List Expr}{x1} (hg:Gl X "zip") (hm:X.mg "zip" = none) (ha:PA X (e::es) ta) (he:starEach (e::es) X.env=(false,eval e X.env)::starEach es X.env:=by rfl) (hpl:(backTo pos (starEach es X.env)).any (·.1)=false:=by rfl) :
  PI X (.Tuple elts x1 pt) (.Call (.Name "zip" p) (e::es) [] pos) (Dm X.K ta):=by
 intro pins s σ H R I h;refine Kh (aK I hg hm (show bootBuiltins ("zip" : Str)=some (.type "zip") by decide +kernel) ?_ #[] #[]);refine KR (l4 (ha pos pins s σ H _ I h) fun us s1 ⟨vs,H1,U,J,q1⟩=>?_) he hpl;obtain⟨a,b,t,u,rfl,⟨xs,qa⟩,⟨ys,qb⟩,k⟩:=q1;obtain⟨u1,u2,rfl,e1,e2⟩:∃u1 u2,us=[u1,u2]/\u1=Value.ref a/\u2=Value.ref b:=by
  cases J with
  |cons h1 J=>
   cases J with
   |cons h2 J=>cases J;exact#[_,_,rfl,h1,h2]
 subst e1;subst e2;obtain⟨it,rx,wa,za⟩:=di U qa;obtain⟨jt,ry,wb,zb⟩:=di U qb;refine oi wa wb fun h1 _ k1 Z=>?_
 obtain⟨D,g1,g2,g3,g5,x1,x2,g4⟩:=Z;have tz:({ s1 with heap:=h1 }:Shared).TypeIs (.ref (s1.heap.objs.size+4)) "zip" := #[_,g5,rfl]
 refine Ni tz Lc (Jy Lc tz Nj ?_ (Nk _));show wpAny _ _ (ret (.ref (s1.heap.objs.size+4))) _ _ _;refine iR #[_,rfl, "zip",_,tz,Jz.lookup,?_];refine#[s1.heap.objs.size+4,[s1.heap.objs.size+4,s1.heap.objs.size+2,s1.heap.objs.size+3,s1.heap.objs.size,s1.heap.objs.size+1],_,_,H1,rfl,U.kept (t':=s1.toks) k1,BK (t:=t) (u:=u) D,#[g5,g3,#[x1,x2,g4],?_,?_],fun c Y=>?_,k]
 .cases t with
  |true=>exact#[_,g1,rfl,rfl]
  |false=>exact#[_,g1,rfl,rfl]
 .cases u with
  |true=>exact#[_,g2,rfl,rfl]
  |false=>exact#[_,g2,rfl,rfl]
 .have Y:s1.heap.objs.size<=c:=by
   simp only[IH,Jq,Jr] at Y;rcases Y with h | h | h | h | h <;> rw[h] <;> omega
  exact U.fpOk Y (U.hok.fresh Y)
def BB {K:vF_}{t u:Bool}{a b:Addr}{xs ys:List V}{g:TG}{tb:TS}{D:Ends}{H:Hp}(J:Nat->L2.St->Hp->Prop) (h0:J 0 σ H) (hl:∀i σ H,J i σ H->N2 K t H a xs/\N2 K u H b ys)
  (hs:∀i x y p σ H,xs[i]? = some x->ys[i]? = some y->H p=none->J i σ H->g (.ref p) σ (i6 H p (.tup [x,y])) fun σ2 H2=>tb { D with nx:=J (i+1),ct:=J (i+1),bk:=D.nx } σ2 H2) (hd:∀σ H,J (min xs.length ys.length) σ H->D.nx σ H) :
  ∃W:Nat->Nat->L2.St->Hp->Prop,(∃m,W 0 m σ H)/\∀i m σ H,W i m σ H ->
   ((fk K t u a b).stop i H/\D.nx σ H)\/((fk K t u a b).go i H/\∃N:L2.St->Hp->Prop,(∀σ' H',N σ' H'->∃m',m'<m/\W (i+1) m' σ' H')/\∀x H',(fk K t u a b).yld i H x H'->g x σ H' fun σ2 H2=>tb { D with nx:=N,ct:=N,bk:=D.nx } σ2 H2):=by
 refine#[fun i m σ H=>m=min xs.length ys.length - i/\i<=min xs.length ys.length/\J i σ H,#[min xs.length ys.length,by simp,JK _,h0],?_];rintro i m σ H ⟨rfl,hi,p⟩;obtain⟨U,Y⟩:=hl i σ H p;by_cases hlt:i<min xs.length ys.length
 .have l1:i<xs.length:=by omega
  have l2:i<ys.length:=by omega
  refine .inr #[#[xs,ys,xs[i],ys[i],U,Y,by simp[l1],by simp[l2]],J (i+1),fun σ' H' p'=>#[min xs.length ys.length - (i+1),by omega,rfl,hlt,p'],fun v H' y=>?_];obtain⟨pp,x,y,hp,rfl,rfl,y1,y2⟩:=y;exact hs i x y pp σ _ (y1 xs U) (y2 ys Y) hp p
 .have e:i=min xs.length ys.length:=by omega
  refine .inl #[#[xs,ys,U,Y,by omega],hd σ H ?_];rw[<-e];exact p
def eX (f:DA) (t:D->DS->Option DS) (b:DM):DM:=fun s=>(f s).bind fun x=>match x.1 with
 |[d1,d2]=>(T3 d1).bind fun xs=>(T3 d2).bind fun ys=>B2 t b (List.zipWith O8 xs ys) x.2
 |_=>none
def oA {K:vF_}{v:V}(r:Rep K N fa H d v) (e:T3 d=some ds):∃t a xs,v = .ref a/\N2 K t H a xs/\(t=false->¬ N a/\H a=some (.lst xs))/\Reps K N fa H ds xs:=by
 cases d with
 |tup es=>
  cases e;simp only[Rep] at r;obtain⟨a,ys,rfl,q,w⟩:=r;exact#[true,a,ys,rfl,q,fun z=>(by cases z),w]
 |lst es=>
  cases e;simp only[Rep] at r;obtain⟨a,ys,rfl,J,q,w⟩:=r;exact#[false,a,ys,rfl,SqL.of q,fun _=>#[J,q],w]
 |_=>cases e
def yI {t:D->DS->Option DS}{b:DM}{s:DS}{r:Fl × DS}(q:eX f t b s=some r):∃d1 d2 xs ys s1,f s=some ([d1,d2],s1)/\T3 d1=some xs/\T3 d2=some ys/\B2 t b (List.zipWith O8 xs ys) s1=some r:=by
 refine o8 q fun J s1 h1 h2=>?_
 cases J with
 |nil=>cases h2
 |cons d1 J=>
  cases J with
  |nil=>cases h2
  |cons d2 J=>
   cases J with
   |cons _ _=>cases h2
   |nil=>
    refine X3 h2 fun xs U h2=>?_
    refine X3 h2 fun ys Y h2=>?_
    exact#[d1,d2,xs,ys,s1,h1,U,Y,h2]
section
variable {t:D->DS->Option DS}{b:DM}{pt:Pos}{x1:Nat}
def EY (hp:PassesOwn (model X.prog X.w) X.A X.env X.xe) (hc:X.calm=true) (hgl:Gl X "zip") (hm:X.mg "zip" = none) (he:AO X g (e::es) f) (hg:GO X g (.Tuple elts x1 pt) t) (hb:SSO X g body b)
  (hst:starEach (e::es) X.env=(false,eval e X.env)::starEach es X.env:=by rfl) (hpl:(backTo p2 (starEach es X.env)).any (·.1)=false:=by rfl) (hs:∀x,foldedSetIterable (.Call (.Name "zip" p1) (e::es) [] p2) X.env x=pure x:=by intro _;rfl) :
  SO X g (.For (.Tuple elts x1 pt) (.Call (.Name "zip" p1) (e::es) [] p2) body [] pos) (eX f t b):=SO.w (gX hp hc (Cv hgl hm he.pe hst hpl) hg.pe hb.pe hs) fun E σ H hQ=>by
 refine hQ.elim fun fa O s fl sf I q k=>?_
 obtain⟨d1,d2,U,Y,s1,h1,e1,e2,h2⟩:=yI q;refine#[fa,O,s,_,s1,I,h1,fun vs H1 f1 O1 a1 I1 r=>?_];have k1:=k.shift a1.stp
 .simp only[Reps] at r;obtain⟨v1,zs,rfl,r1,v2,zs',rfl,r2,rfl⟩:=r;obtain⟨ta,a,vs,rfl,q1,c1,w1⟩:=oA r1 e1;obtain⟨tb,c,us,rfl,q2,c2,w2⟩:=oA r2 e2;have J:∀{t:Bool}{p:Addr}{xs:List V}{fa' O' H'},Stp f1 O1 H1 fa' O' H'->N2 X.K t H1 p xs->(t=false->¬ NN g.F f1 O1 p/\H1 p=some (.lst xs))->N2 X.K t H' p xs:=fun {t p xs fa' O' H'} st q z=>by
   cases t with
   |true=>exact(I1.car st).tp p xs q
   |false=>exact SqL.of ((I1.car st).ls p xs (z rfl).1 (z rfl).2).1
  refine#[a,c,ta,tb,rfl,#[vs,q1],#[us,q2],BB (xs:=vs) (ys:=us) (U6 X.K g f1 O1 H1 t b (List.zipWith O8 U Y) fl sf) #[f1,O1,s1,Stp.refl,I1,h2] ?_ ?_ ?_]
  .rintro i σ' H' ⟨fa',O',s',st,I',e⟩;exact#[J st q1 c1,J st q2 c2]
  .intro i x y p σ' H' hx hy hpn h;obtain⟨dx,hdx,rx⟩:=Reps.get' w1 hx;obtain⟨dy,hdy,ry⟩:=Reps.get' w2 hy;have h':U6 X.K g f1 O1 H1 t b (List.zipWith O8 U Y) fl sf i σ' (i6 H' p (.tup [x,y])):=by
    obtain⟨fa',O',s',st,I',e⟩:=h;exact#[fa',O',s',st.trans (D6 hpn).stp,I'.new hpn,e]
   have hd:(List.zipWith O8 U Y)[i]? = some (O8 dx dy):=by rw[Oe,hdx,hdy]
   refine eC k1 hd (fun fa' O' st=>?_) h';simp only[O8,Rep,Reps];exact#[p,[x,y],rfl,SqT.of B0,_,_,rfl,Rep.stp I1 st rx,_,_,rfl,Rep.stp I1 st ry,rfl]
  .intro σ' H' h;refine fE k1 ?_ h;rw[Nl,w1.length,w2.length];exact tv _
end
end DL
namespace DL
open PySem PySem.Spec L2
def FZ {α:Type _}{P:List α->Prop}(h:∀a1:α,P [a1]):∀us:List α,us.length=1->P us:=by
 intro us e
 match us,e with | [a1],_=>exact h a1
def on2 {α:Type _}{P:List α->Prop}(h:∀a1 a2:α,P [a1,a2]):∀us:List α,us.length=2->P us:=by
 intro us e
 match us,e with | [a1,a2],_=>exact h a1 a2
def on3 {α:Type _}{P:List α->Prop}(h:∀a1 a2 a3:α,P [a1,a2,a3]):∀us:List α,us.length=3->P us:=by
 intro us e
 match us,e with | [a1,a2,a3],_=>exact h a1 a2 a3
def Bs {α:Type _}{P:List α->Prop}(h:∀a1 a2 a3 a4:α,P [a1,a2,a3,a4]):∀us:List α,us.length=4->P us:=by
 intro us e
 match us,e with | [a1,a2,a3,a4],_=>exact h a1 a2 a3 a4
structure GF (K:vF_) (mg:vG_) (n:Str) (st:Stmt) (f:Addr) (fd:FuncData):Prop where
 F:Fun K n n st f fd
 m:mg n=some (.ref f)
section
variable {K:vF_}{n:Str}{st:Stmt}{f:Addr}
def gf_mk (X:K.In h) (G:h.Ns mainGlobals mg) {kV doc pm ct:Value}(a:PySem.W.nsIn K mainGlobals n=some (some (.ref f))) (l:K.lookup f=some #[oc,od,.func (PySem.W.fnOf n n (X7 st) (M2 st) (A2 st) .none kV doc pm an cdv ct),osl])
  (c:PySem.W.codeIn K cdv n=true) (k:PySem.W.keepIn K (.ref f)=true):GF K mg n st f (PySem.W.fnOf n n (X7 st) (M2 st) (A2 st) .none kV doc pm an cdv ct):=#[yn l c k,Le X G a]
def yo (F:Fun K n n st f fd) (q:∀(kV doc pm:Value) (an:vA_) (cdv ct:Value) (s:Shared) (v:Value),BindsTo s (PySem.W.fnOf n n (X7 st) (M2 st) (A2 st) .none kV doc pm an cdv ct) #[[v],[]] [(x,v)]):∀(s:Shared) (v:Value),BindsTo s fd #[[v],[]] [(x,v)]:=by
 obtain⟨oc,od,kV,doc,pm,an,cdv,ct,osl,rfl,U,J⟩:=F.ex;exact fun s v=>q kV doc pm an cdv ct s v
def blt_mk (X:K.In h) (G:h.Ns mainGlobals mg) (z0:PySem.W.nsIn K mainGlobals "len" = some none) (z1:PySem.W.nsIn K mainGlobals "range" = some none) (z2:PySem.W.nsIn K mainGlobals "abs" = some none) (z3:PySem.W.nsIn K mainGlobals "tuple" = some none) (z4:PySem.W.nsIn K mainGlobals "list" = some none) (z5:PySem.W.nsIn K mainGlobals "int" = some none) (z6:PySem.W.nsIn K mainGlobals "bool" = some none) (z7:PySem.W.nsIn K mainGlobals "str" = some none) (z8:PySem.W.nsIn K mainGlobals "repr" = some none) (z9:PySem.W.nsIn K mainGlobals "all" = some none) (z10:PySem.W.nsIn K mainGlobals "isinstance" = some none) (z11:PySem.W.nsIn K mainGlobals "zip" = some none) (z12:PySem.W.nsIn K mainGlobals "enumerate" = some none) (z13:PySem.W.nsIn K mainGlobals "min" = some none) (z14:PySem.W.nsIn K mainGlobals "max" = some none) (U:PySem.W.nsIn K mainGlobals "reversed" = some none) (J:PySem.W.nsIn K mainGlobals "any" = some none) (z17:PySem.W.nsIn K mainGlobals "sum" = some none) (Y:PySem.W.nsIn K mainGlobals "sorted" = some none):Blt mg:=#[Jp X G z0,Jp X G z1,Jp X G z2,Jp X G z3,Jp X G z4,Jp X G z5,Jp X G z6,Jp X G z7,Jp X G z8,Jp X G z9,Jp X G z10,Jp X G z11,Jp X G z12,Jp X G z13,Jp X G z14,Jp X G U,Jp X G J,Jp X G z17,Jp X G Y]
def Bm {w:World}{N:List Str}{k:Nat}{b:DM}(F:GF K mg n st f fd) (q:∀(kV doc pm:Value) (an:vA_) (cdv ct:Value) (us:vV_),us.length=ps.length->bindArgs (PySem.W.fnOf n n (X7 st) (M2 st) (A2 st) .none kV doc pm an cdv ct) #[us,[]]=pure (ps.zip us)) (S:FnScope N ps (A2 st))
  (J:∀(cdv:Value) (A:Around) (outer:List Env) (s:Shared) (H:Hp) (E:XK) (g:Gh),Room k (A.deeper (PyProof.Rows.envOfC n (A2 st) s.heap.objs.size f cdv))->SSO (N4 U3 P w K mg base N n (A2 st) f cdv A outer s H E).nox g (M2 st) b) :
  Cal P w K mg base (k+1) n ps (m6 N.length b):=yF F.F F.m (F.F.binds q) S J
end
mutual
def D.flat:D->Bool
 |.non=>true
 |.bl _=>true
 |.int _=>true
 |.str _=>true
 |.tup ds=>D.flats ds
 |.lst _=>false
 |.feed=>false
 |.scr _=>true
 |.fn _=>true
 |.exc _ ds=>D.flats ds
def D.flats:List D->Bool
 |[]=>true
 |d::r=>D.flat d&&D.flats r
end
section
variable {K:vF_}{N':vB_}
mutual
theorem Rep.flt:∀(d:D) (v:V),d.flat=true->Rep K N fa H d v->Rep K N' fa' H d v
 |.non,v,_,h=>by simpa only[Rep] using h
 |.bl b,v,_,h=>by simpa only[Rep] using h
 |.int i,v,_,h=>by simpa only[Rep] using h
 |.str x,v,_,h=>by simpa only[Rep] using h
 |.tup ds,v,q,h=>by
  simp only[Rep] at h ⊢;obtain⟨a,xs,e,s,r⟩:=h;exact#[a,xs,e,s,Reps.flt ds xs q r]
 |.lst ds,v,q,h=>by cases q
 |.feed,v,q,h=>by cases q
 |.scr ns,v,_,h=>by simpa only[Rep] using h
 |.fn x,v,_,h=>by simpa only[Rep] using h
 |.exc c ds,v,q,h=>by
  simp only[Rep] at h ⊢;obtain⟨a,C,xs,e,n,s,r⟩:=h;exact#[a,C,xs,e,n,s,Reps.flt ds xs q r]
theorem Reps.flt:∀(ds:vD_) (xs:List V),D.flats ds=true->Reps K N fa H ds xs->Reps K N' fa' H ds xs
 |[],xs,_,h=>by simpa only[Reps] using h
 |d::r,xs,q,h=>by
  simp only[Reps] at h ⊢;have q:(D.flat d&&D.flats r)=true:=q;rw[Je] at q;obtain⟨x,ys,e,h1,h2⟩:=h;exact#[x,ys,e,Rep.flt d x q.1 h1,Reps.flt r ys q.2 h2]
end
end
def du (y:D × Option FS):Option (List D):=match y with
 |(.lst ds,none)=>if D.flats ds=true then some ds else none
 |_=>none
def Dp {fs:vO_}(h:du (d,fs)=some ds):d = .lst ds/\fs=none/\D.flats ds=true:=by
 cases d with
 |lst es=>
  cases fs with
  |none=>
   have h:(if D.flats es=true then some es else none)=some ds:=h;by_cases q:D.flats es=true
   .rw[iO q] at h;cases h;exact#[rfl,rfl,q]
   .rw[iU q] at h;cases h
  |some f=>cases h
 |_=>cases h
def aR (m:c6) (t:DA):DA:=fun s=>(t s).bind fun x=>if D.flats x.1=true then ((m x.1 none).bind du).map fun ds=>(ds,x.2) else none
def Iq (h:FeedR N H fa none):fa=none:=by
 cases fa with
 |none=>rfl
 |some a=>exact(show False from h).elim
section
variable {k:Nat}{f:Addr}{m:c6}{p:Pos}{t:DA}
def Cy (hn:∀s ds s',t s=some (ds,s')->ds.length=n) (σ:L2.St) (H:Hp) (Q:VK) (h:liftF X.K g (aR m t) σ H Q):kE (aG X.K n m) [] E0 (liftA X.K g t) σ H Q:=by
 obtain⟨fa,O,s,ds,s',I,q,k⟩:=h;refine o8 q fun U s1 h1 h2=>?_
 by_cases hf:D.flats U=true
 .have h2:(if D.flats U=true then ((m U none).bind du).map fun ds=>(ds,s1) else none)=some (ds,s'):=h2;rw[iO hf] at h2;refine N6 h2 fun ds1 h3 h4=>?_
  cases h4;refine o8 h3 fun d1 fs1 h5 h6=>?_
  obtain⟨rfl,rfl,fl⟩:=Dp h6;refine#[fa,O,s,U,s',I,h1,fun vs H1 f1 O1 a1 J r=>?_];show aG X.K n m (vs++[]) H1 Q E0;rw[Ju];refine#[fun b=>H1 b≠none,none,U,none,_,none,fun b hb=>hb,fun a ha=>(by cases ha),Reps.flt U vs hf r,trivial,h5,hn s U s' h1,fun v H2 f2 a2 fd2 r2=>?_];cases Iq fd2;simp only[Rep] at r2;obtain⟨p,xs,rfl,np,lp,rp⟩:=r2;have hp:H1 p=none:=Classical.byContradiction fun z=>np (.inl z)
  have Y:∀b u,H1 b=some u->H2 b=some u:=fun b u e=>a2.same b u e (by simp) (by simp)
  have a3:StE f1 O1 H1 f1 O1 H2:=#[fun b hb=>hb,.inl rfl,fun b u e _=>Y b u e,a2.mon]
  have c:=J.car a3.stp;have c2:Car X.K (NN g.F f1 O1) f1 H1 (fun b=>NN g.F f1 O1 b\/b=p) f1 H2:=#[fun b xs n q=>#[Y b _ q,fun z=>by
   rcases z with z | z
   .exact n z
   .rw[z,hp] at q;cases q],c.tp,c.fz,c.fe]
  have ff:∀a,f1=some a->H2 a=H1 a:=fun a ha=>by
   have n:=J.nn_tracked (b:=a) (.inr (.inr ha));cases e:H1 a with
   |none=>exact absurd e n
   |some u=>exact Y a u e
  have st':Stp f1 [] H1 f1 [] H2:=#[fun b hb=>(by cases hb),.inl rfl,fun b u e _ _=>Y b u e,a2.mon]
  have G2:GI X.K g σ H2 f1 O1 s':=#[J.nd,SlR.go c (fun b xs _ e=>Y b _ e) J.sl,J.fr,J.st.trans st',J.tr,J.ff,J.fd.car c ff,J.nf]
  refine k p xs H2 f1 O1 (a1.trans a3) #[G2,lp,SlR.go c2 (fun b xs _ e=>Y b _ e) J.sl,J.fd.car c2 ff,Reps.flt _ _ fl rp,fun z=>J.nn_tracked (b:=p) (.inr (.inr z)) hp] ?_;exact a1.mon p hp
 .have h2:(if D.flats U=true then ((m U none).bind du).map fun ds=>(ds,s1) else none)=some (ds,s'):=h2;rw[iU hf] at h2;cases h2
def AU (F:eu X.prog X.w X.K X.mg X.base k f fd ps m) (hr:Room k X.A) (hg:Gl X x) (hm:X.mg x=some (.ref f)) (Y:PySem.W.keepIn X.K (.ref f)=true) (hb:Binds X.K fd ps [])
  (ha:AO X g (e::es) t) (hn:∀s ds s',t s=some (ds,s')->ds.length=ps.length) (J:(x == ("__debug__" : Str))=false:=by decide) (he:starEach (e::es) X.env=(false,eval e X.env)::starEach es X.env:=by rfl) (U:(backTo pos (starEach es X.env)).any (·.1)=false:=by rfl) :
  FO X g (.Call (.Name x p) (e::es) [] pos) (aR m t):=FO.w (qz F hr hg hm Y hb .nil ph ha.pe J he U) (Cy hn)
def vP (C:Cal X.prog X.w X.K X.mg X.base k x ps m) (k':Nat) (hr:Room k' X.A) (hk:k<=k') (hg:Gl X x)
  (ha:AO X g (e::es) t) (hn:∀s ds s',t s=some (ds,s')->ds.length=ps.length) (U:(x == ("__debug__" : Str))=false:=by decide) (he:starEach (e::es) X.env=(false,eval e X.env)::starEach es X.env:=by rfl) (Y:(backTo pos (starEach es X.env)).any (·.1)=false:=by rfl) :
  FO X g (.Call (.Name x p) (e::es) [] pos) (aR m t):=by
 obtain⟨f,fd,F,hm,J,hb⟩:=C.ex;exact AU F (hr.mono hk) hg hm J hb ha hn U he Y
end
end DL
namespace DL
open PySem PySem.Spec L2 PyProof.Rows
def nz (i:Nat):DM:=fun s=>(mf s i).bind fun ds=>some (.next,{ s with sl:=s.sl.set i (.own []) })
def yc {s:DS}{r:Fl × DS}(q:nz i s=some r):∃ds,s.sl[i]? = some (.own ds)/\(Fl.next,{ s with sl:=s.sl.set i (.own []) })=r:=by
 refine X3 q fun ds h2 q=>?_
 exact#[ds,zQ h2,Jg q]
def AL (hv:PE X (.Name x p1) (Y7 i)) (U:attributeBase (.Name x p1) ("clear" : Str) X.env (eval (.Name x p1) X.env)=eval (.Name x p1) X.env:=by rfl)
  (J:(p2.endLine == p3.line)=true:=by rfl) (hsw:swapsWith (.Call (.Attribute (.Name x p1) ("clear" : Str) p2) [] [] p3) none p4.line X.env=pure false:=by rfl) :
  SO X g (.Expr (.Call (.Attribute (.Name x p1) ("clear" : Str) p2) [] [] p3) p4) (nz i):=
 SO.w (sX (yA NW PySem.F.slot_list_clear PySem.F.type_list_clear AN hv U J) hsw) fun E σ H hQ=>by
  refine hQ.elim fun fa O s fl s' I q k=>?_
  obtain⟨ds,h2,e⟩:=yc q;cases e;obtain⟨b,xs,e3,m1,Y,r1⟩:=SlR.own I.sl h2;obtain⟨I2,a2⟩:=I.rew h2 e3 m1 Y (show Reps X.K (NN g.F fa O) fa H [] [] from rfl);exact#[_,e3,.inl #[rfl,xs,SqL.of Y],b,xs,rfl,rfl,Y,k σ _ fa O a2 I2]
end DL
namespace HT2
open PySem PySem.SeqAt PyProof.Rows
open AutoSeq1 (wpAny_loadPart')
def CW (l:Addr) (items:vR_) (n:Nat) (dd:vA_) (sl:vS_) (t:Tok) :
  Meets (Builtin.«tuple.__mul__» #[[.ref l,.int 1 t],[]]) (fun _ R s=>s.heap.get? l=some { cls:=.type "tuple",dict:=dd,data:=.seq items n,slots:=sl }/\R (.ok (.ret (Value.ref l))) { s with heap:=s.heap,toks:=s.toks }):=
 .of_wp fun prog w A R s h=>by
  obtain⟨hp,g,d,U,os⟩:=s;obtain⟨J,h⟩:=h;have f1:=AutoSeq1.idx_int;have Y:=AutoSeq1.sub_tuple_tuple;have hc:(items.isEmpty||(1:Int) == 1)=true:=by simp
  wp_walk using wpAny_loadPart' J
  exact#[_,rfl,h]
def Dx (a:Int) (t:Tok) (l:Addr) (items:vR_) (n:Nat) (dd:vA_) (sl:vS_) :
  Meets (Builtin.«int.__rmul__» #[[.int a t,.ref l],[]]) (fun _ R s=>s.heap.get? l=some { cls:=.type "tuple",dict:=dd,data:=.seq items n,slots:=sl }/\R (.ok (.ret Value.notImplemented)) s):=
 .of_wp fun prog w A R s h=>by obtain⟨Y,g,d,U,os⟩:=s;obtain⟨J,h⟩:=h;wp_walk using wpAny_loadPart' J;exact#[_,rfl,h]
def Ix (l:Addr) (items:vR_) (n:Nat) (dd:vA_) (sl:vS_) (x:Int) (t:Tok) (h2:2<=x) (h3:x<2 ^ 63) (hi:¬ items.isEmpty=true) (hz:items.size*x.toNat<=sizeLine) :
  Meets (Builtin.«tuple.__mul__» #[[.ref l,.int x t],[]]) (fun _ R s=>s.heap.get? l=some { cls:=.type "tuple",dict:=dd,data:=.seq items n,slots:=sl }/\R (.ok (.ret (Value.ref s.heap.objs.size))) { s with heap:=s.heap.push { cls:=Value.type "tuple",data:=Data.seq (List.foldl (fun x1 x2=>x1++x2) #v[] (List.replicate x.toNat items)) },toks:=s.toks }):=
 .of_wp fun prog w A R s h=>by
  obtain⟨hp,g,d,tk,os⟩:=s;obtain⟨J,h⟩:=h;have f1:=AutoSeq1.idx_int;have f2:=AutoSeq1.sub_tuple_tuple;have f3:¬ (decide (x < -2 ^ 63)||decide (x>=2 ^ 63))=true:=by simp;omega
  have Y:¬ (items.isEmpty||x == 1)=true:=by simp at hi ⊢;exact#[hi,by omega]
  have f5:¬ (decide (x<=0)||items.isEmpty)=true:=by simp at hi ⊢;exact#[by omega,hi]
  have U:(items.size:Int)*x=((items.size*x.toNat:Nat):Int):=by rw[KG,Int.toNat_of_nonneg ∅]
  have hz':items.size*x.toNat<=16777216:=by rw[<-Kg];exact hz
  have f6:¬ (items.size:Int)*x>(2 ^ 63 - 1) / 8:=by rw[U];omega
  have f7:¬ Builtin.Tuple.tupleTooMany ((items.size:Int)*x)=true:=by rw[U];unfold Builtin.Tuple.tupleTooMany;rw[Md];omega
  have hsz:(List.foldl (fun x1 x2=>x1++x2) #v[] (List.replicate x.toNat items)).size<=sizeLine:=by rw[AutoListH.size_joined,Array.size_empty,JF,LY];exact hz
  wp_walk using wpAny_loadPart' J
  refine LB (ID f3) ?_
  wp_walk using wpAny_loadPart' J
  refine LB (ID Y) ?_
  wp_walk using wpAny_loadPart' J
  refine LB (ID f5) ?_
  wp_walk using wpAny_loadPart' J
  refine LB (ID f6) ?_
  wp_walk using wpAny_loadPart' J
  refine LB (ID f7) ?_
  wp_walk using wpAny_loadPart' J
  exact#[_,rfl,h]
def CF:fillsNumberSlot (.type "tuple") "mul" = pure false:=
 PySem.fillsNumberSlot_seq (id := "tuple.__mul__") (r:=some (.builtin "tuple.__rmul__")) Mp.lookup (by decide +kernel) F.slot_tuple_rmul.lookup (by decide +kernel)
def Am:seqRepeat? (.type "tuple")=pure (some (.builtin "tuple.__mul__")):=by
 unfold seqRepeat?;rw[PySem.seqSlot_of (T := "tuple") (name := "__mul__") (id := "tuple.__mul__") Mp.lookup (by decide +kernel),PySem.seqSlot_of (T := "tuple") (name := "__rmul__") (id := "tuple.__rmul__") F.slot_tuple_rmul.lookup (by decide +kernel)];rfl
def rep_tup {prog:Program}{w:World}{A:Around}{E:vQ_}{s:Shared}{t:Addr}{vs:vV_}{k:Int}{u:Tok}{Q:vQ_}(ht:IsTup s.heap t vs.toArray) (hv:vs≠[]) (h1:1<=k) (h3:k<2 ^ 63) (hz:vs.length*k.toNat<=sizeLine)
  (q1:k=1->Q (.ref t) s) (q2:Q (.ref s.heap.objs.size) { s with heap:=s.heap.push { cls:=.type "tuple",data:=.seq (List.replicate k.toNat vs).flatten.toArray } }):wpAny (model prog w) A (binaryOp .Mult (.ref t) (.int k u)) Q E s:=by
 obtain⟨⟨cls,dd,data,sl⟩,J,Y,n,hd⟩:=id ht;simp only at Y hd;subst Y hd;refine wpAny_binaryOp_repeat_ref (T := "tuple") (U := "int") #[] #[_,J,rfl] (fun s'=>Lv s' k u) CF F.fills_int_mul LX Am F.slot_int_index.lookup
  (Ky LX (Lv s k u) F.entry_int_rmul (F.args_int_rmul_2 _ _) (Dx k u t vs.toArray n dd sl)
   #[J,rfl,#[_,J,rfl],?_])
 by_cases e:k=1
 .subst e;exact Ky Mp #[_,J,rfl] F.entry_tuple_mul (F.args_tuple_mul_2 _ _) (CW t vs.toArray n dd sl u) #[J,q1 rfl]
 .refine Ky Mp #[_,J,rfl] F.entry_tuple_mul (F.args_tuple_mul_2 _ _) (Ix t vs.toArray n dd sl k u ∅ h3 (by simpa using hv) (by rw[IU];exact hz)) #[J,?_];have hn:List.foldl (fun x1 x2=>x1++x2) #v[] (List.replicate k.toNat vs.toArray)=(List.replicate k.toNat vs).flatten.toArray:=by
   have:=L2.foldl_rep vs k.toNat [];rw[Kj] at this;exact this
  rw[hn];exact q2
end HT2
namespace DL
open PySem PySem.Spec L2
def qI (K:vF_):R2:=fun x y H Q=>∃a k xs,x = .ref a/\y = .int k/\SqT K H a xs/\xs≠[]/\1<=k/\k<2 ^ 63/\xs.length*k.toNat<=sizeLine /\
 (k=1->Q (.ref a) H)/\∀p,H p=none->Q (.ref p) (i6 H p (.tup (List.replicate k.toNat xs).flatten))
def EJ :OpR X (binaryOp .Mult) (qI X.K):=by
 intro pins s σ H x y v u Q I rx Y h;obtain⟨a,k,xs,rfl,rfl,ha,hx,h1,h3,U,q1,q2⟩:=h;cases rx;obtain⟨t,rfl⟩:=Y;obtain⟨its,J,p1,_⟩:=I.tuple ha;refine HT2.rep_tup p1 (fun z=>hx (J.nil_iff.mp z)) h1 h3 (by rw[<-J.length];exact U) (fun z=>#[.ref a,H,I,rfl,q1 z]) ?_;refine#[.ref s.heap.objs.size,_,I.laid (t':=s.toks) (o:=.tup (List.replicate k.toNat xs).flatten) (fun b ob q=>xu _ q) (tv _) ?_,rfl,q2 _ (I.hok.fresh (tv _))];exact#[by rw[uR,LY];exact U,_,J.rep k.toNat,PyProof.Rows.IsTup.new _ _]
def fL:D->D->Option D
 |.tup xs,.int k=>if xs≠[]/\1<=k/\k<2 ^ 63/\xs.length*k.toNat<=sizeLine then some (.tup (List.replicate k.toNat xs).flatten) else none
 |_,_=>none
def Cw {K:vF_}:K4 K (qI K) fL:=by
 intro g σ H fa O s x y d1 d2 d Q I Y r2 e k;cases d1 with
 |tup J=>
  cases d2 with
  |int j=>
   have e:(if J≠[]/\1<=j/\j<2 ^ 63/\J.length*j.toNat<=sizeLine then some (D.tup (List.replicate j.toNat J).flatten) else none)=some d:=e;by_cases h:J≠[]/\1<=j/\j<2 ^ 63/\J.length*j.toNat<=sizeLine
   .rw[iO h] at e;cases e;simp only[RepB,Rep] at Y r2;obtain⟨a,xs,rfl,qa,U⟩:=Y;subst r2;refine#[a,j,xs,rfl,rfl,qa,fun z=>h.1 ((nk U).mp z),h.2.1,h.2.2.1,by rw[U.length];exact h.2.2.2,fun z=>?_,fun p hp=>?_]
    .subst z;refine k _ H StE.refl I ?_;have e1:(List.replicate (Int.toNat 1) J).flatten=J:=by simp
     simp only[Rep,e1];exact#[a,xs,rfl,qa,U]
    .have a2:StE fa O H fa O (i6 H p (.tup (List.replicate j.toNat xs).flatten)):=D6 hp;refine k _ _ a2 (I.new hp) ?_;simp only[Rep];exact#[p,_,rfl,SqT.of B0,Reps.stp I a2.stp (U.flat j.toNat)]
   .rw[iU h] at e;cases e
  |_=>cases e
 |_=>cases e
end DL
namespace L2
open PySem PySem.W PySem.Spec PySem.Builtin PySem.Builtin.ObjectAttr
section
variable {w:World}{g:Array GenState}{d:Drawn}{t:Nat}{os:OsState}{K:vF_}{x:Addr}{o:Obj}{mA:vG_}{v:Value}
def BV {Q:Fin->Shared->Prop}(X:K.In h) (Y:h.get? x=some o) (hc:o.cls = .ref C) (hd:o.data = .fields vs) (J:o.dict=some dx) (hn:h.Ns dx mA) (hv:mA name=some v) (f0:hasDictIn K C=true)
  (f3:findIn K (.ref C) name=some none) (hq:Q (.done (.ret v)) #[h,g,d,t,os]) :
  wpAny (model prog w) A (Builtin.«object.__getattribute__» #[[.ref x,.str name tk],[]]) Q E #[h,g,d,t,os]:=by
 have L:=Kd (M:=model prog w) X f3;unfold Builtin.«object.__getattribute__»
 repeat (any_goals (first | assumption | (with_reducible refine Jt Y ?_;rw[hc]) | with_reducible refine L.at ?_ | wp_step))
 obtain⟨cd,U,hdc⟩:=any_some f0;have LC:=looks_clsIn (M:=model prog w) X U;rw[hd];unfold instanceDict
 repeat (first | (with_reducible refine Jt Y ?_;rw[hc]) | with_reducible refine LC.at ?_ | wp_step)
 rw[J]
 repeat (first | (with_reducible refine wpAny_nsGet hn ?_;rw[hv]) | wp_step)
 exact hq
def vD {M:Model}{Q:Unit->Shared->Prop}(X:K.In h) (J:subIn K (.ref C) (.type "BaseException")=some true) (U:h.get? x=some o) (Y:o.cls = .ref C) (hq:Q () #[h,g,d,t,os]) :
  wpAny M A (checkBuiltinCall "BaseException.__getattribute__" #[[.ref x,nameV],[]]) Q E #[h,g,d,t,os]:=by
 have L:=LD (M:=M) X J;have k1:builtinKind "BaseException.__getattribute__" = some .slot:=by decide +kernel
 have k2:splitId "BaseException.__getattribute__" = some ("BaseException", "__getattribute__"):=by decide +kernel
 have ha:=F.args_bexc_ga (.ref x) nameV;simp only[checkBuiltinCall,k1,k2];refine gV ?_;unfold isInstance
 repeat (first | (with_reducible refine Jt U ?_;rw[Y]) | with_reducible refine L.at ?_ | wp_step)
 exact hq
def zc {R:Result->Shared->Prop}(X:K.In h) (U:h.get? x=some o) (Y:o.cls = .ref C) (hd:o.data = .fields vs) (J:o.dict=some dx) (hn:h.Ns dx mA) (hv:mA name=some v) (f0:hasDictIn K C=true)
  (f3:findIn K (.ref C) name=some none) (f4:subIn K (.ref C) (.type "BaseException")=some true) (hq:R (.ok (.ret v)) #[h,g,d,t,os]) :
  codeAny (model prog w) A (.call (.builtin "BaseException.__getattribute__") #[[.ref x,.str name tk],[]]) R #[h,g,d,t,os]:=
 Mq Mr.ga.plain F.entry_bexc_ga (vD X f4 U Y (BV X U Y hd J hn hv f0 f3 hq))
def ET (X:K.In h) (U:h.get? x=some o) (Y:o.cls = .ref C) (hd:o.data = .fields vs) (J:o.dict=some dx) (hn:h.Ns dx mA) (hv:mA name=some v) (f0:hasDictIn K C=true)
  (f1:findIn K (.ref C) "__getattribute__" = some (some (.builtin "BaseException.__getattribute__"))) (f2:findIn K (.ref C) "__getattr__" = some none) (f3:findIn K (.ref C) name=some none) (f4:subIn K (.ref C) (.type "BaseException")=some true) (hh:∀id,v ≠ .builtin id) (hq:Q v #[h,g,d,t,os]) :
  wpAny (model prog w) A (getAttrBy (.ref x) (.str name tk) fill expr) Q E #[h,g,d,t,os]:=by
 have L1:=Kd (M:=model prog w) X f1;have L2:=Kd (M:=model prog w) X f2;have b3:=Mr.ga.bind (.ref x);have y0:(expr&&onTheHeap (Value.builtin "BaseException.__getattribute__"))=false:=by cases expr <;> rfl
 have y2:(Value.builtin "BaseException.__getattribute__" == Value.builtin "object.__getattribute__")=false:=by decide +kernel
 have y1:(onTheHeap (Value.ref C)&&Value.builtin "BaseException.__getattribute__" == Value.builtin "object.__getattribute__")=false:=by rw[y2];rfl
 repeat (any_goals (first | assumption | (with_reducible refine Jt U ?_;rw[Y]) | with_reducible refine L1.at ?_ | with_reducible refine L2.at ?_ | wp_step))
 refine zc X U Y hd J hn hv f0 f3 f4 ?_
 repeat (any_goals (first | assumption | wp_step))
 cases v <;> first | exact iR hq | exact absurd rfl (hh _)
def zB (X:K.In h) (hx:h.get? x=some o) (hc:o.cls = .ref C) (hd:o.data = .fields vs) (J:o.dict=some dx) (hn:h.Ns dx mA) (hv:mA name=some v) (f0:hasDictIn K C=true)
  (f1:findIn K (.ref C) "__getattribute__" = some (some (.builtin "BaseException.__getattribute__"))) (f2:findIn K (.ref C) "__getattr__" = some none) (f3:findIn K (.ref C) name=some none) (U:subIn K (.ref C) (.type "BaseException")=some true) (Y:∀id,v ≠ .builtin id) (hq:Q v #[h,g,d,t+1,os]) :
  wpAny (model prog w) A (getAttr (.ref x) name expr) Q E #[h,g,d,t,os]:=by
 unfold getAttr
 repeat (any_goals (first | assumption | with_reducible apply ET X hx hc hd J hn hv f0 f1 f2 f3 U Y | wp_step))
def Ij {R:Result->Shared->Prop}(X:K.In h) (J:h.get? x=some o) (U:o.cls = .ref C) (f5:subIn K (.ref C) (.type "object")=some true) (hq:R (.ok (.ret (.ref C))) #[h,g,d,t,os]) :
  codeAny (model prog w) A (.call (.builtin "getset_descriptor.__get__") #[[.builtin "object.__class__",.ref x,.ref C],[]]) R #[h,g,d,t,os]:=by
 have Y:(#[h,g,d,t,os]:Shared).TypeIs (.builtin "object.__class__") "getset_descriptor" := Nq;have L:=LD (M:=model prog w) X (show subIn K (.ref C) (.type (".".intercalate ("object.__class__".cutAt '.').dropLast))=some true by rw[F.owner_object_class];exact f5);refine Mq F.slot_gs_get.plain F.entry_gs_get (F.slot_gs_get.check _ _ _ _ _ _ _ _ Y (F.args_gs_get _ _ _) ?_)
 repeat (any_goals (first | assumption | (with_reducible refine Jt J ?_;rw[U]) | with_reducible refine L.at ?_ | wp_step))
 refine#[Nr _ (by decide +kernel),Nf F.entry_object_class ?_]
 repeat (any_goals (first | assumption | (with_reducible refine Jt J ?_;rw[U]) | wp_step))
def GN {Q:Fin->Shared->Prop}(X:K.In h) (J:h.get? x=some o) (U:o.cls = .ref C) (f5:subIn K (.ref C) (.type "object")=some true) (Y:findIn K (.ref C) "__class__" = some (some (.builtin "object.__class__"))) (hq:Q (.done (.ret (.ref C))) #[h,g,d,t,os]) :
  wpAny (model prog w) A (Builtin.«object.__getattribute__» #[[.ref x,.str "__class__" tk],[]]) Q E #[h,g,d,t,os]:=by
 have L:=Kd (M:=model prog w) X Y;have b5:=Nq;have b6:=F.slot_gs_get.lookup;have b7:=F.slot_gs_set.lookup;have bT:(#[h,g,d,t,os]:Shared).TypeIs (.builtin "object.__class__") "getset_descriptor" := Nq
 repeat (any_goals (first | assumption | (with_reducible refine Jt J ?_;rw[U]) | with_reducible refine L.at ?_ | wp_step))
 refine Ij X J U f5 ?_
 repeat (any_goals (first | assumption | wp_step))
def Iw (X:K.In h) (J:h.get? x=some o) (U:o.cls = .ref C) (f5:subIn K (.ref C) (.type "object")=some true) (f6:findIn K (.ref C) "__class__" = some (some (.builtin "object.__class__")))
  (f1:findIn K (.ref C) "__getattribute__" = some (some (.builtin "BaseException.__getattribute__"))) (f2:findIn K (.ref C) "__getattr__" = some none) (f4:subIn K (.ref C) (.type "BaseException")=some true) (hq:Q (.ref C) #[h,g,d,t,os]) :
  wpAny (model prog w) A (getAttrBy (.ref x) (.str "__class__" tk) false) Q E #[h,g,d,t,os]:=by
 have Y:=Kd (M:=model prog w) X f1;have L2:=Kd (M:=model prog w) X f2;have b3:=Mr.ga.bind (.ref x);have y2:(Value.builtin "BaseException.__getattribute__" == Value.builtin "object.__getattribute__")=false:=by decide +kernel
 have y1:(onTheHeap (Value.ref C)&&Value.builtin "BaseException.__getattribute__" == Value.builtin "object.__getattribute__")=false:=by rw[y2];rfl
 repeat (any_goals (first | assumption | (with_reducible refine Jt J ?_;rw[U]) | with_reducible refine Y.at ?_ | with_reducible refine L2.at ?_ | wp_step))
 refine Mq Mr.ga.plain F.entry_bexc_ga (vD X f4 J U (GN X J U f5 f6 ?_))
 repeat (any_goals (first | assumption | wp_step))
def Dl {Q:Option Value->Shared->Prop}(X:K.In h) (hx:h.get? x=some o) (hc:o.cls = .ref C) (Y:subIn K (.ref C) (.type "object")=some true) (U:findIn K (.ref C) "__class__" = some (some (.builtin "object.__class__")))
  (f1:findIn K (.ref C) "__getattribute__" = some (some (.builtin "BaseException.__getattribute__"))) (f2:findIn K (.ref C) "__getattr__" = some none) (J:subIn K (.ref C) (.type "BaseException")=some true) (hq:Q (some (.ref C)) #[h,g,d,t+1,os]) :
  wpAny (model prog w) A (getAttr? (.ref x) "__class__") Q E #[h,g,d,t,os]:=by
 unfold getAttr? getAttrBy?
 repeat (any_goals (first | assumption | with_reducible apply Iw X hx hc Y U f1 f2 J | wp_step))
structure XC (K:vF_) (C:Addr):Prop where
 f0:hasDictIn K C=true
 f1:findIn K (.ref C) "__getattribute__" = some (some (.builtin "BaseException.__getattribute__"))
 f2:findIn K (.ref C) "__getattr__" = some none
 f4:subIn K (.ref C) (.type "BaseException")=some true
 f5:subIn K (.ref C) (.type "object")=some true
 f6:findIn K (.ref C) "__class__" = some (some (.builtin "object.__class__"))
def XC.look (c:XC K C):∃oc od cd sl,K.lookup C=some #[oc,od,.cls cd,sl]/\cd.hasDict=true:=by
 obtain⟨cd,e,q⟩:=any_some c.f0;unfold clsIn at e;split at e
 .rename_i oc od J sl z;cases e;exact#[oc,od,_,sl,z,q]
 .cases e
def XC.kit (c:XC K C):KitX K (.ref x) (.ref C) (fun h=>∃o,h.get? x=some o/\o.cls = .ref C) where
 ty:=fun M h _ J=>by
  obtain⟨o,e,q⟩:=J;intro Y Q' E' s' k z;unfold typeOf;refine gV (Ms (k _ _ e) (iR ?_));rw[q];exact z
 it:=fun M h X _=>by
  obtain⟨oc,od,cd,sl,e,_⟩:=c.look;intro Y Q' E' s' k z;unfold isType loadHead;exact gV (Ms (k _ _ (X _ _ e)) (iR z))
 ne:=fun h tp dd its n sl X e=>by
  obtain⟨oc,od,cd,U,q,_⟩:=c.look;refine Bool.eq_false_iff.mpr fun z=>?_
  have r:C=tp:=Value.ref.inj (beq_iff_eq.mp z);rw[<-r,X _ _ q] at e;cases e
 ca:=fun {_ _ _ _ _ s} X p k=>by
  obtain⟨h,g,d,t,os⟩:=s;obtain⟨o,e,q⟩:=p;exact Dl X e q c.f5 c.f6 c.f1 c.f2 c.f4 k
end
abbrev aI:String := "ValueError.__new__"
abbrev bxF:=PySem.F.excBase_ValueError
section
variable {M:Model}{w:World}{g:Array GenState}{d:Drawn}{t:Nat}{os:OsState}{K:vF_}{N fI:Addr}{rest:vV_}
variable {nm q:Str}{bs bm:vV_}{hdct:Bool}{sn:List Str}{sub:vV_}{ab:Bool}{dd:vA_}{k0 k1 k2 k3 k5:Option Value}
def Ii {Q:Unit->Shared->Prop}(J:h.get? C=some (excClassObj nm q C N bs bm hdct sn sub ab col dd k0 k1 k2 k3 k5 aI)) (U:(Value.ref C::bm).contains (.type "ValueError")=true) (z:Q () #[h,g,d,t,os]) :
  wpAny M A (checkBuiltinCall aI #[.ref C::rest,[]]) Q E #[h,g,d,t,os]:=by
 have st:=bxF.noStar;simp only[checkBuiltinCall,bxF.newKind,bxF.newSplit,bxF.newRow]
 repeat (first | refine wpAny_staticBase_exc J ?_ | refine wpAny_madeBy_exc J ?_ | (refine Nt J ?_;rw[U]) | refine Jt J ?_ | simp only[bne_self_eq_false,JX,Jw] | wp_step)
 exact z
def yJ {R:Result->Shared->Prop}(J:h.get? C=some (excClassObj nm q C N bs bm hdct sn sub ab col dd k0 k1 k2 k3 k5 aI)) (Y:(Value.ref C::bm).contains (.type "ValueError")=true) (U:(Value.ref C::bm).contains (.type "AttributeError")=false)
  (b3:(Value.ref C::bm).contains (.type "NameError")=false) (hr:rest.length<=sizeLine)
  (z:R (.ok (.ret (.ref (h.objs.size+1)))) #[(h.push { cls:=.type "tuple",data:=.seq rest.toArray }).push { cls:=.ref C,data:=.fields #v[.ref h.objs.size,.none,.none,.none,.bool false,.none] },g,d,t,os]) :
  codeAny (model prog w) A (.builtin aI #[.ref C::rest,[]]) R #[h,g,d,t,os]:=by
 have he:=bxF.ends;refine codeAny_builtinAt bxF.entry ?_;unfold Builtin.«BaseException.__new__»;refine wpAt_bind ?_;show wpAt _ _ _ (stack >>= _) _ _ _;refine wpAt_bind (wpAt_stack fun p mX=>wpAt_of_wpAny ?_)
 wp_walk
 refine wpAt_of_wpAny ?_;rw[bxF.owner]
 repeat (first | (with_reducible refine Nt J ?_;first | rw[Y] | rw[U] | rw[b3]) | with_reducible refine wpAny_madeHere_exc bxF.canon J ?_ | with_reducible refine Jt J ?_ | wp_step)
 show R _ _;rw[KA];exact z
def xQ {oI:Obj}{Q:Fin->Shared->Prop}(X:K.In h) (lk:K.lookup C=some (excClassObj nm q C N bs bm hdct sn sub ab col dd k0 k1 k2 k3 k5 aI)) (b1:(Value.ref C::bm).contains (.type "ValueError")=true) (b2:(Value.ref C::bm).contains (.type "AttributeError")=false)
  (b3:(Value.ref C::bm).contains (.type "NameError")=false) (hi:findIn K (.ref C) "__init__" = some (some (.ref fI))) (lI:K.lookup fI=some oI) (cI:oI.cls = .type "function") (hr:rest.length<=sizeLine)
  (z:∀h' e,Heap.MadeExcOf h h' e (.ref C) rest->h.objs.size<=e->wpAny (model prog w) A (call (.ref fI) (.ref e::rest)) (fun r s'=>r = .none/\Q (.done (.ret (.ref e))) s') E #[h',g,d,t,os]) :
  wpAny (model prog w) A (Builtin.«type.__call__» #[.ref C::rest,[]]) Q E #[h,g,d,t,os]:=by
 have J:=X _ _ lk
 repeat (first | with_reducible refine wpAny_madeBy_exc J ?_ | with_reducible refine Jt J ?_ | wp_step)
 refine codeAny_call_builtin_code (Nr _ bxF.quiet) (Ii J b1 ?_);refine yJ J b1 b2 b3 hr ?_;generalize eh:(h.push { cls:=.type "tuple",data:=.seq rest.toArray }).push { cls:=.ref C,data:=.fields #v[.ref h.objs.size,.none,.none,.none,.bool false,.none] }=h1;have kp:∀b o,h.get? b=some o->h1.get? b=some o:=fun b o e=>by rw[<-eh];exact xu _ (xu _ e)
 have Y:K.In h1:=X.keeps kp;have U:=Y _ _ lk;have ge:h1.get? (h.objs.size+1)=some { cls:=.ref C,data:=.fields #v[.ref h.objs.size,.none,.none,.none,.bool false,.none] }:=by rw[<-eh];heap_get
 have gt:h1.get? h.objs.size=some { cls:=.type "tuple",data:=.seq rest.toArray }:=by rw[<-eh];exact xu _ (Heap.get?_push_at rfl rfl)
 have bC:(Value.ref C::bm).contains (.ref C)=true:=by simp
 have L:=Kd (M:=model prog w) Y hi;show wpAny _ _ _ _ _ _;unfold isInstance
 repeat (first | with_reducible refine L.at ?_ | with_reducible refine Jt ge ?_ | (with_reducible refine Nt U ?_;rw[bC]) | wp_step)
 unfold bindSpecial;refine gV (Ki (T := "function") #[_,Y _ _ lI,cI] ?_);rw[iO #[]];refine iR (gV (IV (z h1 _ #[kp,MN (Lx _),h.objs.size,ge,MN (tv _),gt] (Lx _)) (fun r s' hz=>?_) fun _ _ y=>y));obtain⟨rfl,hz⟩:=hz
 wp_walk
 exact hz
def Hy {Y:Obj}(X:K.In h) (U:K.lookup C=some (excClassObj nm q C N bs bm hdct sn sub ab col dd k0 k1 k2 k3 k5 aI)) (b1:(Value.ref C::bm).contains (.type "ValueError")=true) (b2:(Value.ref C::bm).contains (.type "AttributeError")=false)
  (b3:(Value.ref C::bm).contains (.type "NameError")=false) (hi:findIn K (.ref C) "__init__" = some (some (.ref fI))) (lI:K.lookup fI=some Y) (cI:Y.cls = .type "function") (hr:rest.length<=sizeLine)
  (z:∀h' e,Heap.MadeExcOf h h' e (.ref C) rest->h.objs.size<=e->wpAny (model prog w) (A.under (.builtin "type.__call__" #[.ref C::rest,[]])) (call (.ref fI) (.ref e::rest)) (fun r s'=>r = .none/\Q (.ref e) s') E #[h',g,d,t,os]) :
  wpAny (model prog w) A (call (.ref C) rest) Q E #[h,g,d,t,os]:=by
 have J:=X _ _ U;have y1:=tc_lookup;have y2:=tc_bind (.ref C);have yT:(#[h,g,d,t,os]:Shared).TypeIs (.ref C) "type" := #[_,J,rfl]
 refine KU (codeAny_of_tree ?_);show wpAny _ _ (callAny (.ref C) _) _ _ _
 repeat (any_goals (first | with_reducible refine Jt J ?_ | assumption | wp_step))
 refine#[rfl,codeAny_call_builtin_at (Nr _ (by decide +kernel)) entry_typeCall (wpAny_check_type_call_sub J (xQ X U b1 b2 b3 hi lI cI hr fun h' e m n=>?_))];exact z h' e m n
end
def af:List Value:=[.type "ValueError",.type "Exception",.type "BaseException",.type "object"]
def Bc (J:Value):refuseLoop J "__setattr__" af=pure ():=by kernel_rfl
section
variable {w:World}{g:Array GenState}{d:Drawn}{t:Nat}{os:OsState}{K:vF_}{x W:Addr}{o:Obj}{mA:vG_}{v:Value}
def Hb {Q:Fin->Shared->Prop}(X:K.In h) (hc:clsIn K C=some cd) (hm:cd.mro = .ref C :: .ref W::af) (hk:cd.hasDict=true) (f3:findIn K (.ref C) name=some none) (I:h.Inst x C mA)
  (hq:∀h' tk',h'.Inst x C (fun y=>if y=name then some v else mA y) ->
   (∀b u,b≠x->(∀o0 dx,h.get? x=some o0->o0.dict=some dx->b≠dx)->h.get? b=some u->h'.get? b=some u) ->
   (∀o0,h.get? x=some o0->∃o1,h'.get? x=some o1/\o1.cls=o0.cls/\o1.data=o0.data/\o1.slots=o0.slots/\(∀dx,o0.dict=some dx->o1.dict=some dx)/\(o0.dict=none->∃dx,o1.dict=some dx/\h.objs.size<=dx))->Q (.done (.ret .none)) #[h',g,d,tk',os])
  (hw:Within mA ns) (hz:ns.length<=1000) :
  wpAny (model prog w) A (Builtin.«object.__setattr__» #[[.ref x,.str name tk,v],[]]) Q E #[h,g,d,t,os]:=by
 obtain⟨o,U,J,Y,hd⟩:=I;have L1:=Kd (M:=model prog w) X f3;have L2:=looks_clsIn (M:=model prog w) X hc;have L3:Looks (model prog w) h (mroOf (.ref C)) cd.mro:=L2.andThen .now;have lx:Looks (model prog w) h (typeOf (.ref x)) (.ref C):=by
  intro A' Q' E' s' k z;unfold typeOf;refine gV (Ms (k _ _ U) (iR ?_));rw[J];exact z
 have rf:refuseLoop (.ref x) "__setattr__" cd.mro=pure ():=by rw[hm,refuseLoop_ref,refuseLoop_ref];exact Bc _
 rw[osa_eq,refuse_eq];refine gV (gV (lx.at (gV (L3.at ?_))));rw[rf];refine iR (gV (lx.at (gV (L1.at (gV (iR ?_))))));show wpAny _ _ (storeInOwnDict (.ref x) (.ref C) (.str name tk) name v false) _ _ _;unfold storeInOwnDict
 repeat (first | (with_reducible refine Jt U ?_;rw[J]) | with_reducible refine L2.at ?_ | wp_step)
 rcases hd with ⟨dn,mn⟩ | ⟨dx,de,ne,nd⟩
 .rw[dn,iU (by simp[typeHasDict])];split
  .rename_i z;cases z
  split
  .rename_i z;exact absurd z (Y _)
  .have nx:x≠h.objs.size:=Jd (xl U);have gx:(h.push { cls:=.type "dict",data:=.dict #v[] }).get? x=some o:=xu _ U;refine gV (wpAny_alloc' (gV (wpAny_update' gx (iR ?_))));generalize eh:((h.push { cls:=.type "dict",data:=.dict #v[] }).update x fun o=>{ cls:=o.cls,dict:=some h.objs.size,data:=o.data,slots:=o.slots })=h1;have g1:h1.get? h.objs.size=some { cls:=.type "dict",data:=.dict #v[] }:=by rw[<-eh];exact(Heap.get?_update_ne _ _ _ _ nx.symm).trans (Heap.get?_push_at rfl rfl)
   have gx1:h1.get? x=some { cls:=o.cls,dict:=some h.objs.size,data:=o.data,slots:=o.slots }:=by
    rw[<-eh];refine JW _ gx ?_;have fr:=(Heap.get?_some_iff.mp U).2;obtain⟨oc,od,dt,sl⟩:=o;cases dt <;> first | rfl | exact fr
   have gk:∀b u,b≠x->h.get? b=some u->h1.get? b=some u:=fun b u nb e=>by rw[<-eh];exact(Heap.get?_update_ne _ _ _ _ nb).trans (xu _ e)
   have n1:h1.Ns h.objs.size (fun _=>none):=#[_,#v[],_,g1,rfl,fun e he=>absurd he (by simp),fun _=>rfl]
   show wpAny _ _ (storeInDict h.objs.size (.str name tk) name v) _ _ _;unfold storeInDict newKeyGuard;refine gV (iR (gV (wpAny_nsSet1 (Heap.Ns1.of_empty n1) fun h' n' hs=>?_)));obtain⟨oD,es,ep,go,gd,gc⟩:=n'.count (Within.cons name v Within.nil);refine gV (wpAny_lookBehind go (by rw[gd];exact pastItsLine_dict (xr gc (by rw[Ja,Kn,Kg];omega))) ?_)
   wp_walk
   have gx':=(hs.2 x nx).trans gx1;refine hq h' _ #[_,gx',J,Y,.inr #[h.objs.size,rfl,nx.symm,?_]] (fun b u nb _ e=>(hs.2 b (Jd (xl e))).trans (gk b u nb e)) fun o0 e0=>?_
   .obtain⟨o',es',ep',e1,e2,e3,e4,e5⟩:=n';exact#[o',es',ep',e1,e2,e3,e4,fun y=>by rw[e5 y];by_cases hy:y=name <;> simp[hy,mn]]
   .obtain rfl:o=o0:=Jg (U.symm.trans e0);exact#[_,gx',rfl,rfl,rfl,(fun dx e=>by rw[dn] at e;cases e),fun _=>#[_,rfl,tv _]]
 .rw[de];refine iR ?_;show wpAny _ _ (storeInDict dx (.str name tk) name v) _ _ _;unfold storeInDict newKeyGuard;refine gV (iR (gV (wpAny_nsSet1 nd fun h' n' hs=>?_)));obtain⟨oD,es,ep,go,gd,gc⟩:=n'.count (Within.cons name v hw);refine gV (wpAny_lookBehind go (by rw[gd];exact pastItsLine_dict (xr gc (by rw[Ja,Kg];omega))) ?_)
  wp_walk
  exact hq h' _ #[o,(hs.2 x ne.symm).trans U,J,Y,.inr #[dx,de,ne,n']] (fun b u _ nb e=>(hs.2 b (nb o dx U de)).trans e) fun o0 e0=>#[o0,(hs.2 x ne.symm).trans e0,rfl,rfl,rfl,(fun _ e=>e),fun z=>by rw[U] at e0;cases e0;rw[de] at z;cases z]
def lU {Q:Unit->Shared->Prop}(X:K.In h) (hc:clsIn K C=some cd) (Y:cd.mro = .ref C :: .ref W::af) (hk:cd.hasDict=true) (f3:findIn K (.ref C) name=some none)
  (f7:findIn K (.ref C) "__setattr__" = some (some (.builtin "object.__setattr__"))) (I:h.Inst x C mA)
  (hq:∀h' tk',h'.Inst x C (fun y=>if y=name then some v else mA y) ->
   (∀b u,b≠x->(∀o0 dx,h.get? x=some o0->o0.dict=some dx->b≠dx)->h.get? b=some u->h'.get? b=some u) ->
   (∀o0,h.get? x=some o0->∃o1,h'.get? x=some o1/\o1.cls=o0.cls/\o1.data=o0.data/\o1.slots=o0.slots/\(∀dx,o0.dict=some dx->o1.dict=some dx)/\(o0.dict=none->∃dx,o1.dict=some dx/\h.objs.size<=dx))->Q () #[h',g,d,tk',os])
  (hw:Within mA ns) (hz:ns.length<=1000):wpAny (model prog w) A (setAttr (.ref x) name v) Q E #[h,g,d,t,os]:=by
 obtain⟨o,hx,U,hnc,hd⟩:=id I;have lx:Looks (model prog w) h (typeOf (.ref x)) (.ref C):=by
  intro A' Q' E' s' k z;unfold typeOf;refine gV (Ms (k _ _ hx) (iR ?_));rw[U];exact z
 have L7:=Kd (M:=model prog w) X f7;have J:=PySem.F.store_object;refine gV (wpAny_mkText (gV (gV (gV (lx.at (L7.at (JD ?_)))))));rw[J.slot.bind];have sub:Looks (model prog w) h (isInstance (.ref x) (.type "object")) true:=lx.andThen (looks_mroIn X (by unfold mroIn;rw[hc,xo,Y];rfl));refine gV (iR (gV (KU ?_)));refine Mq J.slot.plain J.entry (@check_slot (model prog w) _ _ #[h,g,d,t+1,os] "object.__setattr__" "object" "__setattr__" (.ref x) [.str name t,v] [] _ J.kind J.split sub (J.args (.ref x) (.str name t) v) ?_);refine Hb X hc Y hk f3 I (fun h' tk' I' k1 k2=>?_) hw hz;exact iR (iR (hq h' tk' I' k1 k2))
end
end L2
namespace L2
open PySem PySem.W PySem.Spec PySem.Builtin PySem.Builtin.ObjectAttr PyProof.Rows
structure XK1 (K:vF_) (C W:Addr):Prop where
 xc:XC K C
 ob:∃nm q N bs hdct sn sub ab col dd k0 k1 k2 k3 k5,K.lookup C=some (excClassObj nm q C N bs (.ref W::af) hdct sn sub ab col dd k0 k1 k2 k3 k5 aI)
 sa:findIn K (.ref C) "__setattr__" = some (some (.builtin "object.__setattr__"))
def XK1.cls {K:vF_}{W:Addr}(c:XK1 K C W):∃cd,clsIn K C=some cd/\cd.mro = .ref C :: .ref W::af/\cd.hasDict=true:=by
 obtain⟨nm,q,N,bs,hdct,sn,sub,ab,col,dd,k0,k1,k2,k3,k5,e⟩:=c.ob;obtain⟨oc,od,cd,sl,J,U⟩:=c.xc.look;rw[e] at J;cases J;exact#[_,by unfold clsIn;rw[e],rfl,U]
section
variable {P:Program}{w:World}{K:vF_}{e W fI:Addr}{u0 u1:Value}{R:Result->Shared->Prop}
variable {params:Arguments}{kV doc pm ct:Value}
def pR {ps:List Str}{us:vV_}(hr:A.depth<recursionLimit) (X:K.In s.heap) (J:s.heap.NoLimit) (lk:K.lookup fI=some #[oc,od,.func (PySem.W.fnOf name qual params body scope .none kV doc pm an cdv ct),osl])
  (U:PySem.W.codeIn K cdv qual=true) (k1:scope.kind = .function) (k2:scope.isCoroutine=false) (k3:scope.isGenerator=false) (hp:∀x∈ps,scope.names.lookup x=some .local)
  (hb:bindArgs (PySem.W.fnOf name qual params body scope .none kV doc pm an cdv ct) #[us,[]]=pure (ps.zip us))
  (z:∀h' tk,(∀b o,s.heap.get? b=some o->h'.get? b=some o)->h'.Ns s.heap.objs.size (bindL (envOfC qual scope s.heap.objs.size fI cdv).kindOf (ps.zip us) fun _=>none) ->
   wpAny (model P w) (A.deeper (envOfC qual scope s.heap.objs.size fI cdv)) (execs body (envOfC qual scope s.heap.objs.size fI cdv)) (fun fl s'=>match fl with | .ret v=>R (.ok (.ret v)) s' | .next=>R (.ok (.ret .none)) s' | _=>False)
    (fun _ _=>False) { s with heap:=h',toks:=tk }) :
  codeAny (model P w) A (.call (.ref fI) #[us,[]]) R s:=by
 refine codeAny_call_function hr (X _ _ lk) rfl k2 k3 rfl (PySem.W.codeRec_of X U) (wpAny_of_eq hb ?_);refine wpAny_newFunctionEnv_cells k1 (fun y hy=>.inl (hp y.1 (Kw (a:=y.1) (b:=y.2) hy).1)) fun env he s1 x=>?_
 subst he;obtain⟨h1,tk,rfl,Y⟩:=x.done;refine#[J.keeps Y,codeAny_func ?_];refine IV (z h1 tk Y x.toInCall.ns) (fun fl s' q=>?_) fun _ _ q=>q.elim
 cases fl <;> first | exact q | exact q.elim
structure Mdx (K:vF_) (h h':Heap) (e dx C:Addr) (vs:vR_) (mA:vG_):Prop where
 kp:∀b u,b≠e->h.get? b=some u->h'.get? b=some u
 at_:∃o,h'.get? e=some o/\o.cls = .ref C/\o.data = .fields vs/\o.dict=some dx
 ne:dx≠e
 nw:h.objs.size<=dx
 ns:h'.Ns1 dx mA
def T6 {L f:Addr}(h:scope.names.lookup x=some .local):(envOfC qual scope L f cdv).kindOf x=some .local:=h
def xn {vs:vR_}{p1 p2 p3 p4:Pos}(c:XK1 K C W) (hw:findIn K (.ref C) "word" = some none) (hr:A.depth<recursionLimit) (X:K.In s.heap) (lim:s.heap.NoLimit)
  (lk:K.lookup fI=some #[oc,od,.func (PySem.W.fnOf name qual params [.Assign [.Attribute (.Name "self" p1) "word" p2] (.Name "word" p3) p4] scope .none kV doc pm an cdv ct),osl]) (hcd:PySem.W.codeIn K cdv qual=true)
  (k1:scope.kind = .function) (k2:scope.isCoroutine=false) (k3:scope.isGenerator=false) (hp:∀x∈(["self", "word"]:List Str),scope.names.lookup x=some .local)
  (hb:bindArgs (PySem.W.fnOf name qual params [.Assign [.Attribute (.Name "self" p1) "word" p2] (.Name "word" p3) p4] scope .none kV doc pm an cdv ct) #[[.ref e,u0],[]]=pure ((["self", "word"]:List Str).zip [.ref e,u0]))
  (hx:s.heap.get? e=some { cls:=.ref C,data:=.fields vs }) (hK:K.lookup e=none)
  (z:∀h' tk dx,Mdx K s.heap h' e dx C vs (fun y=>if y = "word" then some u0 else none)->R (.ok (.ret .none)) { s with heap:=h',toks:=tk }) :
  codeAny (model P w) A (.call (.ref fI) #[[.ref e,u0],[]]) R s:=by
 obtain⟨cd,c1,c2,c3⟩:=c.cls;have ks:=hp "self" (by simp);have kw:=hp "word" (by simp);refine pR hr X lim lk hcd k1 k2 k3 hp hb fun h1 tk U hn=>?_
 have q1:(bindL (envOfC qual scope s.heap.objs.size fI cdv).kindOf ((["self", "word"]:List Str).zip [Value.ref e,u0]) fun _=>none) "self" = some (.ref e):=aX (i:=0) #[] rfl rfl (T6 ks);have q2:(bindL (envOfC qual scope s.heap.objs.size fI cdv).kindOf ((["self", "word"]:List Str).zip [Value.ref e,u0]) fun _=>none) "word" = some u0:=aX (i:=1) #[] rfl rfl (T6 kw);have I0:h1.Inst e C (fun _=>none):=#[_,U _ _ hx,rfl,(fun c z=>by cases z),.inl #[rfl,fun _=>rfl]]
 refine Lr (Nu (Ka (Ks k1 (T6 kw) hn q2 (Ka (Ks k1 (T6 ks) hn q1 (lU (X.keeps U) c1 c2 c3 hw c.sa I0 (fun h2 tk2 I2 kp2 st2=>?_) Within.nil #[])) #[])) #[]));refine Kt ?_;obtain⟨o1,g1,g2,g3,_,_,g6⟩:=st2 _ (U _ _ hx);obtain⟨dx,Y,g8⟩:=g6 rfl;obtain⟨o2,r1,r2,r3,J⟩:=I2;rw[g1] at r1;cases r1;rcases J with ⟨J,_⟩ | ⟨d2,J,r5,r6⟩
 .rw[Y] at J;cases J
 .rw[Y] at J;cases J;refine z _ _ dx #[fun b u nb eb=>kp2 b u nb (fun o0 d0 e0 f0=>?_) (U _ _ eb),#[_,g1,r2,g3,Y],r5,?_,r6]
  .rw[U _ _ hx] at e0;cases e0;cases f0
  .exact xr (JZ hn.lt) g8
def Db {vs:vR_}{p1 p2 p3 p4 p5 p6 p7 p8:Pos}(c:XK1 K C W) (hw:findIn K (.ref C) "word" = some none) (ha:findIn K (.ref C) "at" = some none) (hr:A.depth<recursionLimit) (X:K.In s.heap) (lim:s.heap.NoLimit)
  (lk:K.lookup fI=some #[oc,od,.func (PySem.W.fnOf name qual params [.Assign [.Attribute (.Name "self" p1) "word" p2] (.Name "word" p3) p4,.Assign [.Attribute (.Name "self" p5) "at" p6] (.Name "at" p7) p8] scope .none kV doc pm an cdv ct),osl]) (hcd:PySem.W.codeIn K cdv qual=true)
  (k1:scope.kind = .function) (k2:scope.isCoroutine=false) (k3:scope.isGenerator=false) (hp:∀x∈(["self", "word", "at"]:List Str),scope.names.lookup x=some .local)
  (hb:bindArgs (PySem.W.fnOf name qual params [.Assign [.Attribute (.Name "self" p1) "word" p2] (.Name "word" p3) p4,.Assign [.Attribute (.Name "self" p5) "at" p6] (.Name "at" p7) p8] scope .none kV doc pm an cdv ct) #[[.ref e,u0,u1],[]]=pure ((["self", "word", "at"]:List Str).zip [.ref e,u0,u1]))
  (hx:s.heap.get? e=some { cls:=.ref C,data:=.fields vs }) (hK:K.lookup e=none)
  (z:∀h' tk dx,Mdx K s.heap h' e dx C vs (fun y=>if y = "at" then some u1 else if y = "word" then some u0 else none)->R (.ok (.ret .none)) { s with heap:=h',toks:=tk }) :
  codeAny (model P w) A (.call (.ref fI) #[[.ref e,u0,u1],[]]) R s:=by
 obtain⟨cd,c1,c2,c3⟩:=c.cls;have ks:=hp "self" (by simp);have ka:=hp "at" (by simp);have kw:=hp "word" (by simp);refine pR hr X lim lk hcd k1 k2 k3 hp hb fun h1 tk hk hn=>?_
 have q1:(bindL (envOfC qual scope s.heap.objs.size fI cdv).kindOf ((["self", "word", "at"]:List Str).zip [Value.ref e,u0,u1]) fun _=>none) "self" = some (.ref e):=aX (i:=0) #[] rfl rfl (T6 ks);have q2:(bindL (envOfC qual scope s.heap.objs.size fI cdv).kindOf ((["self", "word", "at"]:List Str).zip [Value.ref e,u0,u1]) fun _=>none) "word" = some u0:=aX (i:=1) #[] rfl rfl (T6 kw);have q3:(bindL (envOfC qual scope s.heap.objs.size fI cdv).kindOf ((["self", "word", "at"]:List Str).zip [Value.ref e,u0,u1]) fun _=>none) "at" = some u1:=aX (i:=2) #[] rfl rfl (T6 ka);have I0:h1.Inst e C (fun _=>none):=#[_,hk _ _ hx,rfl,(fun c z=>by cases z),.inl #[rfl,fun _=>rfl]]
 refine Lr (Nu (Ka (Ks k1 (T6 kw) hn q2 (Ka (Ks k1 (T6 ks) hn q1 (lU (X.keeps hk) c1 c2 c3 hw c.sa I0 (fun h2 tk2 I2 kp2 st2=>?_) Within.nil #[])) #[])) #[]));obtain⟨o1,g1,g2,g3,_,_,g6⟩:=st2 _ (hk _ _ hx);obtain⟨dx,g7,g8⟩:=g6 rfl;have nL:s.heap.objs.size≠e:=fun z=>by have:=xl hx;rw[<-z] at this;exact JB _ this
 have U:∀b u,b≠e->h1.get? b=some u->h2.get? b=some u:=fun b u nb J=>kp2 b u nb (fun o0 d0 e0 f0=>by rw[hk _ _ hx] at e0;cases e0;cases f0) J
 have hn2:h2.Ns s.heap.objs.size (bindL (envOfC qual scope s.heap.objs.size fI cdv).kindOf ((["self", "word", "at"]:List Str).zip [Value.ref e,u0,u1]) fun _=>none):=by
  obtain⟨o,es,ep,e1,e2⟩:=hn;exact#[o,es,ep,U _ _ nL e1,e2]
 have X2:K.In h2:=fun b o J=>U b o (fun z=>by rw[z,hK] at J;cases J) ((X.keeps hk) _ _ J)
 refine Lr (Nu (Ka (Ks k1 (T6 ka) hn2 q3 (Ka (Ks k1 (T6 ks) hn2 q1 (lU X2 c1 c2 c3 ha c.sa I2 (fun h3 tk3 I3 kp3 st3=>?_) (Within.cons "word" u0 Within.nil) #[])) #[])) #[]));refine Kt ?_;obtain⟨o3,y1,y2,y3,_,y5,_⟩:=st3 _ g1;have y7:=y5 _ g7;obtain⟨o2,r1,r2,r3,Y⟩:=I3;rw[y1] at r1;cases r1;rcases Y with ⟨Y,_⟩ | ⟨d2,Y,r5,r6⟩
 .rw[y7] at Y;cases Y
 .rw[y7] at Y;cases Y;have nd:s.heap.objs.size<=dx:=xr (JZ hn.lt) g8;refine z _ _ dx #[fun b u nb J=>kp3 b u nb (fun o0 d0 e0 f0=>?_) (U b u nb (hk _ _ J)),#[_,y1,r2,y3.trans g3,y7],r5,nd,r6];rw[g1] at e0;cases e0;rw[g7] at f0;cases f0;rintro rfl;exact absurd (IJ (xl J) nd) (JB _)
end
def sG (p1 p2 p3 p4:Pos):List Stmt:=[.Assign [.Attribute (.Name "self" p1) "word" p2] (.Name "word" p3) p4]
def Gg (p1 p2 p3 p4 Y J p7 U:Pos):List Stmt:=[.Assign [.Attribute (.Name "self" p1) "word" p2] (.Name "word" p3) p4,.Assign [.Attribute (.Name "self" Y) "at" J] (.Name "at" p7) U]
structure XD (K:vF_) (C W fI:Addr) (ps:List Str) (body:List Stmt):Prop where
 k1:XK1 K C W
 hi:PySem.W.findIn K (.ref C) "__init__" = some (some (.ref fI))
 fn:∃(oc:Value) (od:vA_) (name qual:Str) (params:Arguments) (scope:Scope) (kV doc pm:Value) (an:vA_) (cdv ct:Value) (osl:vS_),
  K.lookup fI=some #[oc,od,.func (PySem.W.fnOf name qual params body scope .none kV doc pm an cdv ct),osl]/\oc = .type "function" /\ PySem.W.codeIn K cdv qual=true/\scope.kind = .function/\scope.isCoroutine=false/\scope.isGenerator=false /\
  (∀x∈("self" :: ps:List Str),scope.names.lookup x=some .local)/\∀us:List Value,us.length=ps.length+1->bindArgs (PySem.W.fnOf name qual params body scope .none kV doc pm an cdv ct) #[us,[]]=pure (("self" :: ps:List Str).zip us)
 no:∀x∈ps,PySem.W.findIn K (.ref C) x=some none
structure Mdn (h h':Heap) (e dx C:Addr) (mA:vG_):Prop where
 kp:∀b u,h.get? b=some u->h'.get? b=some u
 ne:dx≠e
 n1:h.objs.size<=e
 n2:h.objs.size<=dx
 at_:∃o,h'.get? e=some o/\o.cls = .ref C/\(∃t0,o.data = .fields #v[.ref t0,.none,.none,.none,.bool false,.none])/\o.dict=some dx
 ns:h'.Ns1 dx mA
def zV (C W:Addr):(Value.ref C :: .ref W::af).contains (.type "ValueError")=true/\(Value.ref C :: .ref W::af).contains (.type "AttributeError")=false/\(Value.ref C :: .ref W::af).contains (.type "NameError")=false:=#[rfl,rfl,rfl]
def sO {K:vF_}{e:Addr}(X:K.In h) (n:h.objs.size<=e):K.lookup e=none:=by
 cases q:K.lookup e with
 |none=>rfl
 |some o=>exact absurd (IJ (xl (X _ _ q)) n) (JB _)
def lR {b e:Addr}{u:Obj}(q:h.get? b=some u) (n:h.objs.size<=e):b≠e:=fun z=>by rw[z] at q;exact absurd (IJ (xl q) n) (JB _)
section
variable {P:Program}{w:World}{K:vF_}{W fI:Addr}{u0 u1:Value}{k:Nat}
def rS {ps:List Str}{body:List Stmt}{us:vV_}(c:XD K C W fI ps body) (U:us.length<=sizeLine) (X:K.In s.heap)
  (z:∀h1 e,(∀b u,s.heap.get? b=some u->h1.get? b=some u)->s.heap.objs.size<=e->s.heap.objs.size<=h1.objs.size->(∃t0,h1.get? e=some { cls:=.ref C,data:=.fields #v[.ref t0,.none,.none,.none,.bool false,.none] }) ->
   wpAny (model P w) (A.under (.builtin "type.__call__" #[.ref C::us,[]])) (call (.ref fI) (.ref e::us)) (fun r s'=>r = .none/\Q (.ref e) s') E { s with heap:=h1 }):wpAny (model P w) A (call (.ref C) us) Q E s:=by
 obtain⟨nm,q,N,bs,hdct,sn,sub,ab,col,dd,k0,k1,k2,k3,k5,Y⟩:=c.k1.ob;obtain⟨oc,od,name,qual,params,scope,kV,doc,pm,an,cdv,ct,osl,lf,rfl,_⟩:=c.fn;obtain⟨b1,b2,b3⟩:=zV C W;obtain⟨h,g,d,t,os⟩:=s;refine Hy X Y b1 b2 b3 c.hi lf rfl U fun h1 e m n=>?_
 obtain⟨t0,J,_⟩:=m.there;exact z h1 e m.keeps n (JZ (Jf n (xl J))) #[t0,J]
def mk1 {p1 p2 p3 p4:Pos}(c:XD K C W fI ["word"] (sG p1 p2 p3 p4)) (hr:Room (k+1) A) (X:K.In s.heap) (J:s.heap.NoLimit)
  (z:∀h' tk e dx,Mdn s.heap h' e dx C (fun y=>if y = "word" then some u0 else none)->Q (.ref e) { s with heap:=h',toks:=tk }):wpAny (model P w) A (call (.ref C) [u0]) Q E s:=by
 refine rS c (show 1<=sizeLine by decide) X fun h1 e kp ne sz ⟨t0,hx⟩=>?_
 obtain⟨oc,od,name,qual,params,scope,kV,doc,pm,an,cdv,ct,osl,lf,_,f1,f2,f3,Y,f5,f6⟩:=c.fn;refine KU (xn (s:={ s with heap:=h1 }) c.k1 (c.no _ (by simp)) (hr.make C _ _).depth (X.keeps kp) (J.keeps kp) lf f1 f2 f3 Y f5 (f6 _ rfl) hx ?_ fun h2 tk dx m=>?_)
 .exact sO X ne
 .exact#[rfl,z h2 tk e dx #[fun b u U=>m.kp b u (lR U ne) (kp b u U),m.ne,ne,xr sz m.nw,let ⟨o,y1,y2,y3,y4⟩:=m.at_;#[o,y1,y2,#[t0,y3],y4],m.ns]]
def V1 {p1 p2 p3 p4 p5 p6 p7 p8:Pos}(c:XD K C W fI ["word", "at"] (Gg p1 p2 p3 p4 p5 p6 p7 p8)) (hr:Room (k+1) A) (X:K.In s.heap) (J:s.heap.NoLimit)
  (z:∀h' tk e dx,Mdn s.heap h' e dx C (fun y=>if y = "at" then some u1 else if y = "word" then some u0 else none)->Q (.ref e) { s with heap:=h',toks:=tk }):wpAny (model P w) A (call (.ref C) [u0,u1]) Q E s:=by
 refine rS c (show 2<=sizeLine by decide) X fun h1 e kp ne sz ⟨t0,hx⟩=>?_
 obtain⟨oc,od,name,qual,params,scope,kV,doc,pm,an,cdv,ct,osl,lf,_,f1,f2,f3,Y,f5,f6⟩:=c.fn;refine KU (Db (s:={ s with heap:=h1 }) c.k1 (c.no _ (by simp)) (c.no _ (by simp)) (hr.make C _ _).depth (X.keeps kp) (J.keeps kp) lf f1 f2 f3 Y f5 (f6 _ rfl) hx ?_ fun h2 tk dx m=>?_)
 .exact sO X ne
 .exact#[rfl,z h2 tk e dx #[fun b u U=>m.kp b u (lR U ne) (kp b u U),m.ne,ne,xr sz m.nw,let ⟨o,y1,y2,y3,y4⟩:=m.at_;#[o,y1,y2,#[t0,y3],y4],m.ns]]
end
end L2
namespace DL
open PySem PySem.Spec L2
structure Rf1 (K:vF_) (mg:vG_) (c:Str):Prop where
 ex:∃C W fI p1 p2 p3 p4,mg c=some (.ref C)/\PySem.W.nsIn K mainGlobals c=some (some (.ref C))/\PySem.W.keepIn K (.ref C)=true/\XD K C W fI ["word"] (sG p1 p2 p3 p4)
section
variable {c:Str}{p:Pos}{a b:Expr}{fa fb:DE}{t:DA}{k:Nat}
def BA {J:V}(rv:Vals [J] [u0]) (f:Str):cJ ((fnm.zip [J]).lookup f) (if f = "word" then some u0 else none):=by
 have Y:RelV J u0:=by cases rv with | cons r _=>exact r
 show cJ (([(("word" : Str),J)]:List (Str × V)).lookup f) _;by_cases U:f = "word"
 .subst U;exact Y
 .rw[List.lookup_cons,beq_eq_false_iff_ne.mpr U];simp only[iU U];trivial
end
def mR (f:Str):Option Nat:=if f = "word" then some 0 else if f = "at" then some 1 else none
def vm (cs:List Str) (f:Str):D->Option D
 |.exc c ds=>if cs.contains c=true then (mR f).bind fun i=>ds[i]? else none
 |_=>none
def V3 (c c':Str):Bool:=c == c'||c' == "WideError"
def fY (cs:List Str) (c':Str):D->Option D
 |.exc c _=>if cs.contains c=true then some (.bl (V3 c c')) else none
 |_=>none
def jZ (cs:List Str):D->Option D
 |.exc c _=>if cs.contains c=true then some (.bl true) else none
 |_=>none
structure RfX (K:vF_) (mg:vG_) (cs':List Str) (c:Str):Prop where
 ex:∃C,PySem.W.nsIn K mainGlobals c=some (some (.ref C))/\XC K C/\PySem.W.kitOne K (.ref C) (.type "ValueError")=some true/\(∀x∈fnm,PySem.W.findIn K (.ref C) x=some none) /\
  ∀c'∈cs',∃C',mg c'=some (.ref C')/\PySem.W.kitOne K (.ref C) (.ref C')=some (V3 c c')
section
variable {a:Expr}{fa:DE}
def kF {e:Addr}(I:Inv X pins σ H s) (h:ExO H e C xs) :
  ∃o,s.heap.get? e=some o/\o.cls = .ref C/\(∃vs,o.data = .fields vs)/\(xs=[]\/∃dx mA,o.dict=some dx/\s.heap.Ns1 dx mA/\∀f,cJ ((fnm.zip xs).lookup f) (mA f)):=by
 obtain⟨o,e1,e2,U,_,Y⟩:=h;refine#[o,(I.hok _ _ e1).1,e2,U,Y.imp id ?_];rintro⟨dx,od,d1,J⟩;obtain⟨_,mA,n1,n2⟩:=I.hok _ _ J;exact#[dx,mA,d1,n1,n2]
def yj {f:Str}(R:∀c∈cs,RfX X.K X.mg cs' c) (ha:EO X g a fa) (hb:attributeBase a f X.env (eval a X.env)=eval a X.env):EO X g (.Attribute a f pos) (r8 (vm cs f) fa):=by
 refine#[fun pins s σ H Q I h=>?_];refine h.elim fun fa0 O s0 d s1 G0 e0 q=>?_
 refine o8 e0 fun x s2 h1 h2=>?_
 refine N6 h2 fun d' U h4=>?_
 cases h4;refine wP hb (l4 (ha.pe pins s σ H (fun v H1=>∃f1 O1,StE fa0 O H f1 O1 H1/\GI X.K g σ H1 f1 O1 s2/\Rep X.K (NN g.F f1 O1) f1 H1 x v) I #[fa0,O,s0,x,s2,G0,h1,fun v H1 f1 O1 a1 a2 a3=>#[f1,O1,a1,a2,a3]]) fun u s3 ⟨v,H1,I1,rv,f1,O1,b1,b2,b3⟩=>?_);cases x with
 |exc c ds=>
  have U:(if cs.contains c=true then (mR f).bind fun i=>ds[i]? else none)=some d:=U;by_cases hc:cs.contains c=true
  .rw[iO hc] at U;obtain⟨i,i1,i2⟩:=Kk.mp U;simp only[Rep] at b3;obtain⟨e,C,xs,rfl,n1,eo,rs⟩:=b3;cases rv;obtain⟨C2,m1,m2,m3,m4,m5⟩:=(R c (by simpa using hc)).ex;rw[n1] at m1;cases m1;obtain⟨o,o1,o2,⟨vs,o3⟩,o4⟩:=kF I1 eo;obtain⟨x0,Y,y2⟩:=Reps.get rs i2;rcases o4 with rfl | ⟨dx,mA,z1,z2,z3⟩
   .cases Y
   have fi:f∈fnm/\((fnm.zip xs).lookup f)=some x0:=by
    unfold mR at i1;by_cases w1:f = "word"
    .subst w1;rw[iO rfl] at i1;cases i1;cases xs with
     |nil=>cases Y
     |cons x1 r=>cases Y;exact#[by simp[fnm],rfl]
    .rw[iU w1] at i1;by_cases w2:f = "at"
     .subst w2;rw[iO rfl] at i1;cases i1;cases xs with
      |nil=>cases Y
      |cons x1 r=>
       cases r with
       |nil=>cases Y
       |cons x2 r=>cases Y;exact#[by simp[fnm],rfl]
     .rw[iU w2] at i1;cases i1
   have J:=z3 f;rw[fi.2] at J;cases mv:mA f with
   |none=>rw[mv] at J;exact J.elim
   |some u0=>
    rw[mv] at J;have J:RelV x0 u0:=J;obtain⟨hh,gg,dd,tt,oo⟩:=s3;refine zB I1.kIn o1 o2 o3 z1 z2.ns mv m2.f0 m2.f1 m2.f2 (m4 f fi.1) m2.f4 (fun id z=>?_) #[x0,H1,I1.tok _,J,q x0 H1 f1 O1 b1 b2 y2];subst z;cases x0 <;> first | (obtain⟨_,z⟩:=J;cases z) | cases J
  .rw[iU hc] at U;cases U
 |_=>cases U
def GL {e:Addr}{c:Value}{b:Bool}{Q:VK}(I:Inv X pins σ H s) (h:ExO H e C xs) (U:XC X.K C) (k:PySem.W.kitOne X.K (.ref C) c=some b) (q:Q (.bl b) H) :
  wpAny (model X.prog X.w) X.A (call (.builtin "isinstance") [.ref e,c]) (EP X pins σ Q) X.xe s:=by
 obtain⟨o,Y,o2,_⟩:=kF I h;exact KC U.kit I.kIn #[o,Y,o2] k (fun z=>nomatch z) fun J=>#[.bl b,H,I.tok J,rfl,q]
def sw {c:Value}{v:V}(hv:∀u,RelV v u->u=c):CallR X (.builtin "isinstance") (fun xs H Q=>∃e C b ys,xs=[.ref e,v]/\ExO H e C ys/\XC X.K C/\PySem.W.kitOne X.K (.ref C) c=some b/\Q (.bl b) H):=by
 intro pins s σ H xs us Q I r h;obtain⟨e,C,b,ys,rfl,h1,h2,J,q⟩:=h;obtain⟨u,c0,rfl,Y,U⟩:=mx r;cases Y;cases hv _ U;exact GL I h1 h2 J q
def uM {p:D->Option D}{c:Value}{v:V}{f:Str->Bool}(hp:∀d b,p d=some b->∃c0 ds,d = .exc c0 ds/\c0∈cs/\b = .bl (f c0)) (R:∀c0∈cs,∃C,PySem.W.nsIn X.K mainGlobals c0=some (some (.ref C))/\XC X.K C/\PySem.W.kitOne X.K (.ref C) c=some (f c0))
  (σ:L2.St) (H:Hp) (Q:VK) (hQ:liftE X.K g (r8 p fa) σ H Q):cX (fun xs H Q=>∃e C b ys,xs=[.ref e,v]/\ExO H e C ys/\XC X.K C/\PySem.W.kitOne X.K (.ref C) c=some b/\Q (.bl b) H) (nN (liftE X.K g fa) (nN (tC v) uq)) σ H Q:=by
 refine hQ.elim fun Y O s d s' I e k=>?_
 refine o8 e fun x s1 h1 h=>?_
 refine N6 h fun d' h3 h=>?_
 cases h;obtain⟨c0,ds,rfl,m,rfl⟩:=hp _ _ h3;refine#[Y,O,s,_,s1,I,h1,fun y H1 f1 O1 a1 I1 J=>?_];simp only[Rep] at J;obtain⟨a,C,xs,rfl,n1,eo,rs⟩:=J;obtain⟨C2,U,m2,m3⟩:=R c0 m;rw[n1] at U;cases U;exact#[a,C,_,xs,rfl,eo,m2,m3,k _ H1 f1 O1 a1 I1 (by simp only[Rep])]
def Fo (d b:D) (h:fY cs c' d=some b):∃c0 ds,d = .exc c0 ds/\c0∈cs/\b = .bl (V3 c0 c'):=by
 cases d with
 |exc c ds=>
  have h:(if cs.contains c=true then some (.bl (V3 c c')) else none)=some b:=h;by_cases z:cs.contains c=true
  .rw[iO z] at h;cases h;exact#[c,ds,rfl,by simpa using z,rfl]
  .rw[iU z] at h;cases h
 |_=>cases h
def yB (d b:D) (h:jZ cs d=some b):∃c0 ds,d = .exc c0 ds/\c0∈cs/\b = .bl ((fun _=>true) c0):=by
 cases d with
 |exc c ds=>
  have h:(if cs.contains c=true then some (.bl true) else none)=some b:=h;by_cases z:cs.contains c=true
  .rw[iO z] at h;cases h;exact#[c,ds,rfl,by simpa using z,rfl]
  .rw[iU z] at h;cases h
 |_=>cases h
def DQ {c':Str}{C':Addr}{p p2:Pos}(R:∀c∈cs,RfX X.K X.mg cs' c) (hc:c'∈cs') (hg:Gl X "isinstance") (hm:X.mg "isinstance" = none) (hgc:Gl X c') (J:X.mg c'=some (.ref C')) (ha:EO X g a fa)
  (hd:(c' == ("__debug__" : Str))=false:=by decide) (Y:starEach [.Name c' p2] X.env=(false,eval (.Name c' p2) X.env)::starEach [] X.env:=by rfl)
  (he:starEach [a,.Name c' p2] X.env=(false,eval a X.env)::starEach [.Name c' p2] X.env:=by rfl) (hpl:(backTo pos (starEach [.Name c' p2] X.env)).any (·.1)=false:=by rfl) :
  EO X g (.Call (.Name "isinstance" p) [a,.Name c' p2] [] pos) (r8 (fY cs c') fa):=
 EO.w (dI (sw (c:=.ref C') (v:=.ref C') fun u r=>r) hg hm hJ (O9 ha.pe (O9 (ly (v:=.ref C') hgc J rfl hd) ag Y) he) #[] #[] he hpl)
  (uM (f:=fun U=>V3 U c') Fo fun U m=>by
   obtain⟨C,m1,m2,m3,m4,m5⟩:=(R U m).ex;obtain⟨C2,z1,z2⟩:=m5 c' hc;rw[J] at z1;cases z1;exact#[C,m1,m2,z2])
def EK {p p2:Pos}(R:∀c∈cs,RfX X.K X.mg cs' c) (hg:Gl X "isinstance") (hm:X.mg "isinstance" = none) (Y:Gl X "ValueError") (J:X.mg "ValueError" = none) (ha:EO X g a fa)
  (hs1:starEach [.Name "ValueError" p2] X.env=(false,eval (.Name "ValueError" p2) X.env)::starEach [] X.env:=by rfl)
  (he:starEach [a,.Name "ValueError" p2] X.env=(false,eval a X.env)::starEach [.Name "ValueError" p2] X.env:=by rfl) (U:(backTo pos (starEach [.Name "ValueError" p2] X.env)).any (·.1)=false:=by rfl) :
  EO X g (.Call (.Name "isinstance" p) [a,.Name "ValueError" p2] [] pos) (r8 (jZ cs) fa):=
 EO.w (dI (sw (c:=.type "ValueError") (v:=.ty "ValueError") fun u r=>r) hg hm hJ (O9 ha.pe (O9 (oN (v:=.ty "ValueError") Y J (by rfl) rfl #[] #[]) ag hs1) he) #[] #[] he U)
  (uM (f:=fun _=>true) yB fun c0 m=>by
   obtain⟨C,m1,m2,m3,_⟩:=(R c0 m).ex;exact#[C,m1,m2,m3])
end
structure RfA (K:vF_) (mg:vG_) (cs cs':List Str):Prop where
 rx:∀c∈cs,RfX K mg cs' c
 mm:∀c∈cs',∃C,mg c=some (.ref C)
 ve:mg "ValueError" = none
section
variable {c:Str}{p:Pos}{a:Expr}{t:DA}{fa:DE}
def DF {c':Str}{p p2:Pos}(R:RfA X.K X.mg cs cs') (J:cs'.contains c'=true) (hg:Gl X "isinstance") (hm:X.mg "isinstance" = none) (U:Gl X c') (ha:EO X g a fa)
  (hd:(c' == ("__debug__" : Str))=false:=by decide) (hs1:starEach [.Name c' p2] X.env=(false,eval (.Name c' p2) X.env)::starEach [] X.env:=by rfl)
  (he:starEach [a,.Name c' p2] X.env=(false,eval a X.env)::starEach [.Name c' p2] X.env:=by rfl) (Y:(backTo pos (starEach [.Name c' p2] X.env)).any (·.1)=false:=by rfl) :
  EO X g (.Call (.Name "isinstance" p) [a,.Name c' p2] [] pos) (r8 (fY cs c') fa):=by
 have J:c'∈cs':=by simpa using J
 obtain⟨C,e⟩:=R.mm c' J;exact DQ R.rx J hg hm U e ha hd hs1 he Y
end
section
variable {K:vF_}{c:Str}{W fI:Addr}
def xc_mk (f0:PySem.W.hasDictIn K C=true) (f1:PySem.W.findIn K (.ref C) "__getattribute__" = some (some (.builtin "BaseException.__getattribute__"))) (f2:PySem.W.findIn K (.ref C) "__getattr__" = some none)
  (J:PySem.W.subIn K (.ref C) (.type "BaseException")=some true) (Y:PySem.W.subIn K (.ref C) (.type "object")=some true) (U:PySem.W.findIn K (.ref C) "__class__" = some (some (.builtin "object.__class__"))):XC K C:=#[f0,f1,f2,J,Y,U]
def xk1_mk {nm q:Str}{N:Addr}{bs:vV_}{sn:List Str}{sub:vV_}{dd:vA_}(x:XC K C) (J:K.lookup C=some (excClassObj nm q C N bs (.ref W::af) hdct sn sub ab col dd k0 k1 k2 k3 k5 aI))
  (U:PySem.W.findIn K (.ref C) "__setattr__" = some (some (.builtin "object.__setattr__"))):XK1 K C W:=#[x,#[nm,q,N,bs,hdct,sn,sub,ab,col,dd,k0,k1,k2,k3,k5,J],U]
def rf1_mk (X:K.In h) (G:h.Ns mainGlobals mg) {kV doc pm:Value}(a:PySem.W.nsIn K mainGlobals c=some (some (.ref C))) (U:PySem.W.keepIn K (.ref C)=true)
  (x:XK1 K C W) (hi:PySem.W.findIn K (.ref C) "__init__" = some (some (.ref fI))) (Y:PySem.W.findIn K (.ref C) "word" = some none)
  (J:K.lookup fI=some #[.type "function",od,.func (PySem.W.fnOf name qual params [.Assign [.Attribute (.Name "self" p1) "word" p2] (.Name "word" p3) p4] scope .none kV doc pm an cdv ct),osl]) (cd:PySem.W.codeIn K cdv qual=true)
  (s1:scope.kind = .function/\scope.isCoroutine=false/\scope.isGenerator=false/\∀x∈(["self", "word"]:List Str),scope.names.lookup x=some .local)
  (s2:∀us:List Value,us.length=2->bindArgs (PySem.W.fnOf name qual params [.Assign [.Attribute (.Name "self" p1) "word" p2] (.Name "word" p3) p4] scope .none kV doc pm an cdv ct) #[us,[]]=pure ((["self", "word"]:List Str).zip us)):Rf1 K mg c:=
 #[C,W,fI,p1,p2,p3,p4,Le X G a,a,U,x,hi,#[_,od,name,qual,params,scope,kV,doc,pm,an,cdv,ct,osl,J,rfl,cd,s1.1,s1.2.1,s1.2.2.1,s1.2.2.2,s2],fun y hy=>by
  rcases Jo.mp hy with rfl
  exact Y]
def rfx_mk (a:PySem.W.nsIn K mainGlobals c=some (some (.ref C))) (x:XC K C) (v:PySem.W.kitOne K (.ref C) (.type "ValueError")=some true) (Y:PySem.W.findIn K (.ref C) "word" = some none) (U:PySem.W.findIn K (.ref C) "at" = some none)
  (m:∀c'∈cs',∃C',mg c'=some (.ref C')/\PySem.W.kitOne K (.ref C) (.ref C')=some (V3 c c')):RfX K mg cs' c:=#[C,a,x,v,fun y J=>by
  rcases IH.mp J with rfl | J
  .exact Y
  .rcases Jo.mp J with rfl
   exact U,m]
def mem0 {P:Str->Prop}:∀c∈([]:List Str),P c:=fun _ h=>by cases h
def memC {P:Str->Prop}{c:Str}{l:List Str}(h:P c) (r:∀c∈l,P c):∀x∈c::l,P x:=fun x J=>by
 rcases IH.mp J with rfl | J
 .exact h
 .exact r x J
def kit_mk (X:K.In h) (G:h.Ns mainGlobals mg) {b:Bool}(a:PySem.W.nsIn K mainGlobals c'=some (some (.ref C'))) (k:PySem.W.kitOne K (.ref C) (.ref C')=some b):∃C',mg c'=some (.ref C')/\PySem.W.kitOne K (.ref C) (.ref C')=some b:=#[C',Le X G a,k]
def cls_mk (X:K.In h) (G:h.Ns mainGlobals mg) (a:PySem.W.nsIn K mainGlobals c=some (some (.ref C))):∃C,mg c=some (.ref C):=#[C,Le X G a]
def rfa_mk (X:K.In h) (G:h.Ns mainGlobals mg) (v:PySem.W.nsIn K mainGlobals "ValueError" = some none) (a:∀c∈cs,RfX K mg cs' c) (b:∀c∈cs',∃C,mg c=some (.ref C)):RfA K mg cs cs':=#[a,b,Jp X G v]
end
end DL
namespace L2
open PySem PySem.W PySem.Spec PySem.Builtin PyProof.Rows
structure Fly (n:Nat) (H:Hp) (h:Heap) (e C dx:Addr):Prop where
 en:n<=e
 eh:H e=none
 ob:∃oe vs,h.get? e=some oe/\oe.cls = .ref C/\oe.dict=some dx/\oe.data = .fields vs/\1<vs.size /\
  (vs[1]? = some .none\/∃T oT ts,vs[1]? = some (.ref T)/\n<=T/\H T=none/\T≠e/\h.get? T=some oT/\oT.data = .fields ts/\ts[3]? = some .none)
structure Noted (n:Nat) (H:Hp) (l:List Env) (h h':Heap) (e C dx:Addr):Prop where
 fl:Fly n H h' e C dx
 kl:∃ch:List Addr,(∀b∈ch,n<=b/\H b=none)/\∀b o,b ∉ ch->b ∉ C4 l->h.get? b=some o->h'.get? b=some o
 sl:∀b o,b∈C4 l->h.get? b=some o->∃sl,h'.get? b=some { o with slots:=sl }
 th:∀b o,h.get? b=some o->∃o',h'.get? b=some o'
def Noted.kp {l:List Env}{e:Addr}(z:Noted n H l h h' e C dx) (b:Addr) (o:Obj) (c:b<n\/H b≠none) (nf:b ∉ C4 l) (q:h.get? b=some o):h'.get? b=some o:=by
 obtain⟨ch,J,c2⟩:=z.kl;refine c2 b o (fun m=>?_) nf q;obtain⟨U,Y⟩:=J b m;rcases c with c | c
 .exact absurd c (Nat.not_lt.mpr U)
 .exact c Y
def Ig (f:Array Value->Array Value) (o:Obj):(Obj.mapFields f o).dict=o.dict:=by
 unfold Obj.mapFields;split <;> rfl
section
variable {M:Model}{L e:Addr}{n0:Nat}{Q:Unit->Shared->Prop}
def uj {oe:Obj}{vs:vR_}(hfr:A.frames=some (env::outer)) (hl:s.heap.FunFrames base (env::outer)) (hf:env.frame=some L) (hb:n0<=s.heap.objs.size) (hH:∀a,s.heap.objs.size<=a->H a=none)
  (en:n0<=e) (eh:H e=none) (he:s.heap.get? e=some oe) (hc:oe.cls = .ref C) (hx:oe.dict=some dx) (hd:oe.data = .fields vs) (Y:1<vs.size)
  (h:∀h',Noted n0 H (env::outer) s.heap h' e C dx->(∀b o,b ∉ C4 (env::outer)->b≠e->s.heap.get? b=some o->h'.get? b=some o)->Q () { s with heap:=h' }) :
  wpAny M A (do let a <-frameOf env;let pl <-entryPlaceOf L hadNext;let b <-EntryCells.newEntry head a .none (rawInt L) .none pl;setField (.ref e) 1 b) (fun _ s'=>wpAny M A (setFlight (.ref e) none) Q E s') E s:=by
 have ne:e ∉ C4 (env::outer):=fun m=>by
  obtain⟨_,o,ho,U⟩:=hl.mem m;rw[he] at ho;cases ho;exact U vs hd
 refine gV (wpAny_frameOf_fun hfr hl hf fun h1 k1=>?_);refine gV (wpAny_entryPlaceOf fun pl hp=>?_);unfold EntryCells.newEntry newFields;refine gV (JE ?_ (hp.sizeOk5 _ _ _ _ _));generalize eT:({ cls:=.type "traceback",dict:=none,data:=.fields ([head,.ref L,.none,rawInt L,.none]++(if pl.isEmpty then List.replicate 6 Value.none else pl)).toArray }:Obj)=oT;have dT:oT.data = .fields ([head,.ref L,.none,rawInt L,.none]++(if pl.isEmpty then List.replicate 6 Value.none else pl)).toArray:=by rw[<-eT]
 have e1:h1.get? e=some oe:=(k1.2.1 e ne).trans he;have n1:h1.objs.size≠e:=Jx (xl e1);have e2:=xu oT e1;refine KZ e2 hd Y ?_;have d3:=Lz hd (·.setIfInBounds 1 (Value.ref h1.objs.size));have e3:=JW (Obj.mapFields (·.setIfInBounds 1 (Value.ref h1.objs.size))) e2 (Mg d3);have t3:=(JC (h1.push oT) (Obj.mapFields (·.setIfInBounds 1 (Value.ref h1.objs.size))) n1.symm).trans (Jk h1 (by rw[<-eT];rfl));unfold setFlight;refine gV (IL e3 d3 (x:=.ref h1.objs.size) (by simp[Y]) ?_);rw[iO (show (Value.ref h1.objs.size != Value.none)=true from by simp)];refine KZ t3 dT (by simp only[IU,Jb,Ja,Kn];omega) ?_;generalize J:(((h1.push oT).update e (Obj.mapFields (·.setIfInBounds 1 (Value.ref h1.objs.size)))).update h1.objs.size (Obj.mapFields (·.setIfInBounds 3 ((none:vA_).elim Value.none fun f=>rawInt f))))=h4;have kp:∀b o,b≠e->h1.get? b=some o->h4.get? b=some o:=fun b o nb q=>by
  rw[<-J,JC _ _ (Jx (xl q)),JC _ _ (IK nb)];exact xu _ q
 have kq:∀b o,b ∉ C4 (env::outer)->b≠e->s.heap.get? b=some o->h4.get? b=some o:=fun b o U nb q=>kp b o nb ((k1.2.1 b U).trans q)
 have sT:h1.objs.size=s.heap.objs.size:=k1.1.symm▸rfl;have d5:=Lz dT (·.setIfInBounds 3 ((none:vA_).elim Value.none fun f=>rawInt f));refine h h4 #[#[en,eh,_,_,?_,?_,?_,d3,by simpa using Y,.inr #[h1.objs.size,_,_,by simp[Y],(by rw[sT];exact hb),hH _ (by rw[sT];exact tv _),n1,?_,d5,?_]],#[[e],fun b m=>by rw[Jo.mp m];exact#[en,eh],fun b o m U q=>kq b o U (fun y=>m (by simp[y])) q],fun b o m q=>?_,fun b o q=>?_] kq
 .rw[<-J,JC _ _ n1];exact e3
 .rw[Obj.cls_mapFields];exact hc
 .rw[Ig];exact hx
 .rw[<-J];exact JW _ t3 (Mg d5)
 .rcases hp with rfl | ⟨_,_,_,_,_,_,_,rfl⟩ <;> simp
 .obtain⟨sl,q1⟩:=k1.2.2 b o q;exact#[sl,kp b _ (fun y=>ne (y▸m)) q1]
 .by_cases y:b=e
  .subst y;have ge:h4.get? b=some (Obj.mapFields (·.setIfInBounds 1 (Value.ref h1.objs.size)) oe):=by rw[<-J,JC _ _ n1];exact e3
   exact#[_,ge]
  .obtain⟨sl,q1⟩:=k1.2.2 b o q;exact#[_,kp b _ y q1]
def vh (J:A.frames=some (env::outer)) (hl:s.heap.FunFrames base (env::outer)) (hf:env.frame=some L) (hb:n0<=s.heap.objs.size) (hH:∀a,s.heap.objs.size<=a->H a=none) (f:Fly n0 H s.heap e C dx)
  (h:∀h',Noted n0 H (env::outer) s.heap h' e C dx->Q () { s with heap:=h' }):wpAny M A (noteFrame (.ref e) env) (fun _ s'=>wpAny M A (setFlight (.ref e) none) Q E s') E s:=by
 obtain⟨en,eh,oe,vs,e1,e2,e3,e4,e5,z⟩:=f;unfold noteFrame;simp only[hf];rcases z with z | ⟨T,oT,ts,z1,z2,z3,z4,z5,z6,z7⟩
 .refine gV (IL e1 e4 z ?_);rw[iU #[]];exact uj J hl hf hb hH en eh e1 e2 e3 e4 e5 fun h' n _=>h h' n
 .refine gV (IL e1 e4 z1 ?_);rw[iO (show (Value.ref T != Value.none)=true from by simp)];refine gV (IL z5 z6 z7 ?_);rw[iU (show ¬ ((Value.none == rawInt L)=true) from by simp[rawInt])];refine gV (KZ z5 z6 (Oh.mp z7).1 ?_);have U:∀b,b≠T->(s.heap.update T (Obj.mapFields (·.setIfInBounds 3 Value.none))).get? b=s.heap.get? b:=fun b nb=>JC _ _ (IK nb)
  have nT:T ∉ C4 (env::outer):=fun m=>by
   obtain⟨_,o,ho,Y⟩:=hl.mem m;rw[z5] at ho;cases ho;exact Y ts z6
  have tT:=JW (Obj.mapFields (·.setIfInBounds 3 Value.none)) z5 (Mg (Lz z6 _));have sz:(s.heap.update T (Obj.mapFields (·.setIfInBounds 3 Value.none))).objs.size=s.heap.objs.size:=Heap.size_update _ _ _;refine uj (s:={ s with heap:=s.heap.update T (Obj.mapFields (·.setIfInBounds 3 Value.none)) }) J (hl.of_keeps fun b o q Y=>#[o,(U b fun y=>?_).trans q,rfl]) hf (by rw[sz];exact hb) (fun a q=>hH a (by rw[sz] at q;exact q)) en eh ((U e (IK z4)).trans e1) e2 e3 e4 e5 fun h' n kq=>h h' #[n.fl,#[[e,T],fun b m=>?_,fun b o m Y q=>kq b o Y (fun y=>m (by simp[y])) ((U b fun y=>m (by simp[y])).trans q)],fun b o m q=>n.sl b o m ((U b fun y=>nT (y▸m)).trans q),fun b o q=>?_]
  .rw[y,z5] at q;cases q;exact Y ts z6
  .rcases IH.mp m with rfl | m
   .exact#[en,eh]
   .rw[Jo.mp m];exact#[z2,z3]
  .by_cases y:b=T
   .subst y;exact n.th _ _ tT
   .exact n.th b o ((U b y).trans q)
end
end L2
namespace L2
open PySem PySem.W PySem.Spec PyProof.Rows
def Z9 (P:Program) (w:World):R4:=fun outer H0 s0 E ev s'=>∃e C dx H',ev = .ref e/\Fly s0.heap.objs.size H' s'.heap e C dx/\s'.os=s0.os/\AllBare s'.gens/\Un (C4 outer) [] H0 H' s0.heap s'.heap/\HOk P w H' s'.heap/\E (.ref C) (some dx) H'
def Fly.less {e:Addr}(f:Fly n H h e C dx) (l:m<=n):Fly m H h e C dx:=by
 obtain⟨Y,eh,oe,vs,e1,e2,e3,e4,U,z⟩:=f;refine#[xr l Y,eh,oe,vs,e1,e2,e3,e4,U,z.imp id ?_];rintro⟨T,oT,J,z1,z2,z⟩;exact#[T,oT,J,z1,xr l z2,z]
section
variable {e:Addr}
theorem Noted.hok {l:List Env}(I:Inv X pins σ H s) (U:∀b∈C4 l,H b=none) (z:Noted n H l s.heap h' e C dx):HOk X.prog X.w H h':=fun b u q=>by
 refine(I.hok b u q).stay (fun c v J r=>z.kp c v (.inr ?_) (fun m=>?_) r) (fun _ r=>r) fun _ _ r=>r
 .rcases J with rfl | J
  .rw[q];simp
  .rw[J];simp
 .have:=U c m;rcases J with rfl | J
  .rw[q] at this;cases this
  .rw[J] at this;cases this
def Fr (I:Inv X pins σ H s) (hx:X.ex=[]) (hs:X.stack=X.env::X.outer) (z:Noted X.s₀.heap.objs.size H X.stack s.heap h' e C dx):Un X.fs [] X.H₀ H X.s₀.heap h':=by
 have J:=I.base;rw[hx] at J;have sub:∀b∈X.fs,b∈C4 X.stack:=fun b m=>by
  rw[hs];unfold C4;rw[Kq];split
  .exact m
  .exact IT _ m
 have nst:∀b o,X.s₀.heap.get? b=some o->b ∉ X.fs->b ∉ C4 X.stack:=fun b o q Y m=>by
  rcases IH.mp (I.stkSub b m) with y | y
  .exact absurd (IJ (xl q) (by rw[y];exact I.ok.above)) (JB _)
  .exact Y y
 refine#[fun b o q m Y U=>z.kp b o (.inl (xl q)) (nst b o q Y) (J.keep b o q m Y U),fun b o q m Y U=>?_,fun b o q m U=>J.free b o q m U,fun b o q U=>?_,J.tups,J.frzs,J.tbls]
 .obtain⟨sl,r⟩:=J.slot b o q m Y U;obtain⟨sl2,r2⟩:=z.sl b _ (sub b Y) r;exact#[sl2,r2]
 .obtain⟨o1,r⟩:=J.there b o q U;exact z.th b o1 r
end
section
variable {P:Program}{w:World}{K:vF_}{N:List Str}{f:Addr}{cd:Value}{s0:Shared}{H0:Hp}{E:XK}{e:Addr}
def zR (I:Inv (N4 (Z9 P w) P w K mg base N qual scope f cd A outer s0 H0 E) pins σ H s) (z:Fly s0.heap.objs.size H s.heap e C dx) (q:E (.ref C) (some dx) H):(N4 (Z9 P w) P w K mg base N qual scope f cd A outer s0 H0 E).xe (.ref e) s:=by
 show wpAny (model P w) (A.deeper (envOfC qual scope s0.heap.objs.size f cd)) (leaving (envOfC qual scope s0.heap.objs.size f cd) (.ref e)) _ _ s;unfold leaving;refine gV (vh (H:=H) (base:=base) (n0:=s0.heap.objs.size) I.ok.frames I.stack rfl I.sz (fun a l=>I.hok.fresh l) z fun h' y=>?_);exact#[e,C,dx,H,rfl,y.fl,I.os,I.bare,Fr I rfl rfl y,y.hok I I.stkFree,q]
end
section
variable {E:XK}{ev:Value}{e:Addr}
def Inv.noted {s1:Shared}{t':Nat}(I1:Inv X pins σ H1 s1) (I:Inv X pins σ H s) (z:Noted s1.heap.objs.size H X.stack s.heap h' e C dx):Inv X pins σ H { s with heap:=h',toks:=t' }:=by
 obtain⟨ch,J,c2⟩:=z.kl;refine I.call (g':=s.gens) (d':=s.drawn) (t':=t') (ch:=ch) #[fun b o q _ nf nc=>c2 b o nc nf q,fun b o q _ m _=>z.sl b o m q,fun _ _ _ m _=>m,fun b o q _=>z.th b o q,fun _ _ q=>q,fun _ _ _ q=>q,fun b ps q=>#[#v[],by simpa using q]] (z.hok I I.stkFree) I.bare fun b m=>?_
 obtain⟨_,f2,_,U,f5,Y⟩:=I1.fpOk (H':=H) (J b m).1 (J b m).2;exact#[U,f2,f5,Y]
def Inv.thrown (I:Inv X pins σ H s) (h:Z9 X.prog X.w X.stack H s E ev s'):∃e C dx H',ev = .ref e/\Inv X pins σ H' s'/\Fly s.heap.objs.size H' s'.heap e C dx/\E (.ref C) (some dx) H':=by
 obtain⟨e,C,dx,H',rfl,fl,os,Y,un,U,q⟩:=h;obtain⟨hh,g,d,t,J⟩:=s';obtain rfl:J=s.os:=os;exact#[e,C,dx,H',rfl,I.call (h':=hh) (g':=g) (d':=d) (t':=t) (ch:=[]) un U Y (fun b z=>absurd z (by simp)),fl,q]
end
section
variable {w:World}{K:vF_}
def Id {x:Sem Value}{Q:Flow->Shared->Prop}{J:Obj}(U:K.lookup C=some J) (cC:J.cls = .type "type") (Y:subIn K (.ref C) (.type "BaseException")=some true) (hh:A.handled=none)
  (h:wpAny (model prog w) A x (fun v s1=>∃e oe,v = .ref e/\K.In s1.heap/\s1.heap.get? e=some oe/\oe.cls = .ref C/\(∃t0,oe.data = .fields #v[.ref t0,.none,.none,.none,.bool false,.none])/\E (.ref e) s1) E s):wpAny (model prog w) A (raiseStmt env (some x) none) Q E s:=by
 unfold raiseStmt;refine gV (IV h (fun v s1 z=>?_) fun _ _ y=>y);obtain⟨e,⟨oc,od,dt,sl⟩,rfl,X,he,hc,⟨t0,hd⟩,hE⟩:=z;cases hc;cases hd;obtain⟨hp,g,d,tk,os⟩:=s1;have hC:=X _ _ U;have L:=LD (M:=model prog w) X Y
 repeat (first | with_reducible refine Jt he ?_ | with_reducible refine L.at ?_ | (with_reducible refine Jt hC ?_;rw[cC]) | wp_step)
 exact wpAny_raiseNew_none hh hE
def Dr {x:Expr}{Q:Flow->Shared->Prop}{J:Obj}(U:K.lookup C=some J) (cC:J.cls = .type "type") (Y:subIn K (.ref C) (.type "BaseException")=some true) (hh:A.handled=none)
  (h:wpAny (model prog w) A (eval x env) (fun v s1=>∃e oe,v = .ref e/\K.In s1.heap/\s1.heap.get? e=some oe/\oe.cls = .ref C/\(∃t0,oe.data = .fields #v[.ref t0,.none,.none,.none,.bool false,.none])/\E (.ref e) s1) E s):wpAny (model prog w) A (exec (.Raise (some x) none pos) env) Q E s:=by
 rw[arm_exec_Raise];simp only[evalOpt,Option.map];refine gV (Ku (Id (K:=K) (C:=C) U cC Y hh ?_));refine gV (IV h (fun v s3 z=>?_) fun _ _ y=>y);exact gV (Ku (iR z))
end
end L2
namespace DL
open PySem PySem.Spec L2
abbrev Rx:=Sum D (Str × List D)
abbrev G7:=List D->Option FS->Option (Rx × Option FS)
def oZ (K:vF_) (N:vB_) (fa:vA_) (H:Hp) (c:Str) (es:vD_) (G:Addr->Addr->Prop):Prop:=∀C dx od xs,PySem.W.nsIn K mainGlobals c=some (some (.ref C))->H dx=some (.frz od (.xd (fnm.zip xs)))->Reps K N fa H es xs->G C dx
def zh (K:vF_) (n:Nat) (m:G7):Sp:=fun vs H Q E=>∃(F:vB_) (fa:vA_) (ds:vD_) (fs:vO_) (r:Rx) (fs':vO_),
 (∀b,F b->H b≠none)/\(∀a,fa=some a->F a)/\Reps K F fa H ds vs/\FeedR F H fa fs/\m ds fs=some (r,fs')/\ds.length=n /\
  (∀d,r = .inl d->∀v H' fa',Stp fa [] H fa' [] H'->FeedR (fun b=>F b\/fa'=some b) H' fa' fs'->Rep K (fun b=>F b\/fa'=some b) fa' H' d v->Q v H') /\
  (∀c es,r = .inr (c,es)->∀H' fa',Stp fa [] H fa' [] H'->FeedR (fun b=>F b\/fa'=some b) H' fa' fs'->oZ K (fun b=>F b\/fa'=some b) fa' H' c es fun C dx=>E (.ref C) (some dx) H')
abbrev ow (P:Program) (w:World) (K:vF_) (mg:vG_) (base:Heap) (k:Nat) (f:Addr) (fd:FuncData) (ps:List Str) (m:G7):Prop:=FnOk P w K mg base (Z9 P w) k f fd ps (zh K ps.length m)
structure CalX (P:Program) (w:World) (K:vF_) (mg:vG_) (base:Heap) (k:Nat) (x:Str) (ps:List Str) (m:G7):Prop where
 ex:∃(f:Addr) (fd:FuncData),ow P w K mg base k f fd ps m/\mg x=some (.ref f)/\PySem.W.keepIn K (.ref f)=true/\Binds K fd ps []
noncomputable def aw (n:Nat) (b:DM):G7:=fun ds fs=>(b #[ds.map .v++List.replicate (n - ds.length) .no,fs]).bind fun x=>match x.1 with
 |.ret d=>some (.inl d,x.2.fs)
 |.next=>some (.inl .non,x.2.fs)
 |.thr c es=>some (.inr (c,es),x.2.fs)
 |_=>none
structure Rz (X:Cx) (g:Gh):Prop where
 go:∀(pins:vP_) (σ:L2.St) (H H1:Hp) (s s1:Shared) (e C dx:Addr),Inv X pins σ H1 s1->Inv X pins σ H s->Fly s1.heap.objs.size H s.heap e C dx->g.xq σ (.ref C) (some dx) H->X.xe (.ref e) s
def Rz.pass (R:Rz X g) (pins:vP_) (σ:L2.St) (H:Hp) (s:Shared) (ev:Value) (s':Shared) (I:Inv X pins σ H s) (h:Z9 X.prog X.w X.stack H s (g.xq σ) ev s'):X.xe ev s':=by
 obtain⟨e,C,dx,H',rfl,J,fl,q⟩:=I.thrown h;exact R.go pins σ H' H s' s e C dx I J fl q
section
variable {P:Program}{w:World}{K:vF_}
def BN {st:Stmt}{f:Addr}{N:List Str}{k:Nat}{b:DM}(F:Fun K x qual st f fd) (S:FnScope N ps (A2 st))
  (Y:∀(cdv:Value) (A:Around) (outer:List Env) (s:Shared) (H:Hp) (E:XK) (g:Gh),Rz (N4 (Z9 P w) P w K mg base N qual (A2 st) f cdv A outer s H E) g->Room k (A.deeper (PyProof.Rows.envOfC qual (A2 st) s.heap.objs.size f cdv)) ->
   SSO (N4 (Z9 P w) P w K mg base N qual (A2 st) f cdv A outer s H E) g (M2 st) b):ow P w K mg base (k+1) f fd ps (aw N.length b):=by
 obtain⟨oc,od,kV,doc,pm,an,cdv,ct,osl,rfl,lk,hcd⟩:=F.ex;refine sC lk hcd S (fun vs H Q E h=>?_) (fun A outer s H vs Q E hr h=>?_)
 .obtain⟨F,fa,ds,fs,d,fs',_,_,r,_,_,hl,_⟩:=h;rw[r.length];exact hl
 obtain⟨F,fa,ds,fs,rr,fs',tr,ff,r,fd,e,hl,q,qx⟩:=h;refine#[_,(Y cdv A outer s H E #[F,H,fa,fun _=>E] #[fun pins σ H H1 s s1 e C dx U I z y=>zR I (z.less U.sz) y] hr).pe,?_];refine o8 e fun fl s' h1 h2=>?_
 have hN:∀b,NN F fa [] b->F b:=fun b z=>by
  rcases z with z | z | z
  .exact z
  .cases z
  .exact ff b z
 have c:Car K F fa H (NN F fa []) fa H:=#[fun b xs n q=>#[q,fun z=>n (hN b z)],fun _ _ q=>q,fun _ _ q=>q,fun _ q=>q]
 have el:(L2.start N vs)=vs.map some++List.replicate (N.length - ds.length) none:=by rw[L2.start,r.length]
 have I:GI K #[F,H,fa,fun _=>E] (L2.start N vs) H fa [] #[ds.map .v++List.replicate (N.length - ds.length) .no,fs]:=by
  refine#[Na,?_,fun b hb=>(by cases hb),Stp.refl,tr,ff,fd.car c fun _ _=>rfl,fun _ _ z=>(by cases z)];rw[el];exact kL (Reps.go c ds vs r)
 have cc:∀{fa':vA_}{O':vL_}{H':Hp},Car K (NN F fa' O') fa' H' (fun b=>F b\/fa'=some b) fa' H':=fun {fa' O' H'}=>#[fun b xs n q=>#[q,fun z=>n (by
   rcases z with z | z
   .exact .inl z
   .exact .inr (.inr z))],fun _ _ q=>q,fun _ _ q=>q,fun _ q=>q]
 have sc:∀{fa':vA_}{O':vL_}{H':Hp},Stp fa [] H fa' O' H'->Stp fa [] H fa' [] H':=fun J=>#[fun b hb=>(by cases hb),J.fe,J.same,J.mon]
 refine#[fa,[],_,fl,s',I,h1,?_];cases fl with
 |next=>
  simp only[Jn,IQ] at h2;exact fun σ' H' fa' O' J U=>q _ h2.1.symm .non H' fa' (sc J) (h2.2▸U.fd.car cc fun _ _=>rfl) (by simp only[Rep])
 |ret dd=>
  simp only[Jn,IQ] at h2;exact fun σ' v H' fa' O' J U r1=>q _ h2.1.symm v H' fa' (sc J) (h2.2▸U.fd.car cc fun _ _=>rfl) (Rep.go cc _ _ r1)
 |thr c es=>
  simp only[Jn,IQ] at h2;exact fun σ' C dx od xs H' fa' O' J U n1 n2 r1=>qx _ _ h2.1.symm H' fa' (sc J) (h2.2▸U.fd.car cc fun _ _=>rfl) C dx od xs n1 n2 (Reps.go cc _ _ r1)
 |brk=>cases h2
 |cont=>cases h2
end
noncomputable def iW (c:Str) (t:DA):DM:=fun s=>(t s).map fun x=>(.thr c x.1,x.2)
section
variable {c:Str}{p:Pos}{a b:Expr}{t:DA}{k:Nat}
def Ip {e W fI:Addr}{mA:vG_}{Y:Nat}{s0:DS}(R:Rz X g) (xd:XD X.K C W fI ps body) (I:Inv X pins σ H s) (m:Mdn s.heap h' e dx C mA) (r:∀f,cJ ((fnm.zip xs).lookup f) (mA f))
  (hn:PySem.W.nsIn X.K mainGlobals c=some (some (.ref C))) (G:GI X.K g σ H fa O s0) (rs:Reps X.K (NN g.F fa O) fa H ds xs)
  (q:∀C dx od xs H',StE fa O H fa O H'->GI X.K g σ H' fa O s0->PySem.W.nsIn X.K mainGlobals c=some (some (.ref C))->H' dx=some (.frz od (.xd (fnm.zip xs)))->Reps X.K (NN g.F fa O) fa H' ds xs->g.xq σ (.ref C) (some dx) H') :
  ∃e' oe,(Value.ref e:Value) = .ref e'/\X.K.In h'/\h'.get? e'=some oe/\oe.cls = .ref C/\(∃t0,oe.data = .fields #v[.ref t0,.none,.none,.none,.bool false,.none])/\X.xe (.ref e') { s with heap:=h',toks:=Y }:=by
 obtain⟨o,e1,e2,⟨t0,U⟩,e4⟩:=m.at_;obtain⟨od,es,ep,d1,d2⟩:=id m.ns;have n1:H e=none:=I.hok.fresh m.n1;have n2:H dx=none:=I.hok.fresh m.n2;have J:Inv X pins σ (i6 H dx (.frz od (.xd (fnm.zip xs)))) { s with heap:=h',toks:=Y }:=by
  refine I.un #[fun b u q _ _ _=>m.kp b u q,fun b u q _ _ _=>#[u.slots,m.kp b u q],fun b u q n _=>?_,fun b u q _=>#[u,m.kp b u q],fun b ys q=>?_,fun b u v q=>?_,fun b ps q=>#[#v[],?_]] fun b u q=>?_
  .rw[j6 (lR q m.n2)];exact n
  .rw[j6 (F2 q n2)];exact q
  .rw[j6 (F2 q n2)];exact q
  .rw[j6 (F2 q n2)];simpa using q
  .by_cases h2:b=dx
   .subst h2;rw[B0] at q;cases q;exact#[d1,mA,m.ns,r]
   .rw[j6 h2] at q;exact(I.hok b u q).stay (fun c v _ z=>m.kp c v z) (fun c z=>by rw[j6 (F2 z n2)];exact z) fun c ys z=>by rw[j6 (F2 z n2)];exact z
 refine#[e,o,rfl,I.kIn.keeps m.kp,e1,e2,#[t0,U],R.go pins σ _ _ _ _ e C dx I J #[m.n1,?_,o,_,e1,e2,e4,U,(show 1<6 by decide),.inl rfl] (q C dx od xs _ (D6 n2) (G.new n2) hn B0 (rs.stp G (D6 n2).stp))];rw[j6 m.ne.symm];exact n1
def Df (R:Rz X g) (Rc:Rf1 X.K X.mg c) (hr:Room (k+1) X.A) (hc:X.calm=true) (hg:Gl X c) (ha:AO X g [a] t) (hl:∀s ds s',t s=some (ds,s')->ds.length=1) (Y:(c == ("__debug__" : Str))=false:=by decide)
  (he:starEach [a] X.env=[(false,eval a X.env)]:=by rfl):SO X g (.Raise (some (.Call (.Name c p) [a] [] pos)) none pos') (iW c t):=by
 refine#[fun pins s σ H Dd I h=>?_];obtain⟨C,W,fI,p1,p2,p3,p4,hm,hn,hk,U⟩:=Rc.ex;refine h.elim fun fa0 O s0 fl s1 G0 e0 q=>?_
 obtain⟨⟨ds,s2⟩,t1,t2⟩:=Ly.mp e0;cases t2;obtain⟨nm,q',N,bs,hdct,sn,sub,ab,col,dd,k0,k1,k2,k3,k5,lk⟩:=U.k1.ob;refine Dr (K:=X.K) (C:=C) lk rfl U.k1.xc.f4 (I.ok.hd hc) ?_;refine Kh (eE I hg hm ?_ Y);refine MP (h₀:=X.base) I.ok.mod.kin hk (l4 (ha.pe pos pins s σ H (fun vs H1=>∃f1 O1,StE fa0 O H f1 O1 H1/\GI X.K g σ H1 f1 O1 s2/\Reps X.K (NN g.F f1 O1) f1 H1 ds vs) I #[fa0,O,s0,ds,s2,G0,t1,fun vs H1 f1 O1 a1 a2 a3=>#[f1,O1,a1,a2,a3]]) fun us s3 ⟨vs,H1,J,rv,f1,O1,b1,b2,b3⟩=>#[J.kIn,?_]) he rfl;have l1:=hl _ _ _ t1;have l2:=b3.length;have l3:=rv.length;obtain⟨x0,rfl⟩:∃x0,vs=[x0]:=Oi.mp (by rw[l2,l1]);obtain⟨u0,rfl⟩:∃u0,us=[u0]:=Oi.mp (by rw[<-l3];rfl);refine L2.mk1 U hr J.kIn J.nolimit fun h' tk e dx m=>?_
 exact Ip (c:=c) R U J m (BA rv) hn b2 b3 fun C dx od xs H' c1 c2 c3 c4 c5=>q σ C dx od xs H' f1 O1 (b1.trans c1).stp c2 c3 c4 c5
end
abbrev K0:=DS->Option (Rx × DS)
def vt (K:vF_) (g:Gh) (f:K0):TE:=fun σ H Q=>∃fa O s r s',GI K g σ H fa O s/\f s=some (r,s') /\
 (∀d,r = .inl d->∀v H' fa' O',StE fa O H fa' O' H'->GI K g σ H' fa' O' s'->Rep K (NN g.F fa' O') fa' H' d v->Q v H') /\
 (∀c es,r = .inr (c,es)->∀H' fa' O',StE fa O H fa' O' H'->GI K g σ H' fa' O' s'->oZ K (NN g.F fa' O') fa' H' c es fun C dx=>g.xq σ (.ref C) (some dx) H')
structure XO (X:Cx) (g:Gh) (e:Expr) (f:K0):Prop where
 pe:PE X e (vt X.K g f)
def XO.w {f:K0}{t:TE}(h:PE X e t) (k:∀σ H Q,vt X.K g f σ H Q->t σ H Q):XO X g e f:=#[fun pins s σ H Q I q=>h pins s σ H Q I (k σ H Q q)]
def S5 (m:G7) (t:DA):K0:=fun s=>(t s).bind fun x=>(m x.1 x.2.fs).map fun y=>(y.1,{ x.2 with fs:=y.2 })
section
variable {k:Nat}{m:G7}{p:Pos}{t:DA}
def FM {E:L2.St->XK}{CX:R4}{f:Addr}{fd:FuncData}{sp:Sp}{ta:TA}(F:FnOk X.prog X.w X.K X.mg X.base CX k f fd ps sp) (hr:Room k X.A) (hg:Gl X x) (hm:X.mg x=some (.ref f)) (hk:PySem.W.keepIn X.K (.ref f)=true) (hb:Binds X.K fd ps [])
  (hx:∀(pins:vP_) (σ:L2.St) (H:Hp) (s:Shared) (e:Value) (s':Shared),Inv X pins σ H s->CX X.stack H s (E σ) e s'->X.xe e s')
  (ha:PA X (e::es) ta) (hdb:(x == ("__debug__" : Str))=false:=by decide) (he:starEach (e::es) X.env=(false,eval e X.env)::starEach es X.env:=by rfl) (hpl:(backTo pos (starEach es X.env)).any (·.1)=false:=by rfl) :
  PE X (.Call (.Name x p) (e::es) [] pos) (fun σ H Q=>ta σ H fun vs H1=>sp vs H1 Q (E σ)):=by
 intro pins s σ H Q I h;refine Kh (eE I hg hm ?_ hdb);refine MP (h₀:=X.base) I.ok.mod.kin hk (l4 (ha pos pins s σ H _ I h) fun us s1 ⟨vs,H1,U,r,q⟩=>#[U.kIn,?_]) he hpl;have hl:(us++[]).length=ps.length:=by rw[Ju,<-r.length];exact F.len _ _ _ _ q
 have Y:=hb s1 us U.kIn hl;rw[Ju] at Y;refine KU (Ls (F.run X.A X.stack s1 H1 #[us,[]] us vs Q (E σ) hr U.env0 Y r q) fun rr s' J=>?_);cases rr with
 |error ev=>exact hx pins σ H1 s1 ev s' U J
 |ok fl=>
  cases fl with
  |ret u=>exact U.after J
  |next=>exact False.elim J
  |brk=>exact False.elim J
  |cont=>exact False.elim J
def jY (C:CalX X.prog X.w X.K X.mg X.base k x ps m) (R:Rz X g) (k':Nat) (hr:Room k' X.A) (hk:k<=k') (hg:Gl X x) (ha:AO X g (e::es) t) (hn:∀s ds s',t s=some (ds,s')->ds.length=ps.length)
  (hdb:(x == ("__debug__" : Str))=false:=by decide) (he:starEach (e::es) X.env=(false,eval e X.env)::starEach es X.env:=by rfl) (hpl:(backTo pos (starEach es X.env)).any (·.1)=false:=by rfl):XO X g (.Call (.Name x p) (e::es) [] pos) (S5 m t):=by
 obtain⟨f,fd,F,hm,hkp,hb⟩:=C.ex;refine XO.w (FM F (hr.mono hk) hg hm hkp hb R.pass ha.pe hdb he hpl) fun σ H Q h=>?_
 obtain⟨fa,O,s,r,s',I,q,k1,k2⟩:=h;refine o8 q fun ds s1 h1 h2=>?_
 refine mapP h2 fun r1 fs1 h3 h4=>?_
 simp only[IQ] at h4;obtain⟨e1,e2⟩:=h4;subst e1;subst e2;refine#[fa,O,s,ds,s1,I,h1,fun vs H1 f1 O1 a1 Y r=>?_];have st:∀{J:vA_}{H2:Hp},Stp f1 [] H1 J [] H2->StE f1 O1 H1 J O1 H2:=fun U=>#[fun b hb=>hb,U.fe,fun b u e n=>U.same b u e (by simp) n,U.mon]
 have c2:∀{J:vA_}{H2:Hp},Car X.K (fun b=>NN g.F f1 O1 b\/J=some b) J H2 (NN g.F J O1) J H2:=fun {J H2}=>#[fun b xs n q=>#[q,fun z=>n (by
   rcases z with z | z | z
   .exact .inl (.inl z)
   .exact .inl (.inr (.inl z))
   .exact .inr z)],fun _ _ q=>q,fun _ _ q=>q,fun _ q=>q]
 have gi:∀{J:vA_}{H2:Hp},Stp f1 [] H1 J [] H2->FeedR (fun b=>NN g.F f1 O1 b\/J=some b) H2 J fs1->GI X.K g σ H2 J O1 { s1 with fs:=fs1 }:=fun {J H2} U fd2=>by
  have a3:=st U;refine#[Y.nd,SlR.go (Y.car a3.stp) (fun b xs hb e=>?_) Y.sl,Y.fr,Y.st.trans #[fun b hb=>(by cases hb),U.fe,fun b u e n z=>U.same b u e n z,U.mon],Y.tr,Y.ff,fd2.car c2 fun _ _=>rfl,Y.nf_step a3.fe];exact a3.same b _ e fun z=>Y.nf b z hb
 exact#[NN g.F f1 O1,f1,ds,s1.fs,r1,fs1,fun b hb=>Y.nn_tracked hb,fun a ha=>.inr (.inr ha),r,Y.fd,h3,hn s ds s1 h1,fun d ed v H2 J U fd2 r2=>k1 d ed v H2 J O1 (a1.trans (st U)) (gi U fd2) (Rep.go c2 _ _ r2),
  fun c es ec H2 J U fd2 C dx od xs n1 n2 r2=>k2 c es ec H2 J O1 (a1.trans (st U)) (gi U fd2) C dx od xs n1 n2 (Reps.go c2 _ _ r2)]
noncomputable def gj (f:K0):DM:=fun s=>(f s).map fun x=>match x.1 with
 |.inl d=>(.ret d,x.2)
 |.inr (c,es)=>(.thr c es,x.2)
def BD {f:K0}(he:XO X g e f):SO X g (.Return (some e) pos) (gj f):=SO.w (vn he.pe) fun E σ H hQ=>by
 refine hQ.elim fun fa O s fl s' I q k=>?_
 refine mapP q fun r s1 h1 h2=>?_
 refine#[fa,O,s,r,s1,I,h1,fun d ed v H' f1 O1 Y U J=>?_,fun c es ec H' f1 O1 Y U C dx od xs n1 n2 J=>?_]
 .subst ed;cases h2;exact k σ v H' f1 O1 Y.stp U J
 .subst ec;cases h2;exact k σ C dx od xs H' f1 O1 Y.stp U n1 n2 J
noncomputable def cP (f:K0) (t:D->DS->Option DS):DM:=fun s=>(f s).bind fun x=>match x.1 with
 |.inl d=>(t d x.2).map fun s'=>(.next,s')
 |.inr (c,es)=>some (.thr c es,x.2)
def FH {f:K0}{i:Nat}{x:Str}{pos':Pos}(hN:X.N.Nodup) (hi:X.N[i]? = some x) (hx:X0 X.env.scope x) (he:XO X g e f) (hs:swapsWith e (some (.Name x pos')) pos.line X.env=pure false:=by rfl) (hf:X.fn x=true\/X.env.scope.names.lookup x=some .local:=by first | exact .inl rfl | exact .inr rfl | assumption) :
  SO X g (.Assign [.Name x pos'] e pos) (cP f (d6 i)):=SO.w (kr hN hi hx he.pe hs hf) fun E σ H hQ=>by
 refine hQ.elim fun fa O s fl s' I q k=>?_
 refine o8 q fun r s1 h1 h2=>?_
 refine#[fa,O,s,r,s1,I,h1,fun d ed v H' f1 O1 Y U J=>?_,fun c es ec H' f1 O1 Y U C dx od xs n1 n2 J=>?_]
 .subst ed;cases h2;obtain⟨P,sub,I'⟩:=U.put i J;exact k _ H' f1 P (Y.stp.trans (bp sub).stp) I'
 .subst ec;cases h2;exact k σ C dx od xs H' f1 O1 Y.stp U n1 n2 J
end
end DL
namespace L2
open PySem PySem.W PySem.Spec PyProof.Rows
section
variable {w:World}{g:Array GenState}{d:Drawn}{t:Nat}{os:OsState}{K:vF_}{e:Addr}{oe:Obj}{b:Bool}{Q:Bool->Shared->Prop}
def wB {sl:vS_}(X:K.In h) (Y:h.get? e=some oe) (hc:oe.cls = .ref C) (J:K.lookup C'=some #[.type "type",od,.cls cd,sl]) (U:subIn K (.ref C') (.type "BaseException")=some true) (sb:subIn K (.ref C) (.ref C')=some b) (z:Q b #[h,g,d,t,os]) :
  wpAny (model prog w) A (excMatches (.ref e) (.ref C')) Q E #[h,g,d,t,os]:=by
 have hC:=X _ _ J;have L2:=LD (M:=model prog w) X U;have L3:=LD (M:=model prog w) X sb;have hnt:isSubtype (.type "type") (.type "tuple")=pure false:=tc_notTuple;unfold excMatches isInstance
 repeat (any_goals (first | assumption | with_reducible refine Jt hC ?_ | with_reducible refine L2.at ?_ | with_reducible refine L3.at ?_ | (with_reducible refine Jt Y ?_;rw[hc]) | wp_step))
 cases b <;> (repeat (any_goals (first | assumption | wp_step)))
end
section
variable {w:World}{R:Result->Shared->Prop}
def Dk {e:Value}{n:Str}
  (h:wpAny (model prog w) A (setFlight e none) (fun _ s1=>wpAny (model prog w) A (storeName env n e) (fun _ s2=>wpAny (model prog w) A (execs (b0::body) env) (fun f s3=>R (.ok f) s3) (fun _ _=>False) s2) (fun _ _=>False) s1) (fun _ _=>False) s) :
  codeAny (model prog w) A (.handlers e [.ExceptHandler none (some n) (b0::body) pos] env) R s:=by
 refine codeAny_of_tree ?_;show wpAny _ A (do return Fin.done (<-(handleWith e env [.ExceptHandler none (some n) (b0::body) pos]).onRaise (fun x=>do noteFrame x env;theTreesLotGoes x))) _ _ s;refine gV (wpAny_noted ?_);unfold handleWith;refine gV (Ku (gV (IV h (fun _ s1 h1=>gV (LQ (IV h1 (fun _ s2 h2=>?_) fun _ _ x=>x.elim))) fun _ _ x=>x.elim)));refine gV (KD (IV h2 (fun f s3 J=>iR (iR J)) fun _ _ x=>x.elim))
end
section
variable {M:Model}{s1:Shared}{e:Addr}{Q:Unit->Shared->Prop}
def EI (I1:Inv X pins σ H1 s1) (I:Inv X pins σ H s) (f:Fly s1.heap.objs.size H s.heap e C dx) (z:∀h',Inv X pins σ H { s with heap:=h' }->(∀o,s.heap.get? e=some o->h'.get? e=some o)->Q () { s with heap:=h' }):wpAny M A (setFlight (.ref e) none) Q E s:=by
 obtain⟨en,eh,oe,vs,U,e2,e3,J,e5,y⟩:=f;unfold setFlight;rcases y with y | ⟨T,oT,ts,z1,z2,z3,z4,z5,z6,z7⟩
 .refine gV (IL U J y ?_);rw[iU #[]];exact iR (z s.heap I fun o q=>q)
 .refine gV (IL U J z1 ?_);rw[iO (show (Value.ref T != Value.none)=true from by simp)];refine KZ z5 z6 (Oh.mp z7).1 (z _ ?_ fun o q=>(JC _ _ z4).trans q);obtain⟨f1,f2,f3,Y,f5,f6⟩:=I1.fpOk (H':=H) z2 z3;exact I.turned (t':=s.toks) (it:=T) (fun b o nb q=>(JC _ _ (IK nb)).trans q) z3 f2 Y f5 f6
end
abbrev Cx.tr (X:Cx) (pn:vP_) (xe:vQ_):Cx:={ X with pn:=pn,xe:=xe }
abbrev Cx.hd (X:Cx) (e:Addr):Cx:={ X with A:=X.A.mark (some (.ref e)),calm:=false,xe:=fun _ _=>False }
section
variable {pins':vP_}{xe:vQ_}{e:Addr}
theorem Cx.Ok.tr {U:vP_}(J:X.Ok):(X.tr U xe).Ok:=#[J.mod,J.kind,J.glob,J.blt,J.above,J.inj,J.has,J.cab,J.hd,J.frames,J.stk,J.exf,J.bs,J.bsz,J.noex,J.exfs,J.funs,J.frf]
def Cx.Ok.untr {U:vP_}(J:(X.tr U xe).Ok):X.Ok:=#[J.mod,J.kind,J.glob,J.blt,J.above,J.inj,J.has,J.cab,J.hd,J.frames,J.stk,J.exf,J.bs,J.bsz,J.noex,J.exfs,J.funs,J.frf]
theorem Inv.tr (I:Inv X pins σ H s):Inv (X.tr (X.pn++pins) xe) [] σ H s:=#[I.ok.tr,I.os,I.bare,I.base,I.loc,I.cell,I.free,I.freeC,fun p J=>I.pin p (by simpa using J),I.hok,I.len]
theorem Inv.untr (I:Inv (X.tr (X.pn++pins) xe) pins' σ H s):Inv X pins σ H s:=#[I.ok.untr,I.os,I.bare,I.base,I.loc,I.cell,I.free,I.freeC,fun p J=>I.pin p (MO _ J),I.hok,I.len]
def Cx.Ok.hd' (J:X.Ok):(X.hd e).Ok:=#[J.mod,J.kind,J.glob,J.blt,J.above,J.inj,J.has,J.cab,(fun z=>by cases z),J.frames,J.stk,J.exf,J.bs,J.bsz,J.noex,J.exfs,J.funs,J.frf]
theorem Inv.hd (I:Inv X pins σ H s):Inv (X.hd e) pins σ H s:=#[I.ok.hd',I.os,I.bare,I.base,I.loc,I.cell,I.free,I.freeC,I.pin,I.hok,I.len]
def Inv.unhd (J:X.Ok) (I:Inv (X.hd e) pins σ H s):Inv X pins σ H s:=#[J,I.os,I.bare,I.base,I.loc,I.cell,I.free,I.freeC,I.pin,I.hok,I.len]
theorem SP.untr {D:Ends}{f:Flow}(h:SP (X.tr (X.pn++pins) xe) pins' D f s'):SP X pins D f s':=by
 cases f with
 |next=>obtain⟨σ',H',I,q⟩:=h;exact#[σ',H',I.untr,q]
 |brk=>obtain⟨σ',H',I,q⟩:=h;exact#[σ',H',I.untr,q]
 |cont=>obtain⟨σ',H',I,q⟩:=h;exact#[σ',H',I.untr,q]
 |ret u=>obtain⟨v,σ',H',I,r,q⟩:=h;exact#[v,σ',H',I.untr,r,q]
end
section
variable {s1:Shared}
def Gs {M:Model}{v:V}{Q:Unit->Shared->Prop}(I:Inv X pins σ H s) (hN:X.N.Nodup) (hi:X.N[i]? = some x) (hx:X.env.scope.names.lookup x=some .local) (hv:σ[i]? = some (some v))
  (z:∀s',Inv X pins (σ.set i none) H s'->Q () s'):wpAny M A (unbindName X.env x) Q E s:=by
 obtain⟨m,hn,hl⟩:=id I.loc;obtain⟨u,r,l⟩:=hl i x v hi hv (.inl hx);have mv:m x=some u:=by
  rcases l with ⟨_,q⟩ | ⟨q,_⟩
  .exact q
  .have q:X.env.scope.names.lookup x=some .cell\/X.env.scope.names.lookup x=some .free:=q;rw[hx] at q;rcases q with q | q <;> cases q
 obtain⟨oL,_,_,hoL,_⟩:=id hn;have nl:∀b o,X.s₀.heap.get? b=some o->b≠X.env.locals:=fun b o q=>Jd (IJ (xl q) I.ok.above)
 refine wpAny_unbindName_local hx hn mv (by rw[I.ok.kind];rfl) fun h' u' hn' U=>?_
 refine z _ #[I.ok,I.os,I.bare,#[fun b o q n nf J=>(U.2 b (nl b o q)).trans (I.base.keep b o q n nf J),fun b o q n nf J=>?_,I.base.free,fun b o q J=>?_,I.base.tups,I.base.frzs,I.base.tbls],#[_,hn',fun j y v' Y e2 e3=>?_],fun y c q=>?_,I.free,I.freeC,fun p hp=>?_,fun b ob q=>?_,by simpa using I.len]
 .obtain⟨sl,Y⟩:=I.base.slot b o q n nf J;exact#[sl,(U.2 b (nl b o q)).trans Y]
 .obtain⟨o',Y⟩:=I.base.there b o q J;exact#[o',(U.2 b (nl b o q)).trans Y]
 .by_cases hj:j=i
  .subst hj;rw[Kr (by rw[I.len];exact(Jj.mp hi).1)] at e2;cases e2
  .rw[Kf (IK hj)] at e2;obtain⟨u2,r2,q⟩:=hl j y v' Y e2 e3;refine#[u2,r2,?_];rcases q with ⟨k,q⟩ | ⟨k,c,q,w⟩
   .have ny:y≠x:=fun e=>hj (mQ hN Y (e▸hi))
    exact .inl #[k,by simp[ny,q]]
   .exact .inr #[k,c,q,w.sameBut U (I.cne y c q)]
 .obtain⟨w,q2⟩:=I.cell y c q;exact#[w,q2.sameBut U (I.cne y c q)]
 .obtain⟨e,n,J,nf,d⟩:=I.pin p hp;exact#[(U.2 p.1 J).trans e,n,J,nf,d]
 .refine(I.hok b ob q).stay (fun c w hc y=>(U.2 c ?_).trans y) (fun _ y=>y) fun _ _ y=>y
  rintro rfl;have fr:=I.free;rcases hc with rfl | hc
  .rw[fr] at q;cases q
  .rw[fr] at hc;cases hc
def Inv.freeze {e:Addr}(I1:Inv X pins σ H1 s1) (I:Inv X pins σ H s) (en:s1.heap.objs.size<=e) (J:H e=none) (Y:s.heap.get? e=some oe):Inv X pins σ (i6 H e (.frz oe (.own e))) s:=by
 obtain⟨f1,f2,f3,f4,f5,f6⟩:=I1.fpOk (H':=H) en J;refine I.call' (ch:=[e]) rfl #[fun b o q _ _ _=>q,fun b o q _ _ _=>#[o.slots,q],fun b o q n ne=>?_,fun b o q _=>#[o,q],fun b ys q=>?_,fun b u v q=>?_,fun b ps q=>#[#v[],?_]] (fun b u q=>?_) I.bare fun b m=>?_
 .rw[j6 (fun z=>ne (by simp[z]))];exact n
 .rw[j6 (F2 q J)];exact q
 .rw[j6 (F2 q J)];exact q
 .rw[j6 (F2 q J)];simpa using q
 .by_cases U:b=e
  .subst U;rw[B0] at q;cases q;exact#[Y,oe,Y]
  .rw[j6 U] at q;exact(I.hok b u q).stay (fun c v _ y=>y) (fun c y=>by rw[j6 (F2 y J)];exact y) fun c ys y=>by rw[j6 (F2 y J)];exact y
 .rw[Jo.mp m];exact#[f4,f2,f5,f6]
end
end L2
namespace DL
open PySem PySem.Spec L2
structure Ck (K:vF_) (mg:vG_) (cs:List Str) (cn:Str):Prop where
 ex:∃C' od cd sl,mg cn=some (.ref C')/\K.lookup C'=some #[.type "type",od,.cls cd,sl]/\PySem.W.subIn K (.ref C') (.type "BaseException")=some true/\∀c∈cs,∃C,PySem.W.nsIn K mainGlobals c=some (some (.ref C))/\PySem.W.subIn K (.ref C) (.ref C')=some true
noncomputable def bI (cs:List Str) (i:Nat) (b h:DM):DM:=fun s=>(b s).bind fun x=>match x.1 with
 |.thr c ds=>if cs.contains c=true/\ds.length<=2 then (h { x.2 with sl:=x.2.sl.set i (.v (.exc c ds)) }).bind fun y=>match y.1 with
   |.next=>some (.next,{ y.2 with sl:=y.2.sl.set i .no })
   |_=>none
  else none
 |fl=>some (fl,x.2)
theorem SlR.toNo {K:vF_}(v:Option V):∀{sl:List Sl}{σ:List (Option V)}{O:vL_}{i:Nat}{d:D},SlR K N fa H sl σ O->sl[i]? = some (.v d)->SlR K N fa H (sl.set i .no) (σ.set i v) O
 |[],σ,O,i,d,h,e=>by simp at e
 |.no::r,σ,O,i,d,h,e=>by
  simp only[SlR] at h;obtain⟨u,τ,rfl,h⟩:=h;cases i with
  |zero=>simp at e
  |succ i=>simp only[JO,SlR];exact#[u,_,rfl,SlR.toNo v h (by simpa using e)]
 |.v d'::r,σ,O,i,d,h,e=>by
  simp only[SlR] at h;obtain⟨u,τ,rfl,q,h⟩:=h;cases i with
  |zero=>simp only[Kl,SlR];exact#[v,τ,rfl,h]
  |succ i=>simp only[JO,SlR];exact#[u,_,rfl,q,SlR.toNo v h (by simpa using e)]
 |.own ds::r,σ,O,i,d,h,e=>by
  simp only[SlR] at h;obtain⟨a,xs,τ,P,rfl,rfl,J,q,h⟩:=h;cases i with
  |zero=>simp at e
  |succ i=>simp only[JO,SlR];exact#[a,xs,_,P,rfl,rfl,J,q,SlR.toNo v h (by simpa using e)]
def DI.drop {K:vF_}{σ:L2.St}{s:DS}(I:GI K g σ H fa O s) (hi:i<s.sl.length) (v:Option V):∃P,(∀b∈P,b∈O)/\GI K g (σ.set i v) H fa P { s with sl:=s.sl.set i .no }:=by
 obtain⟨P,sub,J⟩:=I.put i (d:=.non) (v:=.non) (by simp only[Rep]);refine#[P,sub,J.nd,?_,J.fr,J.st,J.tr,J.ff,J.fd,J.nf];have:=SlR.toNo v J.sl (i:=i) (d:=.non) (Kr hi);rw[Nv,Nv] at this;exact this
section
variable {cn:Str}{p:Pos}{b0:Stmt}{suite:List Stmt}{b h:DM}
def Gn {s0:DS}(hb:∀(pn:vP_) (xe:vQ_) (g1:Gh),Rz (X.tr pn xe) g1->g1.F=g.F->g1.H0=g.H0->g1.fa0=g.fa0->SSO (X.tr pn xe) g1 body b) (I:Inv X pins σ H s) (G:GI X.K g σ H fa O s0)
  (e:b s0=some (fl,s1)) (U:∀c ds,fl ≠ .thr c ds) (k:FlK X.K g Dn fa O H fl s1):wpAny (model X.prog X.w) X.A (exec (.Try body [hs] [] [] pos) X.env) (SP X pins Dn) X.xe s:=by
 have Y:Rz (X.tr (X.pn++pins) fun _ _=>False) #[g.F,g.H0,g.fa0,fun _=>E0]:=#[fun pins' σ' H' H1 s' s1 e C dx J1 J fl q=>q]
 have B:=(hb (X.pn++pins) (fun _ _=>False) #[g.F,g.H0,g.fa0,fun _=>E0] Y rfl rfl rfl).pe [] s σ H Dn I.tr #[fa,O,s0,fl,s1,G,e,by
  cases fl with
  |thr c ds=>exact absurd rfl (U c ds)
  |next=>exact k
  |brk=>exact k
  |cont=>exact k
  |ret d=>exact k]
 refine wpAny_Try_except (IV B (fun f s' z=>?_) fun ev s' z=>z.elim);have z:=z.untr;cases f with
 |next=>exact Kt z
 |brk=>exact z
 |cont=>exact z
 |ret u=>exact z
def AJ {s0:DS}{c:Str}(hb:∀(pn:vP_) (xe:vQ_) (g1:Gh),Rz (X.tr pn xe) g1->g1.F=g.F->g1.H0=g.H0->g1.fa0=g.fa0->SSO (X.tr pn xe) g1 body b) (hs:X.stack=X.env::X.outer) (hf:X.env.frame=some X.env.locals)
  (I:Inv X pins σ H s) (G:GI X.K g σ H fa O s0) (e:b s0=some (.thr c ds,s1))
  (z:∀(e C dx:Addr) (σ':L2.St) (H' H1:Hp) (sa sb:Shared) (od:Obj) (xs:List V) (fa':vA_) (O':vL_),Inv X pins σ' H1 sa->Inv X pins σ' H' sb->Fly sa.heap.objs.size H' sb.heap e C dx->Stp fa O H fa' O' H'->GI X.K g σ' H' fa' O' s1->PySem.W.nsIn X.K mainGlobals c=some (some (.ref C)) ->
   H' dx=some (.frz od (.xd (fnm.zip xs)))->Reps X.K (NN g.F fa' O') fa' H' ds xs->wpAny (model X.prog X.w) X.A (handleBy (.ref e) X.env [hn]) (SP X pins Dn) X.xe sb) :
  wpAny (model X.prog X.w) X.A (exec (.Try body [hn] [] [] pos) X.env) (SP X pins Dn) X.xe s:=by
 generalize Y:(fun (σ':L2.St) (cv:Value) (odx:vA_) (H':Hp)=>∃C dx od xs fa' O',cv = .ref C/\odx=some dx/\Stp fa O H fa' O' H'/\GI X.K g σ' H' fa' O' s1/\PySem.W.nsIn X.K mainGlobals c=some (some (.ref C))/\H' dx=some (.frz od (.xd (fnm.zip xs)))/\Reps X.K (NN g.F fa' O') fa' H' ds xs)=xq;generalize U:(fun (ev:Value) (s':Shared)=>∃e C dx σ' H' H1 sa,ev = .ref e/\Inv X pins σ' H1 sa/\Inv X pins σ' H' s'/\Fly sa.heap.objs.size H' s'.heap e C dx/\xq σ' (.ref C) (some dx) H')=xe;have R1:Rz (X.tr (X.pn++pins) xe) #[g.F,g.H0,g.fa0,xq]:=#[fun pins' σ' H' H1 s' sa e C dx J1 J fl q=>by
  show xe _ _;rw[<-U];exact#[e,C,dx,σ',H',H1,sa,rfl,J1.untr,J.untr,fl,q]]
 have B:=(hb (X.pn++pins) xe #[g.F,g.H0,g.fa0,xq] R1 rfl rfl rfl).pe [] s σ H #[fun _ _=>False,fun _ _=>False,fun _ _=>False,fun _ _=>False] I.tr #[fa,O,s0,_,s1,G,e,fun σ' C dx od xs H' fa' O' a1 I1 n1 n2 r1=>by
  show xq _ _ _ _;rw[<-Y];exact#[C,dx,od,xs,fa',O',rfl,rfl,a1,I1,n1,n2,r1]]
 refine wpAny_Try_except (IV B (fun f s' y=>?_) fun ev s' y=>?_)
 .cases f with
  |next=>obtain⟨_,_,_,q⟩:=y;exact q.elim
  |brk=>obtain⟨_,_,_,q⟩:=y;exact q.elim
  |cont=>obtain⟨_,_,_,q⟩:=y;exact q.elim
  |ret u=>obtain⟨_,_,_,_,_,q⟩:=y;exact q.elim
 .have y:xe ev s':=y;rw[<-U] at y;obtain⟨e,C,dx,σ',H',H1,sa,rfl,J1,J,fl,q⟩:=y;rw[<-Y] at q;obtain⟨C2,dx2,od,xs,fa',O',q1,q2,a1,I1,n1,n2,r1⟩:=q;cases q1;cases q2;obtain⟨oe,vs,g1,_⟩:=id fl.ob;have sz:sa.heap.objs.size<=s'.heap.objs.size:=xr fl.en (JZ (xl g1));refine vh (H:=H') (base:=X.base) (n0:=sa.heap.objs.size) (outer:=X.outer) (by rw[J.ok.frames,hs]) (by have:=J.stack;rw[hs] at this;exact this) hf sz (fun a l=>J.hok.fresh l) fl fun h' y=>?_
  have y':Noted sa.heap.objs.size H' X.stack s'.heap h' e C dx:=by rw[hs];exact y
  exact z e C dx σ' H' H1 sa { s' with heap:=h' } od xs fa' O' J1 (J1.noted (t':=s'.toks) J y') y.fl a1 I1 n1 n2 r1
def zi {nm:Option Str}{pins:vP_}{H:Hp}{s:Shared}{e C dx:Addr}{c:Str}{n:Nat}{Q:Flow->Shared->Prop}(K1:Ck X.K X.mg cs cn) (hc:c∈cs) (hg:Gl X cn) (I:Inv X pins σ H s) (f:Fly n H s.heap e C dx) (hn:PySem.W.nsIn X.K mainGlobals c=some (some (.ref C)))
  (z:codeAny (model X.prog X.w) (X.A.mark (some (.ref e))) (.handlers (.ref e) [.ExceptHandler none nm (b0::suite) pos'] X.env) (fun r s2=>match r with
     |.ok fl=>(match nm with
      |none=>Q fl s2
      |some x=>wpAny (model X.prog X.w) X.A (do bindName X.env x .none;unbindBehindTheSuite X.env x pos') (fun _ s3=>Q fl s3) X.xe s2)
     |.error _=>False) s) (hd:(cn == ("__debug__" : Str))=false:=by decide) :
  wpAny (model X.prog X.w) X.A (handleBy (.ref e) X.env [.ExceptHandler (some (.Name cn p)) nm (b0::suite) pos']) Q X.xe s:=by
 obtain⟨C',od,cd,sl,hm,Y,f4,J⟩:=K1.ex;obtain⟨C2,U,m2⟩:=J c hc;rw[hn] at U;cases U;obtain⟨oe,vs,g1,g2,_⟩:=id f.ob;refine wpAny_handleBy_cons (codeAny_handlers_test ?_) (by intro q;cases q);refine eE (X:=X.hd e) (I.hd (e:=e)) hg hm ?_ hd;obtain⟨hh,gg,d0,tt,oo⟩:=s;refine wB I.kIn g1 g2 Y f4 m2 ?_;refine Ls z fun r s2 y=>?_
 cases r with
 |error x=>exact y.elim
 |ok fl=>exact y
def CH {i:Nat}{x:Str}(hb:∀(pn:vP_) (xe:vQ_) (g1:Gh),Rz (X.tr pn xe) g1->g1.F=g.F->g1.H0=g.H0->g1.fa0=g.fa0->SSO (X.tr pn xe) g1 body b) (hh:∀e:Addr,SSO (X.hd e) g (b0::suite) h) (K1:Ck X.K X.mg cs cn) (hg:Gl X cn)
  (hN:X.N.Nodup) (hi:X.N[i]? = some x) (hx:X.env.scope.names.lookup x=some .local) (hs:X.stack=X.env::X.outer:=by rfl) (hf:X.env.frame=some X.env.locals:=by rfl)
  (hd:(cn == ("__debug__" : Str))=false:=by decide):SO X g (.Try body [.ExceptHandler (some (.Name cn p)) (some x) (b0::suite) pos'] [] [] pos) (bI cs i b h):=by
 refine#[fun pins s σ H Dn I q=>?_];refine q.elim fun fa O s0 fl s1 G e0 k=>?_
 refine o8 e0 fun U sb h1 h2=>?_
 by_cases nt:∀c ds,U ≠ .thr c ds
 .refine Gn hb I G h1 nt ?_;cases U with
  |thr c ds=>exact absurd rfl (nt c ds)
  |next=>cases h2;exact k
  |brk=>cases h2;exact k
  |cont=>cases h2;exact k
  |ret d=>cases h2;exact k
 .cases U with
  |thr c ds=>
   have h2:(if cs.contains c=true/\ds.length<=2 then (h { sb with sl:=sb.sl.set i (.v (.exc c ds)) }).bind fun y=>match y.1 with
    |.next=>some (.next,{ y.2 with sl:=y.2.sl.set i .no })
    |_=>none else none)=some (fl,s1):=h2
   by_cases hc:cs.contains c=true/\ds.length<=2
   .rw[iO hc] at h2;refine o8 h2 fun fy sy h3 h4=>?_
    obtain⟨rfl,h5⟩:fy = .next/\(Fl.next,({ sy with sl:=sy.sl.set i .no }:DS))=(fl,s1):=by
     cases fy with
     |next=>exact#[rfl,Jg h4]
     |brk=>cases h4
     |cont=>cases h4
     |ret d=>cases h4
     |thr c ds=>cases h4
    cases h5;refine AJ hb hs hf I G h1 fun e C dx σ' H' H1 sa sb' od xs fa' O' J1 J fl a1 I1 n1 n2 r1=>?_
    refine zi (cs:=cs) K1 (by simpa using hc.1) hg J fl n1 (Dk (IV (EI (E:=fun _ _=>False) J1 J fl fun h' J2 ke=>?_) (fun _ _ y=>y) fun _ _ y=>y)) hd;obtain⟨oe,vs,g1,g2,g3,g4,_⟩:=id fl.ob;have J3:=J1.freeze J2 fl.en fl.eh (ke _ g1);have G3:=I1.new (o:=.frz oe (.own e)) fl.eh;have nd:dx≠e:=fun y=>by rw[y,fl.eh] at n2;cases n2
    have rx:Rep X.K (NN g.F fa' O') fa' (i6 H' e (.frz oe (.own e))) (.exc c ds) (.ref e):=by
     simp only[Rep];have rr:=r1.stp I1 (D6 (O:=O') (fa:=fa') (o:=.frz oe (.own e)) fl.eh).stp;exact#[e,C,xs,rfl,n1,#[oe,B0,g2,#[_,g4],by rw[r1.length];exact hc.2,.inr #[dx,od,g3,by rw[j6 nd];exact n2]],rr]
    obtain⟨P,sub,G4⟩:=G3.put i rx;have A4:Stp fa O H fa' P (i6 H' e (.frz oe (.own e))):=a1.trans ((D6 (O:=O') (fa:=fa') (o:=.frz oe (.own e)) fl.eh).stp.trans (bp sub).stp);refine bW (X:=X.hd e) (v:=.ref e) (J3.hd (e:=e)) hN hi (.inl hx) rfl (fun s4 J4=>?_) (.inr hx);refine IV ((hh e).pe pins s4 _ _ #[fun σ3 Y=>∃f3 O3,Stp fa O H f3 O3 Y/\GI X.K g σ3 Y f3 O3 sy,fun _ _=>False,fun _ _=>False,fun _ _=>False] J4 #[fa',P,_,.next,sy,G4,h3,fun σ3 Y f3 O3 a3 I3=>#[f3,O3,A4.trans a3,I3]]) (fun f s5 y=>?_) fun _ _ y=>y
    cases f with
    |brk=>obtain⟨_,_,_,q⟩:=y;exact q.elim
    |cont=>obtain⟨_,_,_,q⟩:=y;exact q.elim
    |ret u=>obtain⟨_,_,_,_,_,q⟩:=y;exact q.elim
    |next=>
     obtain⟨σ3,Y,J5,f3,O3,a3,I3⟩:=y;have J6:Inv X pins σ3 Y s5:=J5.unhd J.ok;have l3:i<σ3.length:=by rw[J6.len];exact(Jj.mp hi).1
     refine gV (LQ (bW (v:=.non) J6 hN hi (.inl hx) rfl (fun s6 J7=>?_) (.inr hx)));unfold unbindBehindTheSuite;refine LA (Gs (v:=.non) J7 hN hi hx (Kr l3) fun s7 J8=>?_);rw[Nv] at J8;obtain⟨P2,sub2,I4⟩:=I3.drop (i:=i) (by rw[<-I3.sl.len];exact l3) none;exact#[_,Y,J8,k _ Y f3 P2 (a3.trans (bp sub2).stp) I4]
   .rw[iU hc] at h2;cases h2
  |next=>exact absurd (fun c ds z=>by cases z) nt
  |brk=>exact absurd (fun c ds z=>by cases z) nt
  |cont=>exact absurd (fun c ds z=>by cases z) nt
  |ret d=>exact absurd (fun c ds z=>by cases z) nt
end
section
variable {a:Expr}{p:Pos}{fa:DE}
structure PNs (X:Cx) (es:List Expr) (ns:List Str):Prop where
 ex:∃Cs:List Addr,PA X es (fun _ H Q=>Q (Cs.map V.ref) H)/\Paired (fun n C=>X.mg n=some (.ref C)) ns Cs
def CS:PNs X [] []:=#[[],ag,.nil]
def fA {n:Str}{es:List Expr}{ns:List Str}{p2:Pos}(U:Gl X n) (J:∃C,X.mg n=some (.ref C)) (r:PNs X es ns) (hd:(n == ("__debug__" : Str))=false:=by decide) (hs:starEach (.Name n p2::es) X.env=(false,eval (.Name n p2) X.env)::starEach es X.env:=by rfl):PNs X (.Name n p2::es) (n::ns):=by
 obtain⟨C,J⟩:=J;obtain⟨Y,h1,h2⟩:=r.ex;exact#[C::Y,O9 (ly (v:=.ref C) U J rfl hd) h1 hs,.cons J h2]
def ExO.new {a U:Addr}{o:HO}(h:ExO H a C xs) (Y:H U=none):ExO (i6 H U o) a C xs:=by
 obtain⟨oe,e1,e2,e3,e4,e5⟩:=h;refine#[oe,by rw[j6 (F2 e1 Y)];exact e1,e2,e3,e4,e5.imp id ?_];rintro⟨dx,od,d1,J⟩;exact#[dx,od,d1,by rw[j6 (F2 J Y)];exact J]
def sI (cs ns:List Str):D->Option D
 |.exc c _=>if cs.contains c=true then some (.bl (ns.any (V3 c))) else none
 |_=>none
theorem rG {c:Str}(m:∀c'∈cs',∃C',X.mg c'=some (.ref C')/\PySem.W.kitOne X.K (.ref C) (.ref C')=some (V3 c c')):∀{ns:List Str}{Cs:vL_},Paired (fun n C=>X.mg n=some (.ref C)) ns Cs->(∀n∈ns,n∈cs')->PySem.W.kitAny X.K (.ref C) (Cs.map Value.ref)=some (ns.any (V3 c))
 |_,_,.nil,_=>rfl
 |n::ns,C1::Cs,.cons hm r,h=>by
  obtain⟨C2,J,m2⟩:=m n (h n (IY ..));rw[hm] at J;cases J;have Y:=rG m r fun x U=>h x (IT _ U)
  show (match PySem.W.kitOne X.K (.ref C) (.ref C1) with | some true=>some true | some false=>PySem.W.kitAny X.K (.ref C) (Cs.map Value.ref) | none=>none)=_;rw[m2,List.any_cons];cases V3 c n with
  |true=>rfl
  |false=>exact Y
def Ff {Cs:vL_}:CallR X (.builtin "isinstance") (fun xs H Q=>∃e C b ys tp,xs=[.ref e,.ref tp]/\ExO H e C ys/\H tp=some (.tup (Cs.map V.ref))/\XC X.K C/\PySem.W.kitAny X.K (.ref C) (Cs.map Value.ref)=some b/\Q (.bl b) H):=by
 intro pins s σ H xs us Q I r h;obtain⟨e,C,b,ys,tp,rfl,h1,h2,h3,U,q⟩:=h;obtain⟨u,c0,rfl,ru,Y⟩:=mx r;cases ru;cases Y;obtain⟨o,o1,o2,_⟩:=kF I h1;obtain⟨_,its,vi,ob,t1,t2,J⟩:=I.hok _ _ h2;have ei:∀{l:vL_}{us:vV_},Vals (l.map V.ref) us->us=l.map Value.ref:=by
  intro l;induction l with
  |nil=>intro us v;cases v;rfl
  |cons a l ih=>
   intro us v;cases v with
   |cons r v=>cases r;rw[ih v];rfl
 have:=ei vi;subst this;obtain⟨oc,od,dt,sl⟩:=ob;obtain⟨n,J⟩:=J;cases t2;cases J;exact PySem.W.kia_tup h3.kit I.kIn #[o,o1,o2] t1 U (fun z=>nomatch z) fun tk=>#[.bl b,H,I.tok tk,rfl,q]
def Gx {ns:List Str}{es:List Expr}{x1:Nat}{p2:Pos}(R:RfA X.K X.mg cs cs') (T:PNs X es ns) (hn:ns.all (cs'.contains ·)=true) (hl:ns.length<=1000) (hg:Gl X "isinstance") (hm:X.mg "isinstance" = none) (ha:EO X g a fa)
  (Y:starEach [.Tuple es x1 p2] X.env=(false,eval (.Tuple es x1 p2) X.env)::starEach [] X.env:=by rfl) (he:starEach [a,.Tuple es x1 p2] X.env=(false,eval a X.env)::starEach [.Tuple es x1 p2] X.env:=by rfl) (U:(backTo pos (starEach [.Tuple es x1 p2] X.env)).any (·.1)=false:=by rfl) :
  EO X g (.Call (.Name "isinstance" p) [a,.Tuple es x1 p2] [] pos) (r8 (sI cs ns) fa):=by
 obtain⟨Cs,h1,h2⟩:=T.ex;refine EO.w (dI (Ff (Cs:=Cs)) hg hm hJ (O9 ha.pe (O9 (oP h1) ag Y) he) #[] #[] he U) fun σ H Q hQ=>?_
 refine hQ.elim fun f0 O s d s' I e k=>?_
 refine o8 e fun x s1 h3 h=>?_
 refine N6 h fun d' J h=>?_
 cases h;cases x with
 |exc c ds=>
  have J:(if cs.contains c=true then some (.bl (ns.any (V3 c))) else none)=some d:=J;by_cases hc:cs.contains c=true
  .rw[iO hc] at J;cases J;refine#[f0,O,s,_,s1,I,h3,fun y H1 f1 O1 a1 I1 r1=>?_];simp only[Rep] at r1;obtain⟨b,C,xs,rfl,n1,eo,rs⟩:=r1;obtain⟨C2,m1,m2,m3,m4,m5⟩:=(R.rx c (by simpa using hc)).ex;rw[n1] at m1;cases m1;have lC:(Cs.map V.ref).length<=sizeLine:=by
    rw[td,<-h2.length];exact JZ (Co hl)
   refine#[lC,fun tp ht=>?_];refine#[b,C,_,xs,tp,rfl,eo.new ht,B0,m2,rG m5 h2 (fun n hn'=>by
    have:=Jc.mp hn n hn';simpa using this),k _ _ f1 O1 (a1.trans (D6 ht)) (I1.new ht) (by simp only[Rep])]
  .rw[iU hc] at J;cases J
 |_=>cases J
end
section
variable {K:vF_}{n:Str}{st:Stmt}{f:Addr}
def rh {w:World}{N:List Str}{k:Nat}{b:DM}(F:GF K mg n st f fd) (q:∀(kV doc pm:Value) (an:vA_) (cdv ct:Value) (us:vV_),us.length=ps.length->bindArgs (PySem.W.fnOf n n (X7 st) (M2 st) (A2 st) .none kV doc pm an cdv ct) #[us,[]]=pure (ps.zip us)) (S:FnScope N ps (A2 st))
  (J:∀(cdv:Value) (A:Around) (outer:List Env) (s:Shared) (H:Hp) (E:XK) (g:Gh),Rz (N4 (Z9 P w) P w K mg base N n (A2 st) f cdv A outer s H E) g->Room k (A.deeper (PyProof.Rows.envOfC n (A2 st) s.heap.objs.size f cdv)) ->
   SSO (N4 (Z9 P w) P w K mg base N n (A2 st) f cdv A outer s H E) g (M2 st) b):CalX P w K mg base (k+1) n ps (aw N.length b):=#[f,fd,BN F.F S J,F.m,F.F.kp,F.F.binds q]
def ck_mk (X:K.In h) (G:h.Ns mainGlobals mg) {sl:vS_}(a:PySem.W.nsIn K mainGlobals cn=some (some (.ref C'))) (J:K.lookup C'=some #[.type "type",od,.cls cd,sl]) (U:PySem.W.subIn K (.ref C') (.type "BaseException")=some true)
  (m:∀c∈cs,∃C,PySem.W.nsIn K mainGlobals c=some (some (.ref C))/\PySem.W.subIn K (.ref C) (.ref C')=some true):Ck K mg cs cn:=#[C',od,cd,sl,Le X G a,J,U,m]
def sub_mk {c:Str}(a:PySem.W.nsIn K mainGlobals c=some (some (.ref C))) (k:PySem.W.subIn K (.ref C) (.ref C')=some true):∃C,PySem.W.nsIn K mainGlobals c=some (some (.ref C))/\PySem.W.subIn K (.ref C) (.ref C')=some true:=#[C,a,k]
end
def br (fc:DT) (fa fb:K0):K0:=fun s=>(fc s).bind fun x=>if x.1=true then fa x.2 else fb x.2
def Hz {a b c:Expr}{fa fb:K0}(hc:TO X g c fc) (ha:XO X g a fa) (hb:XO X g b fb):XO X g (.IfExp c a b pos) (br fc fa fb):=XO.w (sS hc.pe ha.pe hb.pe) fun σ H Q h=>by
 obtain⟨f0,O,s,r,s',I,q,k1,k2⟩:=h;refine o8 q fun x s1 h1 h=>?_
 refine#[f0,O,s,x,s1,I,h1,fun H1 f1 O1 a1 I1=>?_];cases x with
 |false=>rw[iU IM] at h ⊢;exact#[f1,O1,s1,r,s',I1,h,fun d ed v H2 f2 U J Y=>k1 d ed v H2 f2 U (a1.trans J) Y,fun c es ec H2 f2 U J Y=>k2 c es ec H2 f2 U (a1.trans J) Y]
 |true=>rw[iO rfl] at h ⊢;exact#[f1,O1,s1,r,s',I1,h,fun d ed v H2 f2 U J Y=>k1 d ed v H2 f2 U (a1.trans J) Y,fun c es ec H2 f2 U J Y=>k2 c es ec H2 f2 U (a1.trans J) Y]
def cA (f:K0):DE:=fun s=>(f s).bind fun x=>match x.1 with
 |.inl d=>some (d,x.2)
 |.inr _=>none
def Hh {f:K0}(h:XO X g e f):EO X g e (cA f):=EO.w h.pe fun σ H Q J=>by
 refine J.elim fun fa O s d s' I q k=>?_
 refine o8 q fun r s1 h1 h2=>?_
 refine#[fa,O,s,r,s1,I,h1,fun d' ed v H' f1 O1 Y I1 rr=>?_,fun c es U=>?_]
 .subst ed;cases h2;exact k v H' f1 O1 Y I1 rr
 .subst U;cases h2
def iM (fx:K0) (f:DE):K0:=fun s=>(fx s).bind fun x=>match x.1 with
 |.inl _=>(f s).map fun y=>(.inl y.1,y.2)
 |.inr t=>some (.inr t,x.2)
section
variable {fx:K0}{px py pp:Pos}{kt:Nat}
def Fh (hc:X.calm=true) (k:CompOk X scope cl (x::y::caps) 2 idx) (h:XO X g iter fx) (J:(x::y::caps).Nodup)
  (Y:∀C s0 H0 ex,(m7 X (x::y::caps) scope cl C s0 H0 ex).env.scope.names.lookup x=some .local) (U:∀C s0 H0 ex,(m7 X (x::y::caps) scope cl C s0 H0 ex).env.scope.names.lookup y=some .local)
  (ht:∀C s0 H0 ex g',Z6 (m7 X (x::y::caps) scope cl C s0 H0 ex) g' ifs fc) (he:∀C s0 H0 ex g',EO (m7 X (x::y::caps) scope cl C s0 H0 ex) g' elt fe) (hs:∀x,foldedSetIterable iter X.env x=pure x:=by intro _;rfl) :
  XO X g (.ListComp elt [#[.Tuple [.Name x px,.Name y py] kt pp,iter,ifs,0]] scope pos) (iM fx (k6 (Q0 idx (F6 (cA fx)) fc fe))):=by
 refine#[fun pins s σ H Q I q=>?_];obtain⟨fa,O,st,r,s',gi,e,k1,k2⟩:=q;refine o8 e fun t s1 h1 h2=>?_
 cases t with
 |inl d=>
  refine mapP h2 fun d' s2 h3 h4=>?_
  cases h4;exact(FO.v (jr hc k (Q6 (Hh h)) J Y U ht he hs)).pe pins s σ H Q I #[fa,O,st,d',s2,gi,h3,fun v H' f1 O1 a1 I1 rr=>k1 d' rfl v H' f1 O1 a1 I1 rr]
 |inr t=>
  cases h2;refine lF (tc:=fun σ H Q=>∃g',liftT X.K g' fc σ H Q) (te:=fun σ H Q=>∃g',liftE X.K g' fe σ H Q) (g:=iQ X.K 2 (aW (P1 0) (aW (P1 1) iJ))) hc k (kG h.pe) (fun C s0 H0 ex=>jP (X:=m7 X (x::y::caps) scope cl C s0 H0 ex) (n:=2) hc (bn (X:=m7 X (x::y::caps) scope cl C s0 H0 ex) (L9 (X:=m7 X (x::y::caps) scope cl C s0 H0 ex) (i:=0) J rfl (Or.inl (Y C s0 H0 ex)) (Or.inr (Y C s0 H0 ex))) (bn (X:=m7 X (x::y::caps) scope cl C s0 H0 ex) (L9 (X:=m7 X (x::y::caps) scope cl C s0 H0 ex) (i:=1) J rfl (Or.inl (U C s0 H0 ex)) (Or.inr (U C s0 H0 ex))) jd))) (fun C s0 H0 ex pins s σ H Q I ⟨g',h⟩=>ht C s0 H0 ex g' pins s σ H Q I h) (fun C s0 H0 ex pins s σ H Q I ⟨g',h⟩=>(he C s0 H0 ex g').pe pins s σ H Q I h) hs pins s σ H Q I ?_;exact#[fa,O,st,.inr t,s1,gi,h1,(fun d ed=>by cases ed),fun c es ec=>k2 c es ec]
end
def o7 {K:vF_}{n:Str}{st:Stmt}{f:Addr}{w:World}{k:Nat}{b:DM}(U:List Str) (F:GF K mg n st f fd) (q:∀(kV doc pm:Value) (an:vA_) (cdv ct:Value) (us:vV_),us.length=ps.length->bindArgs (PySem.W.fnOf n n (X7 st) (M2 st) (A2 st) .none kV doc pm an cdv ct) #[us,[]]=pure (ps.zip us)) (S:FnScope (ps++U) ps (A2 st))
  (J:(ps++U).Nodup->∀(cdv:Value) (A:Around) (outer:List Env) (s:Shared) (H:Hp) (E:XK) (g:Gh),Room k (A.deeper (PyProof.Rows.envOfC n (A2 st) s.heap.objs.size f cdv))->SSO (N4 U3 P w K mg base (ps++U) n (A2 st) f cdv A outer s H E).nox g (M2 st) b) :
  Cal P w K mg base (k+1) n ps (m6 (ps++U).length b):=Bm F q S (J S.nd)
end DL
namespace T
open PySem PySem.Spec L2 DL
abbrev EX:DM:=(d8 (e8 (a9 y8 (dL 2) (dL 3)) (d6 4)) (d8 (e8 (dV 3) (d6 2)) (e8 (dV 4) (d6 3))))
def iE:DM:=(d8 (e8 (i9 (one ar) (a7 (dL 0) a8)) (d6 2)) (d8 (e8 (i9 (one ar) (a7 (dL 1) a8)) (d6 3)) (d8 (A9 (dB (a9 C5 (dL 3) (Ow 0))) (EX)) (i5 (dV 2)))))
def o6:c6:=m6 5 (iE)
abbrev fG (m0e:c6):DM:=(e8 (c8 m0e (a7 (dV 1) (a7 (dV 2) a8))) (d6 1))
def iw (J:c6):DM:=(d8 (e8 (Ow 0) (d6 1)) (d8 (Q5 (dV 0) (d6 2) (fG J)) (i5 (dV 1))))
def F0 (J:c6):c6:=m6 3 (iw J)
def kS (J:c6):DM:=(d8 (e8 (c8 J (a7 (dV 0) a8)) (d6 1)) (d8 (l7 (dB (a9 (k9 (fun i j=>decide (i<j))) (a9 d7 (dL 0) (r8 v6 (Ow 1))) (Ow 0))) (e8 (r8 v6 (dL 1)) (d6 1)) n8) (i5 (i9 (one J9) (a7 (k6 (K2 [1] (F6 (dV 0)) A8 (a9 u6 (dL 0) (dL 1)))) a8)))))
def L0 (J:c6):c6:=m6 2 (kS J)
def lm (J:c6):DM:=(i5 (c8 J (a7 (c9 (a7 (dV 0) (a7 (dV 1) a8))) a8)))
def N0 (J:c6):c6:=m6 2 (lm J)
def gO (J:c6):DM:=(d8 (e8 (c8 J (a7 (Ox 0 1) (a7 (Ox 1 1) a8))) (d6 2)) (d8 (e8 (a9 o9 (a9 i8 (Ox 0 0) (a9 u6 (Ox 1 1) (dL 2))) (a9 i8 (Ox 1 0) (a9 u6 (Ox 0 1) (dL 2)))) (d6 3)) (d8 (e8 (c8 J (a7 (dV 3) (a7 (dV 2) a8))) (d6 4)) (i5 (c9 (a7 (a9 u6 (dL 3) (dL 4)) (a7 (a9 i8 (a9 u6 (Ox 0 1) (dL 2)) (a9 u6 (Ox 1 1) (dL 4))) a8)))))))
def E5 (J:c6):c6:=m6 5 (gO J)
def fX (J:c6):DM:=(i5 (c8 J (a7 (a9 i8 (Ox 0 0) (Ox 1 0)) (a7 (a9 i8 (Ox 0 1) (Ox 1 1)) a8))))
def cH (J:c6):c6:=m6 2 (fX J)
def iT (m07:c6):DM:=(i5 (c8 m07 (a7 (dV 0) (a7 (c9 (a7 (r8 v6 (Ox 1 0)) (a7 (Ox 1 1) a8))) a8))))
def ai (m07:c6):c6:=m6 2 (iT m07)
def gm:DM:=(i5 (a9 (k9 (fun i j=>decide (i<j))) (a9 i8 (Ox 0 0) (Ox 1 1)) (a9 i8 (Ox 1 0) (Ox 0 1))))
def w8:c6:=m6 2 (gm)
def jh (J:c6):DM:=(d8 (e8 (a9 B7 (a9 i8 (Ox 0 0) (Ox 1 2)) (a9 i8 (Ox 1 0) (Ox 0 2))) (d6 2)) (d8 (e8 (a9 B7 (a9 i8 (Ox 0 1) (Ox 1 2)) (a9 i8 (Ox 1 1) (Ox 0 2))) (d6 3)) (d8 (e8 (a9 i8 (Ox 0 2) (Ox 1 2)) (d6 4)) (i5 (c8 J (a7 (a9 o9 (a9 i8 (dL 2) (dL 2)) (a9 i8 (dL 3) (dL 3))) (a7 (a9 i8 (dL 4) (dL 4)) a8)))))))
def R5 (J:c6):c6:=m6 5 (jh J)
def jb:DM:=(d8 (l7 (j9 (dL 1)) (i5 (k6 (cz bN (a7 (dL 0) (a7 (a9 o9 (Q2 (dL 0) (P6 (Ow 1)) P5) (Q2 (dL 0) P5 (P6 (Ow 1)))) a8))))) n8) (i5 (k6 (cz bN (a7 (dL 0) (a7 (Q2 (dL 0) (P6 (Ow 1)) P5) a8))))))
def P4:c6:=m6 2 (jb)
def iC (J:c6):DM:=(i5 (i9 (one J9) (a7 (c8 J (a7 (Ox 0 1) (a7 (Ox 0 0) a8))) a8)))
def S8 (J:c6):c6:=m6 1 (iC J)
abbrev HW:DM:=(d8 (e8 (a9 i8 (dL 1) (Ow 2)) (d6 1)) (e8 (a9 u6 (dL 2) (Ow 4)) (d6 2)))
def ja:DM:=(d8 (e8 (Ow 1) (d6 1)) (d8 (e8 (dV 0) (d6 2)) (d8 (A9 (dB (a9 (k9 (fun i j=>decide (j<i))) (dL 2) (Ow 0))) (HW)) (i5 (dV 1)))))
def N5:c6:=m6 3 (ja)
abbrev GE (m0t:c6):DM:=(d8 (e8 (dV 2) (d6 1)) (e8 (a9 u6 (a9 o9 (dL 1) (a9 u6 (dL 0) (dL 1))) (Ow 2)) (d6 2)))
def cE (J:c6):DM:=(d8 (l7 (dB (a9 C8 (dL 0) (Ow 0))) (i5 (Ow 0)) n8) (d8 (e8 (c8 J (a7 (dV 0) a8)) (d6 1)) (d8 (e8 (a9 u6 (a9 o9 (dL 1) (a9 u6 (dL 0) (dL 1))) (Ow 2)) (d6 2)) (d8 (A9 (dB (a9 (k9 (fun i j=>decide (i<j))) (dL 2) (dL 1))) (GE J)) (i5 (dV 1))))))
def R0 (J:c6):c6:=m6 3 (cE J)
def jn (J:c6):DM:=(d8 (l7 (dB (a9 (k9 (fun i j=>decide (i<j))) (Ox 0 0) (Ow 0))) (i5 (dC .non)) n8) (d8 (e8 (c8 J (a7 (Ox 0 0) a8)) (d6 1)) (d8 (e8 (c8 J (a7 (Ox 0 1) a8)) (d6 2)) (d8 (l7 (G1 (dB (a9 C5 (a9 i8 (dL 1) (dL 1)) (Ox 0 0))) (dB (a9 C5 (a9 i8 (dL 2) (dL 2)) (Ox 0 1)))) (i5 (dC .non)) n8) (i5 (c9 (a7 (dV 1) (a7 (dV 2) a8))))))))
def U9 (J:c6):c6:=m6 3 (jn J)
def tL (J:c6) (U:c6) (Y:c6):DM:=(i5 (i9 (one J9) (a7 (k6 (Q0 [] (F6 (c8 J (a7 (dV 0) a8))) A8 (c8 U (a7 (c8 Y (a7 (dV 0) (a7 (dV 1) a8))) a8)))) a8)))
def X9 (J:c6) (U:c6) (Y:c6):c6:=m6 1 (tL J U Y)
def lT:DM:=(i5 (je 0))
def bA:c6:=m6 1 (lT)
def aC:DM:=(d8 (l7 (dB (a9 (k9 (fun i j=>decide (j<i))) (D1 0 2) (Ow 0))) (d8 (e8 (a9 y8 (D1 0 2) (dL 1)) (d6 2)) (d8 (Y3 0 2 (a9 u6 (D1 0 2) (dL 1))) (i5 (dV 2)))) n8) (d8 (e8 (D1 0 1) (d6 3)) (d8 (Y3 0 1 (a9 o9 (dL 3) (Ow 1))) (d8 (e8 (Ow 0) (d6 4)) (d8 (l7 (dB (a9 (k9 (fun i j=>decide (j<i))) (i9 (one j5) (a7 (D1 0 0) a8)) (Ow 0))) (e8 (a9 d7 (D1 0 0) (a9 y8 (dL 3) (i9 (one j5) (a7 (D1 0 0) a8)))) (d6 4)) n8) (d8 (l7 (B4 (dB (a9 (k9 (fun i j=>decide (j<=i))) (dL 4) (a9 P8 (Ow 10) (Ow 18)))) (dB (a9 (k9 (fun i j=>decide (i<j))) (dL 3) (i9 (one j5) (a7 (D1 0 0) a8))))) (d8 (Y3 0 2 (a9 u6 (dL 4) (dL 1))) (i5 (a9 y8 (dL 4) (dL 1)))) n8) (d8 (e8 (a9 y8 (a9 i8 (a9 o9 (a9 o9 (a9 y8 (dL 4) (Ow 1000033)) (a9 i8 (a9 i8 (Ow 37) (dL 3)) (dL 3))) (Ow 11)) (Ow 69621)) (Ow 999983)) (d6 5)) (i5 (a9 y8 (a9 u6 (a9 y8 (a9 i8 (a9 y8 (a9 o9 (a9 i8 (dL 5) (Ow 48271)) (a9 i8 (dL 3) (Ow 6007))) (Ow 999979)) (Ow 40692)) (Ow 1048573)) (Ow 64)) (dL 1))))))))))
def Y0:c6:=m6 6 (aC)
abbrev HN:DM:=(J0 0 1 (a7 (dV 1) (a7 (a9 y8 (dL 0) (dL 1)) a8)))
def jA:DM:=(d8 (J0 0 1 (a7 (i9 (one ar) (a7 (dL 0) a8)) (a7 (i9 (one ar) (a7 (dL 1) a8)) a8))) (d8 (A9 (dB (a9 (k9 (fun i j=>decide (j<i))) (dL 1) (Ow 0))) (HN)) (i5 (dV 0))))
def u5:c6:=m6 2 (jA)
def jF (J:c6):DM:=(d8 (e8 (c8 J (a7 (dV 0) (a7 (dV 1) a8))) (d6 2)) (d8 (l7 (dB (a9 (k9 (fun i j=>decide (i<j))) (dL 1) (Ow 0))) (e8 (r8 v6 (dL 2)) (d6 2)) n8) (i5 (c9 (a7 (a9 u6 (dL 0) (dL 2)) (a7 (a9 u6 (dL 1) (dL 2)) a8))))))
def u8 (J:c6):c6:=m6 3 (jF J)
def iq (m00:c6):DM:=(d8 (B8 1 (j8 (a7 (c9 (a7 (Ow 0) (a7 (Ow 1) a8))) (a7 (c9 (a7 (Ow 1) (a7 (Ow 1) a8))) (a7 (c9 (a7 (r8 v6 (Ow 1)) (a7 (Ow 2) a8))) (a7 (c9 (a7 (Ow 5) (a7 (Ow 3) a8))) (a7 (c9 (a7 (r8 v6 (Ow 7)) (a7 (Ow 1) a8))) (a7 (c9 (a7 (Ow 3) (a7 (Ow 2) a8))) a8)))))))) (d8 (e8 (a9 d7 (dL 1) (c8 m00 (a7 (dV 0) (a7 (Ow 6) a8)))) (d6 2)) (i5 (c9 (a7 (dV 2) (a7 (a9 d7 (dL 1) (c8 m00 (a7 (dV 0) (a7 (Ow 6) a8)))) a8))))))
def gH (m00:c6):c6:=m6 3 (iq m00)
def qu (m05:c6):DM:=(i5 (c8 m05 (a7 (a9 i8 (Ox 0 0) (Ox 1 0)) (a7 (a9 i8 (Ox 0 1) (Ox 1 1)) a8))))
def S3 (m05:c6):c6:=m6 2 (qu m05)
def nC (J:c6):DM:=(d8 (e8 (c9 (a7 (a9 i8 (Ox 0 0) (Ox 1 1)) (a7 (a9 i8 (Ox 1 0) (Ox 0 1)) (a7 (a9 i8 (Ox 0 1) (Ox 1 1)) a8)))) (d6 2)) (d8 (e8 (c8 J (a7 (c8 J (a7 (Ox 2 0) (a7 (Ox 2 1) a8))) (a7 (Ox 2 2) a8))) (d6 3)) (i5 (i9 (one J9) (a7 (k6 (K2 [3] (F6 (dV 2)) A8 (a9 u6 (dL 0) (dL 1)))) a8)))))
def dk (J:c6):c6:=m6 4 (nC J)
def qk (m05:c6):DM:=(i5 (c8 m05 (a7 (a9 o9 (a9 i8 (Ox 0 0) (Ox 1 1)) (a9 i8 (Ox 1 0) (Ox 0 1))) (a7 (a9 i8 (Ox 0 1) (Ox 1 1)) a8))))
def L8 (m05:c6):c6:=m6 2 (qk m05)
abbrev jw (m08:c6) (m01:c6) (m02:c6) (m0c:c6) (m00:c6):DM:=(d8 (e8 (c8 m02 (a7 (dV 7) (a7 (c9 (a7 (a9 B7 (a9 i8 (dL 11) (dL 4)) (a9 i8 (dL 12) (dL 5))) (a7 (dV 6) a8))) a8))) (d6 13)) (d8 (e8 (c8 m02 (a7 (dV 7) (a7 (c9 (a7 (a9 o9 (a9 i8 (dL 11) (dL 5)) (a9 i8 (dL 12) (dL 4))) (a7 (dV 6) a8))) a8))) (d6 14)) (F9 10 (c8 m08 (a7 (c8 m01 (a7 (dV 8) (a7 (dV 13) a8))) (a7 (c8 m01 (a7 (dV 9) (a7 (dV 14) a8))) a8))))))
def gY (U:c6) (m01:c6) (m02:c6) (J:c6) (m00:c6):DM:=(d8 (B8 1 (j8 (a7 (c9 (a7 (c9 (a7 (Ow 0) (a7 (Ow 0) a8))) (a7 (c9 (a7 (Ow 4) (a7 (Ow 0) a8))) (a7 (c9 (a7 (Ow 0) (a7 (Ow 3) a8))) a8)))) (a7 (c9 (a7 (c9 (a7 (Ow 0) (a7 (Ow 0) a8))) (a7 (c9 (a7 (Ow 14) (a7 (Ow 0) a8))) (a7 (c9 (a7 (Ow 5) (a7 (Ow 12) a8))) a8)))) (a7 (c9 (a7 (c9 (a7 (Ow 0) (a7 (Ow 0) a8))) (a7 (c9 (a7 (Ow 2) (a7 (Ow 0) a8))) (a7 (c9 (a7 (Ow 2) (a7 (Ow 2) a8))) (a7 (c9 (a7 (Ow 0) (a7 (Ow 2) a8))) a8))))) a8))))) (d8 (B8 1 (S4 U1 (dL 1) (k6 (j8 (a7 (c9 (a7 (c9 (a7 (Ow 0) (a7 (Ow 0) a8))) (a7 (c9 (a7 (Ow 3) (a7 (Ow 4) a8))) (a7 (c9 (a7 (Ow 3) (a7 (Ow 0) a8))) (a7 (c9 (a7 (Ow 0) (a7 (Ow 4) a8))) a8))))) (a7 (c9 (a7 (c9 (a7 (Ow 0) (a7 (Ow 0) a8))) (a7 (c9 (a7 (Ow 5) (a7 (Ow 0) a8))) (a7 (c9 (a7 (Ow 0) (a7 (Ow 0) a8))) (a7 (c9 (a7 (Ow 3) (a7 (Ow 4) a8))) a8))))) a8)))))) (d8 (B8 1 (S4 U1 (dL 1) (k6 (j8 (a7 (c9 (a7 (c9 (a7 (Ow 0) (a7 (Ow 0) a8))) (a7 (c9 (a7 (Ow 3) (a7 (Ow 0) a8))) (a7 (c9 (a7 (Ow 3) (a7 (Ow 4) a8))) (a7 (c9 (a7 (Ow 6) (a7 (Ow 8) a8))) (a7 (c9 (a7 (Ow 0) (a7 (Ow 8) a8))) (a7 (c9 (a7 (Ow 3) (a7 (Ow 4) a8))) a8))))))) a8))))) (d8 (B8 1 (S4 U1 (dL 1) (k6 (j8 (a7 (c9 (a7 (c9 (a7 (Ow 0) (a7 (Ow 0) a8))) (a7 (c9 (a7 (Ow 6) (a7 (Ow 0) a8))) (a7 (c9 (a7 (Ow 6) (a7 (Ow 2) a8))) (a7 (c9 (a7 (Ow 2) (a7 (Ow 2) a8))) (a7 (c9 (a7 (Ow 2) (a7 (Ow 4) a8))) (a7 (c9 (a7 (Ow 6) (a7 (Ow 4) a8))) (a7 (c9 (a7 (Ow 6) (a7 (Ow 6) a8))) (a7 (c9 (a7 (Ow 0) (a7 (Ow 6) a8))) a8))))))))) a8))))) (d8 (e8 (a9 d7 (dL 1) (c8 m00 (a7 (dV 0) (a7 (Ow 7) a8)))) (d6 2)) (d8 (e8 (c8 m00 (a7 (dV 0) (a7 (i9 (one j5) (a7 (dL 2) a8)) a8))) (d6 3)) (d8 (e8 (gh (a9 o9 (Q2 (dL 2) (P6 (dL 3)) P5) (Q2 (dL 2) P5 (P6 (dL 3)))) (a9 B7 (Ow 1) (a9 i8 (Ow 2) (c8 m00 (a7 (dV 0) (a7 (Ow 2) a8)))))) (d6 2)) (d8 (e8 (a9 d7 (k6 (j8 (a7 (c9 (a7 (Ow 1) (a7 (Ow 0) (a7 (Ow 1) a8)))) (a7 (c9 (a7 (Ow 0) (a7 (Ow 1) (a7 (Ow 1) a8)))) (a7 (c9 (a7 (Ow 3) (a7 (Ow 4) (a7 (Ow 5) a8)))) (a7 (c9 (a7 (r8 v6 (Ow 4)) (a7 (Ow 3) (a7 (Ow 5) a8)))) (a7 (c9 (a7 (Ow 5) (a7 (Ow 12) (a7 (Ow 13) a8)))) a8))))))) (c8 m00 (a7 (dV 0) (a7 (Ow 5) a8)))) (u9 3 (j4 (d6 4) (j4 (d6 5) (j4 (d6 6) v5))))) (d8 (e8 (a9 d7 (k6 (j8 (a7 (c9 (a7 (Ow 1) (a7 (Ow 1) a8))) (a7 (c9 (a7 (Ow 1) (a7 (Ow 2) a8))) (a7 (c9 (a7 (Ow 3) (a7 (Ow 1) a8))) a8))))) (c8 m00 (a7 (dV 0) (a7 (Ow 3) a8)))) (d6 7)) (d8 (e8 (c8 J (a7 (dV 0) a8)) (u9 2 (j4 (d6 8) (j4 (d6 9) v5)))) (d8 (B8 10 (j8 a8)) (d8 (Q5 (dV 2) (u9 2 (j4 (d6 11) (j4 (d6 12) v5))) (jw U m01 m02 J m00)) (i5 (c9 (a7 (dC (.bl true)) (a7 (i9 (one J9) (a7 (dL 10) a8)) a8))))))))))))))))
def mh (U:c6) (m01:c6) (m02:c6) (J:c6) (m00:c6):c6:=m6 15 (gY U m01 m02 J m00)
abbrev kh (m00:c6):DM:=(B8 7 (S4 U1 (dL 7) (k6 (j8 (a7 (c9 (a7 (dV 8) (a7 (dV 9) (a7 (dV 6) a8)))) (a7 (c9 (a7 (r8 v6 (dL 9)) (a7 (dV 8) (a7 (dV 6) a8)))) (a7 (c9 (a7 (r8 v6 (dL 8)) (a7 (r8 v6 (dL 9)) (a7 (dV 6) a8)))) (a7 (c9 (a7 (dV 9) (a7 (r8 v6 (dL 8)) (a7 (dV 6) a8)))) a8))))))))
def dZ (m00:c6):DM:=(d8 (e8 (a9 d7 (k6 (j8 (a7 (Ow 1) (a7 (Ow 1) (a7 (Ow 1) (a7 (Ow 1) (a7 (Ow 1) (a7 (Ow 1) (a7 (Ow 1) (a7 (a9 P8 (Ow 10) (Ow 12)) a8)))))))))) (c8 m00 (a7 (dV 0) (a7 (Ow 8) a8)))) (d6 1)) (d8 (e8 (c8 m00 (a7 (dV 0) (a7 (Ow 5) a8))) (d6 2)) (d8 (l7 (dB (a9 C8 (dL 2) (Ow 0))) (d8 (B8 3 (j8 (a7 (c9 (a7 (Ow 1) (a7 (Ow 1) a8))) (a7 (c9 (a7 (Ow 2) (a7 (Ow 1) a8))) (a7 (c9 (a7 (Ow 1) (a7 (Ow 2) a8))) (a7 (c9 (a7 (Ow 40) (a7 (Ow 1) a8))) (a7 (c9 (a7 (Ow 7) (a7 (Ow 3) a8))) a8))))))) (i5 (c9 (a7 (k6 (j8 (a7 (c9 (a7 (Ow 1) (a7 (Ow 0) (a7 (Ow 1) a8)))) (a7 (c9 (a7 (Ow 0) (a7 (Ow 1) (a7 (Ow 1) a8)))) (a7 (c9 (a7 (r8 v6 (Ow 1)) (a7 (Ow 0) (a7 (Ow 1) a8)))) (a7 (c9 (a7 (Ow 0) (a7 (r8 v6 (Ow 1)) (a7 (Ow 1) a8)))) a8)))))) (a7 (k6 (Q0 [1] (F6 (dV 3)) A8 (c9 (a7 (a9 i8 (dL 2) (dL 0)) (a7 (dV 1) a8))))) a8))))) n8) (d8 (e8 (a9 d7 (k6 (j8 (a7 (c9 (a7 (Ow 3) (a7 (Ow 4) (a7 (Ow 5) a8)))) (a7 (c9 (a7 (Ow 3) (a7 (Ow 4) (a7 (Ow 5) a8)))) (a7 (c9 (a7 (Ow 5) (a7 (Ow 12) (a7 (Ow 13) a8)))) (a7 (c9 (a7 (Ow 8) (a7 (Ow 15) (a7 (Ow 17) a8)))) a8)))))) (a9 B7 (dL 2) (Ow 1))) (u9 3 (j4 (d6 4) (j4 (d6 5) (j4 (d6 6) v5))))) (d8 (B8 7 (j8 (a7 (c9 (a7 (dV 6) (a7 (Ow 0) (a7 (dV 6) a8)))) (a7 (c9 (a7 (Ow 0) (a7 (dV 6) (a7 (dV 6) a8)))) (a7 (c9 (a7 (r8 v6 (dL 6)) (a7 (Ow 0) (a7 (dV 6) a8)))) (a7 (c9 (a7 (Ow 0) (a7 (r8 v6 (dL 6)) (a7 (dV 6) a8)))) a8)))))) (d8 (Q5 (k6 (j8 (a7 (c9 (a7 (dV 4) (a7 (dV 5) a8))) (a7 (c9 (a7 (dV 5) (a7 (dV 4) a8))) a8)))) (u9 2 (j4 (d6 8) (j4 (d6 9) v5))) (kh m00)) (i5 (c9 (a7 (dV 7) (a7 (k6 (Q0 [1] (F6 (k6 (j8 (a7 (c9 (a7 (dV 6) (a7 (Ow 1) a8))) (a7 (c9 (a7 (Ow 1) (a7 (Ow 1) a8))) (a7 (c9 (a7 (dV 6) (a7 (Ow 2) a8))) (a7 (c9 (a7 (Ow 2) (a7 (Ow 1) a8))) a8))))))) A8 (c9 (a7 (a9 i8 (dL 2) (dL 0)) (a7 (dV 1) a8))))) a8))))))))))
def nD (m00:c6):c6:=m6 10 (dZ m00)
abbrev ii (m08:c6) (m01:c6) (m02:c6) (m00:c6) (m0c:c6) (m0u:c6):DM:=(d8 (B8 9 (K2 [7] (F6 (dV 2)) (dB (a9 C5 (dL 0) (dL 1))) (dV 0))) (d8 (e8 (a9 d7 (dL 9) (c8 m00 (a7 (dV 0) (a7 (i9 (one j5) (a7 (dL 9) a8)) a8)))) (d6 7)) (d8 (e8 (a9 d7 (dL 3) (c8 m00 (a7 (dV 0) (a7 (i9 (one j5) (a7 (dL 3) a8)) a8)))) (d6 10)) (d8 (e8 (c8 m01 (a7 (dV 4) (a7 (c8 m02 (a7 (dV 10) (a7 (c9 (a7 (Ox 7 0) (a7 (Ox 7 2) a8))) a8))) a8))) (d6 4)) (d8 (e8 (c8 m01 (a7 (dV 5) (a7 (c8 m02 (a7 (dV 10) (a7 (c9 (a7 (Ox 7 1) (a7 (Ox 7 2) a8))) a8))) a8))) (d6 5)) (F9 6 (c8 m08 (a7 (dV 4) (a7 (dV 5) a8)))))))))
def mJ (Y:c6) (m01:c6) (m02:c6) (m00:c6) (U:c6) (J:c6):DM:=(d8 (e8 (c8 J (a7 (dV 0) a8)) (u9 2 (j4 (d6 2) (j4 (d6 3) v5)))) (d8 (e8 (c8 U (a7 (dV 0) a8)) (u9 2 (j4 (d6 4) (j4 (d6 5) v5)))) (d8 (B8 6 (j8 (a7 (c8 Y (a7 (dV 4) (a7 (dV 5) a8))) a8))) (d8 (e8 (dC .non) (d6 7)) (d8 (W8 (a7 (a9 o9 (Ow 1) (c8 m00 (a7 (dV 0) (a7 (a9 B7 (dL 1) (Ow 1)) a8)))) a8) (d6 8) (ii Y m01 m02 m00 U J)) (i5 (c9 (a7 (dC (.bl false)) (a7 (i9 (one J9) (a7 (dL 6) a8)) a8)))))))))
def ni (Y:c6) (m01:c6) (m02:c6) (m00:c6) (U:c6) (J:c6):c6:=m6 11 (mJ Y m01 m02 m00 U J)
def uP (m00:c6) (J:c6) (U:c6):DM:=(i5 (D7 (dB (a9 C8 (c8 m00 (a7 (dV 0) (a7 (Ow 3) a8))) (Ow 0))) (c8 J (a7 (dV 0) a8)) (c8 U (a7 (dV 0) (a7 (dV 1) a8)))))
def kg (m00:c6) (J:c6) (U:c6):c6:=m6 2 (uP m00 J U)
abbrev qh (m07:c6) (m0v:c6):DM:=(F9 1 (c8 m07 (a7 (a9 d7 (dL 1) (r8 v6 (Ow 1))) (a7 (dV 2) a8))))
def jE (m07:c6) (J:c6):DM:=(d8 (B8 1 (j8 (a7 (c9 (a7 (Ow 0) (a7 (Ow 1) a8))) a8))) (d8 (Q5 (c8 J (a7 (dV 0) a8)) (d6 2) (qh m07 J)) (i5 (dV 1))))
def X8 (m07:c6) (J:c6):c6:=m6 3 (jE m07 J)
def oJ (J:c6):DM:=(i5 (a9 d7 (c8 J (a7 (dV 0) a8)) (r8 v6 (Ow 1))))
def bQ (J:c6):c6:=m6 1 (oJ J)
def nu:DM:=(d8 (e8 (dV 0) (u9 2 (j4 (d6 1) (j4 (d6 2) v5)))) (d8 (B8 3 (K2 [2] (aP (a7 (a9 B7 (i9 (one j5) (a7 (dL 2) a8)) (Ow 1)) a8)) A8 (c9 (a7 (a9 d7 (dL 1) (dL 0)) (a7 (a9 d7 (dL 1) (a9 o9 (dL 0) (Ow 1))) a8))))) (i5 (k6 (S4 U1 (dL 3) (k6 (S4 gG (k6 (j8 (a7 (c9 (a7 (a9 d7 (dL 2) (r8 v6 (Ow 1))) (a7 (Ox 2 0) a8))) a8))) (i9 (one nK) (a7 (dL 1) a8)))))))))
def N9:c6:=m6 4 (nu)
def vW (m05:c6):DM:=(i5 (c9 (a7 (c8 m05 (a7 (Ox 0 0) (a7 (Ox 0 2) a8))) (a7 (c8 m05 (a7 (Ox 0 1) (a7 (Ox 0 2) a8))) a8))))
def bw (m05:c6):c6:=m6 1 (vW m05)
def tf (m05:c6):DM:=(i5 (c8 m05 (a7 (a9 B7 (a9 i8 (Ox 0 0) (Ox 1 1)) (a9 i8 (Ox 1 0) (Ox 0 1))) (a7 (a9 i8 (Ox 0 1) (Ox 1 1)) a8))))
def U7 (m05:c6):c6:=m6 2 (tf m05)
def im (m01:c6) (m02:c6) (m06:c6) (J:c6):DM:=(d8 (e8 (c9 (a7 (c8 J (a7 (dV 0) a8)) (a7 (c8 J (a7 (dV 1) a8)) a8))) (u9 2 (j4 (u9 2 (j4 (d6 2) (j4 (d6 3) v5))) (j4 (u9 2 (j4 (d6 4) (j4 (d6 5) v5))) v5)))) (d8 (J0 6 7 (a7 (c8 m06 (a7 (dV 4) (a7 (dV 2) a8))) (a7 (c8 m06 (a7 (dV 5) (a7 (dV 3) a8))) a8))) (i5 (c8 m01 (a7 (c8 m02 (a7 (dV 6) (a7 (dV 6) a8))) (a7 (c8 m02 (a7 (dV 7) (a7 (dV 7) a8))) a8))))))
def dR (m01:c6) (m02:c6) (m06:c6) (J:c6):c6:=m6 8 (im m01 m02 m06 J)
abbrev tD:DM:=(e8 (a9 i8 (dL 2) (Ow 2)) (d6 2))
abbrev jp:DM:=(d8 (l7 (dB (a9 (k9 (fun i j=>decide (i<=j))) (a9 i8 (a9 o9 (dL 1) (dL 2)) (a9 o9 (dL 1) (dL 2))) (dL 0))) (e8 (a9 o9 (dL 1) (dL 2)) (d6 1)) n8) (e8 (a9 u6 (dL 2) (Ow 2)) (d6 2)))
def iA:DM:=(d8 (e8 (Ow 0) (d6 1)) (d8 (e8 (Ow 1) (d6 2)) (d8 (A9 (dB (a9 (k9 (fun i j=>decide (i<=j))) (a9 i8 (dL 2) (dL 2)) (dL 0))) (tD)) (d8 (A9 (dB (a9 (k9 (fun i j=>decide (j<i))) (dL 2) (Ow 0))) (jp)) (i5 (dV 1))))))
def be:c6:=m6 3 (iA)
def iK (J:c6) (U:c6):DM:=(d8 (e8 (c8 U (a7 (dV 0) (a7 (dV 1) a8))) (u9 2 (j4 (d6 2) (j4 (d6 3) v5)))) (i5 (c9 (a7 (c8 J (a7 (dV 2) a8)) (a7 (c8 J (a7 (dV 3) a8)) a8)))))
def fK (J:c6) (U:c6):c6:=m6 4 (iK J U)
abbrev ud (m01:c6) (m0w:c6) (m0d:c6):DM:=(F9 1 (c8 m01 (a7 (a9 d7 (dL 1) (r8 v6 (Ow 1))) (a7 (c8 m0w (a7 (dV 2) (a7 (dV 3) a8))) a8))))
def jN (m01:c6) (U:c6) (J:c6):DM:=(d8 (B8 1 (j8 (a7 (c9 (a7 (Ow 0) (a7 (Ow 1) a8))) a8))) (d8 (Q5 (c8 J (a7 (dV 0) a8)) (u9 2 (j4 (d6 2) (j4 (d6 3) v5))) (ud m01 U J)) (i5 (dV 1))))
def eB (m01:c6) (J:c6) (U:c6):c6:=m6 4 (jN m01 J U)
def nZ:DM:=(i5 (a9 (k9 (fun i j=>decide (i<j))) (a9 i8 (Ox 0 0) (Ox 1 1)) (a9 i8 (Ox 1 0) (Ox 0 1))))
def u4:c6:=m6 2 (nZ)
def fW (J:c6):DM:=(d8 (e8 (a9 i8 (Ox 1 2) (a9 B7 (Ox 2 1) (Ox 2 0))) (d6 3)) (d8 (e8 (a9 i8 (Ox 0 2) (Ox 2 0)) (d6 4)) (i5 (c8 J (a7 (c9 (a7 (a9 o9 (a9 i8 (Ox 0 0) (dL 3)) (a9 i8 (Ox 1 0) (dL 4))) (a7 (a9 o9 (a9 i8 (Ox 0 1) (dL 3)) (a9 i8 (Ox 1 1) (dL 4))) (a7 (a9 i8 (a9 i8 (Ox 0 2) (Ox 1 2)) (Ox 2 1)) a8)))) a8)))))
def iV (J:c6):c6:=m6 5 (fW J)
abbrev vd (m0x:c6) (m0a:c6) (m0f:c6) (m0g:c6) (m04:c6) (m09:c6):DM:=(e8 (a9 o9 (dL 3) (Ow 1)) (d6 3))
def gf (m0x:c6) (m0a:c6) (J:c6) (U:c6) (m04:c6) (Y:c6):DM:=(d8 (e8 (c8 Y (a7 (dV 0) a8)) (d6 2)) (d8 (e8 (Ow 0) (d6 3)) (d8 (A9 (j9 (c8 m04 (a7 (a9 d7 (dL 2) (a9 o9 (dL 3) (Ow 1))) (a7 (dV 1) a8)))) (vd m0x m0a J U m04 Y)) (d8 (e8 (a9 d7 (c8 U (a7 (dV 0) a8)) (dL 3)) (d6 4)) (d8 (e8 (c8 J (a7 (dV 1) (a7 (a9 d7 (dL 2) (dL 3)) a8))) (d6 5)) (d8 (e8 (c8 J (a7 (a9 d7 (dL 2) (a9 o9 (dL 3) (Ow 1))) (a7 (a9 d7 (dL 2) (dL 3)) a8))) (d6 6)) (i5 (c8 m0x (a7 (Ox 4 0) (a7 (Ox 4 1) (a7 (c8 m0a (a7 (a9 i8 (Ox 5 0) (Ox 6 1)) (a7 (a9 i8 (Ox 5 1) (Ox 6 0)) a8))) a8)))))))))))
def ig (m0x:c6) (Y:c6) (m0f:c6) (J:c6) (m04:c6) (U:c6):c6:=m6 7 (gf m0x Y m0f J m04 U)
def gE (U:c6) (m01:c6) (m02:c6) (m06:c6) (J:c6):DM:=(d8 (e8 (c9 (a7 (c8 J (a7 (dV 0) a8)) (a7 (c8 J (a7 (dV 1) a8)) a8))) (u9 2 (j4 (u9 2 (j4 (d6 3) (j4 (d6 4) v5))) (j4 (u9 2 (j4 (d6 5) (j4 (d6 6) v5))) v5)))) (d8 (e8 (c8 m01 (a7 (dV 3) (a7 (c8 m02 (a7 (dV 2) (a7 (c8 m06 (a7 (dV 5) (a7 (dV 3) a8))) a8))) a8))) (d6 3)) (i5 (c8 U (a7 (dV 3) (a7 (c8 m01 (a7 (dV 4) (a7 (c8 m02 (a7 (dV 2) (a7 (c8 m06 (a7 (dV 6) (a7 (dV 4) a8))) a8))) a8))) a8))))))
def gu (U:c6) (m01:c6) (m02:c6) (m06:c6) (J:c6):c6:=m6 7 (gE U m01 m02 m06 J)
def oO (m05:c6):DM:=(i5 (c8 m05 (a7 (a9 i8 (Ox 0 0) (Ox 1 1)) (a7 (a9 i8 (Ox 0 1) (Ox 1 0)) a8))))
def iB (m05:c6):c6:=m6 2 (oO m05)
abbrev iX (m03:c6) (m0y:c6) (m0z:c6) (m06:c6) (m0d:c6):DM:=(l7 (j9 (c8 m03 (a7 (a9 d7 (dL 1) (dL 4)) (a7 (dV 2) a8)))) (d8 (e8 (c8 m06 (a7 (a9 d7 (dL 1) (a9 o9 (dL 4) (Ow 1))) (a7 (a9 d7 (dL 1) (dL 4)) a8))) (d6 7)) (e8 (c8 m0y (a7 (dV 5) (a7 (dV 6) (a7 (c8 m0z (a7 (c8 m06 (a7 (dV 2) (a7 (a9 d7 (dL 1) (dL 4)) a8))) (a7 (dV 7) a8))) a8)))) (d6 3))) n8)
def kW (m03:c6) (Y:c6) (U:c6) (m06:c6) (J:c6):DM:=(d8 (e8 (a9 d7 (Ox 0 1) (Ow 0)) (d6 3)) (d8 (eI (a7 (c8 J (a7 (dV 0) a8)) a8) (u9 2 (j4 (d6 4) (j4 (u9 2 (j4 (d6 5) (j4 (d6 6) v5))) v5))) (iX m03 Y U m06 J)) (i5 (dV 3))))
def jG (m03:c6) (Y:c6) (U:c6) (m06:c6) (J:c6):c6:=m6 8 (kW m03 Y U m06 J)
abbrev ic (m0r:c6) (m03:c6):DM:=(l7 (B4 (j9 (c8 m03 (a7 (dV 2) (a7 (a9 d7 (dL 1) (dL 5)) a8)))) (j9 (c8 m03 (a7 (a9 d7 (dL 1) (dL 5)) (a7 (dV 3) a8))))) (F9 4 (a9 d7 (Ox 0 1) (dL 5))) n8)
def gF (J:c6) (m03:c6):DM:=(d8 (B8 4 (j8 (a7 (c8 J (a7 (dV 0) (a7 (dV 1) (a7 (dV 2) a8)))) a8))) (d8 (W8 (a7 (i9 (one j5) (a7 (Ox 0 1) a8)) a8) (d6 5) (ic J m03)) (i5 (c9 (a7 (dC (.bl false)) (a7 (i9 (one J9) (a7 (k6 (S4 U1 (dL 4) (k6 (j8 (a7 (c8 J (a7 (dV 0) (a7 (dV 1) (a7 (dV 3) a8)))) a8))))) a8)) a8))))))
def iL (J:c6) (m03:c6):c6:=m6 6 (gF J m03)
abbrev fZ (m0s:c6) (m04:c6) (m09:c6):DM:=(l7 (B4 (j9 (c8 m04 (a7 (dV 1) (a7 (dV 5) a8)))) (j9 (c8 m04 (a7 (dV 5) (a7 (dV 2) a8))))) (F9 3 (dV 4)) n8)
def lN (J:c6) (m04:c6) (U:c6):DM:=(d8 (B8 3 (j8 (a7 (c8 J (a7 (dV 0) (a7 (dV 1) a8))) a8))) (d8 (eX (a7 (Ox 0 1) (a7 (c8 U (a7 (dV 0) a8)) a8)) (u9 2 (j4 (d6 4) (j4 (d6 5) v5))) (fZ J m04 U)) (d8 (F9 3 (c8 J (a7 (dV 0) (a7 (dV 2) a8)))) (i5 (c9 (a7 (dC (.bl false)) (a7 (i9 (one J9) (a7 (dL 3) a8)) a8)))))))
def jk (U:c6) (m04:c6) (J:c6):c6:=m6 6 (lN U m04 J)
abbrev rb (m07:c6):DM:=(e8 (c8 m07 (a7 (dV 1) (a7 (dV 2) a8))) (d6 1))
def jj (m07:c6):DM:=(d8 (e8 (c9 (a7 (Ow 0) (a7 (Ow 1) a8))) (d6 1)) (d8 (Q5 (dV 0) (d6 2) (rb m07)) (i5 (dV 1))))
def cK (m07:c6):c6:=m6 3 (jj m07)
def jM (Y:c6) (U:c6) (J:c6):DM:=(d8 (e8 (c8 J (a7 (dV 0) a8)) (d6 2)) (d8 (e8 (a9 u6 (a9 i8 (Ox 1 0) (Ox 2 1)) (a9 i8 (Ox 1 1) (Ox 2 0))) (d6 3)) (i5 (c8 Y (a7 (c8 U (a7 (dV 2) (a7 (c9 (a7 (dV 3) (a7 (Ow 1) a8))) a8))) (a7 (dV 1) a8))))))
def cS (Y:c6) (U:c6) (J:c6):c6:=m6 4 (jM Y U J)
def pA (m04:c6):DM:=(i5 (D7 (j9 (c8 m04 (a7 (dV 0) (a7 (dV 1) a8)))) (dV 1) (dV 0)))
def bF (m04:c6):c6:=m6 2 (pA m04)
def qw (m04:c6):DM:=(i5 (D7 (j9 (c8 m04 (a7 (dV 0) (a7 (dV 1) a8)))) (dV 0) (dV 1)))
def bM (m04:c6):c6:=m6 2 (qw m04)
abbrev jc (m03:c6) (m01:c6) (m06:c6) (m02:c6) (m0i:c6):DM:=(d8 (e8 (c8 m01 (a7 (dV 6) (a7 (a9 d7 (dL 1) (a9 y8 (dL 8) (i9 (one j5) (a7 (dL 1) a8)))) a8))) (d6 9)) (d8 (e8 (D7 (j9 (c8 m03 (a7 (dV 6) (a7 (c9 (a7 (Ow 0) (a7 (Ow 1) a8))) a8)))) (c9 (a7 (Ow 0) (a7 (Ow 1) a8))) (dV 6)) (d6 10)) (d8 (e8 (D7 (j9 (c8 m03 (a7 (dV 0) (a7 (dV 9) a8)))) (dV 0) (dV 9)) (d6 11)) (d8 (l7 (B4 (dB (a9 C8 (a9 y8 (dL 8) (Ow 2)) (Ow 0))) (j9 (c8 m03 (a7 (dV 10) (a7 (dV 11) a8))))) (F9 7 (c9 (a7 (dV 10) (a7 (dV 11) a8)))) n8) (d8 (l7 (dB (a9 (k9 (fun i j=>decide (j<i))) (i9 (one j5) (a7 (dL 7) a8)) (dL 3))) (i5 (dC .non)) n8) (d8 (e8 (dV 9) (d6 6)) (e8 (a9 o9 (dL 8) (Ow 1)) (d6 8))))))))
def ib (m03:c6) (m01:c6) (m06:c6) (m02:c6) (J:c6):DM:=(d8 (e8 (c8 J (a7 (dV 1) a8)) (d6 4)) (d8 (e8 (a9 u6 (a9 i8 (Ox 2 0) (Ox 4 1)) (a9 i8 (Ox 2 1) (Ox 4 0))) (d6 5)) (d8 (e8 (c8 m06 (a7 (c8 m02 (a7 (dV 4) (a7 (c9 (a7 (dV 5) (a7 (Ow 1) a8))) a8))) (a7 (dV 2) a8))) (d6 6)) (d8 (B8 7 (j8 a8)) (d8 (e8 (Ow 0) (d6 8)) (d8 (A9 (j9 (c8 m03 (a7 (dV 6) (a7 (dV 0) a8)))) (jc m03 m01 m06 m02 J)) (i5 (dV 7))))))))
def ij (m03:c6) (m01:c6) (m06:c6) (m02:c6) (J:c6):c6:=m6 12 (ib m03 m01 m06 m02 J)
abbrev jy (m04:c6) (m0A:c6) (m0B:c6) (m07:c6) (m0C:c6) (m0D:c6):DM:=(d8 (e8 (c8 m07 (a7 (dV 5) (a7 (a9 d7 (dL 1) (dL 6)) a8))) (d6 7)) (d8 (l7 (B4 (dB (a9 C8 (a9 y8 (dL 6) (Ow 2)) (Ow 0))) (j9 (c8 m04 (a7 (c9 (a7 (Ow 0) (a7 (Ow 1) a8))) (a7 (dV 7) a8))))) (F9 4 (c9 (a7 (c8 m0B (a7 (dV 5) (a7 (c9 (a7 (Ow 0) (a7 (Ow 1) a8))) a8))) (a7 (c8 m0A (a7 (dV 7) (a7 (dV 3) a8))) a8)))) n8) (d8 (l7 (dB (a9 (k9 (fun i j=>decide (j<i))) (i9 (one j5) (a7 (dL 4) a8)) (Ow 200))) (iW "TooMany" (a7 (dC (.str "marks")) a8)) n8) (d8 (e8 (dV 7) (d6 5)) (e8 (a9 y8 (a9 o9 (dL 6) (Ow 1)) (i9 (one j5) (a7 (dL 1) a8))) (d6 6))))))
def ng (m04:c6) (Y:c6) (m0B:c6) (m07:c6) (J:c6) (U:c6):DM:=(d8 (e8 (c8 U (a7 (dV 0) a8)) (d6 3)) (d8 (B8 4 (j8 a8)) (d8 (e8 (c8 J (a7 (dV 1) (a7 (dV 2) a8))) (d6 5)) (d8 (e8 (Ow 0) (d6 6)) (d8 (A9 (j9 (c8 m04 (a7 (dV 5) (a7 (dV 3) a8)))) (jy m04 Y m0B m07 J U)) (i5 (dV 4)))))))
def bH (m04:c6) (J:c6) (U:c6) (m07:c6) (Y:c6) (m0D:c6):G7:=aw 8 (ng m04 J U m07 Y m0D)
def ek (J:G7) (U:c6):DM:=(gj (iM (S5 J (a7 (dV 0) (a7 (dV 1) (a7 (dV 2) a8)))) (k6 (Q0 [0] (F6 (cA (S5 J (a7 (dV 0) (a7 (dV 1) (a7 (dV 2) a8)))))) A8 (c8 U (a7 (dV 2) (a7 (dV 0) (a7 (dV 1) a8))))))))
def hU (J:G7) (U:c6):G7:=aw 3 (ek J U)
def zd (U:G7) (J:G7):DM:=(d8 (e8 (dC (.str "other")) (d6 4)) (d8 (bI ["TooMany"] 5 (cP (br (dB (a9 C8 (dL 0) (Ow 1))) (S5 U (a7 (dV 1) (a7 (dV 2) (a7 (dV 3) a8)))) (S5 J (a7 (dV 1) (a7 (dV 2) (a7 (dV 3) a8))))) (d6 4)) (d8 (e8 (O7 (r8 (sI ["TooMany"] ["NoJoin", "NoOutline", "NoPaper", "NoRow", "NoText"]) (dV 5)) (O0 (r8 (jZ ["TooMany"]) (dV 5)))) (d6 6)) (l7 (B4 (j9 (r8 (fY ["TooMany"] "TooMany") (dV 5))) (G8 (j9 (dL 6)))) (e8 (r8 (vm ["TooMany"] "word") (dV 5)) (d6 4)) n8))) (i5 (dV 4))))
def fR (U:G7) (J:G7):c6:=m6 7 (zd U J)
abbrev iG (m03:c6):DM:=(l7 (dB (a9 C5 (k6 (K2 [1,3] (F6 (dV 0)) (B4 (j9 (c8 m03 (a7 (a9 d7 (a9 d7 (dL 1) (dL 2)) (Ow 0)) (a7 (dV 0) a8)))) (j9 (c8 m03 (a7 (dV 0) (a7 (a9 d7 (a9 d7 (dL 1) (dL 2)) (Ow 1)) a8))))) (dV 0))) (k6 (j8 a8)))) (F9 2 (dV 3)) n8)
def kA (m03:c6):DM:=(d8 (B8 2 (j8 a8)) (d8 (W8 (a7 (i9 (one j5) (a7 (dL 1) a8)) a8) (d6 3) (iG m03)) (i5 (dV 2))))
def fS (m03:c6):c6:=m6 4 (kA m03)
abbrev io (m0n:c6) (m0o:c6) (m0p:c6) (m0q:c6) (m0b:c6):DM:=(d8 (B8 6 (aR m0n (a7 (Ow 0) (a7 (dV 0) (a7 (dV 1) (a7 (dV 2) a8)))))) (d8 (l7 (dB (a9 C5 (i9 (one M4) (a7 (dL 6) a8)) (i9 (one M4) (a7 (dL 4) a8)))) (i5 (dC (.bl false))) n8) (nz 6)))
abbrev jx (m0n:c6) (m0o:c6) (m0p:c6) (m0q:c6) (m0b:c6):DM:=(d8 (B8 6 (aR m0n (a7 (Ow 1) (a7 (dV 0) (a7 (dV 1) (a7 (dV 2) a8)))))) (d8 (l7 (dB (a9 C5 (i9 (one M4) (a7 (dL 6) a8)) (i9 (one M4) (a7 (dL 8) a8)))) (i5 (dC (.bl false))) n8) (F9 6 (dC .non))))
def aZ (U:c6) (J:c6) (Y:c6) (m0q:c6) (m0b:c6):DM:=(d8 (e8 (c8 m0b (a7 (dV 0) a8)) (d6 3)) (d8 (e8 (c8 m0q (a7 (a9 d7 (dL 3) (r8 v6 (Ow 1))) (a7 (dV 1) (a7 (dV 2) (a7 (Ow 200) a8))))) (d6 4)) (d8 (l7 (dB (a9 rR (dL 4) (dC .non))) (i5 (a9 C8 (k6 (K2 [0,1,2] (F6 (k6 (j8 (a7 (Ow 0) (a7 (Ow 1) a8))))) A8 (c8 U (a7 (dV 0) (a7 (dV 1) (a7 (dV 2) (a7 (dV 3) a8))))))) (k6 (j8 (a7 (dC (.str "marks")) (a7 (dC (.str "marks")) a8)))))) n8) (d8 (W8 (a7 (Ow 2) a8) (d6 5) (io U J Y m0q m0b)) (d8 (l7 (dB (a9 (k9 (fun i j=>decide (j<i))) (i9 (one j5) (a7 (dL 4) a8)) (Ow 12))) (d8 (e8 (c8 U (a7 (Ow 1) (a7 (dV 0) (a7 (dV 1) (a7 (dV 2) a8))))) (d6 6)) (d8 (l7 (G1 (G8 (j9 (r8 (mF "list") (dL 6)))) (dB (a9 C5 (i9 (one j5) (a7 (dL 6) a8)) (i9 (one j5) (a7 (dL 4) a8))))) (i5 (dC (.bl false))) n8) (d8 (B8 7 (S4 U1 (k6 (j8 (a7 (Ow 0) (a7 (a9 u6 (i9 (one j5) (a7 (dL 4) a8)) (Ow 2)) (a7 (a9 B7 (i9 (one j5) (a7 (dL 4) a8)) (Ow 1)) a8))))) (c8 Y (a7 (dV 3) (a7 (dV 4) a8))))) (i5 (a9 C8 (i9 (one M4) (a7 (k6 (K2 [6] (F6 (dV 7)) A8 (a9 d7 (dL 1) (dL 0)))) a8)) (i9 (one M4) (a7 (k6 (K2 [0,3,4] (F6 (dV 7)) A8 (c8 J (a7 (dV 1) (a7 (dV 2) (a7 (a9 d7 (a9 d7 (dL 3) (dL 0)) (Ow 0)) (a7 (a9 d7 (a9 d7 (dL 3) (dL 0)) (Ow 1)) a8))))))) a8))))))) n8) (d8 (B8 8 (Q0 [0,3] (F6 (dV 4)) A8 (c8 J (a7 (dV 2) (a7 (dV 3) (a7 (dV 0) (a7 (dV 1) a8))))))) (d8 (W8 (a7 (Ow 2) a8) (d6 5) (jx U J Y m0q m0b)) (i5 (dC (.bl true))))))))))
def ie (m0n:c6) (U:c6) (J:c6) (m0q:c6) (Y:c6):c6:=m6 9 (aZ m0n U J m0q Y)
def gU (J:c6) (m00:c6):DM:=(d8 (e8 (a9 d7 (k6 (j8 (a7 (Ow 398) (a7 (Ow 400) (a7 (Ow 402) (a7 (Ow 404) (a7 (Ow 406) (a7 (Ow 408) a8)))))))) (c8 m00 (a7 (dV 0) (a7 (Ow 6) a8)))) (d6 1)) (d8 (e8 (c9 (a7 (dC (.bl false)) (a7 (c9 (a7 (c9 (a7 (Ow 0) (a7 (Ow 0) (a7 (Ow 1) a8)))) (a7 (c9 (a7 (dV 1) (a7 (Ow 0) (a7 (Ow 1) a8)))) a8))) a8))) (d6 2)) (d8 (l7 (dB (a9 C8 (c8 m00 (a7 (dV 0) (a7 (Ow 2) a8))) (Ow 0))) (e8 (c9 (a7 (dC (.bl false)) (a7 (c9 (a7 (c9 (a7 (Ow 0) (a7 (Ow 0) (a7 (Ow 1) a8)))) (a7 (c9 (a7 (a9 u6 (dL 1) (Ow 2)) (a7 (Ow 0) (a7 (Ow 1) a8)))) (a7 (c9 (a7 (a9 u6 (dL 1) (Ow 2)) (a7 (a9 B7 (dL 1) (a9 u6 (dL 1) (Ow 2))) (a7 (Ow 1) a8)))) a8)))) a8))) (d6 2)) n8) (d8 (e8 (a9 fL (c9 (a7 (c9 (a7 (Ow 1) (a7 (Ow 1) a8))) (a7 (c9 (a7 (Ow 1) (a7 (Ow 1) a8))) a8))) (a9 o9 (Ow 1) (c8 m00 (a7 (dV 0) (a7 (Ow 4) a8))))) (d6 3)) (d8 (l7 (B4 (dB (a9 (k9 (fun i j=>decide (j<i))) (i9 (one j5) (a7 (dL 3) a8)) (Ow 2))) (dB (a9 C8 (c8 m00 (a7 (dV 0) (a7 (Ow 2) a8))) (Ow 0)))) (e8 (a9 o9 (a9 fL (c9 (a7 (c9 (a7 (Ow 1) (a7 (Ow 2) a8))) (a7 (c9 (a7 (Ow 1) (a7 (Ow 2) a8))) (a7 (c9 (a7 (Ow 3) (a7 (Ow 2) a8))) (a7 (c9 (a7 (Ow 3) (a7 (Ow 2) a8))) a8))))) (a9 u6 (i9 (one j5) (a7 (dL 3) a8)) (Ow 4))) (Q2 (dL 3) P5 (P6 (a9 y8 (i9 (one j5) (a7 (dL 3) a8)) (Ow 4))))) (d6 3)) n8) (i5 (c8 J (a7 (dV 2) (a7 (dV 3) (a7 (a9 d7 (k6 (j8 (a7 (c9 (a7 (Ow 0) (a7 (Ow 1) a8))) (a7 (c9 (a7 (Ow 0) (a7 (Ow 1) a8))) (a7 (c9 (a7 (Ow 1) (a7 (Ow 2) a8))) (a7 (c9 (a7 (Ow 1) (a7 (Ow 1) a8))) a8)))))) (c8 m00 (a7 (dV 0) (a7 (Ow 4) a8)))) a8))))))))))
def lK (J:c6) (m00:c6):c6:=m6 4 (gU J m00)
def dM (m01:c6) (m02:c6) (m00:c6) (J:c6) (m03:c6):DM:=(d8 (l7 (dB (a9 C8 (c8 m00 (a7 (dV 0) (a7 (Ow 6) a8))) (Ow 0))) (d8 (e8 (c8 m02 (a7 (dV 1) (a7 (c9 (a7 (Ow 1) (a7 (Ow 400) a8))) a8))) (d6 2)) (d8 (B8 3 (j8 (a7 (c9 (a7 (Ow 0) (a7 (Ow 1) a8))) (a7 (c9 (a7 (Ow 1) (a7 (Ow 800) a8))) (a7 (c9 (a7 (Ow 1) (a7 (Ow 400) a8))) (a7 (c9 (a7 (Ow 3) (a7 (Ow 800) a8))) (a7 (c9 (a7 (Ow 1) (a7 (Ow 200) a8))) a8))))))) (i5 (c9 (a7 (c9 (a7 (dV 2) (a7 (dV 2) a8))) (a7 (c8 m02 (a7 (dV 1) (a7 (a9 d7 (dL 3) (c8 m00 (a7 (dV 0) (a7 (Ow 5) a8)))) a8))) a8)))))) n8) (d8 (B8 3 (j8 (a7 (c9 (a7 (Ow 1) (a7 (Ow 1) a8))) (a7 (c9 (a7 (Ow 2) (a7 (Ow 1) a8))) (a7 (c9 (a7 (Ow 1) (a7 (Ow 2) a8))) (a7 (c9 (a7 (Ow 1) (a7 (Ow 3) a8))) (a7 (c9 (a7 (Ow 5) (a7 (Ow 1) a8))) (a7 (c9 (a7 (Ow 7) (a7 (Ow 2) a8))) (a7 (c9 (a7 (Ow 3) (a7 (Ow 7) a8))) (a7 (c9 (a7 (Ow 60) (a7 (Ow 1) a8))) a8)))))))))) (d8 (e8 (i9 (one J9) (a7 (k6 (lQ [3] (K2 [3,0] (aP (a7 (a9 d7 (k6 (j8 (a7 (Ow 2) (a7 (Ow 4) (a7 (Ow 2) (a7 (Ow 6) (a7 (Ow 8) a8))))))) (c8 m00 (a7 (dV 0) (a7 (Ow 5) a8)))) a8)) A8 (a9 d7 (dL 1) (c8 m00 (a7 (dV 2) (a7 (Ow 8) a8))))))) a8)) (d6 4)) (d8 (l7 (j9 (c8 m03 (a7 (c9 (a7 (a9 P8 (Ow 10) (Ow 6)) (a7 (Ow 1) a8))) (a7 (dV 1) a8)))) (e8 (i9 (one J9) (a7 (k6 (K2 [] (F6 (dV 4)) A8 (c8 m02 (a7 (dV 0) (a7 (c9 (a7 (a9 P8 (Ow 10) (Ow 12)) (a7 (Ow 1) a8))) a8))))) a8)) (d6 4)) n8) (d8 (e8 (c8 J (a7 (dV 4) a8)) (d6 5)) (d8 (e8 (a9 d7 (k6 (j8 (a7 (c9 (a7 (Ow 0) (a7 (Ow 1) a8))) (a7 (Ox 4 0) (a7 (c8 m02 (a7 (Ox 4 0) (a7 (c9 (a7 (Ow 1) (a7 (Ow 2) a8))) a8))) (a7 (c8 m02 (a7 (dV 5) (a7 (c9 (a7 (Ow 2) (a7 (Ow 3) a8))) a8))) a8)))))) (c8 m00 (a7 (dV 0) (a7 (Ow 4) a8)))) (d6 6)) (d8 (e8 (a9 d7 (k6 (j8 (a7 (c9 (a7 (Ow 0) (a7 (Ow 1) a8))) (a7 (c9 (a7 (Ow 0) (a7 (Ow 1) a8))) (a7 (c9 (a7 (Ow 1) (a7 (Ow 1) a8))) (a7 (c9 (a7 (Ow 7) (a7 (Ow 1) a8))) (a7 (c9 (a7 (Ow 99) (a7 (Ow 1) a8))) a8))))))) (c8 m00 (a7 (dV 0) (a7 (Ow 5) a8)))) (d6 7)) (i5 (c9 (a7 (dV 4) (a7 (c8 m01 (a7 (c8 m02 (a7 (dV 5) (a7 (dV 7) a8))) (a7 (dV 6) a8))) a8)))))))))))
def kz (m01:c6) (m02:c6) (m00:c6) (J:c6) (m03:c6):c6:=m6 8 (dM m01 m02 m00 J m03)
abbrev gL (m0E:c6) (m0j:c6) (m0F:c6) (m0b:c6) (m0G:c6) (m0H:c6):DM:=(d8 (e8 (c8 m0G (a7 (dV 1) (a7 (Ow 5) a8))) (d6 3)) (d8 (e8 (c8 m0F (a7 (dV 1) (a7 (a9 d7 (c8 m0b (a7 (dV 3) a8)) (r8 v6 (Ow 1))) a8))) (u9 2 (j4 (d6 4) (j4 (d6 5) v5)))) (l7 (G8 (j9 (c8 m0j (a7 (dV 3) (a7 (dV 4) (a7 (dV 5) a8)))))) (i5 (dC (.bl false))) n8)))
def ia (U:c6) (Y:c6) (m0F:c6) (m0b:c6) (m0G:c6) (J:c6):DM:=(d8 (e8 (c8 J (a7 (dV 0) a8)) (d6 1)) (d8 (W8 (a7 (Ow 3) a8) (d6 2) (gL U Y m0F m0b m0G J)) (i5 (c8 U (a7 (dV 1) a8)))))
def jV (m0E:c6) (U:c6) (m0F:c6) (Y:c6) (m0G:c6) (J:c6):c6:=m6 6 (ia m0E U m0F Y m0G J)
abbrev vS (m01:c6):DM:=(e8 (c8 m01 (a7 (dV 1) (a7 (dV 2) a8))) (d6 1))
def gR (m01:c6):DM:=(d8 (e8 (c9 (a7 (Ow 0) (a7 (Ow 1) a8))) (d6 1)) (d8 (Q5 (dV 0) (d6 2) (vS m01)) (i5 (dV 1))))
def fv (m01:c6):c6:=m6 3 (gR m01)
end T
namespace DL
open PySem L2
def dF {k:Nat}(U:0<k) (h:n<2 ^ k):n.log2<k:=by
 by_cases J:n=0
 .subst J;simpa using U
 .exact(Nat.log2_lt J).mpr h
def cG {i:Int}(h:i.natAbs<2 ^ 200):v7 i=true:=by
 have:=dF #[] h;exact II ∅
def wR {j:Int}(J:j≠0) (h:j.natAbs<2 ^ 200):D2 j=true:=by
 have:=dF #[] h;unfold D2;rw[II J,LF];exact II ∅
def qF (i:Int):E1 (.int i)=true:=by simp[E1,D.plain,D.py,SeqAt.shaped,PyData.canLay0,PyData.depth]
def iP (i j:Int):C5 (.int i) (.int j)=some (.bl (!decide (i=j))):=by
 simp only[C5,qF,Ko,Jh,D.py,PyData.eqv,Nw]
def S0 (i j:Int):C8 (.int i) (.int j)=some (.bl (decide (i=j))):=by
 simp only[C8,qF,Ko,Jh,D.py,PyData.eqv,Nw]
def wM (x y:Str):C5 (.str x) (.str y)=some (.bl (!decide (x=y))):=rfl
def De {i:Int}(h:i.natAbs.log2<1920):(PySem.Str.ofString (toString i)).length<=1921:=PyProof.Rows.int_text_len_1921 h
def BT (h:aj d=true):M4 d=some (.str d.py.shown):=by unfold M4;rw[iO h]
def lH {α:Type}{xs:List α}{i:Int}(J:0<=i) (h1:i<xs.length):p9 xs i=xs[i.toNat]?:=by
 unfold p9 U5;rw[iO J,iO h1];rfl
def X4 {a b:Int}(h:0<b):0<=a.fmod b/\a.fmod b<b:=by
 rw[KH a ∅];exact#[Mt a ∅,Nx a h]
def e7 {a b:DM}{s:DS}(h:a s=some (.next,s1)):d8 a b s=b s1:=by simp[d8,h,K6]
def T8 {a b:DM}{s:DS}(h:a s=some (.ret d,s1)):d8 a b s=some (.ret d,s1):=by simp[d8,h,K6]
def ku {m:c6}{a:DA}{s:DS}{xs:vD_}{fs:vO_}(U:a s=some (xs,s1)) (J:m xs s1.fs=some (d,fs)):c8 m a s=some (d,{ s1 with fs:=fs }):=by
 unfold c8;rw[U,xo,J];rfl
def c7 {p:D->D->Option D}{a b:DE}{s:DS}{x y z:D}(h1:a s=some (x,s1)) (h2:b s1=some (y,s2)) (J:p x y=some z):a9 p a b s=some (z,s2):=by
 unfold a9;rw[h1,xo,h2,xo,J];rfl
def d9 {a:DE}{b:DA}{s:DS}{x:D}{xs:vD_}(h1:a s=some (x,s1)) (h2:b s1=some (xs,s2)):a7 a b s=some (x::xs,s2):=by
 unfold a7;rw[h1,xo,h2];rfl
def f9 {f:DE}{t:D->DS->Option DS}{s:DS}(h1:f s=some (d,s1)) (h2:t d s1=some s2):e8 f t s=some (.next,s2):=by
 unfold e8;rw[h1,xo,h2];rfl
def F7 {c:DT}{a b:DM}{s:DS}(h:c s=some (true,s1)):l7 c a b s=a s1:=by simp[l7,h]
def mo {c:DT}{a b:DM}{s:DS}(h:c s=some (false,s1)):l7 c a b s=b s1:=by simp[l7,h]
def m8 {f:DE}{s:DS}(h:f s=some (d,s1)):i5 f s=some (.ret d,s1):=by simp[i5,h]
def B1 {f:DE}{s:DS}{b:Bool}(h:f s=some (.bl b,s1)):dB f s=some (b,s1):=by simp[dB,h]
def j7 {b:DM}{fs:vO_}{s:DS}(h:b #[ds.map .v++List.replicate (n - ds.length) .no,fs]=some (.ret d,s)):m6 n b ds fs=some (d,s.fs):=by simp[m6,h]
def f8 {m:c6}{a:DA}{fs:vO_}{xs:vD_}(U:a #[sl,fs]=some (xs,#[sl,fs])) (J:m xs fs=some (d,fs)):c8 m a #[sl,fs]=some (d,#[sl,fs]):=ku (s1:=#[sl,fs]) U J
def u7 {m:c6}{a:DA}{fs:vO_}{xs:vD_}(U:a #[sl,fs]=some (xs,#[sl,fs])) (J:m xs fs=some (d,fs')):c8 m a #[sl,fs]=some (d,#[sl,fs']):=ku (s1:=#[sl,fs]) U J
def qj {m:c6}{a:DA}{fs J:vO_}{xs:vD_}(Y:a #[sl,fs]=some (xs,#[sl',fs'])) (U:m xs fs'=some (d,J)):c8 m a #[sl,fs]=some (d,#[sl',J]):=ku (s1:=#[sl',fs']) Y U
def uQ {a b c:DE}{s J:DS}{x y z:D}(h1:a s=some (x,s1)) (h2:b s1=some (y,s2)) (U:c s2=some (z,J)):c9 (a7 a (a7 b (a7 c a8))) s=some (.tup [x,y,z],J):=by
 unfold c9;rw[d9 h1 (d9 h2 (d9 U rfl)),xo];exact iO (e:=(none:Option (D × DS))) (show 3<=sizeLine by decide)
def T9 {t:D->DS->Option DS}{b:DM}{r:vD_}{s:DS}(h1:t d s=some s1) (h2:b s1=some (.next,s2)):B2 t b (d::r) s=B2 t b r s2:=by
 rw[B2,h1,xo,h2];rfl
def v4 {a b:DE}{s:DS}{x y:D}(h1:a s=some (x,s1)) (h2:b s1=some (y,s2)):c9 (a7 a (a7 b a8)) s=some (.tup [x,y],s2):=by
 unfold c9;rw[d9 h1 (d9 h2 rfl),xo];exact iO (e:=(none:Option (D × DS))) (show 2<=sizeLine by decide)
def F3 {f:DE}{s:DS}{b:Bool}(h:f s=some (.bl b,s1)):j9 f s=some (b,s1):=by
 unfold j9;rw[h];rfl
def qe {a:DT}{s:DS}{b:Bool}(h:a s=some (b,s1)):G8 a s=some (!b,s1):=by
 unfold G8;rw[h];rfl
def S9 {a b:DT}{s:DS}{r:Option (Bool × DS)}(h1:a s=some (true,s1)) (h2:b s1=r):B4 a b s=r:=by
 unfold B4;rw[h1,xo,iO rfl];exact h2
def bj {a b:DT}{s:DS}(h1:a s=some (false,s1)):B4 a b s=some (false,s1):=by
 unfold B4;rw[h1,xo,iU IM]
def zI {a b:DT}{s:DS}(h1:a s=some (true,s1)):G1 a b s=some (true,s1):=by
 unfold G1;rw[h1,xo,iO rfl]
def nU {a b:DT}{s:DS}{r:Option (Bool × DS)}(h1:a s=some (false,s1)) (h2:b s1=r):G1 a b s=r:=by
 unfold G1;rw[h1,xo,iU IM];exact h2
def C9 {c:DT}{a:DM}{s:DS}(h:c s=some (false,s1)):l7 c a n8 s=some (.next,s1):=by
 rw[mo h];rfl
def D8 {s:DS}(h:f s=some (ds,s1)) (hi:i<s1.sl.length):B8 i f s=some (.next,{ s1 with sl:=s1.sl.set i (.own ds) }):=by
 unfold B8;rw[h,xo,iO hi]
def eJ {s:DS}{R:vD_}(h:fi s=some (ds,s1)) (hz:ds.length<=sizeLine) (c:C0 (V1 idx s1.sl) fc fe ds s1.fs=some (R,fs')):Q0 idx fi fc fe s=some (R,{ s1 with fs:=fs' }):=by
 unfold Q0;rw[h,xo,iO hz,c];rfl
def A6 {s:DS}(h:f s=some (ds,s1)):k6 f s=some (.lst ds,s1):=by
 unfold k6;rw[h];rfl
def am {p:D->D->Option (List D)}{a b:DE}{s:DS}{x y:D}{z:vD_}(h1:a s=some (x,s1)) (h2:b s1=some (y,s2)) (J:p x y=some z):S4 p a b s=some (z,s2):=by
 unfold S4;rw[h1,xo,h2,xo,J];rfl
def aa {s:DS}{R:vD_}(h:fi s=some (ds,s1)) (hz:ds.length<=sizeLine) (c:C0 (fun d=>some (.v d::L4 idx s1.sl)) fc fe ds s1.fs=some (R,s1.fs)):K2 idx fi fc fe s=some (R,s1):=by
 unfold K2;rw[h,xo,iO hz,c];rfl
def U2 {f:DE}{s:DS}{ds0:vD_}(U:s.sl[i]? = some (.own ds0)) (h:f s=some (d,s1)) (h1:s1.sl[i]? = some (.own ds)) (J:ds.length<sizeLine):F9 i f s=some (.next,{ s1 with sl:=s1.sl.set i (.own (ds++[d])) }):=by
 unfold F9;rw[U];show (f s).bind _=_;rw[h,xo];show (match s1.sl[i]? with | some (.own ds)=>_ | _=>_)=_;rw[h1];exact iO J
def eA {a:DE}{s:DS}{x:D}(h:a s=some (x,s1)):j8 (a7 a a8) s=some ([x],s1):=by
 unfold j8;rw[d9 h rfl,xo];exact iO (e:=(none:Option (List D × DS))) (show 1<=sizeLine by decide)
def C7 {p:D->Option D}{a:DE}{s:DS}{x:D}(h:a s=some (x,s1)) (J:p x=some d):i9 (one p) (a7 a a8) s=some (d,s1):=by
 unfold i9;rw[d9 h rfl,xo];show (p x).map _=_;rw[J];rfl
def fQ {c:DT}{a b:DE}{s:DS}(h:c s=some (true,s1)):D7 c a b s=a s1:=by
 unfold D7;rw[h];rfl
def dP {c:DT}{a b:DE}{s:DS}(h:c s=some (false,s1)):D7 c a b s=b s1:=by
 unfold D7;rw[h];rfl
def fr (p:Rat):D:=.tup [.int p.num,.int p.den]
def Sz (k:Nat) (p:Rat):Prop:=p.num.natAbs<2 ^ k/\p.den<2 ^ k
def Sz.mono {k:Nat}{p:Rat}(h:Sz k p) (J:k<=l):Sz l p:=
 #[IJ h.1 (Mu #[] J),IJ h.2 (Mu #[] J)]
def uv {a b:Int}(J:b≠0):(Rat.divInt a b).num.natAbs<=a.natAbs/\(Rat.divInt a b).den<=b.natAbs:=by
 constructor
 .rw[Ny,Int.natAbs_ediv_of_dvd (Int.dvd_mul_of_dvd_right (Mv ..))];rw[JG,Int.natAbs_sign_of_ne_zero J,Nat.one_mul];exact LG _ _
 .rw[Nz,iU J];exact LG _ _
def Sz.of_divInt {k:Nat}{a b:Int}(J:b≠0) (h1:a.natAbs<2 ^ k) (h2:b.natAbs<2 ^ k):Sz k (Rat.divInt a b):=
 #[Jf (uv J).1 h1,Jf (uv J).2 h2]
def uG {a b k:Nat}(h1:a<2 ^ k) (h2:b<2 ^ l):a*b<2 ^ (k+l):=by
 rw[Nat.pow_add];exact Nat.mul_lt_mul_of_lt_of_lt h1 h2
def FR {a b k:Nat}(h1:a<2 ^ k) (h2:b<2 ^ k):a+b<2 ^ (k+1):=by
 rw[Nat.pow_succ];omega
def Bd (k:Nat) (i:Int):Prop:=i.natAbs<2 ^ k
def Bd.mono {k:Nat}{i:Int}(h:Bd k i) (J:k<=l):Bd l i:=IJ h (Mu #[] J)
def Bd.mul {k:Nat}{i j:Int}(h1:Bd k i) (h2:Bd l j):Bd (k+l) (i*j):=by
 unfold Bd;rw[JG];exact uG h1 h2
def Bd.add {k:Nat}{i j:Int}(h1:Bd k i) (h2:Bd l j):Bd (max k l+1) (i+j):=
 Jf (Mw i j) (FR (h1.mono (Nat.le_max_left ..)) (h2.mono (Nat.le_max_right ..)))
def Bd.neg {k:Nat}{i:Int}(h1:Bd k i):Bd k (-i):=by unfold Bd;rw[Int.natAbs_neg];exact h1
def Bd.sub {k:Nat}{i j:Int}(h1:Bd k i) (h2:Bd l j):Bd (max k l+1) (i - j):=by rw[Int.sub_eq_add_neg];exact h1.add h2.neg
theorem Bd.gcd {k:Nat}{i:Int}{j:Int}(h:Bd k j) (J:j≠0):Bd k (Int.gcd i j:Int):=by
 have:Int.gcd i j<=j.natAbs:=Mx ∅ (Lf i.natAbs j.natAbs);exact Jf this h
def Bd.bits {k:Nat}{i:Int}(h:Bd k i) (J:k<=8000):v7 i=true:=by
 have:=dF (k:=8000) #[] (h.mono J);exact II ∅
def Bd.div {k:Nat}{i:Int}(h:Bd k i) (J:i≠0) (U:k<=8000):D2 i=true:=by
 have:=dF (k:=8000) #[] (h.mono U);unfold D2;rw[II J,LF];exact II ∅
theorem Sz.num {k:Nat}{p:Rat}(h:Sz k p):Bd k p.num:=h.1
theorem Sz.den {k:Nat}{p:Rat}(h:Sz k p):Bd k (p.den:Int):=h.2
def K8 (p:Rat):(p.den:Int)≠0:=by have:=p.den_nz;omega
def V5 (p:Rat):(0:Int)<p.den:=by have:=p.den_nz;omega
def ji (p:Rat):p=Rat.divInt p.num p.den:=(My p).symm
theorem Sz.mul {k:Nat}{p:Rat}(h1:Sz k p) (h2:Sz l q):Sz (k+l) (p*q):=by
 rw[ji p,ji q,LH];exact Sz.of_divInt (JH (K8 p) (K8 q)) (Bd.mul h1.num h2.num) (Bd.mul h1.den h2.den)
theorem Sz.add {k:Nat}{p:Rat}(h1:Sz k p) (h2:Sz l q):Sz (k+l+1) (p+q):=by
 rw[ji p,ji q,Rat.divInt_add_divInt _ _ (K8 p) (K8 q)];refine Sz.of_divInt (JH (K8 p) (K8 q)) ?_ (Bd.mono (Bd.mul h1.den h2.den) ∅);have J:=Bd.mul h1.num h2.den;have U:=Bd.mul h2.num h1.den;exact Bd.mono (Bd.add J U) ∅
def Sz.neg {k:Nat}{p:Rat}(h:Sz k p):Sz k (-p):=#[by rw[Rat.neg_num,Int.natAbs_neg];exact h.1,h.2]
def Sz.sub {k:Nat}{p:Rat}(h1:Sz k p) (h2:Sz l q):Sz (k+l+1) (p - q):=by rw[Mz];exact h1.add h2.neg
def Sz.int {k:Nat}{i:Int}(h:Bd k i) (J:1<=k):Sz k (i:Rat):=#[h,IJ (by decide:1<2 ^ 1) (Mu #[] J)]
def Sz.lit {k:Nat}{p:Rat}(h:decide (p.num.natAbs<2 ^ k/\p.den<2 ^ k)=true):Sz k p:=by unfold Sz;exact IZ h
def Em {a b:Int}(J:0<b):(Rat.divInt a b).num=a / (Int.gcd a b:Int):=by
 rw[Ny,MA,Oj J,Int.one_mul]
def Eo {a b:Int}(J:0<b):((Rat.divInt a b).den:Int)=b / (Int.gcd a b:Int):=by
 rw[Nz,iU ∅,MA];rw[Int.natCast_ediv,Int.natAbs_of_nonneg ∅]
end DL
namespace T
open PySem L2 DL
abbrev gT:DT:=dB (a9 C5 (dL 3) (Ow 0))
abbrev gB:DM:=d8 (e8 (a9 y8 (dL 2) (dL 3)) (d6 4)) (d8 (e8 (dV 3) (d6 2)) (e8 (dV 4) (d6 3)))
def ut (a b:Sl) (g r:Int) (x:Sl) (fs:vO_):gT #[[a,b,.v (.int g),.v (.int r),x],fs]=some (!decide (r=0),#[[a,b,.v (.int g),.v (.int r),x],fs]):=by
 simp[dB,a9,dL,dC,Ow,Ox,iP]
def Fs (a b:Sl) (g r:Int) (x:Sl) (fs:vO_) (h:r≠0):gB #[[a,b,.v (.int g),.v (.int r),x],fs] =
  some (.next,#[[a,b,.v (.int r),.v (.int (g.fmod r)),.v (.int (g.fmod r))],fs]):=by
 simp[d8,K6,e8,a9,dL,dV,d6,y8,h]
def Dt (a b:Sl) (fs:vO_) (r:Nat):∀(g:Nat) (x:Sl),∃y,A9 gT gB #[[a,b,.v (.int g),.v (.int r),x],fs]=some (.next,#[[a,b,.v (.int (Nat.gcd g r)),.v (.int 0),y],fs]):=by
 induction r using Nat.strongRecOn with
 |ind r U=>
  intro g x;by_cases h:r=0
  .subst h;refine#[x,?_];rw[Nat.gcd_zero_right];exact Z8 (by rw[ut];rfl)
  .have e:((g:Int).fmod (r:Int))=((g % r:Nat):Int):=by rw[KH _ ∅];rfl
   obtain⟨y,J⟩:=U (g % r) (Nat.mod_lt _ ∅) r (.v (.int ((g:Int).fmod (r:Int))));refine#[y,?_];have Y:Nat.gcd g r=Nat.gcd r (g % r):=by rw[LI g r,Nat.gcd_rec,LI]
   rw[Y];refine W4 (s1:=#[[a,b,.v (.int g),.v (.int r),x],fs]) (by rw[ut,ID ∅];rfl) (Fs _ _ _ _ _ _ ∅) ?_;rw[e] at J ⊢;exact J
def mL (a:Int):(if a<0 then -a else a)=((a.natAbs:Nat):Int):=by split <;> omega
def mM (a b:Int) (fs:vO_):o6 [.int a,.int b] fs=some (.int (Int.gcd a b),fs):=by
 obtain⟨y,J⟩:=Dt (.v (.int a)) (.v (.int b)) fs b.natAbs a.natAbs .no;refine j7 (s:=#[[.v (.int a),.v (.int b),.v (.int (Int.gcd a b)),.v (.int 0),y],fs]) ?_;show iE #[[.v (.int a),.v (.int b),.no,.no,.no],fs]=_;unfold iE;rw[e7 (s1:=#[[.v (.int a),.v (.int b),.v (.int a.natAbs),.no,.no],fs]) (by simp[e8,i9,a7,a8,dL,one,ar,d6,mL])];rw[e7 (s1:=#[[.v (.int a),.v (.int b),.v (.int a.natAbs),.v (.int b.natAbs),.no],fs]) (by simp[e8,i9,a7,a8,dL,one,ar,d6,mL])];rw[e7 J];exact m8 (by simp[dV,Int.gcd])
def oK (a:Int):Int.gcd 0 a=a.natAbs:=by simp[Int.gcd]
def pd (a b:Int):Int.gcd ((a.natAbs:Nat):Int) b=Int.gcd a b:=by simp[Int.gcd]
def fJ (P:D) (J x:Int) (x2:Sl) (r:vD_) (fs:vO_):B2 (d6 2) (fG o6) (.int x::r) #[[.v P,.v (.int J),x2],fs]=B2 (d6 2) (fG o6) r #[[.v P,.v (.int (Int.gcd J x)),.v (.int x)],fs]:=T9 (s1:=#[[.v P,.v (.int J),.v (.int x)],fs]) rfl (f9 (f8 rfl (mM J x fs)) rfl)
def oG {g:Int}{fs:vO_}(h:B2 (d6 2) (fG o6) ds #[[.v (.tup ds),.v (.int 0),.no],fs]=some (.next,#[[.v (.tup ds),.v (.int g),x2],fs])):F0 o6 [.tup ds] fs=some (.int g,fs):=by
 refine j7 (s:=#[[.v (.tup ds),.v (.int g),x2],fs]) ?_;show iw o6 #[[.v (.tup ds),.no,.no],fs]=_;unfold iw;have J:Q5 (dV 0) (d6 2) (fG o6) #[[.v (.tup ds),.v (.int 0),.no],fs]=some (.next,#[[.v (.tup ds),.v (.int g),x2],fs]):=h;rw[e7 (s1:=#[[.v (.tup ds),.v (.int 0),.no],fs]) (f9 rfl rfl),e7 J];exact m8 rfl
def AK (a b:Int) (fs:vO_):F0 o6 [.tup [.int a,.int b]] fs=some (.int (Int.gcd a b),fs):=oG (x2:=.v (.int b)) (by
 rw[fJ,fJ,oK,pd];rfl)
def GD (a b c:Int) (fs:vO_):F0 o6 [.tup [.int a,.int b,.int c]] fs=some (.int (Int.gcd (Int.gcd a b:Int) c),fs):=oG (x2:=.v (.int c)) (by
 rw[fJ,fJ,fJ,oK,pd];rfl)
def W2 {a g c:Int}(J:g≠0) (e:a=g*c):a.fdiv g=c:=by subst e;exact Int.mul_fdiv_cancel_left c J
theorem vN (a b:Int) (U:b≠0):let g:Int:=if b<0 then -(Int.gcd a b:Int) else (Int.gcd a b:Int)
  g≠0/\a.fdiv g=(Rat.divInt a b).num/\b.fdiv g=((Rat.divInt a b).den:Int):=by
 intro g;have g0:0<Int.gcd a b:=NA a U;obtain⟨c,Y⟩:=NB a b;obtain⟨d,hd⟩:=Mv a b;have e1:(Rat.divInt a b).num=if b<0 then -c else c:=by
  rw[Ny,MA];split
  .rename_i h;rw[Int.sign_eq_neg_one_of_neg h];refine MB ∅ ?_;grind
  .rename_i h;rw[Oj ∅,Int.one_mul];exact MB ∅ Y
 have e2:((Rat.divInt a b).den:Int)=if b<0 then -d else d:=by
  rw[Nz,iU U,MA,Int.natCast_ediv];split
  .refine MB ∅ ?_;grind
  .refine MB ∅ ?_;grind
 rw[e1,e2];by_cases h:b<0
 .have J:g = -(Int.gcd a b:Int):=iO h;rw[J,iO h,iO h];exact#[by omega,W2 ∅ (by grind),W2 ∅ (by grind)]
 .have J:g=(Int.gcd a b:Int):=iU h;rw[J,iU h,iU h];exact#[by omega,W2 ∅ Y,W2 ∅ hd]
def lg {k:Nat}{a b:Int}(J:b≠0) (h:Bd k b) (U:k<=8000):D2 (if b<0 then -(Int.gcd a b:Int) else (Int.gcd a b:Int))=true:=by
 have Y:0<Int.gcd a b:=NA a J;split
 .exact(Bd.gcd h J).neg.div ∅ U
 .exact(Bd.gcd h J).div ∅ U
def og:(2:Nat)<=sizeLine:=by decide
def yV:(3:Nat)<=sizeLine:=by decide
def BE (a b:D):p9 [a,b] (-1)=some b:=fH [a] b
def Io (a b c:D):p9 [a,b,c] (-1)=some c:=fH [a,b] c
def jI (a b:D):p9 [a,b] 0=some a:=rfl
def gC (a b:D):p9 [a,b] 1=some b:=rfl
abbrev FL:c6:=L0 (F0 o6)
abbrev FF:c6:=N0 FL
theorem mE {J:Int}(U:D2 J=true) (fs:vO_):∀xs:List Int,C0 (fun d=>some [.v d,.v (.int J)]) A8 (a9 u6 (dL 0) (dL 1)) (xs.map .int) fs=some (xs.map (fun x=>.int (x.fdiv J)),fs)
 |[]=>rfl
 |x::r=>by
  have e:a9 u6 (dL 0) (dL 1) #[[.v (.int x),.v (.int J)],fs]=some (.int (x.fdiv J),#[[.v (.int x),.v (.int J)],fs]):=c7 rfl rfl (iO U);have Y:=mE U fs r;rw[Js,C0,xo];show ((a9 u6 (dL 0) (dL 1) #[[.v (.int x),.v (.int J)],fs]).bind _)=_;rw[e,xo];show (C0 _ A8 _ (r.map .int) fs).map _=_;rw[Y];rfl
def Ba {d g:Int}(h:p9 ds (-1)=some (.int d)) (fs:vO_):l7 (dB (a9 (k9 (fun i j=>decide (i<j))) (a9 d7 (dL 0) (r8 v6 (Ow 1))) (Ow 0))) (e8 (r8 v6 (dL 1)) (d6 1)) n8 #[[.v (.tup ds),.v (.int g)],fs]=some (.next,#[[.v (.tup ds),.v (.int (if d<0 then -g else g))],fs]):=by
 have t:dB (a9 (k9 (fun i j=>decide (i<j))) (a9 d7 (dL 0) (r8 v6 (Ow 1))) (Ow 0)) #[[.v (.tup ds),.v (.int g)],fs]=some (decide (d<0),#[[.v (.tup ds),.v (.int g)],fs]):=B1 (c7 (c7 rfl rfl (show d7 (.tup ds) (.int (-1))=some (.int d) from h)) rfl rfl);by_cases J:d<0
 .rw[II J] at t;rw[iO J,F7 t];rfl
 .rw[ID J] at t;rw[iU J,mo t];rfl
def pW {xs:List Int}{d g:Int}(fs:vO_) (hl:xs.length<=10) (U:F0 o6 [.tup (xs.map .int)] fs=some (.int g,fs)) (h:p9 (xs.map D.int) (-1)=some (.int d)) (J:D2 (if d<0 then -g else g)=true):FL [.tup (xs.map .int)] fs=some (.tup (xs.map fun x=>.int (x.fdiv (if d<0 then -g else g))),fs):=by
 have nf:=Ba (g:=g) h fs;have cd:=mE J fs xs;have Y:(xs.map D.int).length<=sizeLine:=xr (by rw[td];exact hl) (show 10<=sizeLine by decide);generalize xs.map D.int=ds at *;generalize (if d<0 then -g else g)=gg at *;refine j7 (s:=#[[.v (.tup ds),.v (.int gg)],fs]) ?_;show kS (F0 o6) #[[.v (.tup ds),.no],fs]=_;unfold kS;rw[e7 (s1:=#[[.v (.tup ds),.v (.int g)],fs]) (f9 (f8 rfl U) rfl),e7 nf];exact m8 (C7 (p:=J9) (A6 (aa (idx:=[1]) (ds:=ds) (s1:=#[[.v (.tup ds),.v (.int gg)],fs]) rfl Y cd)) rfl)
def AZ {k:Nat}(a b:Int) (fs:vO_) (J:b≠0) (h:Bd k b) (U:k<=8000):FL [.tup [.int a,.int b]] fs=some (fr (Rat.divInt a b),fs):=by
 obtain⟨Y,p1,p2⟩:=vN a b J;have e:=pW (xs:=[a,b]) (d:=b) fs (show 2<=10 by decide) (AK a b fs) (BE _ _) (lg (a:=a) J h U);unfold fr;rw[<-p1,<-p2];exact e
def lP {k:Nat}(a b:Int) (fs:vO_) (U:b≠0) (h:Bd k b) (J:k<=8000):FF [.int a,.int b] fs=some (fr (Rat.divInt a b),fs):=by
 refine j7 (s:=#[[.v (.int a),.v (.int b)],fs]) ?_;show lm FL #[[.v (.int a),.v (.int b)],fs]=_;exact m8 (f8 (d9 (v4 rfl rfl) rfl) (AZ a b fs U h J))
def pN (p q:Rat):p+q=Rat.divInt (p.num*q.den+q.num*p.den) (p.den*q.den):=by
 rw[Rat.add_def',<-Rat.divInt_ofNat];rfl
def nQ (p q:Rat):p*q=Rat.divInt (p.num*q.num) (p.den*q.den):=by
 rw[Rat.mul_def',<-Rat.divInt_ofNat];rfl
def jo (p q:Rat):(p.den:Int)*q.den≠0:=JH (K8 p) (K8 q)
abbrev FP:c6:=E5 o6
abbrev FX:c6:=ai FP
abbrev FT:c6:=cH FF
def AV {k:Nat}(p q:Rat) (fs:vO_) (h1:Sz k p) (h2:Sz l q) (J:k+l<=8000):FT [fr p,fr q] fs=some (fr (p*q),fs):=by
 have Y:=h1.num.bits ∅;have U:=h1.den.bits ∅;have b3:=h2.num.bits ∅;have b4:=h2.den.bits ∅;have e:=lP (p.num*q.num) (p.den*q.den) fs (jo p q) (Bd.mul h1.den h2.den) J;rw[<-nQ] at e;refine j7 (s:=#[[.v (fr p),.v (fr q)],fs]) ?_;show fX FF #[[.v (fr p),.v (fr q)],fs]=_;simp![fX,d7,fr,jI,gC,i8,Y,U,b3,b4,e]
def qJ (p q:Rat):decide (p.num*q.den<q.num*p.den)=decide (p<q):=by
 congr 1;exact propext (Rat.lt_iff p q).symm
def aQ {k:Nat}(p q:Rat) (fs:vO_) (h1:Sz k p) (h2:Sz l q) (hk:k+l<=8000):w8 [fr p,fr q] fs=some (.bl (decide (p<q)),fs):=by
 have U:=h1.num.bits ∅;have J:=h1.den.bits ∅;have Y:=h2.num.bits ∅;have b4:=h2.den.bits ∅;refine j7 (s:=#[[.v (fr p),.v (fr q)],fs]) ?_;show gm #[[.v (fr p),.v (fr q)],fs]=_;rw[<-qJ];simp![gm,d7,fr,jI,gC,i8,U,J,Y,b4]
theorem zv (p q:Rat):let g:=Nat.gcd p.den q.den
  let J:=p.num*((q.den / g:Nat):Int)+q.num*((p.den / g:Nat):Int)
  let U:=Nat.gcd J.natAbs g
  0<g/\0<U/\(p+q).num=J / (U:Int)/\(p+q).den=p.den / g*(q.den / U)/\U<=g/\g<=q.den:=by
 intro g J U;have Y:0<g:=Nat.gcd_pos_of_pos_left _ (by have:=p.den_nz;omega);have t0:0<U:=Nat.gcd_pos_of_pos_right _ Y;obtain⟨a,ha⟩:=Nat.gcd_dvd_left p.den q.den;obtain⟨b,hb⟩:=Lf p.den q.den;have ea:p.den / g=a:=MC Y ha;have eb:q.den / g=b:=MC Y hb;have aux:J.natAbs.gcd g=J.natAbs.gcd (p.den / g*q.den):=Rat.add.aux p q rfl rfl rfl;have a0:0<a:=by
  rcases Nat.eq_zero_or_pos a with z | z
  .rw[z,Nat.mul_zero] at ha;exact absurd ha p.den_nz
  .exact z
 have dn:p.den / g*q.den≠0:=by
  rw[ea];exact Nat.mul_ne_zero ∅ q.den_nz
 have ev:p+q=mkRat J (p.den / g*q.den):=by
  rw[Rat.add_def',Rat.mkRat_eq_iff (Nat.mul_ne_zero p.den_nz q.den_nz) dn];show (p.num*q.den+q.num*p.den)*((p.den / g*q.den:Nat):Int)=(p.num*((q.den / g:Nat):Int)+q.num*((p.den / g:Nat):Int))*((p.den*q.den:Nat):Int);rw[ea,eb];have ha':(p.den:Int)=(g:Int)*a:=by exact_mod_cast ha
  have hb':(q.den:Int)=(g:Int)*b:=by exact_mod_cast hb
  push_cast
  rw[ha',hb'];grind
 have tkd:U=Nat.gcd (p.den / g*q.den) J.natAbs:=by rw[LI];exact aux
 refine#[Y,t0,?_,?_,Mx Y (Lf ..),Mx (by have:=q.den_nz;omega) (Lf ..)]
 .rw[ev,Rat.num_mkRat,iU dn,<-tkd]
 .rw[ev,Rat.den_mkRat,iU dn,<-tkd];exact Nat.mul_div_assoc _ (Nat.dvd_trans (Lf _ _) (Lf _ _))
def vO (a:Int) (n:Nat):a.fdiv (n:Int)=a / (n:Int):=Lg a ∅
def xW (a n:Nat):(a:Int).fdiv (n:Int)=((a / n:Nat):Int):=by rw[vO];rfl
def iZ {k:Nat}(p q:Rat) (fs:vO_) (h1:Sz k p) (h2:Sz l q) (hk:k+l<=8000):FP [fr p,fr q] fs=some (fr (p+q),fs):=by
 obtain⟨g0,t0,e1,e2,tg,gq⟩:=zv p q;have b1:=h1.num.bits ∅;have b3:=h2.num.bits ∅;have gI:((Int.gcd (p.den:Int) (q.den:Int):Nat))=Nat.gcd p.den q.den:=rfl;have U:∀n:Nat,n<=q.den->Bd l (n:Int):=fun n hn=>Jf hn h2.2
 have dg:D2 ((Nat.gcd p.den q.den:Nat):Int)=true:=(U _ gq).div ∅ ∅;have dt:=(U _ (xr tg gq)).div ∅ ∅;have c1:v7 ((q.den / Nat.gcd p.den q.den:Nat):Int)=true:=(U _ (LG ..)).bits ∅;have bpd:Bd k ((p.den / Nat.gcd p.den q.den:Nat):Int):=Jf (LG ..) h1.2;have c2:=bpd.bits ∅;generalize hg:Nat.gcd p.den q.den=g at *;generalize ht:p.num*((q.den / g:Nat):Int)+q.num*((p.den / g:Nat):Int)=top at *;have gI2:Int.gcd top (g:Int)=Nat.gcd top.natAbs g:=rfl;generalize htk:Nat.gcd top.natAbs g=tk at *;have c3:v7 ((q.den / tk:Nat):Int)=true:=(U _ (LG ..)).bits ∅;have J:∀{a b:Int},v7 a=true->v7 b=true->i8 (.int a) (.int b)=some (.int (a*b)):=fun h1 h2=>iO (by rw[h1,h2];rfl)
 have Y:∀(a n:Nat),D2 (n:Int)=true->u6 (.int (a:Int)) (.int (n:Int))=some (.int ((a / n:Nat):Int)):=fun a n h=>(iO h).trans (by rw[xW])
 have d1:o6 [.int (p.den:Int),.int (q.den:Int)] fs=some (.int (g:Int),fs):=(mM _ _ fs).trans (by rw[gI]);have d2:o6 [.int top,.int (g:Int)] fs=some (.int (tk:Int),fs):=(mM _ _ fs).trans (by rw[gI2]);have ef:fr (p+q) = .tup [.int (top / (tk:Int)),.int (((p.den / g:Nat):Int)*((q.den / tk:Nat):Int))]:=by unfold fr;rw[e1,e2,KG]
 refine j7 (s:=#[[.v (fr p),.v (fr q),.v (.int g),.v (.int top),.v (.int tk)],fs]) ?_;show gO o6 #[[.v (fr p),.v (fr q),.no,.no,.no],fs]=_;unfold gO;rw[e7 (s1:=#[[.v (fr p),.v (fr q),.v (.int g),.no,.no],fs]) (f9 (f8 (d9 (c7 rfl rfl rfl) (d9 (c7 rfl rfl rfl) rfl)) d1) rfl),
  e7 (s1:=#[[.v (fr p),.v (fr q),.v (.int g),.v (.int top),.no],fs]) (f9 (c7 (c7 (c7 rfl rfl rfl) (c7 (c7 rfl rfl rfl) rfl (Y _ _ dg)) (J b1 c1)) (c7 (c7 rfl rfl rfl) (c7 (c7 rfl rfl rfl) rfl (Y _ _ dg)) (J b3 c2)) (show some (D.int _)=some (.int top) by rw[<-ht])) rfl),
  e7 (s1:=#[[.v (fr p),.v (fr q),.v (.int g),.v (.int top),.v (.int tk)],fs]) (f9 (f8 (d9 rfl (d9 rfl rfl)) d2) rfl),ef]
 exact m8 (v4 (c7 rfl rfl ((iO dt).trans (by rw[vO]))) (c7 (c7 (c7 rfl rfl rfl) rfl (Y _ _ dg)) (c7 (c7 rfl rfl rfl) rfl (Y _ _ dt)) (J c2 c3)))
def mS {k:Nat}(p q:Rat) (fs:vO_) (h1:Sz k p) (h2:Sz l q) (J:k+l<=8000):FX [fr p,fr q] fs=some (fr (p - q),fs):=by
 have e:=iZ p (-q) fs h1 h2.neg J;rw[<-Mz] at e;refine j7 (s:=#[[.v (fr p),.v (fr q)],fs]) ?_;show iT FP #[[.v (fr p),.v (fr q)],fs]=_;simp only[fr,Rat.neg_num,Rat.neg_den] at e;simp![iT,d7,fr,jI,gC,og,e]
def dG (a:Int) {b:Int}(h:D2 b=true):u6 (.int a) (.int b)=some (.int (a.fdiv b)):=by simp[u6,h]
def t7 {a b:Int}(h1:v7 a=true) (h2:v7 b=true):i8 (.int a) (.int b)=some (.int (a*b)):=by simp[i8,h1,h2]
def P7 {α:Type}{xs:List α}{r:Int}(J:0<=r) (h1:r<xs.length):∃x,x∈xs/\p9 xs r=some x:=by
 refine#[xs[r.toNat]'∅,List.getElem_mem _,?_];rw[lH J h1,Ji]
end T
namespace DL
open PySem L2
abbrev Pt:=Rat × Rat
variable {Z:List (Pt × Rat)}{z:Pt × Rat}
abbrev vT_:=List Pt
def pL (a:Pt):Int:=((Nat.lcm a.1.den a.2.den:Nat):Int)
def pX (a:Pt):Int:=a.1.num*((Nat.lcm a.1.den a.2.den / a.1.den:Nat):Int)
def pY (a:Pt):Int:=a.2.num*((Nat.lcm a.1.den a.2.den / a.2.den:Nat):Int)
def pt (a:Pt):D:=.tup [.int (pX a),.int (pY a),.int (pL a)]
theorem lcm_pos (p q:Rat):0<Nat.lcm p.den q.den:=Nat.lcm_pos (by have:=p.den_nz;omega) (by have:=q.den_nz;omega)
def wm (a:Pt):0<pL a:=by have:=lcm_pos a.1 a.2;unfold pL;omega
def Z4 (a:Pt):pL a≠0:=by have:=wm a;omega
def av (a:Pt):(pL a:Rat)≠0:=fun h=>Z4 a (JR.mp h)
def X6 (p:Rat):(p.num:Rat)=p*((p.den:Int):Rat):=by
 have e:=My p;rw[IE] at e;have J:((p.den:Int):Rat)≠0:=fun h=>K8 p (JR.mp h)
 have:(p.num:Rat) / ((p.den:Int):Rat)*((p.den:Int):Rat)=(p.num:Rat):=Rat.div_mul_cancel J;rw[e] at this;exact this.symm
theorem eV (a:Pt):(pX a:Rat)=a.1*(pL a:Rat):=by
 unfold pX pL;obtain⟨c,J⟩:=Nat.dvd_lcm_left a.1.den a.2.den;have U:=a.1.den_nz;have e:Nat.lcm a.1.den a.2.den / a.1.den=c:=MC ∅ J;rw[e,J,KG,IG,IG,X6];grind
theorem eY (a:Pt):(pY a:Rat)=a.2*(pL a:Rat):=by
 unfold pY pL;obtain⟨c,J⟩:=Nat.dvd_lcm_right a.1.den a.2.den;have U:=a.2.den_nz;have e:Nat.lcm a.1.den a.2.den / a.2.den=c:=MC ∅ J;rw[e,J,KG,IG,IG,X6];grind
theorem vE {x d:Int}{p:Rat}(hd:0<d) (h:(x:Rat)=p*(d:Rat)):∃c:Int,d=p.den*c/\x=p.num*c:=by
 have h1:x*p.den=p.num*d:=by
  have e:=X6 p;have:((x*p.den:Int):Rat)=((p.num*d:Int):Rat):=by
   rw[IG,IG,h,e];grind
  exact Rat.intCast_inj.mp this
 have dv:(p.den:Int)∣p.num*d:=#[x,by rw[<-h1,Lh]]
 have U:p.den∣p.num.natAbs*d.natAbs:=by
  have:=Int.natAbs_dvd_natAbs.mpr dv
  rwa [JG,Int.natAbs_natCast] at this
 have J:p.den∣d.natAbs:=Nat.Coprime.dvd_of_dvd_mul_left (Nat.Coprime.symm p.reduced) U;obtain⟨c,Y⟩:(p.den:Int)∣d:=Int.dvd_natAbs.mp (MD.mpr J);refine#[c,Y,?_];have hp:=V5 p;have:(p.den:Int)*x=p.den*(p.num*c):=by rw[Lh,h1,Y];grind
 exact Int.eq_of_mul_eq_mul_left ∅ this
theorem oQ {x y d:Int}{a:Pt}(hd:0<d) (hg:Int.gcd (Int.gcd x y:Int) d=1) (hx:(x:Rat)=a.1*(d:Rat)) (U:(y:Rat)=a.2*(d:Rat)):x=pX a/\y=pY a/\d=pL a:=by
 obtain⟨c1,e1,f1⟩:=vE hd hx;obtain⟨c2,e2,f2⟩:=vE hd U;obtain⟨D,rfl⟩:=NC (show 0<=d by omega);have dl:Nat.lcm a.1.den a.2.den∣D:=Nat.lcm_dvd (MD.mp #[c1,e1]) (MD.mp #[c2,e2]);obtain⟨m,J⟩:=dl;have key:∀z:Int,∀r:Rat,(z:Rat)=r*((D:Int):Rat)->∀w:Int,(w:Rat)=r*(pL a:Rat)->z=w*m:=by
  intro z r h1 w h2;have:(z:Rat)=((w*m:Int):Rat):=by
   rw[h1,IG,h2,J];have:(((Nat.lcm a.1.den a.2.den*m:Nat):Int):Rat)=(pL a:Rat)*((m:Int):Rat):=by
    rw[KG,IG];rfl
   rw[this];grind
  exact Rat.intCast_inj.mp this
 have kx:=key x a.1 hx (pX a) (eV a);have Y:=key y a.2 U (pY a) (eY a);have kd:(D:Int)=pL a*m:=by rw[J,KG];rfl
 have m1:(m:Int)∣1:=by
  have h:(m:Int)∣(Int.gcd (Int.gcd x y:Int) (D:Int):Int):=by
   refine Int.dvd_coe_gcd (Int.dvd_coe_gcd ?_ ?_) ?_
   .exact#[pX a,by rw[kx,Lh]]
   .exact#[pY a,by rw[Y,Lh]]
   .exact#[pL a,by rw[kd,Lh]]
  rwa [hg] at h
 have m2:m=1:=Nat.eq_one_of_dvd_one (MD.mp m1);subst m2;exact#[by rw[kx];simp,by rw[Y];simp,by rw[kd];simp]
structure Ps (k:Nat) (a:Pt):Prop where
 x:Bd k (pX a)
 y:Bd k (pY a)
 l:Bd k (pL a)
def Ps.of {k:Nat}{a:Pt}(h1:Sz k a.1) (h2:Sz l a.2):Ps (k+l) a:=by
 have U:Nat.lcm a.1.den a.2.den<=a.1.den*a.2.den:=Mx (Nat.mul_pos (by have:=a.1.den_nz;omega) (by have:=a.2.den_nz;omega)) (Nat.lcm_dvd_mul ..);have b:=uG h1.2 h2.2;have J:Nat.lcm a.1.den a.2.den / a.1.den<=a.2.den:=by
  rw[Ol (by have:=a.1.den_nz;omega)];omega
 have Y:Nat.lcm a.1.den a.2.den / a.2.den<=a.1.den:=by
  rw[Ol (by have:=a.2.den_nz;omega),LY a.2.den];omega
 refine#[?_,?_,?_]
 .exact Bd.mul h1.num (show Bd l ((_:Nat):Int) from Jf J h2.2)
 .have:=Bd.mul h2.num (show Bd k ((_:Nat):Int) from Jf Y h1.2);rw[Kz];exact this
 .exact Jf U b
end DL
variable {Z:List (DL.Pt × Rat)}{z:DL.Pt × Rat}
namespace T
open PySem L2 DL
theorem qE (x y d:Int) (hd:d≠0):let G:Nat:=Int.gcd (Int.gcd x y:Int) d
  let g:Int:=if d<0 then -(G:Int) else (G:Int)
  g≠0/\x.fdiv g=pX (Rat.divInt x d,Rat.divInt y d)/\y.fdiv g=pY (Rat.divInt x d,Rat.divInt y d)/\d.fdiv g=pL (Rat.divInt x d,Rat.divInt y d):=by
 intro G g;have g0:0<G:=NA _ hd;obtain⟨J,ed⟩:=Mv (Int.gcd x y:Int) d;have h1:=NB (Int.gcd x y:Int) d;obtain⟨U,ex⟩:=ND h1 (NB ..);obtain⟨Y,ey⟩:=ND h1 (Mv ..)
 replace ed:d=(G:Int)*J:=ed
 replace ex:x=(G:Int)*U:=ex
 replace ey:y=(G:Int)*Y:=ey
 have cop:Int.gcd (Int.gcd U Y:Int) J=1:=by
  have e1:Int.gcd x y=G*Int.gcd U Y:=by
   have:=Int.gcd_mul_left (m:=(G:Int)) (n:=U) (k:=Y);rw[<-ex,<-ey] at this;exact this
  have e2:Int.gcd (Int.gcd x y:Int) d=G*Int.gcd (Int.gcd U Y:Int) J:=by
   have:=Int.gcd_mul_left (m:=(G:Int)) (n:=(Int.gcd U Y:Int)) (k:=J);rw[<-ed,<-KG,<-e1] at this;exact this
  have e3:G*Int.gcd (Int.gcd U Y:Int) J=G*1:=by rw[<-e2,Nat.mul_one]
  exact Nat.eq_of_mul_eq_mul_left g0 e3
 have hdr:(d:Rat)≠0:=fun h=>hd (JR.mp h)
 have hGr:((G:Int):Rat)≠0:=fun h=>by have:=JR.mp h;omega
 have vx:∀z z':Int,z=(G:Int)*z'->(z':Rat)=Rat.divInt z d*(J:Rat):=fun z z' e=>by
  rw[IE];have ed':(d:Rat)=((G:Int):Rat)*(J:Rat):=by rw[<-IG];exact congrArg _ ed
  have ez':(z:Rat)=((G:Int):Rat)*(z':Rat):=by rw[<-IG];exact congrArg _ e
  have hd'r:(J:Rat)≠0:=fun h=>hdr (by rw[ed',h];grind)
  rw[ez',ed'];grind
 by_cases h:d<0
 .have eg:g = -(G:Int):=iO h;have dn:0 < -J:=by
   rcases Li J 0 with z | z
   .omega
   .have:0<=(G:Int)*J:=JY ∅ z;omega
  obtain⟨q1,q2,q3⟩:=oQ (x:=-U) (y:=-Y) (d:=-J) (a:=(Rat.divInt x d,Rat.divInt y d)) dn (by
   have:Int.gcd (-U) (-Y)=Int.gcd U Y:=by simp[Int.gcd]
   rw[this];have:Int.gcd (Int.gcd U Y:Int) (-J)=Int.gcd (Int.gcd U Y:Int) J:=by simp[Int.gcd]
   rw[this];exact cop) (by rw[LJ,LJ,vx x U ex];grind) (by rw[LJ,LJ,vx y Y ey];grind)
  rw[eg,<-q1,<-q2,<-q3];exact#[by omega,W2 ∅ (by grind),W2 ∅ (by grind),W2 ∅ (by grind)]
 .have eg:g=(G:Int):=iU h;have dp:0<J:=by
   rcases Li 0 J with z | z
   .exact z
   .have:(G:Int)*J<=G*0:=KI z ∅;omega
  obtain⟨q1,q2,q3⟩:=oQ (x:=U) (y:=Y) (d:=J) (a:=(Rat.divInt x d,Rat.divInt y d)) dp cop (vx x U ex) (vx y Y ey);rw[eg,<-q1,<-q2,<-q3];exact#[by omega,W2 ∅ ex,W2 ∅ ey,W2 ∅ ed]
def vG {k:Nat}{x y d:Int}(U:d≠0) (h:Bd k d) (J:k<=8000):D2 (if d<0 then -(Int.gcd (Int.gcd x y:Int) d:Int) else (Int.gcd (Int.gcd x y:Int) d:Int))=true:=lg (a:=(Int.gcd x y:Int)) U h J
def He {k:Nat}(x y d:Int) (fs:vO_) (J:d≠0) (h:Bd k d) (U:k<=8000):FL [.tup [.int x,.int y,.int d]] fs=some (pt (Rat.divInt x d,Rat.divInt y d),fs):=by
 obtain⟨Y,p1,p2,p3⟩:=qE x y d J;have e:=pW (xs:=[x,y,d]) (d:=d) fs (show 3<=10 by decide) (GD x y d fs) (Io _ _ _) (vG (x:=x) (y:=y) J h U);unfold pt;rw[<-p1,<-p2,<-p3];exact e
def EC (p q:Rat):Rat.divInt (p.num*q.den) (p.den*q.den)=p:=by
 rw[Lj (K8 q),My]
def GU (p q:Rat):Rat.divInt (q.num*p.den) (p.den*q.den)=q:=by
 rw[Lh (p.den:Int),Lj (K8 p),My]
def px_div (a:Pt):Rat.divInt (pX a) (pL a)=a.1:=by
 rw[IE,eV,NF (av a)]
def py_div (a:Pt):Rat.divInt (pY a) (pL a)=a.2:=by
 rw[IE,eY,NF (av a)]
end T
namespace DL
def E6 (a b:Pt):Rat:=(a.1 - b.1)*(a.1 - b.1)+(a.2 - b.2)*(a.2 - b.2)
theorem qf (x:Rat):0<=x*x:=by
 rcases Rat.le_total (a:=0) (b:=x) with h | h
 .exact ME h h
 .have:=ME (a:=-x) (b:=-x) (by grind) (by grind);grind
end DL
namespace T
open PySem L2 DL
theorem Di {k:Nat}(a b:Pt) (fs:vO_) (J:Ps k a) (U:Ps k b) (hk:k<=1500):R5 FF [pt a,pt b] fs=some (fr (E6 a b),fs):=by
 have a1:=J.x.bits ∅;have a2:=J.y.bits ∅;have a3:=J.l.bits ∅;have b1:=U.x.bits ∅;have b2:=U.y.bits ∅;have Y:=U.l.bits ∅;have w1:=((J.x.mul U.l).sub (U.x.mul J.l)).bits ∅;have w2:=((J.y.mul U.l).sub (U.y.mul J.l)).bits ∅;have w3:=(J.l.mul U.l).bits ∅;have ne:pL a*pL b*(pL a*pL b)≠0:=JH (JH (Z4 a) (Z4 b)) (JH (Z4 a) (Z4 b));have e:=lP ((pX a*pL b - pX b*pL a)*(pX a*pL b - pX b*pL a)+(pY a*pL b - pY b*pL a)*(pY a*pL b - pY b*pL a)) (pL a*pL b*(pL a*pL b)) fs ne ((J.l.mul U.l).mul (J.l.mul U.l)) ∅;have v:Rat.divInt ((pX a*pL b - pX b*pL a)*(pX a*pL b - pX b*pL a)+(pY a*pL b - pY b*pL a)*(pY a*pL b - pY b*pL a)) (pL a*pL b*(pL a*pL b))=E6 a b:=by
  rw[IE];simp only[JA,KJ,IG,eV,eY,E6];have:=av a;have:=av b;grind
 rw[v] at e;refine j7 (s:=#[[.v (pt a),.v (pt b),.v (.int (pX a*pL b - pX b*pL a)),.v (.int (pY a*pL b - pY b*pL a)),.v (.int (pL a*pL b))],fs]) ?_;show jh FF #[[.v (pt a),.v (pt b),.no,.no,.no],fs]=_;unfold jh;have x:∀p:Pt,d7 (pt p) (.int 0)=some (.int (pX p)):=fun _=>rfl
 have y:∀p:Pt,d7 (pt p) (.int 1)=some (.int (pY p)):=fun _=>rfl
 have l:∀p:Pt,d7 (pt p) (.int 2)=some (.int (pL p)):=fun _=>rfl
 rw[e7 (s1:=#[[.v (pt a),.v (pt b),.v (.int (pX a*pL b - pX b*pL a)),.no,.no],fs]) (f9 (c7 (c7 (c7 rfl rfl (x a)) (c7 rfl rfl (l b)) (t7 a1 Y)) (c7 (c7 rfl rfl (x b)) (c7 rfl rfl (l a)) (t7 b1 a3)) rfl) rfl),
  e7 (s1:=#[[.v (pt a),.v (pt b),.v (.int (pX a*pL b - pX b*pL a)),.v (.int (pY a*pL b - pY b*pL a)),.no],fs]) (f9 (c7 (c7 (c7 rfl rfl (y a)) (c7 rfl rfl (l b)) (t7 a2 Y)) (c7 (c7 rfl rfl (y b)) (c7 rfl rfl (l a)) (t7 b2 a3)) rfl) rfl),
  e7 (s1:=#[[.v (pt a),.v (pt b),.v (.int (pX a*pL b - pX b*pL a)),.v (.int (pY a*pL b - pY b*pL a)),.v (.int (pL a*pL b))],fs]) (f9 (c7 (c7 rfl rfl (l a)) (c7 rfl rfl (l b)) (t7 a3 Y)) rfl)]
 exact m8 (f8 (d9 (c7 (c7 rfl rfl (t7 w1 w1)) (c7 rfl rfl (t7 w2 w2)) rfl) (d9 (c7 rfl rfl (t7 w3 w3)) rfl)) e)
end T
namespace DL
open PySem L2
theorem bq {t:D->DS->Option DS}{b:DM}(P:Nat->DS->Prop):∀(ds:vD_) (n:Nat) (s:DS),P n s->(∀i d s,ds[i]? = some d->P (n+i) s->∃s1 s2,t d s=some s1/\(b s1=some (.next,s2)\/b s1=some (.cont,s2))/\P (n+i+1) s2) ->
  ∃s',B2 t b ds s=some (.next,s')/\P (n+ds.length) s'
 |[],n,s,h,_=>#[s,rfl,h]
 |d::r,n,s,h,k=>by
  obtain⟨s1,s2,e1,J,h2⟩:=k 0 d s rfl h;obtain⟨s',Y,U⟩:=bq P r (n+1) s2 h2 (fun i d' s hd hp=>by
   have:=k (i+1) d' s (by simpa using hd) (by rwa [show n+1+i=n+(i+1) by omega] at hp)
   rwa [show n+(i+1)+1=n+1+i+1 by omega] at this)
  refine#[s',?_,by rw[Ja,show n+(r.length+1)=n+1+r.length by omega];exact U];rw[B2,e1];rcases J with J | J <;> simp[J,Y]
def cw {t:D->DS->Option DS}{b:DM}{s:DS}{xs:vD_}(h1:f s=some (xs,s1)) (h2:ak xs=some ds):W8 f t b s=B2 t b ds s1:=by
 simp only[W8,h1,xo,h2]
def rj {f:DE}{t:D->DS->Option DS}{b:DM}{s:DS}(h1:f s=some (.lst ds,s1)):Q5 f t b s=B2 t b ds s1:=by
 simp only[Q5,h1,xo]
def cq {f:DE}{t:D->DS->Option DS}{b:DM}{s:DS}(h1:f s=some (.tup ds,s1)):Q5 f t b s=B2 t b ds s1:=by
 simp only[Q5,h1,xo]
def eZ {lo:Int}(h:(D0 lo n)[i]? = some d):d = .int (lo+i)/\i<n:=by
 have hi:i<n:=by have:=(Jj.mp h).1;rwa [S7] at this
 rw[me hi] at h;cases h;exact#[rfl,hi]
def cO (h:n<2 ^ 30):ak [.int (n:Int)]=some (D0 0 n):=by
 have:-(2 ^ 62)<=(n:Int)/\(n:Int)<2 ^ 62:=by omega
 simp only[ak,iO this,Kc]
end DL
namespace T
open PySem L2 DL
structure PtS (k:Nat) (a:Pt):Prop where
 x:Sz k a.1
 y:Sz k a.2
def Sm (M:Int):Prop:=1<=M/\M<=2 ^ 4000
def Sm.bd {g:Int}(J:Sm M) (U:0<=g) (h:g<=2*M):Bd 4002 g:=by
 unfold Bd;have e:(2:Nat) ^ 4002=4*2 ^ 4000:=by rw[show (4002:Nat)=4000+2 from rfl,Nat.pow_add];omega
 have h2:M<=((2 ^ 4000:Nat):Int):=by have:=J.2;rw[Int.natCast_pow];exact this
 have p:0<(2:Nat) ^ 4000:=Nat.pow_pos #[];rw[e];omega
theorem Sm.bits {g:Int}(J:Sm M) (U:0<=g) (h:g<=2*M):v7 g=true:=(J.bd U h).bits #[]
def Sm.div {g:Int}(J:Sm M) (U:1<=g) (h:g<=2*M):D2 g=true:=by
 have b:=J.bd ∅ h;unfold D2;rw[Je,Lk,Lk];refine#[by omega,?_];have:g.natAbs.log2<4002:=(Nat.log2_lt ∅).mpr b;omega
def T1 (r n:Int):Prop:=0<=r/\r*r<=n/\n<(r+1)*(r+1)
def fD {a b:Int}(J:0<=a) (h:a<=b):a*a<=b*b:=Int.mul_le_mul h h J ∅
def kc {r s n:Int}(h1:T1 r n) (h2:T1 s n):r=s:=by
 obtain⟨a1,a2,a3⟩:=h1;obtain⟨U,J,Y⟩:=h2;rcases Int.lt_trichotomy r s with h | h | h
 .have:=fD (a:=r+1) (b:=s) ∅ ∅;omega
 .exact h
 .have:=fD (a:=s+1) (b:=r) ∅ ∅;omega
theorem sH (n:Nat):∃r,T1 r n:=by
 induction n with
 |zero=>exact#[0,by decide,by decide,by decide]
 |succ n J=>
  obtain⟨r,h1,h2,U⟩:=J;by_cases h:(r+1)*(r+1)<=((n+1:Nat):Int)
  .refine#[r+1,by omega,h,?_];have e:(r+1+1)*(r+1+1)=(r+1)*(r+1)+2*(r+1)+1:=by grind
   omega
  .exact#[r,h1,by omega,by omega]
def oU {a b:Int}(J:0<=b) (h:a*a<(b+1)*(b+1)):a<=b:=by
 rcases Li b a with z | z
 .have:=fD (a:=b+1) (b:=a) ∅ ∅;omega
 .exact z
def gA {g n:Int}(J:Sm M) (h:g*g<=n) (Y:n<M*M) (U:0<=g):g<M:=by
 rcases Li g M with z | z
 .exact z
 .have:=fD (a:=M) (b:=g) (by have:=J.1;omega) z;omega
abbrev aT:DT:=dB (a9 (k9 (fun i j=>decide (j<i))) (dL 2) (Ow 0))
abbrev aB:DM:=d8 (e8 (a9 i8 (dL 1) (Ow 2)) (d6 1)) (e8 (a9 u6 (dL 2) (Ow 4)) (d6 2))
theorem xX (J:Sm M) (N:Sl) (fs:vO_) (n:Int) (hn:n<M*M) (rest:Nat):∀g:Int,1<=g->g<=2*M->g*g*rest<=n->n<g*g*(rest+1) ->
  ∃g',A9 aT aB #[[N,.v (.int g),.v (.int rest)],fs]=some (.next,#[[N,.v (.int g'),.v (.int 0)],fs])/\1<=g'/\g'<=2*M/\n<g'*g':=by
 induction rest using Nat.strongRecOn with
 |ind rest ih=>
  intro g h1 h2 h3 h4;by_cases h:rest=0
  .subst h;refine#[g,Z8 (by simp[dB,a9,dL,dC,Ow,Ox,k9]),h1,h2,?_];have:g*g*((0:Nat)+1:Int)=g*g:=by grind
   omega
  .have hg:g*g<=n:=by
    have:g*g*1<=g*g*(rest:Int):=KI ∅ (JY ∅ ∅);omega
   have hs:=gA J hg hn ∅;have e4:((rest:Int).fdiv 4)=((rest / 4:Nat):Int):=by rw[Lg _ #[]];rfl
   have hq:rest<=4*(rest / 4)+3:=by omega
   have hq2:4*(rest / 4)<=rest:=by omega
   obtain⟨g',e,U,r2,r3⟩:=ih (rest / 4) ∅ (g*2) ∅ ∅ (by
    have e1:g*2*(g*2)*((rest / 4:Nat):Int)=g*g*(4*((rest / 4:Nat):Int)):=by grind
    have:g*g*(4*((rest / 4:Nat):Int))<=g*g*(rest:Int):=KI ∅ (JY ∅ ∅);omega) (by
    have e1:g*2*(g*2)*(((rest / 4:Nat):Int)+1)=g*g*(4*((rest / 4:Nat):Int)+4):=by grind
    have:g*g*((rest:Int)+1)<=g*g*(4*((rest / 4:Nat):Int)+4):=KI ∅ (JY ∅ ∅);omega)
   refine#[g',W4 (s1:=#[[N,.v (.int g),.v (.int rest)],fs]) (s2:=#[[N,.v (.int (g*2)),.v (.int ((rest / 4:Nat):Int))],fs]) ?_ ?_ e,U,r2,r3]
   .have:0<rest:=by omega
    simp[dB,a9,dL,dC,Ow,Ox,k9,this]
   .have b1:v7 g=true:=J.bits ∅ ∅;have b2:v7 2=true:=by decide
    have Y:D2 4=true:=by decide
    exact(e7 (s1:=#[[N,.v (.int (g*2)),.v (.int rest)],fs]) (f9 (c7 rfl rfl (t7 b1 b2)) rfl)).trans (f9 (c7 rfl rfl ((dG _ Y).trans (congrArg (fun z=>some (D.int z)) e4))) rfl)
def above (U:Sm M) (n:Int) (J:0<=n) (hn:n<M*M) (fs:vO_):∃g,N5 [.int n] fs=some (.int g,fs)/\1<=g/\g<=2*M/\n<g*g:=by
 obtain⟨m,rfl⟩:=NC J;obtain⟨g,e,Y,r2,r3⟩:=xX U (.v (.int m)) fs m hn m 1 #[] (by have:=U.1;omega) ∅ ∅;refine#[g,j7 (s:=#[[.v (.int m),.v (.int g),.v (.int 0)],fs]) ?_,Y,r2,r3];show ja #[[.v (.int m),.no,.no],fs]=_;unfold ja;rw[e7 (s1:=#[[.v (.int m),.v (.int 1),.no],fs]) (by simp[e8,dC,Ow,Ox,d6])];rw[e7 (s1:=#[[.v (.int m),.v (.int 1),.v (.int m)],fs]) (by simp[e8,dV,d6])];rw[e7 e];exact m8 (by simp[dV])
theorem CY {g q r n:Int}(hg:0<g) (h1:n<g*q+g) (h2:r*r<=n):2*r<=g+q:=by
 have h:¬ (g+q<=2*r - 1):=by
  intro h;have Y:g*(q+1)<=g*(2*r - g):=KI ∅ ∅;have h4:g*(2*r - g)=r*r - (r - g)*(r - g):=by grind
  have J:0<=(r - g)*(r - g):=by
   rcases Int.le_total 0 (r - g) with z | z
   .exact JY z z
   .exact Int.mul_nonneg_of_nonpos_of_nonpos z z
  have U:g*(q+1)=g*q+g:=by grind
  omega
 omega
abbrev nT:DT:=dB (a9 (k9 (fun i j=>decide (i<j))) (dL 2) (dL 1))
abbrev nS:DM:=e8 (a9 u6 (a9 o9 (dL 1) (a9 u6 (dL 0) (dL 1))) (Ow 2)) (d6 2)
def nx (n g:Int):Int:=(g+n / g) / 2
def sA (hM:Sm M) (n g:Int) (x:Sl) (fs:vO_) (h1:1<=g) (h2:g<=2*M):nS #[[.v (.int n),.v (.int g),x],fs]=some (.next,#[[.v (.int n),.v (.int g),.v (.int (nx n g))],fs]):=by
 have U:D2 g=true:=hM.div h1 h2;have J:D2 2=true:=by decide
 have Y:=Lg n (show (0:Int)<=g by omega);have e2:=Lg (g+n / g) (show (0:Int)<=2 by decide);simp[e8,a9,dL,dC,Ow,Ox,d6,u6,o9,U,J,Y,e2,nx]
def ki {n g r:Int}(h1:1<=g) (J:T1 r n):r<=nx n g:=by
 have U:=NG n g;have Y:=Mt n (show g≠0 by omega);have m3:=Nx n (show 0<g by omega);have:=CY (q:=n / g) (show 0<g by omega) ∅ J.2.1;unfold nx;omega
def AM (Y:Sm M) (n r:Int) (J:T1 r n) (r1:1<=r) (fs:vO_) (k:Nat):∀g:Int,g.toNat=k->r<=g->g<=2*M ->
  ∃x,A9 nT (d8 (e8 (dV 2) (d6 1)) nS) #[[.v (.int n),.v (.int g),.v (.int (nx n g))],fs]=some (.next,#[[.v (.int n),.v (.int r),x],fs]):=by
 induction k using Nat.strongRecOn with
 |ind k ih=>
  intro g hk h1 h2;by_cases h:nx n g<g
  .obtain⟨x,e⟩:=ih (nx n g).toNat (by have:=ki (g:=g) ∅ J;omega) (nx n g) rfl (ki ∅ J) ∅;refine#[x,W4 (s1:=#[[.v (.int n),.v (.int g),.v (.int (nx n g))],fs]) (s2:=#[[.v (.int n),.v (.int (nx n g)),.v (.int (nx n (nx n g)))],fs]) (by simp[dB,a9,dL,k9,h]) ?_ e];rw[e7 (s1:=#[[.v (.int n),.v (.int (nx n g)),.v (.int (nx n g))],fs]) (by simp[e8,dV,d6])];exact sA Y n (nx n g) _ fs (by have:=ki (g:=g) ∅ J;omega) ∅
  .have m1:=NG n g;have m2:=Mt n (show g≠0 by omega);have hq:g<=n / g:=by unfold nx at h;omega
   have U:g*g<=g*(n / g):=KI hq ∅;have:g<=r:=oU J.1 (by have:=J.2.2;omega);have e:g=r:=by omega
   subst e;exact#[.v (.int (nx n g)),Z8 (by simp[dB,a9,dL,k9,h])]
theorem mX (Y:Sm M) (n r:Int) (J:T1 r n) (hn:n<M*M) (fs:vO_):R0 N5 [.int n] fs=some (.int r,fs):=by
 have hn0:0<=n:=by have:=JY J.1 J.1;have:=J.2.1;omega
 by_cases h0:n=0
 .subst h0;have e:r=0:=kc J #[by decide,by decide,by decide];subst e;refine j7 (s:=#[[.v (.int 0),.no,.no],fs]) ?_;show cE N5 #[[.v (.int 0),.no,.no],fs]=_;unfold cE;exact T8 (by simp[l7,dB,a9,dL,dC,Ow,Ox,S0,i5])
 .obtain⟨g,e,g1,g2,g3⟩:=above Y n hn0 hn fs;have r1:1<=r:=by
   rcases Li r 1 with z | z
   .have e:r=0:=by have:=J.1;omega
    subst e;have:=J.2.2;omega
   .exact z
  have U:r<=g:=by
   have h:=J.2.1;have e:(g - 1+1)*(g - 1+1)=g*g:=by grind
   have:r<=g - 1:=oU ∅ ∅;omega
  obtain⟨x,hw⟩:=AM Y n r J r1 fs g.toNat g rfl U g2;refine j7 (s:=#[[.v (.int n),.v (.int r),x],fs]) ?_;show cE N5 #[[.v (.int n),.no,.no],fs]=_;unfold cE;rw[e7 (s1:=#[[.v (.int n),.no,.no],fs]) (C9 (B1 (c7 rfl rfl ((S0 _ _).trans (by rw[ID h0])))))];rw[e7 (s1:=#[[.v (.int n),.v (.int g),.no],fs]) (f9 (f8 rfl e) rfl)];rw[e7 (sA Y n g .no fs g1 g2)];rw[e7 hw];exact m8 (by simp[dV])
def cB (n d J U:Int):D:=if J*J=n/\U*U=d then .tup [.int J,.int U] else .non
def sm {n r:Int}(U:Sm M) (J:T1 r n) (Y:n<M*M):r<M:=gA U J.2.1 Y J.1
def EF (Y:Sm M) (n d J U:Int) (h1:T1 J n) (h2:T1 U d) (hn:n<M*M) (hd:d<M*M) (fs:vO_):U9 (R0 N5) [.tup [.int n,.int d]] fs=some (cB n d J U,fs):=by
 have hn0:¬ n<0:=by have:=JY h1.1 h1.1;have:=h1.2.1;omega
 have s1:=sm Y h1 hn;have s2:=sm Y h2 hd;have b1:v7 J=true:=Y.bits h1.1 (by have:=Y.1;omega);have b2:v7 U=true:=Y.bits h2.1 (by have:=Y.1;omega);have sz:(2:Nat)<=sizeLine:=by decide
 refine j7 (s:=#[[.v (.tup [.int n,.int d]),.v (.int J),.v (.int U)],fs]) ?_;show jn (R0 N5) #[[.v (.tup [.int n,.int d]),.no,.no],fs]=_;unfold jn;rw[e7 (s1:=#[[.v (.tup [.int n,.int d]),.no,.no],fs]) (C9 (B1 (c7 (c7 rfl rfl rfl) rfl (congrArg (fun z=>some (D.bl z)) (ID hn0)))))];rw[e7 (s1:=#[[.v (.tup [.int n,.int d]),.v (.int J),.no],fs]) (f9 (f8 (d9 (c7 rfl rfl rfl) rfl) (mX Y n J h1 hn fs)) rfl)];rw[e7 (s1:=#[[.v (.tup [.int n,.int d]),.v (.int J),.v (.int U)],fs]) (f9 (f8 (d9 (c7 rfl rfl rfl) rfl) (mX Y d U h2 hd fs)) rfl)];have t1:∀z,(!decide (J*J=n))=z->dB (a9 C5 (a9 i8 (dL 1) (dL 1)) (Ox 0 0)) #[[.v (.tup [.int n,.int d]),.v (.int J),.v (.int U)],fs]=some (z,#[[.v (.tup [.int n,.int d]),.v (.int J),.v (.int U)],fs]):=fun z hz=>B1 (c7 (c7 rfl rfl (t7 b1 b1)) (c7 rfl rfl rfl) ((iP _ _).trans (by rw[hz])))
 have t2:∀z,(!decide (U*U=d))=z->dB (a9 C5 (a9 i8 (dL 2) (dL 2)) (Ox 0 1)) #[[.v (.tup [.int n,.int d]),.v (.int J),.v (.int U)],fs]=some (z,#[[.v (.tup [.int n,.int d]),.v (.int J),.v (.int U)],fs]):=fun z hz=>B1 (c7 (c7 rfl rfl (t7 b2 b2)) (c7 rfl rfl rfl) ((iP _ _).trans (by rw[hz])))
 by_cases c1:J*J=n
 .by_cases c2:U*U=d
  .rw[e7 (C9 (nU (t1 false (by rw[II c1];rfl)) (t2 false (by rw[II c2];rfl)))),cB,iO #[c1,c2]];exact m8 (v4 rfl rfl)
  .rw[cB,iU (fun z=>c2 z.2)];refine T8 ?_;rw[F7 (nU (t1 false (by rw[II c1];rfl)) (t2 true (by rw[ID c2];rfl)))];rfl
 .rw[cB,iU (fun z=>c1 z.1)];refine T8 ?_;rw[F7 (zI (t1 true (by rw[ID c1];rfl)))];rfl
end T
namespace DL
open PySem L2
structure Ok (k n:Nat) (d:D):Prop where
 pl:d.plain=true
 sh:d.py.showable=true
 la:d.py.canLay0=true
 dp:d.py.depth<=k
 le:d.py.leavesShort 1921=true
 bu:d.py.bulk<=n
structure OkL (k n:Nat) (ds:vD_):Prop where
 pl:D.plains ds=true
 sh:PyData.showableAll (D.pys ds)=true
 la:PyData.canLayAll0 (D.pys ds)=true
 dp:PyData.depthAll (D.pys ds)<=k
 le:PyData.leavesShortAll 1921 (D.pys ds)=true
 bu:PyData.bulkAll (D.pys ds)<=n
def Ok.mono {k J U:Nat}(h:Ok k n d) (Y:k<=J) (hn:n<=U):Ok J U d:=#[h.pl,h.sh,h.la,xr h.dp Y,h.le,xr h.bu hn]
def OkL.mono {k J U:Nat}(h:OkL k n ds) (Y:k<=J) (hn:n<=U):OkL J U ds:=#[h.pl,h.sh,h.la,xr h.dp Y,h.le,xr h.bu hn]
theorem Ok.bl (b:Bool):Ok 0 0 (.bl b):=#[rfl,rfl,rfl,tv _,rfl,tv _]
theorem Ok.int {i:Int}(h:Bd 1920 i):Ok 0 0 (.int i):=by
 have J:i.natAbs.log2<1920:=dF #[] h;refine#[rfl,?_,rfl,tv _,?_,tv _]
 .simp only[D.py,PyData.showable];exact II J
 .simp only[D.py,PyData.leavesShort,PyData.shown];exact II (De J)
theorem Ok.str (h:PyData.strOk x=true):Ok 0 x.length (.str x):=by
 refine#[rfl,rfl,?_,tv _,?_,tv _]
 .simp only[D.py,PyData.canLay0];exact h
 .exact PyData.leavesShort_of_canLay0 1921 (.str x) (by simp only[PyData.canLay0];exact h) rfl
def OkL.nil:OkL 0 0 []:=#[rfl,rfl,rfl,tv _,rfl,tv _]
def OkL.cons {k:Nat}(h:Ok k n d) (J:OkL l m ds):OkL (max k l) (n+1+m) (d::ds):=by
 refine#[?_,?_,?_,?_,?_,?_]
 .simp only[D.plains,h.pl,J.pl,Ko]
 .simp only[D.pys,PyData.showableAll,h.sh,J.sh,Ko]
 .simp only[D.pys,PyData.canLayAll0,h.la,J.la,Ko]
 .have:=h.dp;have:=J.dp;simp only[D.pys,PyData.depthAll];omega
 .simp only[D.pys,PyData.leavesShortAll,h.le,J.le,Ko]
 .have:=h.bu;have:=J.bu;simp only[D.pys,PyData.bulkAll];omega
theorem Ok.tup {k:Nat}(h:OkL k n ds):Ok (k+1) n (.tup ds):=by
 refine#[?_,?_,?_,?_,?_,?_]
 .simp only[D.plain,h.pl]
 .simp only[D.py,PyData.showable,h.sh]
 .simp only[D.py,PyData.canLay0,h.la]
 .have:=h.dp;simp only[D.py,PyData.depth];omega
 .simp only[D.py,PyData.leavesShort,h.le]
 .have:=h.bu;simp only[D.py,PyData.bulk];omega
theorem Ok.lst {k:Nat}(h:OkL k n ds):Ok (k+1) n (.lst ds):=by
 refine#[?_,?_,?_,?_,?_,?_]
 .simp only[D.plain,h.pl]
 .simp only[D.py,PyData.showable,h.sh]
 .simp only[D.py,PyData.canLay0,h.la]
 .have:=h.dp;simp only[D.py,PyData.depth];omega
 .simp only[D.py,PyData.leavesShort,h.le]
 .have:=h.bu;simp only[D.py,PyData.bulk];omega
theorem OkL.all {k:Nat}:∀{ds:vD_},(∀d∈ds,Ok k n d)->OkL k (ds.length*(n+1)) ds
 |[],_=>OkL.nil.mono ∅ ∅
 |d::r,h=>by
  have:=(OkL.cons (h d (IY ..)) (OkL.all (ds:=r) fun x J=>h x (IT _ J)))
  refine this.mono ∅ ?_;rw[Ja,Nat.add_mul,Nat.one_mul];omega
def Ok.show {k n:Nat}{d:D}(h:Ok k n d) (J:k<=64:=by decide) (U:n<=8000:=by decide):aj d=true:=by
 have e:=PyData.shown_le_bulk 1921 #[] d.py h.le;have Y:(1921+2)*d.py.bulk<=1923*8000:=KL #[] (xr h.bu U);have:d.py.shown.length<=sizeLine:=by rw[Kg];omega
 simp only[aj,h.pl,h.sh,h.la,LF,Bool.and_true,II this,II (xr h.dp J)]
def Ok.eq {k n:Nat}{d:D}(h:Ok k n d) (J:k<=64:=by decide):E1 d=true:=by
 simp only[E1,h.pl,SeqAt.shaped,h.la,LF,II (xr h.dp J)]
def Ok.repr {k n:Nat}{d:D}(h:Ok k n d) (J:k<=64:=by decide) (U:n<=8000:=by decide):M4 d=some (.str d.py.shown):=BT (h.show J U)
theorem Ok.fr {k:Nat}{p:Rat}(h:Sz k p) (J:k<=1920:=by decide):Ok 1 2 (fr p):=Ok.tup ((OkL.cons (Ok.int (h.num.mono J)) (OkL.cons (Ok.int (h.den.mono J)) OkL.nil)))
theorem Ok.pt {k:Nat}{a:Pt}(h:Ps k a) (J:k<=1920:=by decide):Ok 1 3 (pt a):=Ok.tup ((OkL.cons (Ok.int (h.x.mono J)) (OkL.cons (Ok.int (h.y.mono J)) (OkL.cons (Ok.int (h.l.mono J)) OkL.nil))))
def oX (x:Str):C5 (.str x) (.str x)=some (.bl false):=by rw[wM];simp
def Q4 (ds:vD_) (i:Int):d7 (.tup ds) (.int i)=p9 ds i:=rfl
def iy (ds:vD_) (i:Int):d7 (.lst ds) (.int i)=p9 ds i:=rfl
def F8 (p:Rat):d7 (DL.fr p) (.int 0)=some (.int p.num):=rfl
def D3 (p:Rat):d7 (DL.fr p) (.int 1)=some (.int p.den):=rfl
def cb (a:Pt):d7 (DL.pt a) (.int 0)=some (.int (pX a)):=rfl
def cV (a:Pt):d7 (DL.pt a) (.int 1)=some (.int (pY a)):=rfl
def Z7 (a:Pt):d7 (DL.pt a) (.int 2)=some (.int (pL a)):=rfl
def uA (ds:vD_) (n:Nat) (h:n<=ds.length):Q9 ds none (some (n:Int))=ds.take n:=by
 unfold Q9 HT.sIx;have h1:¬ (n:Int)<0:=by omega
 simp only[h1,Jw,Nb,Me,Kc];rw[Ng h]
def vb (ds:vD_) (n:Nat) (h:n<=ds.length):Q9 ds (some (n:Int)) none=ds.drop n:=by
 unfold Q9 HT.sIx;have h1:¬ (n:Int)<0:=by omega
 simp only[h1,Jw,Kc];rw[Ng h];exact NH (by rw[JV];omega)
theorem ui {idx:List Nat}{g:D->D}(caps:List Sl) (fs:vO_):∀(ds:vD_),(∀d∈ds,∃s,fe #[.v d::caps,fs]=some (g d,s)/\s.fs=fs)->C0 (fun d=>some (.v d::caps)) A8 fe ds fs=some (ds.map g,fs)
 |[],_=>rfl
 |d::r,h=>by
  obtain⟨s,e,q⟩:=h d (IY ..);have U:=ui (idx:=idx) caps fs r fun x J=>h x (IT _ J)
  simp[C0,A8,e,q,U]
def i7 {α:Type}(c:Bool) (l:List α):List (α × α):=l.zip (if c then l.drop 1++l.take 1 else l.drop 1)
def L5 (p:D × D):D:=.tup [p.1,p.2]
def dH:D->Pt
 |.tup [.int x,.int y,.int d]=>(Rat.divInt x d,Rat.divInt y d)
 |_=>(0,0)
def jR {α β:Type}(f:α->β) (c:Bool) (l:List α):i7 c (l.map f)=(i7 c l).map fun p=>(f p.1,f p.2):=by
 unfold i7;cases c
 .simp only[JX,Jw];rw[<-NI,List.zip_map];rfl
 .simp only[Jh];rw[<-NI,<-List.map_take,<-Kp,List.zip_map];rfl
def fM {α:Type}(c:Bool) (l:List α):(i7 c l).length<=l.length:=by
 unfold i7;rw[Ll];exact Mn ..
def jS {α:Type}{l:List α}{p:α × α}(h:p∈i7 c l):p.1∈l/\p.2∈l:=by
 unfold i7 at h;obtain⟨h1,h2⟩:=Kw (a:=p.1) (b:=p.2) h;refine#[h1,?_];cases c
 .simp only[JX,Jw] at h2;exact List.mem_of_mem_drop h2
 .simp only[Jh] at h2;rcases JT.mp h2 with h | h
  .exact List.mem_of_mem_drop h
  .exact NJ h
theorem kB:∀(xs ys:vD_),List.zipWith O8 xs ys=(xs.zip ys).map L5
 |[],_=>by simp
 |_::_,[]=>by simp
 |x::xs,y::ys=>by
  rw[Nn,List.zip_cons_cons,Js,kB xs ys];rfl
def vI (a:Pt):dH (pt a)=a:=by
 show (Rat.divInt (pX a) (pL a),Rat.divInt (pY a) (pL a))=a;rw[T.px_div,T.py_div]
def lo (c:Bool):Nat:=if c then 3 else 2
def hi (c:Bool):Nat:=if c then 8 else 9
def rD (ds:vD_):Q9 ds (some 1) none=ds.drop 1:=by
 cases ds with
 |nil=>rfl
 |cons d r=>exact vb (d::r) 1 (by simp)
def Fz (ds:vD_):Q9 ds none (some 1)=ds.take 1:=by
 cases ds with
 |nil=>rfl
 |cons d r=>exact uA (d::r) 1 (by simp)
theorem rF {g:D × D->D}(fs:vO_):∀(qs:List (D × D)),(∀q∈qs,∃s,fe #[.v q.1 :: .v q.2::L4 idx sl,fs]=some (g q,s)/\s.fs=fs)->C0 (V1 idx sl) A8 fe (qs.map L5) fs=some (qs.map g,fs)
 |[],_=>rfl
 |q::r,h=>by
  obtain⟨s,e,Y⟩:=h q (IY ..);have U:=rF fs r fun x J=>h x (IT _ J)
  simp[C0,A8,V1,L5,e,Y,U]
end DL
namespace T
open PySem L2 DL
def wL (ds:vD_) (c:Bool) (fs:vO_) (J:ds.length+1<=sizeLine):P4 [.tup ds,.bl c] fs=some (.lst ((i7 c ds).map L5),fs):=by
 refine j7 (s:=#[[.v (.tup ds),.v (.bl c)],fs]) ?_;show jb #[[.v (.tup ds),.v (.bl c)],fs]=_;have h1:ds.length - 1+min 1 ds.length<=sizeLine:=by omega
 cases c
 .simp![jb,Q4,iy,F8,D3,cb,cV,Z7,Q2,P6,P5,cz,bN,T3,rD,i7,kB]
 .simp![jb,Q4,iy,F8,D3,cb,cV,Z7,Q2,P6,P5,cz,bN,T3,rD,Fz,i7,kB,h1]
abbrev cy:c6:=S8 P4
def si (ds:vD_) (c:Bool) (fs:vO_) (J:ds.length+1<=sizeLine):cy [.tup [.bl c,.tup ds]] fs=some (.tup ((i7 c ds).map L5),fs):=by
 refine j7 (s:=#[[.v (.tup [.bl c,.tup ds])],fs]) ?_;show iC P4 #[[.v (.tup [.bl c,.tup ds])],fs]=_;have e:=wL ds c fs J;simp![iC,Q4,iy,F8,D3,cb,cV,Z7,jI,gC,e,J9]
def Z3 (n:Int):Int:=Classical.choose (sH n.toNat)
def jf {n:Int}(h:0<=n):T1 (Z3 n) n:=by
 have e:T1 (Z3 n) ((n.toNat:Nat):Int):=Classical.choose_spec (sH n.toNat);have J:((n.toNat:Nat):Int)=n:=Int.toNat_of_nonneg h;rw[J] at e;exact e
def bS (q:Rat):D:=cB q.num q.den (Z3 q.num) (Z3 q.den)
def jT:Sm (2 ^ 1000):=#[by decide +kernel,by decide +kernel]
def xk:((2:Int) ^ 1000)*2 ^ 1000=((2 ^ 2000:Nat):Int):=by decide +kernel
abbrev jL:c6:=U9 (R0 N5)
def dY (h:0<=q):0<=q.num:=Rat.num_nonneg.mpr h
def li (J:Sz 2000 q):q.num<(2:Int) ^ 1000*2 ^ 1000/\(q.den:Int)<(2:Int) ^ 1000*2 ^ 1000:=by
 rw[xk];have h1:=J.1;have h2:=J.2;generalize (2:Nat) ^ 2000=W at *;omega
def EL (U:0<=q) (J:Sz 2000 q) (fs:vO_):jL [fr q] fs=some (bS q,fs):=
 EF jT q.num q.den _ _ (jf (dY U)) (jf ∅) (li J).1 (li J).2 fs
def tO (a b:Pt):0<=E6 a b:=by unfold E6;exact Rat.add_nonneg (qf _) (qf _)
def rz {a b:Pt}(U:PtS 200 a) (J:PtS 200 b):Sz 1605 (E6 a b):=by
 have h1:=(U.1.sub J.1).mul (U.1.sub J.1);have h2:=(U.2.sub J.2).mul (U.2.sub J.2);exact h1.add h2
def N8 (p:Pt × Pt):D:=.tup [pt p.1,pt p.2]
def lW (c:Bool) (ps:vT_):(i7 c (ps.map pt)).map L5=(i7 c ps).map N8:=by
 rw[jR,KN];rfl
end T
namespace DL
open PySem L2
def bX {α:Type}(c:Bool) (l:List α):(i7 c l).length=l.length - 1+(if c then min 1 l.length else 0):=by
 unfold i7;cases c
 .show (l.zip (l.drop 1)).length=l.length - 1+0;rw[Ll,JV,Nh (Nat.sub_le ..)];rfl
 .show (l.zip (l.drop 1++l.take 1)).length=l.length - 1+min 1 l.length;rw[Ll,Jb,JV,Kb];exact Nh ∅
def xG {α:Type}{l:List α}(h:j<(i7 c l).length):∃a b,l[j]? = some a/\l[(j+1) % l.length]? = some b/\(i7 c l)[j]? = some (a,b):=by
 have J:=bX c l;have hj:j<l.length:=IJ h (fM c l);cases U:(i7 c l)[j]? with
 |none=>rw[List.getElem?_eq_none_iff] at U;omega
 |some p=>
  obtain⟨h1,h2⟩:=Ld.mp (show (l.zip (if c then l.drop 1++l.take 1 else l.drop 1))[j]? = some p from U);refine#[p.1,p.2,h1,?_,rfl];cases c
  .simp only[JX,Jw] at h2 J;rw[NK] at h2;rw[NL ∅,Kz];exact h2
  .simp only[Jh] at h2 J;by_cases Y:j+1<l.length
   .rw[JL (by rw[JV];omega),NK] at h2;rw[NL Y,Kz];exact h2
   .have e:j+1=l.length:=by omega
    rw[JU (by rw[JV];omega),JV,show j - (l.length - 1)=0 by omega,List.getElem?_take] at h2;rw[e,Nat.mod_self];simpa using h2
def R9 {α:Type}{xs:List α}{x:α}(h:xs[i]? = some x):p9 xs (i:Int)=some x:=by
 have hi:=(Jj.mp h).1;rw[lH ∅ ∅];simpa using h
def fH {α:Type}{xs:List α}{x:α}(h:xs[xs.length - 1]? = some x):p9 xs (-1)=some x:=by
 have hi:=(Jj.mp h).1;unfold p9 U5;rw[iU ∅,iO ∅];show xs[_]? = _;rw[show ((-1:Int)+xs.length).toNat=xs.length - 1 by omega];exact h
end DL
namespace T
open PySem L2 DL
abbrev ip:c6:=X9 cy jL (R5 FF)
def eS (c:Bool) (ps:vT_):List D:=(i7 c ps).map fun p=>bS (E6 p.1 p.2)
def Iz {ps:vT_}(J:ps.length<=9):((i7 c (ps.map pt)).map L5).length<=sizeLine/\(ps.map pt).length+1<=sizeLine:=by
 have h1:(ps.map pt).length=ps.length:=td ..;constructor
 .rw[td];have:=fM c (ps.map pt);rw[Kg];omega
 .rw[Kg];omega
def FD {f:DE}{s:DS}(h:f s=some (.tup ds,s1)):F6 f s=some (ds,s1):=by
 unfold F6;rw[h];rfl
def xJ (ps:vT_) (c:Bool) (fs:vO_) (hp:∀p∈ps,PtS 200 p) (hl:ps.length<=9):ip [.tup [.bl c,.tup (ps.map pt)]] fs=some (.tup (eS c ps),fs):=by
 refine j7 (s:=#[[.v (.tup [.bl c,.tup (ps.map pt)])],fs]) ?_;show tL cy jL (R5 FF) #[[.v (.tup [.bl c,.tup (ps.map pt)])],fs]=_;obtain⟨J,U⟩:=Iz (c:=c) hl;have e:=si (ps.map pt) c fs U;have cm:=rF (idx:=[]) (sl:=[.v (.tup [.bl c,.tup (ps.map pt)])]) (fe:=c8 jL (a7 (c8 (R5 FF) (a7 (dV 0) (a7 (dV 1) a8))) a8)) (g:=fun q=>bS (E6 (dH q.1) (dH q.2))) fs (i7 c (ps.map pt)) (by
  intro q hq;rw[jR] at hq;obtain⟨p,Y,rfl⟩:=IW.mp hq;obtain⟨m1,m2⟩:=jS Y;have s1:=hp _ m1;have s2:=hp _ m2;have sq:=Di p.1 p.2 fs (Ps.of s1.1 s1.2) (Ps.of s2.1 s2.2) #[];have rt:=EL (tO p.1 p.2) ((rz s1 s2).mono #[]) fs;refine#[#[.v (pt p.1) :: .v (pt p.2)::L4 [] [.v (.tup [.bl c,.tup (ps.map pt)])],fs],?_,rfl];simp only[vI];exact f8 (d9 (f8 (d9 rfl (d9 rfl rfl)) sq) rfl) rt)
 have al:(i7 c (ps.map pt)).map (fun q=>bS (E6 (dH q.1) (dH q.2)))=eS c ps:=by
  unfold eS;rw[jR,KN];exact List.map_congr_left fun p _=>by simp[vI]
 rw[al] at cm;exact m8 (C7 (p:=J9) (A6 (eJ (s1:=#[[.v (.tup [.bl c,.tup (ps.map pt)])],fs]) (FD (f8 rfl e)) J cm)) rfl)
def xC (c:Bool) (ds:vD_) (h:1<=ds.length) (g:D->D) (hg:∀i:Nat,g (.int (i:Int)) = .tup [((ds++ds.take (if c then 1 else 0))[i]?).getD .non,((ds++ds.take (if c then 1 else 0))[i+1]?).getD .non]) :
  (D0 0 (i7 c ds).length).map g=(i7 c ds).map L5:=by
 apply Mc;intro i;by_cases hi:i<(i7 c ds).length
 .obtain⟨a,b,q1,Y,q3⟩:=xG hi;have u:(D0 0 (i7 c ds).length)[i]? = some (.int (i:Int)):=by
   unfold D0;rw[Jl,List.getElem?_range hi];simp
  rw[Jl,u,Jl,q3];simp only[MX,hg];have J:=bX c ds;have r1:(ds++ds.take (if c then 1 else 0))[i]? = some a:=by
   have:i<ds.length:=by
    rcases Nat.lt_or_ge i ds.length with z | z
    .exact z
    .rw[LK z] at q1;cases q1
   rw[JL this];exact q1
  have r2:(ds++ds.take (if c then 1 else 0))[i+1]? = some b:=by
   by_cases z:i+1<ds.length
   .rw[JL z];rw[NL z] at Y;exact Y
   .cases c with
    |false=>simp at J;omega
    |true=>
     have e:i+1=ds.length:=by simp at J;omega
     rw[e,Nat.mod_self] at Y;rw[e,JU (tv _),KO];simp only[Jh];rw[NV #[]];exact Y
  rw[r1,r2];rfl
 .have U:(i7 c ds).length<=i:=by omega
  rw[LK (by rw[td];unfold D0;rw[td,NM];exact U)];rw[LK (by rw[td];exact U)]
def cY (S:vD_):D->D
 |.int k=>.tup [(S[k.toNat]?).getD .non,(S[k.toNat+1]?).getD .non]
 |_=>.non
def Ie (S:vD_) (fs:vO_) (m:Nat) (hS:S.length=m+1):∀d∈D0 0 m,∃s,c9 (a7 (a9 d7 (dL 1) (dL 0)) (a7 (a9 d7 (dL 1) (a9 o9 (dL 0) (Ow 1))) a8)) #[.v d::[.v (.tup S)],fs]=some (cY S d,s)/\s.fs=fs:=by
 intro d hd;obtain⟨i,hi⟩:=LL hd;obtain⟨rfl,J⟩:=eZ hi;rw[NO];have a1:p9 S (i:Int)=some S[i]:=R9 (xs:=S) (i:=i) (x:=S[i]) (by rw[Ji ∅]);have Y:p9 S ((i:Int)+1)=some S[i+1]:=by
  have:=R9 (xs:=S) (i:=i+1) (x:=S[i+1]) (by rw[Ji ∅])
  rwa [Int.natCast_add] at this
 refine#[#[[.v (.int (i:Int)),.v (.tup S)],fs],?_,rfl];have U:cY S (.int (i:Int)) = .tup [S[i],S[i+1]]:=by
  simp only[cY,Kc];rw[Ji ∅,Ji ∅];rfl
 rw[U];exact v4 (c7 rfl rfl ((Q4 _ _).trans a1)) (c7 rfl (c7 rfl rfl rfl) ((Q4 _ _).trans Y))
end T
namespace DL
open PySem L2
def uN (f:FS) (h:f.kind=1):f.tget 0=some (.lst (f.cells.map .int)):=by unfold FS.tget;rw[iU ∅,iO rfl]
end DL
namespace T
open PySem L2 DL
def U8 {a b:Int}(h:b≠0):y8 (.int a) (.int b)=some (.int (a.fmod b)):=iO h
def mj {a b:Int}(h:D2 b=true):u6 (.int a) (.int b)=some (.int (a.fdiv b)):=iO h
def tm {k n:Int}{f:DE}{s:DS}{z:Fl × DS}(h:f s=some (.int n,s1)) (h2:Y3 i k (fun _=>some (.int n,s1)) s=some z):Y3 i k f s=some z:=by
 rw[<-h2];unfold Y3;rw[h]
abbrev v8:c6:=Y0
def Fm (f:FS) (J:Int) (hm:0<J) (hm2:J<2 ^ 100) (ht:0<=f.pos) (ht2:f.pos<2 ^ 40) (hk:f.kind=1) :
  ∃r f',v8 [.feed,.int J] (some f)=some (.int r,some f')/\0<=r/\r<J/\f.pos<=f'.pos/\f'.pos<=f.pos+1/\f'.kind=1:=by
 have dm:D2 J=true:=wR ∅ ∅;have hne:J≠0:=by omega
 obtain⟨cs,ps,U,Y,kd⟩:=f;simp only at ht ht2 hk ⊢;subst hk;by_cases hl:0<U
 .refine#[U.fmod J,#[cs,ps,U.fdiv J,Y,1],j7 (s:=#[[.v .feed,.v (.int J),.v (.int (U.fmod J)),.no,.no,.no],some #[cs,ps,U.fdiv J,Y,1]]) ?_,(X4 hm).1,(X4 hm).2,Int.le_refl _,MF (Int.lt_succ _),rfl];have t0:dB (a9 (k9 (fun i j=>decide (j<i))) (D1 0 2) (Ow 0)) #[[.v .feed,.v (.int J),.no,.no,.no,.no],some #[cs,ps,U,Y,1]]=some (true,#[[.v .feed,.v (.int J),.no,.no,.no,.no],some #[cs,ps,U,Y,1]]):=B1 (c7 rfl rfl (show some (D.bl (decide (0<U)))=_ by rw[II hl]));have e1:a9 y8 (D1 0 2) (dL 1) #[[.v .feed,.v (.int J),.no,.no,.no,.no],some #[cs,ps,U,Y,1]]=some (.int (U.fmod J),#[[.v .feed,.v (.int J),.no,.no,.no,.no],some #[cs,ps,U,Y,1]]):=c7 rfl rfl (U8 hne);have e2:a9 u6 (D1 0 2) (dL 1) #[[.v .feed,.v (.int J),.v (.int (U.fmod J)),.no,.no,.no],some #[cs,ps,U,Y,1]]=some (.int (U.fdiv J),#[[.v .feed,.v (.int J),.v (.int (U.fmod J)),.no,.no,.no],some #[cs,ps,U,Y,1]]):=c7 rfl rfl (mj dm);show aC #[[.v .feed,.v (.int J),.no,.no,.no,.no],some #[cs,ps,U,Y,1]]=_;unfold aC;refine T8 ?_;rw[F7 t0,e7 (s1:=#[[.v .feed,.v (.int J),.v (.int (U.fmod J)),.no,.no,.no],some #[cs,ps,U,Y,1]]) (f9 e1 rfl),e7 (s1:=#[[.v .feed,.v (.int J),.v (.int (U.fmod J)),.no,.no,.no],some #[cs,ps,U.fdiv J,Y,1]]) (tm e2 rfl)];exact m8 rfl
 .have cell:∃c:Int,∀a b:Sl,l7 (dB (a9 (k9 (fun i j=>decide (j<i))) (i9 (one j5) (a7 (D1 0 0) a8)) (Ow 0))) (e8 (a9 d7 (D1 0 0) (a9 y8 (dL 3) (i9 (one j5) (a7 (D1 0 0) a8)))) (d6 4)) n8 #[[.v .feed,a,.no,.v (.int ps),.v (.int 0),b],some #[cs,ps+1,U,Y,1]] =
    some (.next,#[[.v .feed,a,.no,.v (.int ps),.v (.int c),b],some #[cs,ps+1,U,Y,1]]):=by
   by_cases hc:0<cs.length
   .have hi:=X4 (a:=ps) (b:=(cs.length:Int)) ∅;obtain⟨c,hg⟩:∃c:Int,p9 (cs.map D.int) (ps.fmod (cs.length:Int))=some (.int c):=by
     have:(ps.fmod (cs.length:Int)).toNat<cs.length:=by omega
     refine#[cs[(ps.fmod (cs.length:Int)).toNat],?_];rw[lH hi.1 (by rw[td];exact hi.2),Jl,Ji this];rfl
    refine#[c,fun a b=>?_];have hn:cs≠[]:=by intro z;rw[z] at hc;simp at hc
    simp! only[e8,d6,y8,d7,hn,hc,hg]
   .refine#[0,fun a b=>?_];have hz:cs=[]:=Nm ∅;subst hz;simp! only[n8]
  obtain⟨c,hcell⟩:=cell;have hc1:=X4 (a:=c) (b:=1000033) #[];have t0:dB (a9 (k9 (fun i j=>decide (j<i))) (D1 0 2) (Ow 0)) #[[.v .feed,.v (.int J),.no,.no,.no,.no],some #[cs,ps,U,Y,1]]=some (false,#[[.v .feed,.v (.int J),.no,.no,.no,.no],some #[cs,ps,U,Y,1]]):=B1 (c7 rfl rfl (show some (D.bl (decide (0<U)))=_ by rw[ID hl]));have pre:∀rest:DM,d8 (l7 (dB (a9 (k9 (fun i j=>decide (j<i))) (D1 0 2) (Ow 0))) (d8 (e8 (a9 y8 (D1 0 2) (dL 1)) (d6 2)) (d8 (Y3 0 2 (a9 u6 (D1 0 2) (dL 1))) (i5 (dV 2)))) n8) (d8 (e8 (D1 0 1) (d6 3)) (d8 (Y3 0 1 (a9 o9 (dL 3) (Ow 1))) (d8 (e8 (Ow 0) (d6 4)) (d8 (l7 (dB (a9 (k9 (fun i j=>decide (j<i))) (i9 (one j5) (a7 (D1 0 0) a8)) (Ow 0))) (e8 (a9 d7 (D1 0 0) (a9 y8 (dL 3) (i9 (one j5) (a7 (D1 0 0) a8)))) (d6 4)) n8) rest))))
    #[[.v .feed,.v (.int J),.no,.no,.no,.no],some #[cs,ps,U,Y,1]]=rest #[[.v .feed,.v (.int J),.no,.v (.int ps),.v (.int c),.no],some #[cs,ps+1,U,Y,1]]:=fun rest=>by
   rw[e7 (s1:=#[[.v .feed,.v (.int J),.no,.no,.no,.no],some #[cs,ps,U,Y,1]]) (C9 t0)];rw[e7 (s1:=#[[.v .feed,.v (.int J),.no,.v (.int ps),.no,.no],some #[cs,ps,U,Y,1]]) rfl];rw[e7 (s1:=#[[.v .feed,.v (.int J),.no,.v (.int ps),.no,.no],some #[cs,ps+1,U,Y,1]]) rfl];rw[e7 (s1:=#[[.v .feed,.v (.int J),.no,.v (.int ps),.v (.int 0),.no],some #[cs,ps+1,U,Y,1]]) rfl];rw[e7 (hcell _ _)]
  have test:B4 (dB (a9 (k9 (fun i j=>decide (j<=i))) (dL 4) (a9 P8 (Ow 10) (Ow 18)))) (dB (a9 (k9 (fun i j=>decide (i<j))) (dL 3) (i9 (one j5) (a7 (D1 0 0) a8)))) #[[.v .feed,.v (.int J),.no,.v (.int ps),.v (.int c),.no],some #[cs,ps+1,U,Y,1]] =
    some (decide (1000000000000000000<=c)&&decide (ps<(cs.length:Int)),#[[.v .feed,.v (.int J),.no,.v (.int ps),.v (.int c),.no],some #[cs,ps+1,U,Y,1]]):=by
   have p18:P8 (.int 10) (.int 18)=some (.int 1000000000000000000):=by simp[P8]
   have t1:dB (a9 (k9 (fun i j=>decide (j<=i))) (dL 4) (a9 P8 (Ow 10) (Ow 18))) #[[.v .feed,.v (.int J),.no,.v (.int ps),.v (.int c),.no],some #[cs,ps+1,U,Y,1]]=some (decide (1000000000000000000<=c),#[[.v .feed,.v (.int J),.no,.v (.int ps),.v (.int c),.no],some #[cs,ps+1,U,Y,1]]):=B1 (c7 rfl (c7 rfl rfl p18) rfl);have t2:dB (a9 (k9 (fun i j=>decide (i<j))) (dL 3) (i9 (one j5) (a7 (D1 0 0) a8))) #[[.v .feed,.v (.int J),.no,.v (.int ps),.v (.int c),.no],some #[cs,ps+1,U,Y,1]]=some (decide (ps<((cs.map D.int).length:Int)),#[[.v .feed,.v (.int J),.no,.v (.int ps),.v (.int c),.no],some #[cs,ps+1,U,Y,1]]):=B1 (c7 rfl (C7 (p:=j5) rfl rfl) rfl);rw[td] at t2;cases h1:decide (1000000000000000000<=c) with
   |true=>
    rw[h1] at t1;exact S9 t1 t2
   |false=>
    rw[h1] at t1;exact bj t1
  by_cases hb:(decide (1000000000000000000<=c)&&decide (ps<(cs.length:Int)))=true
  .refine#[c.fmod J,#[cs,ps+1,c.fdiv J,Y,1],j7 (s:=#[[.v .feed,.v (.int J),.no,.v (.int ps),.v (.int c),.no],some #[cs,ps+1,c.fdiv J,Y,1]]) ?_,(X4 hm).1,(X4 hm).2,by simp;omega,by simp,rfl];show aC #[[.v .feed,.v (.int J),.no,.no,.no,.no],some #[cs,ps,U,Y,1]]=_;unfold aC;rw[pre];rw[hb] at test;refine T8 ?_;rw[F7 test];rw[e7 (s1:=#[[.v .feed,.v (.int J),.no,.v (.int ps),.v (.int c),.no],some #[cs,ps+1,c.fdiv J,Y,1]]) (tm (c7 (s1:=#[[.v .feed,.v (.int J),.no,.v (.int ps),.v (.int c),.no],some #[cs,ps+1,U,Y,1]]) rfl rfl (mj dm)) rfl)];exact m8 (c7 rfl rfl (U8 hne))
  .have hb':(decide (1000000000000000000<=c)&&decide (ps<(cs.length:Int)))=false:=by simpa using hb
   have q:∃M:Int,e8 (a9 y8 (a9 i8 (a9 o9 (a9 o9 (a9 y8 (dL 4) (Ow 1000033)) (a9 i8 (a9 i8 (Ow 37) (dL 3)) (dL 3))) (Ow 11)) (Ow 69621)) (Ow 999983)) (d6 5)
     #[[.v .feed,.v (.int J),.no,.v (.int ps),.v (.int c),.no],some #[cs,ps+1,U,Y,1]]=some (.next,#[[.v .feed,.v (.int J),.no,.v (.int ps),.v (.int c),.v (.int M)],some #[cs,ps+1,U,Y,1]])/\0<=M/\M<999983:=by
    have b1:v7 37=true:=by decide
    have b2:v7 ps=true:=cG ∅;have b3:v7 (37*ps)=true:=cG ∅;have p2:0<=37*ps*ps:=JY ∅ ∅;have p3:37*ps*ps<=37*2 ^ 40*2 ^ 40:=Int.mul_le_mul ∅ ∅ ∅ #[];have b4:v7 (c.fmod 1000033+37*ps*ps+11)=true:=cG ∅;have b5:v7 69621=true:=by decide
    refine#[((c.fmod 1000033+37*ps*ps+11)*69621).fmod 999983,?_,X4 #[]];exact f9 (c7 (c7 (c7 (c7 (c7 rfl rfl (U8 #[])) (c7 (c7 rfl rfl (t7 b1 b2)) rfl (t7 b3 b2)) rfl) rfl rfl) rfl (t7 b4 b5)) rfl (U8 #[])) rfl
   obtain⟨M,e1,m1,m2⟩:=q;have b7:v7 M=true:=cG ∅;have b8:v7 48271=true:=by decide
   have b9:v7 6007=true:=by decide
   have b10:v7 ps=true:=cG ∅;have r1:=X4 (a:=M*48271+ps*6007) (b:=999979) #[];have b11:v7 ((M*48271+ps*6007).fmod 999979)=true:=cG ∅;have b12:v7 40692=true:=by decide
   have d64:D2 64=true:=by decide
   refine#[((((M*48271+ps*6007).fmod 999979*40692).fmod 1048573).fdiv 64).fmod J,#[cs,ps+1,U,Y,1],j7 (s:=#[[.v .feed,.v (.int J),.no,.v (.int ps),.v (.int c),.v (.int M)],some #[cs,ps+1,U,Y,1]]) ?_,(X4 hm).1,(X4 hm).2,by simp;omega,by simp,rfl];show aC #[[.v .feed,.v (.int J),.no,.no,.no,.no],some #[cs,ps,U,Y,1]]=_;unfold aC;rw[pre];rw[hb'] at test;rw[e7 (by rw[mo test];rfl)];rw[e7 e1];exact m8 (c7 (c7 (c7 (c7 (c7 (c7 (c7 rfl rfl (t7 b7 b8)) (c7 rfl rfl (t7 b10 b9)) rfl) rfl (U8 #[])) rfl (t7 b11 b12)) rfl (U8 #[])) rfl (mj d64)) rfl (U8 hne))
def Fd3 (n:Nat) (f:FS):Prop:=0<=f.pos/\f.pos<=n/\f.kind=1
def Fd3.mono {f:FS}(h:Fd3 n f) (J:n<=m):Fd3 m f:=#[h.1,by have:=h.2.1;omega,h.2.2]
def E3 {n:Nat}{f:FS}(J:Int) (h:Fd3 n f) (Y:0<J:=by omega) (hn:n<2 ^ 30:=by omega) (U:J<2 ^ 100:=by omega) :
  ∃r f',v8 [.feed,.int J] (some f)=some (.int r,some f')/\0<=r/\r<J/\Fd3 (n+1) f':=by
 obtain⟨r,f',e,h0,h1,h2,h3,h4⟩:=Fm f J Y U h.1 (by have:=h.2.1;omega) h.2.2;exact#[r,f',e,h0,h1,by have:=h.1;omega,by have:=h.2.1;omega,h4]
def Hm (ns:List Int):bA [.scr ns] none=some (.feed,some #[ns,0,0,0,1]):=by
 refine j7 (s:=#[[.v (.scr ns)],some #[ns,0,0,0,1]]) ?_;show lT #[[.v (.scr ns)],none]=_;simp[lT,i5,je]
def Fd3.zero (ns:List Int):Fd3 0 #[ns,0,0,0,1]:=#[by simp,by simp,rfl]
abbrev Gb:DT:=dB (a9 (k9 (fun i j=>decide (j<i))) (dL 1) (Ow 0))
abbrev Dq:DM:=J0 0 1 (a7 (dV 1) (a7 (a9 y8 (dL 0) (dL 1)) a8))
def xH (fs:vO_) (r:Nat):∀(g:Nat),A9 Gb Dq #[[.v (.int g),.v (.int r)],fs]=some (.next,#[[.v (.int (Nat.gcd g r)),.v (.int 0)],fs]):=by
 induction r using Nat.strongRecOn with
 |ind r J=>
  intro g;by_cases h:r=0
  .subst h;rw[Nat.gcd_zero_right];exact Z8 (by simp![d7])
  .have e:((g:Int).fmod (r:Int))=((g % r:Nat):Int):=by rw[KH _ ∅];rfl
   have U:=J (g % r) (Nat.mod_lt _ ∅) r;have Y:Nat.gcd g r=Nat.gcd r (g % r):=by rw[LI g r,Nat.gcd_rec,LI]
   rw[Y];refine W4 (s1:=#[[.v (.int g),.v (.int r)],fs]) (s2:=#[[.v (.int r),.v (.int ((g % r:Nat):Int))],fs]) (by simp![d7];omega) ?_ U;rw[<-e];simp[J0,a7,a8,dV,a9,dL,y8,h]
abbrev dU:c6:=u5
def lD (a b:Int) (fs:vO_):dU [.int a,.int b] fs=some (.int (Int.gcd a b),fs):=by
 have J:=xH fs b.natAbs a.natAbs;refine j7 (s:=#[[.v (.int (Nat.gcd a.natAbs b.natAbs)),.v (.int 0)],fs]) ?_;show jA #[[.v (.int a),.v (.int b)],fs]=_;unfold jA;rw[e7 (s1:=#[[.v (.int a.natAbs),.v (.int b.natAbs)],fs]) (by simp![d7,ar,mL])];rw[e7 J];refine m8 ?_;simp[dV,Int.gcd]
abbrev cD:c6:=u8 dU
def dD {k:Nat}(a b:Int) (fs:vO_) (U:b≠0) (h:Bd k b) (Y:k<=8000):cD [.int a,.int b] fs=some (fr (Rat.divInt a b),fs):=by
 obtain⟨p0,p1,p2⟩:=vN a b U;have dg:=lg (a:=a) U h Y;have e:=lD a b fs;refine j7 (s:=#[[.v (.int a),.v (.int b),.v (.int (if b<0 then -(Int.gcd a b:Int) else (Int.gcd a b:Int)))],fs]) ?_;show jF dU #[[.v (.int a),.v (.int b),.no],fs]=_;unfold jF;rw[e7 (s1:=#[[.v (.int a),.v (.int b),.v (.int (Int.gcd a b))],fs]) (by simp![d7,e])];rw[e7 (s1:=#[[.v (.int a),.v (.int b),.v (.int (if b<0 then -(Int.gcd a b:Int) else (Int.gcd a b:Int)))],fs]) (by
  by_cases J:b<0
  .simp![d7,J]
  .simp![d7,J])]
 generalize hg:(if b<0 then -(Int.gcd a b:Int) else (Int.gcd a b:Int))=gg at *;refine m8 ?_;unfold fr;rw[<-p1,<-p2];simp![d7,u6,dg,og]
abbrev D4:c6:=L8 cD
abbrev Q1:c6:=U7 cD
abbrev E9:c6:=S3 cD
abbrev et:c6:=bw cD
abbrev U0:c6:=dk dU
def U4 {k:Nat}(p q:Rat) (fs:vO_) (h1:Sz k p) (h2:Sz l q) (Y:k+l<=8000):D4 [fr p,fr q] fs=some (fr (p+q),fs):=by
 have b1:=h1.num.bits ∅;have J:=h1.den.bits ∅;have b3:=h2.num.bits ∅;have U:=h2.den.bits ∅;have e:=dD (p.num*q.den+q.num*p.den) (p.den*q.den) fs (jo p q) (Bd.mul h1.den h2.den) Y;rw[<-pN] at e;refine j7 (s:=#[[.v (fr p),.v (fr q)],fs]) ?_;exact m8 (f8 (d9 (c7 (c7 (c7 rfl rfl (F8 p)) (c7 rfl rfl (D3 q)) (t7 b1 U)) (c7 (c7 rfl rfl (F8 q)) (c7 rfl rfl (D3 p)) (t7 b3 J)) rfl) (d9 (c7 (c7 rfl rfl (D3 p)) (c7 rfl rfl (D3 q)) (t7 J U)) rfl)) e)
def yk (p q:Rat):p - q=Rat.divInt (p.num*q.den - q.num*p.den) (p.den*q.den):=by
 have e:p - q=p + -q:=Mz p q;rw[e,pN,Rat.neg_num,Rat.neg_den,Int.neg_mul,Int.sub_eq_add_neg]
def aU {k:Nat}(p q:Rat) (fs:vO_) (h1:Sz k p) (h2:Sz l q) (Y:k+l<=8000):Q1 [fr p,fr q] fs=some (fr (p - q),fs):=by
 have b1:=h1.num.bits ∅;have J:=h1.den.bits ∅;have b3:=h2.num.bits ∅;have U:=h2.den.bits ∅;have e:=dD (p.num*q.den - q.num*p.den) (p.den*q.den) fs (jo p q) (Bd.mul h1.den h2.den) Y;rw[<-yk] at e;refine j7 (s:=#[[.v (fr p),.v (fr q)],fs]) ?_;exact m8 (f8 (d9 (c7 (c7 (c7 rfl rfl (F8 p)) (c7 rfl rfl (D3 q)) (t7 b1 U)) (c7 (c7 rfl rfl (F8 q)) (c7 rfl rfl (D3 p)) (t7 b3 J)) rfl) (d9 (c7 (c7 rfl rfl (D3 p)) (c7 rfl rfl (D3 q)) (t7 J U)) rfl)) e)
def cR {k:Nat}(a b c d:Int) (fs:vO_) (hb:b≠0) (hd:d≠0) (h1:Bd k a) (h2:Bd k b) (Y:Bd l c) (J:Bd l d) (U:k+l<=8000):E9 [.tup [.int a,.int b],.tup [.int c,.int d]] fs=some (fr (Rat.divInt (a*c) (b*d)),fs):=by
 have b1:=h1.bits ∅;have b2:=h2.bits ∅;have b3:=Y.bits ∅;have b4:=J.bits ∅;have e:=dD (a*c) (b*d) fs (JH hb hd) (Bd.mul h2 J) U;refine j7 (s:=#[[.v (.tup [.int a,.int b]),.v (.tup [.int c,.int d])],fs]) ?_;exact m8 (f8 (d9 (c7 (c7 rfl rfl rfl) (c7 rfl rfl rfl) (t7 b1 b3)) (d9 (c7 (c7 rfl rfl rfl) (c7 rfl rfl rfl) (t7 b2 b4)) rfl)) e)
def W7 {k:Nat}(p q:Rat) (fs:vO_) (h1:Sz k p) (h2:Sz l q) (J:k+l<=8000):E9 [fr p,fr q] fs=some (fr (p*q),fs):=by
 have e:=cR p.num p.den q.num q.den fs (K8 p) (K8 q) h1.num h1.den h2.num h2.den J;rw[<-nQ] at e;exact e
def hX {k:Nat}(a:Pt) (fs:vO_) (h:Ps k a) (J:k<=8000):et [pt a] fs=some (.tup [fr a.1,fr a.2],fs):=by
 have U:=dD (pX a) (pL a) fs (Z4 a) h.l J;have Y:=dD (pY a) (pL a) fs (Z4 a) h.l J;rw[px_div] at U;rw[py_div] at Y;refine j7 (s:=#[[.v (pt a)],fs]) ?_;exact m8 (v4 (f8 (d9 (c7 rfl rfl (cb a)) (d9 (c7 rfl rfl (Z7 a)) rfl)) U) (f8 (d9 (c7 rfl rfl (cV a)) (d9 (c7 rfl rfl (Z7 a)) rfl)) Y))
def gN {k:Nat}(p q:Rat) (fs:vO_) (h1:Sz k p) (h2:Sz l q) (hk:k+l<=8000):U0 [fr p,fr q] fs=some (pt (p,q),fs):=by
 have b1:=h1.num.bits ∅;have U:=h1.den.bits ∅;have b3:=h2.num.bits ∅;have Y:=h2.den.bits ∅;have hd:=jo p q;have hp:¬ (p.den:Int)*q.den<0:=by have:=Lm (V5 p) (V5 q);omega
 obtain⟨g0,p1,p2,p3⟩:=qE (p.num*q.den) (q.num*p.den) (p.den*q.den) hd;have J:=vG (x:=p.num*q.den) (y:=q.num*p.den) hd (Bd.mul h1.den h2.den) hk;rw[iU hp] at g0 p1 p2 p3 J;rw[EC,GU] at p1 p2 p3;have w1:=lD (p.num*q.den) (q.num*p.den) fs;have w2:=lD (Int.gcd (p.num*q.den) (q.num*p.den):Int) (p.den*q.den) fs;generalize (Int.gcd (Int.gcd (p.num*q.den) (q.num*p.den):Int) (p.den*q.den):Int)=gg at *;refine j7 (s:=#[[.v (fr p),.v (fr q),.v (.tup [.int (p.num*q.den),.int (q.num*p.den),.int (p.den*q.den)]),.v (.int gg)],fs]) ?_;show nC dU #[[.v (fr p),.v (fr q),.no,.no],fs]=_;unfold nC;rw[e7 (s1:=#[[.v (fr p),.v (fr q),.v (.tup [.int (p.num*q.den),.int (q.num*p.den),.int (p.den*q.den)]),.no],fs]) (f9 (uQ (c7 (c7 rfl rfl (F8 p)) (c7 rfl rfl (D3 q)) (t7 b1 Y)) (c7 (c7 rfl rfl (F8 q)) (c7 rfl rfl (D3 p)) (t7 b3 U)) (c7 (c7 rfl rfl (D3 p)) (c7 rfl rfl (D3 q)) (t7 U Y))) rfl)];rw[e7 (s1:=#[[.v (fr p),.v (fr q),.v (.tup [.int (p.num*q.den),.int (q.num*p.den),.int (p.den*q.den)]),.v (.int gg)],fs]) (f9 (f8 (d9 (f8 (d9 (c7 rfl rfl rfl) (d9 (c7 rfl rfl rfl) rfl)) w1) (d9 (c7 rfl rfl rfl) rfl)) w2) rfl)];refine m8 ?_;unfold pt;rw[<-p1,<-p2,<-p3];exact C7 (p:=J9) (A6 (aa (idx:=[3]) (ds:=[.int (p.num*q.den),.int (q.num*p.den),.int (p.den*q.den)]) (s1:=#[[.v (fr p),.v (fr q),.v (.tup [.int (p.num*q.den),.int (q.num*p.den),.int (p.den*q.den)]),.v (.int gg)],fs]) rfl yV (mE J fs [p.num*q.den,q.num*p.den,p.den*q.den]))) rfl
abbrev mq:c6:=dR D4 E9 Q1 et
theorem yy (a b:Pt):(b.1 - a.1)*(b.1 - a.1)+(b.2 - a.2)*(b.2 - a.2)=E6 a b:=by unfold E6;grind
def GP (a b:Pt) (fs:vO_) (J:PtS 200 a) (U:PtS 200 b):mq [pt a,pt b] fs=some (fr (E6 a b),fs):=by
 have xa:=hX a fs (Ps.of J.1 J.2) #[];have xb:=hX b fs (Ps.of U.1 U.2) #[];have m1:=aU b.1 a.1 fs U.1 J.1 #[];have m2:=aU b.2 a.2 fs U.2 J.2 #[];have Y:=U.1.sub J.1;have z2:=U.2.sub J.2;have p1:=W7 _ _ fs Y Y #[];have p2:=W7 _ _ fs z2 z2 #[];have s3:=U4 _ _ fs (Y.mul Y) (z2.mul z2) #[];rw[yy] at s3;refine j7 (s:=#[[.v (pt a),.v (pt b),.v (fr a.1),.v (fr a.2),.v (fr b.1),.v (fr b.2),.v (fr (b.1 - a.1)),.v (fr (b.2 - a.2))],fs]) ?_;show im D4 E9 Q1 et #[[.v (pt a),.v (pt b),.no,.no,.no,.no,.no,.no],fs]=_;unfold im;rw[e7 (s1:=#[[.v (pt a),.v (pt b),.v (fr a.1),.v (fr a.2),.v (fr b.1),.v (fr b.2),.no,.no],fs]) (f9 (v4 (f8 (d9 rfl rfl) xa) (f8 (d9 rfl rfl) xb)) rfl)];rw[e7 (s1:=#[[.v (pt a),.v (pt b),.v (fr a.1),.v (fr a.2),.v (fr b.1),.v (fr b.2),.v (fr (b.1 - a.1)),.v (fr (b.2 - a.2))],fs]) (by simp[J0,c8,a7,a8,dV,m1,m2])];exact m8 (f8 (d9 (f8 (d9 rfl (d9 rfl rfl)) p1) (d9 (f8 (d9 rfl (d9 rfl rfl)) p2) rfl)) s3)
def Sm.bits4 {g:Int}(J:Sm M) (U:0<=g) (h:g<=4*M):v7 g=true:=by
 refine Bd.bits (k:=4004) ?_ #[];unfold Bd;have e:(2:Nat) ^ 4004=16*2 ^ 4000:=by rw[show (4004:Nat)=4000+4 from rfl,Nat.pow_add];omega
 have h2:M<=((2 ^ 4000:Nat):Int):=by have:=J.2;rw[Int.natCast_pow];exact this
 have p:0<(2:Nat) ^ 4000:=Nat.pow_pos #[];rw[e];omega
def vJ (j:Nat):(2:Int) ^ (j+1)=2 ^ j*2:=Int.pow_succ ..
def iz (j:Nat):(1:Int)<=2 ^ j:=by have:(0:Int)<2 ^ j:=Int.pow_pos #[];omega
abbrev L6 (n r s:Int) (fs:vO_):DS:=#[[.v (.int n),.v (.int r),.v (.int s)],fs]
abbrev DU:DT:=dB (a9 (k9 (fun i j=>decide (i<=j))) (a9 i8 (dL 2) (dL 2)) (dL 0))
abbrev iH:DT:=dB (a9 (k9 (fun i j=>decide (j<i))) (dL 2) (Ow 0))
def CP (U:Sm M) (n:Int) (hn:n<M*M) (fs:vO_) (k:Nat):∀j:Nat,(2*M - 2 ^ j).toNat=k->(2:Int) ^ j<=2*M ->
  ∃j':Nat,A9 DU tD (L6 n 0 (2 ^ j) fs)=some (.next,L6 n 0 (2 ^ j') fs)/\(2:Int) ^ j'<=2*M/\n<2 ^ j'*2 ^ j':=by
 induction k using Nat.strongRecOn with
 |ind k ih=>
  intro j hk h2;have h1:=iz j;have up:=vJ j;have J:v7 (2 ^ j)=true:=U.bits ∅ h2;by_cases c:(2:Int) ^ j*2 ^ j<=n
  .have hs:=gA U c hn ∅;obtain⟨j',e,r⟩:=ih (2*M - 2 ^ (j+1)).toNat ∅ (j+1) rfl ∅;have Y:v7 2=true:=by decide
   rw[up] at e;generalize (2:Int) ^ j=h at *;exact#[j',W4 (s1:=L6 n 0 h fs) (s2:=L6 n 0 (h*2) fs) (by simp[dB,a9,dL,k9,i8,J,c]) (by simp[e8,a9,dL,dC,Ow,Ox,d6,i8,J,Y]) e,r]
  .refine#[j,?_,h2,by omega];generalize (2:Int) ^ j=h at *;exact Z8 (by simp[dB,a9,dL,k9,i8,J,c])
def Ft (hM:Sm M) (n:Int) (hn:n<M*M) (fs:vO_):∀(j:Nat) (r:Int),0<=r->(2:Int) ^ j<=2*M->r*r<=n->n<(r+2 ^ j*2)*(r+2 ^ j*2) ->
  ∃r',A9 iH jp (L6 n r (2 ^ j) fs)=some (.next,L6 n r' 0 fs)/\T1 r' n:=by
 have one:∀(r s t:Int),0<=r->1<=s->s<=2*M->r*r<=n->n<(r+s*2)*(r+s*2)->s.fdiv 2=t ->
   ∃r',0<=r'/\r'*r'<=n/\n<(r'+s)*(r'+s)/\∀e,A9 iH jp (L6 n r' t fs)=some e->A9 iH jp (L6 n r s fs)=some e:=by
  intro r s t U h1 h2 J Y ht;have hr:=gA hM J hn U;have bb:v7 (r+s)=true:=hM.bits4 ∅ ∅;have d2:D2 2=true:=by decide
  have s0:0<s:=by omega
  have tt:iH (L6 n r s fs)=some (true,L6 n r s fs):=B1 (c7 rfl rfl (show some (D.bl (decide (0<s)))=_ by rw[II s0]));have ts:dB (a9 (k9 (fun i j=>decide (i<=j))) (a9 i8 (a9 o9 (dL 1) (dL 2)) (a9 o9 (dL 1) (dL 2))) (dL 0)) (L6 n r s fs)=some (decide ((r+s)*(r+s)<=n),L6 n r s fs):=B1 (c7 (c7 (c7 rfl rfl rfl) (c7 rfl rfl rfl) (t7 bb bb)) rfl rfl);have dv:∀r,e8 (a9 u6 (dL 2) (Ow 2)) (d6 2) (L6 n r s fs)=some (.next,L6 n r t fs):=fun r=>f9 (c7 rfl rfl (show (if D2 2 then some (D.int (s.fdiv 2)) else none)=some (.int t) by rw[iO d2,ht])) rfl
  by_cases c:(r+s)*(r+s)<=n
  .refine#[r+s,by omega,c,by rw[show r+s+s=r+s*2 by omega];exact Y,fun e he=>W4 tt ?_ he];rw[II c] at ts;exact(e7 (s1:=L6 n (r+s) s fs) ((F7 ts).trans (f9 (c7 rfl rfl rfl) rfl))).trans (dv _)
  .refine#[r,U,J,by omega,fun e he=>W4 tt ?_ he];rw[ID c] at ts;exact(e7 (s1:=L6 n r s fs) (C9 ts)).trans (dv _)
 intro j;induction j with
 |zero=>
  intro r U h2 J Y;obtain⟨r',a,b,c,d⟩:=one r 1 0 U #[] h2 J Y #[];exact#[r',d _ (Z8 (by simp[dB,a9,dL,dC,Ow,Ox,k9])),a,b,c]
 |succ j ih=>
  intro r U h2 J Y;have h1:=iz (j+1);have up:=vJ j;have hd:((2:Int) ^ (j+1)).fdiv 2=2 ^ j:=by rw[up];exact Int.mul_fdiv_cancel _ #[]
  obtain⟨r',a,b,c,d⟩:=one r (2 ^ (j+1)) (2 ^ j) U h1 h2 J Y hd;obtain⟨r2,e,q⟩:=ih r' a (by have:=iz j;omega) b (by rw[<-up];exact c);exact#[r2,d _ e,q]
def tQ {n:Int}(h0:0<=n) (J:n<(2:Int) ^ 1000*2 ^ 1000) (fs:vO_):be [.int n] fs=some (.int (Z3 n),fs):=by
 obtain⟨j,Y,h2,h3⟩:=CP jT n J fs _ 0 rfl (by decide +kernel);have p:=iz j;obtain⟨r,e2,hr⟩:=Ft jT n J fs j 0 #[] h2 ∅ (by
  have:(2:Int) ^ j*2 ^ j<=(0+2 ^ j*2)*(0+2 ^ j*2):=fD ∅ ∅;omega)
 have U:=kc hr (jf h0);subst U;refine j7 (s:=L6 n (Z3 n) 0 fs) ?_;show iA #[[.v (.int n),.no,.no],fs]=_;unfold iA;rw[e7 (s1:=#[[.v (.int n),.v (.int 0),.no],fs]) (f9 rfl rfl),e7 (s1:=L6 n 0 (2 ^ 0) fs) (f9 rfl rfl),e7 Y,e7 e2];exact m8 rfl
abbrev hV:c6:=fK be mq
def tR (r:Rat):(r*r).num=r.num*r.num/\((r*r).den:Int)=r.den*r.den:=by
 have U:(0:Int)<r.den*r.den:=Lm (V5 r) (V5 r);have g:Int.gcd (r.num*r.num) ((r.den:Int)*r.den)=1:=by
  have J:Nat.Coprime r.num.natAbs r.den:=r.reduced;show Nat.gcd (r.num*r.num).natAbs ((r.den:Int)*r.den).natAbs=1;rw[JG,JG,Int.natAbs_natCast];exact Nat.Coprime.mul_left (Om J J) (Om J J)
 rw[nQ,Em U,Eo U,g];simp
theorem pE {s:Int}(h:0<=s):Z3 (s*s)=s:=kc (jf (JY h h)) #[h,Int.le_refl _,by
 have e:(s+1)*(s+1)=s*s+2*s+1:=by grind
 omega]
def qL {r:Rat}(h:0<=r):Z3 (r*r).num=r.num/\Z3 (r*r).den=r.den:=by
 obtain⟨h1,h2⟩:=tR r;rw[h1,h2];exact#[pE (dY h),pE ∅]
def zE {r:Rat}(h:0<=r):bS (r*r)=fr r:=by
 obtain⟨h1,h2⟩:=tR r;obtain⟨U,J⟩:=qL h;unfold bS cB;rw[U,J,h1,h2,iO #[rfl,rfl]];rfl
def Ea (a b:Pt) (r:Rat) (fs:vO_) (Y:PtS 200 a) (hb:PtS 200 b) (h0:0<=r) (h:E6 a b=r*r):hV [pt a,pt b] fs=some (fr r,fs):=by
 have e:=GP a b fs Y hb;have qs:Sz 2000 (E6 a b):=(rz Y hb).mono #[];obtain⟨n1,n2⟩:=li qs;have J:=tQ (dY (tO a b)) n1 fs;have U:=tQ (show (0:Int)<=(E6 a b).den by omega) n2 fs;obtain⟨h3,h4⟩:=qL h0;rw[h] at J U e;rw[h3] at J;rw[h4] at U;refine j7 (s:=#[[.v (pt a),.v (pt b),.v (.int (r*r).num),.v (.int (r*r).den)],fs]) ?_;show iK be mq #[[.v (pt a),.v (pt b),.no,.no],fs]=_;unfold iK;rw[e7 (s1:=#[[.v (pt a),.v (pt b),.v (.int (r*r).num),.v (.int (r*r).den)],fs]) (f9 (f8 rfl e) rfl)];exact m8 (v4 (f8 rfl J) (f8 rfl U))
def Gr (B:Nat) (x:Rat):Prop:=∃n:Int,n.natAbs<=B/\x=Rat.divInt n 6630
def Gr.mono {C:Nat}{x:Rat}(h:Gr B x) (J:B<=C):Gr C x:=by
 obtain⟨n,a,e⟩:=h;exact#[n,xr a J,e]
theorem Gr.add {C:Nat}{x y:Rat}(h1:Gr B x) (h2:Gr C y):Gr (B+C) (x+y):=by
 obtain⟨n,a,rfl⟩:=h1;obtain⟨m,b,rfl⟩:=h2;refine#[n+m,xr (Mw ..) (MG a b),?_];rw[IE,IE,IE,JA];grind
def Gr.sz {x:Rat}(h:Gr B x) (J:B<2 ^ 80):Sz 80 x:=by
 obtain⟨n,a,rfl⟩:=h;exact Sz.of_divInt #[] (Jf a J) #[]
def Gr.div {a b:Int}(hb:0<b) (J:(6630:Int) % b=0) (U:a.natAbs*6630<=B):Gr B (Rat.divInt a b):=by
 obtain⟨c,Y⟩:=Oo J;have c0:0<c:=by
  rcases Li 0 c with z | z
  .exact z
  .have:b*c<=b*0:=KI z ∅;omega
 have c1:c<=6630:=by
  have:1*c<=b*c:=Int.mul_le_mul_of_nonneg_right ∅ ∅;omega
 refine#[a*c,?_,?_]
 .rw[JG];exact xr (Nat.mul_le_mul_left _ ∅) U
 .rw[Y,Lj ∅]
def Gf (B:Nat) (x:Rat):Prop:=∃n:Int,n.natAbs<=B/\x=Rat.divInt n 351138060
def Gf.mono {C:Nat}{x:Rat}(h:Gf B x) (J:B<=C):Gf C x:=by
 obtain⟨n,a,e⟩:=h;exact#[n,xr a J,e]
theorem Gf.add {C:Nat}{x y:Rat}(h1:Gf B x) (h2:Gf C y):Gf (B+C) (x+y):=by
 obtain⟨n,a,rfl⟩:=h1;obtain⟨m,b,rfl⟩:=h2;refine#[n+m,xr (Mw ..) (MG a b),?_];rw[IE,IE,IE,JA];grind
def Gf.sz {x:Rat}(h:Gf B x) (J:B<2 ^ 81):Sz 81 x:=by
 obtain⟨n,a,rfl⟩:=h;exact Sz.of_divInt #[] (Jf a J) #[]
def Gr.fine {x:Rat}(h:Gr B x):Gf (B*52962) x:=by
 obtain⟨n,a,rfl⟩:=h;refine#[n*52962,?_,?_]
 .rw[JG];exact Nat.mul_le_mul_right _ a
 .rw[show (351138060:Int)=6630*52962 from rfl,Lj #[]]
abbrev Y1:c6:=gH v8
def eN:List D:=[.tup [.int 0,.int 1],.tup [.int 1,.int 1],.tup [.int (-1),.int 2],.tup [.int 5,.int 3],.tup [.int (-7),.int 1],.tup [.int 3,.int 2]]
def R6:List (Int × Int):=[(0,1),(1,1),(-1,2),(5,3),(-7,1),(3,2)]
def EZ:(R6.all fun z=>decide ((Rat.divInt z.1 z.2).num=z.1/\((Rat.divInt z.1 z.2).den:Int)=z.2/\0<z.2/\(6630:Int) % z.2=0/\z.1.natAbs*6630<=46410))=true:=by decide +kernel
def qO {r:Int}(h0:0<=r) (h1:r<6):∃p:Rat,p9 eN r=some (fr p)/\Gr 46410 p:=by
 obtain⟨x,hx,e⟩:=P7 (xs:=eN) h0 h1;obtain⟨z,J,rfl⟩:=IW.mp (show x∈R6.map (fun z=>D.tup [.int z.1,.int z.2]) from hx);obtain⟨Y,U,q3,q4,q5⟩:=IZ (Jc.mp EZ z J);refine#[Rat.divInt z.1 z.2,?_,Gr.div q3 q4 q5];unfold fr;rw[Y,U];exact e
def w9 {i:Int}(h:p9 ds i=some d):d7 (.lst ds) (.int i)=some d:=(iy ds i).trans h
def tM {f:FS}(h:Fd3 n f) (hn:n<2 ^ 29):∃p q f',Y1 [.feed] (some f)=some (.tup [fr p,fr q],some f')/\Gr 46410 p/\Gr 46410 q/\Fd3 (n+2) f':=by
 obtain⟨r1,f1,e1,a1,Y,h1⟩:=E3 6 h;obtain⟨r2,J,e2,b1,b2,h2⟩:=E3 6 h1;obtain⟨p,U,g1⟩:=qO a1 Y;obtain⟨q,q2,g2⟩:=qO b1 b2;refine#[p,q,J,j7 (s:=#[[.v .feed,.own eN,.v (fr p)],some J]) ?_,g1,g2,h2];show iq v8 #[[.v .feed,.no,.no],some f]=_;unfold iq;rw[e7 (s1:=#[[.v .feed,.own eN,.no],some f]) (D8 (s1:=#[[.v .feed,.no,.no],some f]) rfl (by decide:1<3))];rw[e7 (s1:=#[[.v .feed,.own eN,.v (fr p)],some f1]) (f9 (c7 rfl (u7 rfl e1) (w9 U)) rfl)];exact m8 (v4 rfl (c7 rfl (u7 rfl e2) (w9 q2)))
abbrev bi:c6:=nD v8
def j3 (w:Int × Int × Int):D:=.tup [.int w.1,.int w.2.1,.int w.2.2]
def C3 (z:Int × Int):D:=.tup [.int z.1,.int z.2]
def ways0:List (Int × Int × Int):=[(1,0,1),(0,1,1),(-1,0,1),(0,-1,1)]
def dw (a b h:Int):List (Int × Int × Int):=[(h,0,h),(0,h,h),(-h,0,h),(0,-h,h),(a,b,h),(-b,a,h),(-a,-b,h),(b,-a,h),(b,a,h),(-a,b,h),(-b,-a,h),(a,-b,h)]
def Eb (g:Int):List (Int × Int):=[(g*1,1),(g*2,1),(g*1,2),(g*40,1),(g*7,3)]
def yY (g h:Int):List (Int × Int):=[(g*h,1),(g*1,1),(g*h,2),(g*2,1)]
def BZ (w:Int × Int × Int) (z:Int × Int):Bool:=decide (0<z.1/\0<z.2/\z.1<=40000000000000/\z.2<=3/\6630 % (z.2*w.2.2)=0)
def nX (Z:List (Int × Int)) (w:Int × Int × Int):Bool:=decide (w.1*w.1+w.2.1*w.2.1=w.2.2*w.2.2/\0<w.2.2/\w.2.2<=17/\w.1.natAbs<=17/\w.2.1.natAbs<=17)&&Z.all (BZ w)
def uO (W:List (Int × Int × Int)):Bool:=W.all fun a=>W.all fun b=>decide (a=b\/a.1*b.2.2≠b.1*a.2.2\/a.2.1*b.2.2≠b.2.1*a.2.2)
def rW (W:List (Int × Int × Int)) (Z:List (Int × Int)):Bool:=W.all (nX Z)&&decide (W.length<=12/\1<=Z.length/\Z.length<=5)&&W.any fun a=>W.any fun b=>!decide (a=b)
def jq (W:List (Int × Int × Int)) (Z:List (Int × Int)):Bool:=rW W Z&&uO W
def wT {r:Int}(J:0<=r) (h1:r<8):∃g:Int,(g=1\/g=1000000000000)/\p9 [D.int 1,.int 1,.int 1,.int 1,.int 1,.int 1,.int 1,.int 1000000000000] r=some (.int g):=by
 obtain⟨x,U,e⟩:=P7 (xs:=[D.int 1,.int 1,.int 1,.int 1,.int 1,.int 1,.int 1,.int 1000000000000]) J h1;rcases JT.mp (show x∈List.replicate 7 (D.int 1)++[.int 1000000000000] from U) with z | z
 .rw[List.eq_of_mem_replicate z] at e;exact#[1,.inl rfl,e]
 .rw[Jo.mp z] at e;exact#[_,.inr rfl,e]
def BL {g t:Int}(J:g=1\/g=1000000000000) (U:t.natAbs<=40):i8 (.int g) (.int t)=some (.int (g*t)):=by
 refine t7 ?_ (Bd.bits (k:=10) (show t.natAbs<2 ^ 10 by omega) #[]);rcases J with rfl | rfl <;> decide +kernel
abbrev um:DE:=c9 (a7 (a9 i8 (dL 2) (dL 0)) (a7 (dV 1) a8))
theorem kD {g:Int}(J:g=1\/g=1000000000000) (sl:List Sl) (U:L4 [1] sl=[.v (.int g)]) (fs:vO_):∀zs:List (Int × Int),(∀z∈zs,z.1.natAbs<=40)->C0 (V1 [1] sl) A8 um (zs.map C3) fs=some ((zs.map fun z=>(g*z.1,z.2)).map C3,fs)
 |[],_=>rfl
 |z::r,h=>by
  have Y:=kD J sl U fs r fun y hy=>h y (IT _ hy)
  have m:=BL J (h z (IY ..));rw[Js,C0];have e:V1 [1] sl (C3 z)=some [.v (.int z.1),.v (.int z.2),.v (.int g)]:=by
   show some (.v (.int z.1) :: .v (.int z.2)::L4 [1] sl)=_;rw[U]
  rw[e,xo];have y:A8 #[[.v (.int z.1),.v (.int z.2),.v (.int g)],fs]=some (true,#[[.v (.int z.1),.v (.int z.2),.v (.int g)],fs]):=rfl;have el:um #[[.v (.int z.1),.v (.int z.2),.v (.int g)],fs]=some (C3 (g*z.1,z.2),#[[.v (.int z.1),.v (.int z.2),.v (.int g)],fs]):=v4 (c7 rfl rfl m) rfl;rw[y,xo,iO rfl,el,xo,Y];rfl
def Q8 (h:n<=100):n<=sizeLine:=xr h #[]
def nW:List D:=[.tup [.int 3,.int 4,.int 5],.tup [.int 3,.int 4,.int 5],.tup [.int 5,.int 12,.int 13],.tup [.int 8,.int 15,.int 17]]
def bG {xs ys:vD_}(h:xs.length+ys.length<=100):U1 (.lst xs) (.lst ys)=some (xs++ys):=iO (Q8 h)
abbrev N7 (g c a b h:Int) (x7 x8 x9:Sl) (f:FS):DS:=#[[.v .feed,.v (.int g),.v (.int c),.no,.v (.int a),.v (.int b),.v (.int h),x7,x8,x9],some f]
def vQ (g c a b h x y:Int) (xs:vD_) (U J:Sl) (f:FS) (Y:xs.length<=50) (r:vD_):B2 (u9 2 (j4 (d6 8) (j4 (d6 9) v5))) (kh v8) (.tup [.int x,.int y]::r) (N7 g c a b h (.own xs) U J f) =
  B2 (u9 2 (j4 (d6 8) (j4 (d6 9) v5))) (kh v8) r (N7 g c a b h (.own (xs++[j3 (x,y,h),j3 (-y,x,h),j3 (-x,-y,h),j3 (y,-x,h)])) (.v (.int x)) (.v (.int y)) f):=
 T9 (s1:=N7 g c a b h (.own xs) (.v (.int x)) (.v (.int y)) f) (s2:=N7 g c a b h (.own (xs++[j3 (x,y,h),j3 (-y,x,h),j3 (-x,-y,h),j3 (y,-x,h)])) (.v (.int x)) (.v (.int y)) f) rfl
  (D8 (s1:=N7 g c a b h (.own xs) (.v (.int x)) (.v (.int y)) f) (am rfl (A6 (ds:=[j3 (x,y,h),j3 (-y,x,h),j3 (-x,-y,h),j3 (y,-x,h)]) (s1:=N7 g c a b h (.own xs) (.v (.int x)) (.v (.int y)) f) rfl) (bG (by show xs.length+4<=100;omega))) (by decide:7<10))
def gW {g c a b h Y:Int}{J f1 f:FS}(e1:v8 [.feed,.int 8] (some J)=some (.int Y,some f1)) (q1:p9 [D.int 1,.int 1,.int 1,.int 1,.int 1,.int 1,.int 1,.int 1000000000000] Y=some (.int g)) (e2:v8 [.feed,.int 5] (some f1)=some (.int c,some f))
  (hg:g=1\/g=1000000000000) (hc:c≠0) (q:p9 nW (c - 1)=some (.tup [.int a,.int b,.int h])) (hh:h.natAbs<=40):bi [.feed] (some J)=some (.tup [.lst ((dw a b h).map j3),.lst ((yY g h).map C3)],some f):=by
 refine j7 (s:=N7 g c a b h (.v (.lst ((dw a b h).map j3))) (.v (.int b)) (.v (.int a)) f) ?_;show dZ v8 #[[.v .feed,.no,.no,.no,.no,.no,.no,.no,.no,.no],some J]=_;unfold dZ;rw[e7 (s1:=#[[.v .feed,.v (.int g),.no,.no,.no,.no,.no,.no,.no,.no],some f1]) (f9 (c7 (s1:=#[[.v .feed,.no,.no,.no,.no,.no,.no,.no,.no,.no],some J]) rfl (u7 rfl e1) (w9 q1)) rfl),
  e7 (s1:=#[[.v .feed,.v (.int g),.v (.int c),.no,.no,.no,.no,.no,.no,.no],some f]) (f9 (u7 rfl e2) rfl),
  e7 (s1:=#[[.v .feed,.v (.int g),.v (.int c),.no,.no,.no,.no,.no,.no,.no],some f]) (by simp[l7,dB,a9,dL,dC,Ow,Ox,S0,hc,n8]),
  e7 (s1:=N7 g c a b h .no .no .no f) (f9 (c7 (x:=.lst nW) (s1:=#[[.v .feed,.v (.int g),.v (.int c),.no,.no,.no,.no,.no,.no,.no],some f]) (A6 rfl) (c7 rfl rfl rfl) (w9 q)) rfl),
  e7 (s1:=N7 g c a b h (.own [j3 (h,0,h),j3 (0,h,h),j3 (-h,0,h),j3 (0,-h,h)]) .no .no f) (D8 (s1:=N7 g c a b h .no .no .no f) rfl (by decide:7<10)),
  e7 (s1:=N7 g c a b h (.own ((dw a b h).map j3)) (.v (.int b)) (.v (.int a)) f) (by
   rw[rj (ds:=[.tup [.int a,.int b],.tup [.int b,.int a]]) (s1:=N7 g c a b h (.own [j3 (h,0,h),j3 (0,h,h),j3 (-h,0,h),j3 (0,-h,h)]) .no .no f) (A6 rfl)];rw[vQ g c a b h a b [j3 (h,0,h),j3 (0,h,h),j3 (-h,0,h),j3 (0,-h,h)] .no .no f (show 4<=50 by decide),
    vQ g c a b h b a ([j3 (h,0,h),j3 (0,h,h),j3 (-h,0,h),j3 (0,-h,h)]++[j3 (a,b,h),j3 (-b,a,h),j3 (-a,-b,h),j3 (b,-a,h)]) (.v (.int a)) (.v (.int b)) f (show 8<=50 by decide)]
   rfl)]
 refine m8 (v4 (s1:=N7 g c a b h (.v (.lst ((dw a b h).map j3))) (.v (.int b)) (.v (.int a)) f) rfl (A6 ?_));have c:=kD hg (N7 g c a b h (.v (.lst ((dw a b h).map j3))) (.v (.int b)) (.v (.int a)) f).sl rfl (some f) [(h,1),(1,1),(h,2),(2,1)] (by
  intro z U;simp only[IH,Jq,Jr] at U;rcases U with rfl | rfl | rfl | rfl
  .exact hh
  .decide
  .exact hh
  .decide)
 exact eJ (ds:=[(h,1),(1,1),(h,2),(2,1)].map C3) (s1:=N7 g _ a b h (.v (.lst ((dw a b h).map j3))) (.v (.int b)) (.v (.int a)) f) rfl (Q8 (show 4<=100 by decide)) c
def Et {g U:Int}{J f1 f:FS}(e1:v8 [.feed,.int 8] (some J)=some (.int U,some f1)) (Y:p9 [D.int 1,.int 1,.int 1,.int 1,.int 1,.int 1,.int 1,.int 1000000000000] U=some (.int g)) (e2:v8 [.feed,.int 5] (some f1)=some (.int 0,some f))
  (hg:g=1\/g=1000000000000):bi [.feed] (some J)=some (.tup [.lst (ways0.map j3),.lst ((Eb g).map C3)],some f):=by
 refine j7 (s:=#[[.v .feed,.v (.int g),.v (.int 0),.v (.lst ([(1,1),(2,1),(1,2),(40,1),(7,3)].map C3)),.no,.no,.no,.no,.no,.no],some f]) ?_;show dZ v8 #[[.v .feed,.no,.no,.no,.no,.no,.no,.no,.no,.no],some J]=_;unfold dZ;rw[e7 (s1:=#[[.v .feed,.v (.int g),.no,.no,.no,.no,.no,.no,.no,.no],some f1]) (f9 (c7 (s1:=#[[.v .feed,.no,.no,.no,.no,.no,.no,.no,.no,.no],some J]) rfl (u7 rfl e1) (w9 Y)) rfl),
  e7 (s1:=#[[.v .feed,.v (.int g),.v (.int 0),.no,.no,.no,.no,.no,.no,.no],some f]) (f9 (u7 rfl e2) rfl)]
 refine T8 ?_;rw[F7 (s1:=#[[.v .feed,.v (.int g),.v (.int 0),.no,.no,.no,.no,.no,.no,.no],some f]) (by simp[dB,a9,dL,dC,Ow,Ox,S0])];rw[e7 (s1:=#[[.v .feed,.v (.int g),.v (.int 0),.own ([(1,1),(2,1),(1,2),(40,1),(7,3)].map C3),.no,.no,.no,.no,.no,.no],some f]) (D8 (s1:=#[[.v .feed,.v (.int g),.v (.int 0),.no,.no,.no,.no,.no,.no,.no],some f]) rfl (by decide:3<10))];refine m8 (v4 (s1:=#[[.v .feed,.v (.int g),.v (.int 0),.own ([(1,1),(2,1),(1,2),(40,1),(7,3)].map C3),.no,.no,.no,.no,.no,.no],some f]) (A6 rfl) (A6 ?_));have c:=kD hg [.v .feed,.v (.int g),.v (.int 0),.v (.lst ([(1,1),(2,1),(1,2),(40,1),(7,3)].map C3)),.no,.no,.no,.no,.no,.no] rfl (some f) [(1,1),(2,1),(1,2),(40,1),(7,3)] #[];exact eJ (ds:=[(1,1),(2,1),(1,2),(40,1),(7,3)].map C3) (s1:=#[[.v .feed,.v (.int g),.v (.int 0),.v (.lst ([(1,1),(2,1),(1,2),(40,1),(7,3)].map C3)),.no,.no,.no,.no,.no,.no],some f]) rfl (Q8 (show 5<=100 by decide)) c
def Bi {f:FS}(h:Fd3 n f) (hn:n<2 ^ 29):∃W Z f',bi [.feed] (some f)=some (.tup [.lst (W.map j3),.lst (Z.map C3)],some f')/\jq W Z=true/\Fd3 (n+2) f':=by
 obtain⟨r1,f1,e1,a1,a2,h1⟩:=E3 8 h;obtain⟨Y,f2,e2,b1,b2,h2⟩:=E3 5 h1;obtain⟨g,J,U⟩:=wT a1 a2;have hr:Y=0\/Y=1\/Y=2\/Y=3\/Y=4:=by omega
 rcases hr with rfl | rfl | rfl | rfl | rfl
 .exact#[_,_,f2,Et e1 U e2 J,by rcases J with rfl | rfl <;> decide +kernel,h2]
 .exact#[_,_,f2,gW (a:=3) (b:=4) (h:=5) e1 U e2 J #[] rfl #[],by rcases J with rfl | rfl <;> decide +kernel,h2]
 .exact#[_,_,f2,gW (a:=3) (b:=4) (h:=5) e1 U e2 J #[] rfl #[],by rcases J with rfl | rfl <;> decide +kernel,h2]
 .exact#[_,_,f2,gW (a:=5) (b:=12) (h:=13) e1 U e2 J #[] rfl #[],by rcases J with rfl | rfl <;> decide +kernel,h2]
 .exact#[_,_,f2,gW (a:=8) (b:=15) (h:=17) e1 U e2 J #[] rfl #[],by rcases J with rfl | rfl <;> decide +kernel,h2]
end T
namespace DL
open PySem L2
def ur {α:Type}{l:List α}{p:α × α}(h:(i7 false l)[j]? = some p):l[j]? = some p.1/\l[j+1]? = some p.2:=by
 obtain⟨h1,h2⟩:=Ld.mp (show (l.zip (l.drop 1))[j]? = some p from h);rw[NK,Kz] at h2;exact#[h1,h2]
end DL
namespace T
open PySem L2 DL
def rQ (a b c:Int):E1 (.tup [.int a,.int b,.int c])=true:=by simp[E1,D.plain,D.plains,D.py,D.pys,SeqAt.shaped,PyData.canLay0,PyData.canLayAll0,PyData.depth,PyData.depthAll]
def ir (w u:Int × Int × Int):C5 (j3 w) (j3 u)=some (.bl (!decide (w=u))):=by
 obtain⟨a,b,c⟩:=w;obtain⟨d,e,f⟩:=u;have:decide ((a,b,c)=(d,e,f))=(decide (a=d)&&(decide (b=e)&&decide (c=f))):=by
  rw[KS];simp
 rw[this];simp only[j3,C5,rQ,Ko,Jh,D.py,D.pys,PyData.eqv,PyData.eqvAll,Nw,Bool.and_true]
def wc (w:Int × Int × Int):C5 (j3 w) .non=some (.bl true):=by
 have h:E1 .non=true:=rfl;simp only[j3,C5,rQ,h,Ko,Jh,D.py,D.pys,PyData.eqv];rfl
theorem oy (g:D->Bool) (caps:List Sl) (fs:vO_):∀ds:List D,(∀d∈ds,fc #[.v d::caps,fs]=some (g d,#[.v d::caps,fs]))->C0 (fun d=>some (.v d::caps)) fc (dV 0) ds fs=some (ds.filter g,fs)
 |[],_=>rfl
 |d::r,h=>by
  have J:=oy g caps fs r fun x Y=>h x (IT _ Y)
  rw[C0,xo,h d (IY ..),xo];cases U:g d with
  |true=>
   rw[iO rfl,MH U];show (C0 _ fc (dV 0) r fs).map _=_;rw[J];rfl
  |false=>
   rw[iU IM,LM (by rw[U];decide)];exact J
def xN {W:List (Int × Int × Int)}(hf:fm = .non\/∃u∈W,fm=j3 u) (hW:(W.any fun a=>W.any fun b=>!decide (a=b))=true):∃g:D->Bool,(∀w,C5 (j3 w) fm=some (.bl (g (j3 w))))/\1<=((W.map j3).filter g).length:=by
 obtain⟨a,ha,Y⟩:=MI.mp hW;obtain⟨b,Y,J⟩:=MI.mp Y;have J:a≠b:=by simpa using J
 refine#[fun d=>match C5 d fm with | some (.bl x)=>x | _=>false,?_,?_]
 .intro w;rcases hf with rfl | ⟨u,_,rfl⟩
  .simp only[wc]
  .simp only[ir]
 .apply List.length_pos_iff.mpr;intro z;have U:∀w∈W,¬ (C5 (j3 w) fm=some (.bl true)):=fun w hw e=>by
   have:j3 w∈(W.map j3).filter (fun d=>match C5 d fm with | some (.bl x)=>x | _=>false):=JS.mpr #[List.mem_map_of_mem hw,by simp only[e]];rw[z] at this;cases this
  rcases hf with rfl | ⟨u,hu,rfl⟩
  .exact U a ha (wc a)
  .by_cases e:a=u
   .refine U b Y ?_;rw[ir,ID (fun z=>J (e.trans z.symm))];rfl
   .refine U a ha ?_;rw[ir,ID e];rfl
abbrev mW:c6:=ni U0 D4 E9 v8 Y1 bi
abbrev rM:DM:=ii U0 D4 E9 v8 Y1 bi
def K3:Nat:=4508400000000000000
def M3:Nat:=K3*52962
def dJ:Nat:=265200000000000000
def exL (a b:Pt):Prop:=∃r:Rat,0<=r/\Sz 90 r/\E6 a b=r*r/\0<r/\Gf M3 r
def exT (a b:Pt):Prop:=∃r:Rat,0<r/\E6 a b=r*r/\Gr dJ r
theorem exT.exL {a b:Pt}(h:exT a b):exL a b:=by
 obtain⟨r,J,e,g⟩:=h;exact#[r,Lo J,(g.sz (by unfold dJ;decide)).mono #[],e,J,g.fine.mono (by unfold dJ M3 K3;decide)]
def Tg (c:Bool) (ps:vT_):Prop:=(∀q∈i7 c ps,exT q.1 q.2)/\∀p∈ps,PtS 80 p
def kC {t s:Int}(J:0<t) (U:0<s):0<Rat.divInt t s:=by
 rw[IE,MJ];exact Rat.mul_pos (LN.mpr J) (Rat.inv_pos.mpr (LN.mpr U))
def kf {s h:Int}(J:(6630:Int) % (s*h)=0):(6630:Int) % s=0:=Int.emod_eq_zero_of_dvd (ND (Int.dvd_mul_right s h) (Oo J))
def vp (a d:Pt) (r:Rat):Pt:=(a.1+r*d.1,a.2+r*d.2)
def aq (w:Int × Int × Int):Pt:=(Rat.divInt w.1 w.2.2,Rat.divInt w.2.1 w.2.2)
def jX (a b d:Pt):Prop:=(∃r,0<r/\Gr K3 r/\b=vp a d r)/\d.1*d.1+d.2*d.2=1/\Sz 5 d.1/\Sz 5 d.2
structure Wy (ps ds:vT_):Prop where
 len:ps.length=ds.length+1
 go:∀j a b d,ps[j]? = some a->ps[j+1]? = some b->ds[j]? = some d->jX a b d
 tn:∀j d e,ds[j]? = some d->ds[j+1]? = some e->d≠e
def lr {α:Type}{l:List α}{x y:α}(h:(l++[x])[j]? = some y):l[j]? = some y\/(j=l.length/\y=x):=by
 by_cases Y:j<l.length
 .rw[JL Y] at h;exact .inl h
 .have J:=(Jj.mp h).1;rw[Jb,Jm] at J;have U:j=l.length:=by omega
  subst U;rw[JU (tv _),KO] at h;exact .inr #[rfl,(Jg h).symm]
def my {α:Type}{l:List α}{y:α}(h:l[j]? = some y):j<l.length:=(Jj.mp h).1
def Wy.snoc {ps ds:vT_}(h:Wy ps ds) {p q d:Pt}(hp:ps[ds.length]? = some p) (hw:jX p q d) (hd:∀e,ds[ds.length - 1]? = some e->e≠d):Wy (ps++[q]) (ds++[d]):=by
 have hl:=h.len;refine#[by rw[Jb,Jb,Jm,Jm];omega,?_,?_]
 .intro j a b c Y J hc;rcases lr hc with hc | ⟨rfl,rfl⟩
  .have jl:=my hc;rw[JL ∅] at Y J;exact h.go j a b c Y J hc
  .rw[JL ∅,hp] at Y;rcases lr J with J | ⟨_,rfl⟩
   .have:=my J;omega
   .cases Y;exact hw
 .intro j x y U hy;rcases lr hy with hy | ⟨ej,rfl⟩
  .have jl:=my hy;rw[JL ∅] at U;exact h.tn j x y U hy
  .rw[JL ∅,show j=ds.length - 1 by omega] at U;exact hd x U
def EQ {W:List (Int × Int × Int)}(h:uO W=true) {u w:Int × Int × Int}(Y:u∈W) (hw:w∈W) (U:u≠w) (u0:u.2.2≠0) (J:w.2.2≠0):aq u≠aq w:=fun e=>by
 have:=IZ (Jc.mp (Jc.mp h u Y) w hw);unfold aq at e;have e1:=(Oq u0 J).mp (congrArg Prod.fst e);have e2:=(Oq u0 J).mp (congrArg Prod.snd e);rcases this with z | z | z
 .exact U z
 .exact z e1
 .exact z e2
theorem CV {w:Int × Int × Int}{z:Int × Int}(Y:w.1*w.1+w.2.1*w.2.1=w.2.2*w.2.2) (h0:0<w.2.2) (h1:w.2.2<=17) (h2:w.1.natAbs<=17) (h3:w.2.1.natAbs<=17) (U:0<z.1) (J:0<z.2) (z3:z.1<=40000000000000) (z5:(6630:Int) % (z.2*w.2.2)=0) (p:Pt):jX p (p.1+Rat.divInt (z.1*w.1) (z.2*w.2.2),p.2+Rat.divInt (z.1*w.2.1) (z.2*w.2.2)) (aq w):=by
 refine#[#[Rat.divInt z.1 z.2,kC U J,Gr.div J (kf z5) (by unfold K3;omega),?_],?_,Sz.of_divInt ∅ (show _<_ by omega) (show _<_ by omega),Sz.of_divInt ∅ (show _<_ by omega) (show _<_ by omega)]
 .unfold vp aq;rw[LH,LH]
 .have e1:(w.2.2:Rat)≠0:=fun z=>by have:=JR.mp z;omega
  have e3:(w.1:Rat)*w.1+(w.2.1:Rat)*w.2.1=(w.2.2:Rat)*w.2.2:=by rw[<-IG,<-IG,<-IG,<-JA,Y]
  unfold aq;rw[IE,IE];grind
structure OpJ (W:List (Int × Int × Int)) (n i:Nat) (p:Pt) (ps ds:vT_) (fm:D) (f:FS):Prop where
 len:ps.length=i+1
 last:ps[i]? = some p
 gr:∀q∈ps,Gr (46410+i*K3) q.1/\Gr (46410+i*K3) q.2
 ex:∀(j:Nat) a b,ps[j]? = some a->ps[j+1]? = some b->exT a b
 fm:(fm = .non/\ds=[])\/∃w∈W,fm=j3 w/\ds[ds.length - 1]? = some (aq w)
 wy:Wy ps ds
 fd:Fd3 (n+2*i) f
def W6 (J:Int) (W:List (Int × Int × Int)) (Z:List (Int × Int)) (p:Pt) (ps:vT_) (Y:D) (x8 x9 U:Sl) (f:FS):DS:=
 #[[.v .feed,.v (.int J),.v (.lst (W.map j3)),.v (.lst (Z.map C3)),.v (fr p.1),.v (fr p.2),.own (ps.map pt),.v Y,x8,x9,U],some f]
def GV {W:List (Int × Int × Int)}{Z:List (Int × Int)}(h:jq W Z=true):(∀w∈W,(w.1*w.1+w.2.1*w.2.1=w.2.2*w.2.2/\0<w.2.2/\w.2.2<=17/\w.1.natAbs<=17/\w.2.1.natAbs<=17)/\∀z∈Z,0<z.1/\0<z.2/\z.1<=40000000000000/\z.2<=3/\6630 % (z.2*w.2.2)=0) /\
  (W.length<=12/\1<=Z.length/\Z.length<=5)/\(W.any fun a=>W.any fun b=>!decide (a=b))=true:=by
 unfold jq at h;have h:=(Lp.mp h).1;unfold rW at h;rw[Je,Je] at h;refine#[fun w U=>?_,IZ h.1.2,h.2];have:=Jc.mp h.1.1 w U;unfold nX at this;rw[Je] at this;exact#[IZ this.1,fun z J=>IZ (Jc.mp this.2 z J)]
theorem Es {a b h t s:Int}(J:a*a+b*b=h*h) (Y:0<h) (hs:0<s) (p:Pt):E6 p (p.1+Rat.divInt (t*a) (s*h),p.2+Rat.divInt (t*b) (s*h))=Rat.divInt t s*Rat.divInt t s:=by
 have e1:(h:Rat)≠0:=fun z=>by have:=JR.mp z;omega
 have e2:(s:Rat)≠0:=fun z=>by have:=JR.mp z;omega
 have U:(a:Rat)*a+(b:Rat)*b=(h:Rat)*h:=by rw[<-IG,<-IG,<-IG,<-JA,J]
 unfold E6;rw[IE,IE,IE,IG,IG,IG];grind
def yU {w:Int × Int × Int}{z:Int × Int}(U:w.1*w.1+w.2.1*w.2.1=w.2.2*w.2.2) (Y:0<w.2.2) (z1:0<z.1) (J:0<z.2) (z3:z.1<=40000000000000) (z4:z.2<=3) (z5:(6630:Int) % (z.2*w.2.2)=0) (p:Pt):exT p (p.1+Rat.divInt (z.1*w.1) (z.2*w.2.2),p.2+Rat.divInt (z.1*w.2.1) (z.2*w.2.2)):=
 #[Rat.divInt z.1 z.2,kC z1 J,Es U Y J p,Gr.div J (kf z5) (by unfold dJ;omega)]
def vX {t s a h:Int}(ht:t<=40000000000000) (t0:0<t) (hs:0<s) (J:0<h) (Y:a.natAbs<=17) (U:(6630:Int) % (s*h)=0):Gr K3 (Rat.divInt (t*a) (s*h)):=by
 refine Gr.div (Lm hs J) U ?_;rw[JG];have:t.natAbs*a.natAbs<=40000000000000*17:=KL ∅ Y;unfold K3;omega
def nq (hi:i<=9):46410+i*K3<2 ^ 80:=by unfold K3;omega
def HA (ps:vT_) (q:Pt):(ps++[q]).map pt=ps.map pt++[pt q]:=by simp
def DB {J:Int}{W:List (Int × Int × Int)}{Z:List (Int × Int)}{p:Pt}{ps ds:vT_}{f:FS}(Y x9 U:Sl) (ok:jq W Z=true) (I:OpJ W n i p ps ds fm f) (hi:i<9) (hn:n<2 ^ 27) :
  ∃p' ps' ds' fm' x9' x10' f',rM (W6 J W Z p ps fm Y x9 U f)=some (.next,W6 J W Z p' ps' fm' Y x9' x10' f')/\OpJ W n (i+1) p' ps' ds' fm' f':=by
 obtain⟨okw,⟨wl,zl1,zl2⟩,wn⟩:=GV ok;have okt:=(Lp.mp ok).2;obtain⟨g,hg,hF⟩:=xN (I.fm.imp (·.1) fun ⟨w,a,b,_⟩=>#[w,a,b]) wn;have hFl:((W.map j3).filter g).length<=12:=xr (NP ..) (by rw[td];exact wl);have c:=oy (fc:=dB (a9 C5 (dL 0) (dL 1))) g [.v fm] (some f) (W.map j3) (fun d hd=>by
  obtain⟨w,_,rfl⟩:=IW.mp hd;exact B1 (c7 rfl rfl (hg w)))
 obtain⟨r1,f1,e1,a1,a2,h1⟩:=E3 (((W.map j3).filter g).length:Int) I.fd;obtain⟨d1,m1,q1⟩:=P7 a1 a2;have gw:=(JS.mp m1).2;obtain⟨w,hw,rfl⟩:=IW.mp (JS.mp m1).1;have nw:=hg w;rw[gw] at nw;obtain⟨r2,f2,e2,b1,b2,h2⟩:=E3 ((Z.map C3).length:Int) h1 (by rw[td];omega) ∅ (by rw[td];omega);obtain⟨d2,m2,q2⟩:=P7 b1 b2;obtain⟨z,hz,rfl⟩:=IW.mp m2;obtain⟨⟨w1,w2,w3,w4,w5⟩,hzz⟩:=okw w hw;obtain⟨z1,z2,z3,z4,z5⟩:=hzz z hz;have gl:=I.gr p (JP I.last);have gx:=vX z3 z1 z2 w2 w4 z5;have gy:=vX z3 z1 z2 w2 w5 z5;have bb:=nq (i:=i) ∅;have gb:=nq (i:=i+1) ∅;have e46:46410+i*K3+K3=46410+(i+1)*K3:=by unfold K3;omega
 have nx:=(gl.1.add gx)
 have ny:=(gl.2.add gy)
 rw[e46] at nx ny;have sgx:=gx.sz (by unfold K3;decide);have sgy:=gy.sz (by unfold K3;decide);have p1:=cR z.1 z.2 w.1 w.2.2 (some f2) ∅ ∅ (k:=50) (l:=10) (show _<_ by omega) (show _<_ by omega) (show _<_ by omega) (show _<_ by omega) #[];have p2:=cR z.1 z.2 w.2.1 w.2.2 (some f2) ∅ ∅ (k:=50) (l:=10) (show _<_ by omega) (show _<_ by omega) (show _<_ by omega) (show _<_ by omega) #[];have s1:=U4 p.1 _ (some f2) (gl.1.sz bb) sgx #[];have s2:=U4 p.2 _ (some f2) (gl.2.sz bb) sgy #[];have sp:=gN _ _ (some f2) (nx.sz gb) (ny.sz gb) #[];have ex:=yU w1 w2 z1 z2 z3 z4 z5 p;have wyl:=I.wy.len;have ws:=I.wy.snoc (p:=p) (by rw[show ds.length=i by have:=I.len;omega];exact I.last) (CV w1 w2 w3 w4 w5 z1 z2 z3 z5 p) (fun e he=>by
  rcases I.fm with ⟨_,hd⟩ | ⟨u,hu,hfm,hd⟩
  .rw[hd] at he;simp at he
  .rw[hd] at he;cases he;rw[hfm,ir] at nw;exact EQ okt hu hw (fun z=>by rw[z,II rfl] at nw;simp at nw) (by have:=(okw u hu).1.2.1;omega) ∅)
 have il:=I.len;have ll:(ps.map pt).length<sizeLine:=IJ (by rw[td,il];omega:(ps.map pt).length<100) #[];generalize hF':(W.map j3).filter g=F at *;refine#[(p.1+Rat.divInt (z.1*w.1) (z.2*w.2.2),p.2+Rat.divInt (z.1*w.2.1) (z.2*w.2.2)),ps++[(p.1+Rat.divInt (z.1*w.1) (z.2*w.2.2),p.2+Rat.divInt (z.1*w.2.1) (z.2*w.2.2))],ds++[aq w],j3 w,.own F,.v (C3 z),f2,?_,?_]
 .unfold W6;rw[HA];show ii U0 D4 E9 v8 Y1 bi _=_;unfold ii;rw[e7 (s1:=#[[.v .feed,.v (.int J),.v (.lst (W.map j3)),.v (.lst (Z.map C3)),.v (fr p.1),.v (fr p.2),.own (ps.map pt),.v fm,Y,.own F,U],some f]) (D8 (s1:=#[[.v .feed,.v (.int J),.v (.lst (W.map j3)),.v (.lst (Z.map C3)),.v (fr p.1),.v (fr p.2),.own (ps.map pt),.v fm,Y,x9,U],some f]) (aa (idx:=[7]) (ds:=W.map j3) (R:=F) (s1:=#[[.v .feed,.v (.int J),.v (.lst (W.map j3)),.v (.lst (Z.map C3)),.v (fr p.1),.v (fr p.2),.own (ps.map pt),.v fm,Y,x9,U],some f]) rfl (Q8 (by rw[td];omega)) c) (show 9<11 by decide)),
   e7 (s1:=#[[.v .feed,.v (.int J),.v (.lst (W.map j3)),.v (.lst (Z.map C3)),.v (fr p.1),.v (fr p.2),.own (ps.map pt),.v (j3 w),Y,.own F,U],some f1]) (f9 (c7 rfl (u7 rfl e1) (w9 q1)) rfl),
   e7 (s1:=#[[.v .feed,.v (.int J),.v (.lst (W.map j3)),.v (.lst (Z.map C3)),.v (fr p.1),.v (fr p.2),.own (ps.map pt),.v (j3 w),Y,.own F,.v (C3 z)],some f2]) (f9 (c7 rfl (u7 rfl e2) (w9 q2)) rfl),
   e7 (s1:=#[[.v .feed,.v (.int J),.v (.lst (W.map j3)),.v (.lst (Z.map C3)),.v (fr (p.1+(Rat.divInt (z.1*w.1) (z.2*w.2.2)))),.v (fr p.2),.own (ps.map pt),.v (j3 w),Y,.own F,.v (C3 z)],some f2]) (f9 (u7 (d9 rfl (d9 (u7 (d9 rfl (d9 (v4 (c7 rfl rfl rfl) (c7 rfl rfl rfl)) rfl)) p1) rfl)) s1) rfl),
   e7 (s1:=#[[.v .feed,.v (.int J),.v (.lst (W.map j3)),.v (.lst (Z.map C3)),.v (fr (p.1+(Rat.divInt (z.1*w.1) (z.2*w.2.2)))),.v (fr (p.2+(Rat.divInt (z.1*w.2.1) (z.2*w.2.2)))),.own (ps.map pt),.v (j3 w),Y,.own F,.v (C3 z)],some f2]) (f9 (u7 (d9 rfl (d9 (u7 (d9 rfl (d9 (v4 (c7 rfl rfl rfl) (c7 rfl rfl rfl)) rfl)) p2) rfl)) s2) rfl)]
  exact U2 rfl (u7 (d9 rfl (d9 rfl rfl)) sp) rfl ll
 .refine#[by simp[il],?_,?_,?_,.inr #[w,hw,rfl,by rw[Jb,Jm,MK,JU (tv _),KO];rfl],ws,h2.mono ∅]
  .rw[JU ∅,il,KO];rfl
  .intro q hq;rcases JT.mp hq with hq | hq
   .have:=I.gr q hq;exact#[this.1.mono ∅,this.2.mono ∅]
   .rw[Jo.mp hq];exact#[nx,ny]
  .intro j a b ha hb;by_cases hj:j+1<ps.length
   .rw[JL ∅] at ha hb;exact I.ex j a b ha hb
   .have hjl:=(Jj.mp hb).1;simp only[Jb,Jm] at hjl;have ej:j=i:=by omega
    subst ej;rw[JL ∅,I.last] at ha;rw[JU ∅,il,KO] at hb;cases ha;rw[List.getElem?_singleton,iO rfl] at hb;cases hb;exact ex
structure ExS (c:Bool) (ps:vT_):Prop where
 lo:1<=ps.length
 hi:ps.length<=9
 sz:∀p∈ps,PtS 200 p
 ex:∀q∈i7 c ps,exL q.1 q.2
 ne:1<=(i7 c ps).length
def Cg {f:FS}(J:Int) (hm:2<=J/\J<=9) (h:Fd3 n f) (hn:n<2 ^ 26):∃ps ds f',mW [.feed,.int J] (some f)=some (.tup [.bl false,.tup (ps.map pt)],some f')/\ExS false ps/\Wy ps ds/\Tg false ps/\Fd3 (n+30) f':=by
 obtain⟨W,Z,f1,e1,ok,h1⟩:=Bi h ∅;obtain⟨p,q,f2,e2,g1,g2,h2⟩:=tM h1 ∅;have sp:=gN p q (some f2) (g1.sz #[]) (g2.sz #[]) #[];obtain⟨r,f3,e3,r1,r2,h3⟩:=E3 (J - 1) h2;obtain⟨m,hmm⟩:∃m:Nat,(1:Int)+r=(m:Int):=#[(1+r).toNat,by omega]
 have rm:ak [.int ((1:Int)+r)]=some (D0 0 m):=by rw[hmm];exact cO ∅
 obtain⟨s',lp,p',ps,ds,fm,x8,x9,U,f',rfl,I⟩:=bq (t:=d6 8) (b:=rM) (fun i s=>∃p ps ds fm x8 x9 U f',s=W6 J W Z p ps fm x8 x9 U f'/\OpJ W (n+5) i p ps ds fm f') (D0 0 m) 0 (W6 J W Z (p,q) [(p,q)] .non .no .no .no f3)
  #[(p,q),[(p,q)],[],.non,.no,.no,.no,f3,rfl,rfl,rfl,(fun z Y=>by rw[Jo.mp Y];exact#[g1.mono ∅,g2.mono ∅]),(fun j a b _ hb=>by simp at hb),.inl #[rfl,rfl],#[rfl,(fun j a b d _ _ hd=>by simp at hd),(fun j d e hd _=>by simp at hd)],h3] (by
   rintro i d s hd ⟨p,ps,ds,fm,x8,x9,U,f',rfl,I⟩;obtain⟨rfl,hi⟩:=eZ hd;rw[JF] at *;obtain⟨p',ps',ds',fm',x9',x10',f'',e,I'⟩:=DB (.v (.int ((0:Int)+i))) x9 U ok I ∅ ∅;exact#[W6 J W Z p ps fm (.v (.int ((0:Int)+i))) x9 U f',_,rfl,.inl e,p',ps',ds',fm',_,x9',x10',f'',rfl,I'])
 rw[JF,S7] at I;have l1:=I.len;have bb:=nq (i:=m) ∅;refine#[ps,ds,f',j7 (s:=W6 J W Z p' ps fm x8 x9 U f') ?_,#[by omega,by omega,fun z Y=>?_,fun z Y=>?_,by have nf:=bX false ps;simp at nf;omega],I.wy,#[fun z Y=>?_,fun z Y=>by have:=I.gr z Y;exact#[this.1.sz bb,this.2.sz bb]],I.fd.mono ∅]
 rotate_left
 .have:=I.gr z Y;exact#[(this.1.sz bb).mono #[],(this.2.sz bb).mono #[]]
 .obtain⟨j,hj⟩:=LL Y;obtain⟨q1,q2⟩:=ur hj;exact(I.ex j _ _ q1 q2).exL
 .obtain⟨j,hj⟩:=LL Y;obtain⟨q1,q2⟩:=ur hj;exact I.ex j _ _ q1 q2
 show mJ U0 D4 E9 v8 Y1 bi #[[.v .feed,.v (.int J),.no,.no,.no,.no,.no,.no,.no,.no,.no],some f]=_;unfold mJ;have rg:(a7 (a9 o9 (Ow 1) (c8 v8 (a7 (dV 0) (a7 (a9 B7 (dL 1) (Ow 1)) a8)))) a8) (W6 J W Z (p,q) [(p,q)] .non .no .no .no f2)=some ([.int ((1:Int)+r)],W6 J W Z (p,q) [(p,q)] .non .no .no .no f3):=
  d9 (c7 rfl (u7 (d9 rfl (d9 (c7 rfl rfl rfl) rfl)) e3) rfl) rfl
 rw[e7 (s1:=#[[.v .feed,.v (.int J),.v (.lst (W.map j3)),.v (.lst (Z.map C3)),.no,.no,.no,.no,.no,.no,.no],some f1]) (f9 (u7 rfl e1) rfl),
  e7 (s1:=#[[.v .feed,.v (.int J),.v (.lst (W.map j3)),.v (.lst (Z.map C3)),.v (fr p),.v (fr q),.no,.no,.no,.no,.no],some f2]) (f9 (u7 rfl e2) rfl),
  e7 (s1:=#[[.v .feed,.v (.int J),.v (.lst (W.map j3)),.v (.lst (Z.map C3)),.v (fr p),.v (fr q),.own [pt (p,q)],.no,.no,.no,.no],some f2]) (D8 (s1:=#[[.v .feed,.v (.int J),.v (.lst (W.map j3)),.v (.lst (Z.map C3)),.v (fr p),.v (fr q),.no,.no,.no,.no,.no],some f2]) (eA (u7 rfl sp)) (show 6<11 by decide)),
  e7 (s1:=W6 J W Z (p,q) [(p,q)] .non .no .no .no f2) (f9 rfl rfl),
  e7 ((cw rg rm).trans lp)]
 exact m8 (v4 rfl (C7 rfl rfl))
def BR {f:FS}(J:Int) (U:2<=J/\J<=9) (h:Fd3 n f) (hn:n<2 ^ 26):∃ps f',mW [.feed,.int J] (some f)=some (.tup [.bl false,.tup (ps.map pt)],some f')/\ExS false ps/\Tg false ps/\Fd3 (n+30) f':=by
 obtain⟨ps,_,f',e,hx,_,Y,hf⟩:=Cg J U h hn;exact#[ps,f',e,hx,Y,hf]
def E4 (z:Int × Int):D:=.tup [.int z.1,.int z.2]
abbrev A7 (l:List (Int × Int)):D:=.tup (l.map E4)
def T7:List (List (Int × Int)):=[[(0,0),(4,0),(0,3)],[(0,0),(14,0),(5,12)],[(0,0),(2,0),(2,2),(0,2)],[(0,0),(3,4),(3,0),(0,4)],[(0,0),(5,0),(0,0),(3,4)],
 [(0,0),(3,0),(3,4),(6,8),(0,8),(3,4)],[(0,0),(6,0),(6,2),(2,2),(2,4),(6,4),(6,6),(0,6)]]
def aD (l:List (Int × Int)):Bool:=decide (1<=l.length/\l.length<=8)&&(l.all fun z=>decide (z.1.natAbs<=14/\z.2.natAbs<=14))&&(i7 true l).all fun q=>(List.range 16).any fun L=>decide (1<=L/\(q.1.1 - q.2.1)*(q.1.1 - q.2.1)+(q.1.2 - q.2.2)*(q.1.2 - q.2.2)=(L:Int)*L)
def wD:(T7.all fun l=>decide (l.length<=8)&&(List.range l.length).all fun k=>aD (l.drop k++l.take k)&&aD (l.drop k++l.take k).reverse)=true:=by decide +kernel
def AS {l:List (Int × Int)}(J:l∈T7) {k:Nat}(U:k<l.length):l.length<=8/\aD (l.drop k++l.take k)=true/\aD (l.drop k++l.take k).reverse=true:=by
 have h:=Jc.mp wD l J;rw[Je] at h;have h2:=Jc.mp h.2 k (KQ.mpr U);rw[Je] at h2;exact#[IZ h.1,h2.1,h2.2]
def vV {l:List (Int × Int)}(h:aD l=true):(1<=l.length/\l.length<=8)/\(∀z∈l,z.1.natAbs<=14/\z.2.natAbs<=14)/\∀q∈i7 true l,∃L:Nat,L<16/\1<=L/\(q.1.1 - q.2.1)*(q.1.1 - q.2.1)+(q.1.2 - q.2.2)*(q.1.2 - q.2.2)=(L:Int)*L:=by
 unfold aD at h;rw[Je,Je] at h;refine#[IZ h.1.1,fun z J=>IZ (Jc.mp h.1.2 z J),fun q U=>?_];obtain⟨L,h1,h2⟩:=MI.mp (Jc.mp h.2 q U);exact#[L,KQ.mp h1,IZ h2]
theorem GG {J U Y e2 a b h L k:Rat}(hp:a*a+b*b=h*h) (hl:(J - Y)*(J - Y)+(U - e2)*(U - e2)=L*L) (x y:Rat) :
  E6 (x+k*(J*a - U*b),y+k*(J*b+U*a)) (x+k*(Y*a - e2*b),y+k*(Y*b+e2*a))=k*h*L*(k*h*L):=by
 have e:E6 (x+k*(J*a - U*b),y+k*(J*b+U*a)) (x+k*(Y*a - e2*b),y+k*(Y*b+e2*a))=k*k*(((J - Y)*(J - Y)+(U - e2)*(U - e2))*(a*a+b*b)):=by
  unfold E6;grind
 rw[e,hp,hl];grind
structure AbH (a b h t u:Int):Prop where
 py:a*a+b*b=h*h
 h0:0<h
 h1:h<=13
 a1:a.natAbs<=12
 b1:b.natAbs<=12
 t0:0<t
 t1:t<=3
 u0:0<u
 u1:u<=2
 dv:(6630:Int) % (u*h)=0
def N3 (a b h t u:Int) (x y:Rat) (z:Int × Int):Pt:=(x+Rat.divInt (t*(z.1*a - z.2*b)) (u*h),y+Rat.divInt (t*(z.1*b+z.2*a)) (u*h))
theorem er (t c d:Int):Rat.divInt (t*c) d=Rat.divInt t d*(c:Rat):=by
 rw[IE,IE,IG,MJ,MJ];grind
theorem Aj {a b h t u:Int}(A:AbH a b h t u) (x y:Rat) {z w:Int × Int}{L:Nat}(hL:L<16) (hL1:1<=L) (e:(z.1 - w.1)*(z.1 - w.1)+(z.2 - w.2)*(z.2 - w.2)=(L:Int)*L):exT (N3 a b h t u x y z) (N3 a b h t u x y w):=by
 obtain⟨py,h0,_,_,_,t0,t1,u0,u1,J⟩:=A;have bL:(t*L).natAbs<=45:=by
  rw[JG];have:t.natAbs*(L:Int).natAbs<=3*15:=KL ∅ ∅;omega
 refine#[Rat.divInt (t*L) u,kC (Lm t0 ∅) u0,?_,Gr.div u0 (kf J) (by unfold dJ;omega)]
 .have e1:(h:Rat)≠0:=fun z=>by have:=JR.mp z;omega
  have e2:(u:Rat)≠0:=fun z=>by have:=JR.mp z;omega
  have Y:(a:Rat)*a+(b:Rat)*b=(h:Rat)*h:=by rw[<-IG,<-IG,<-IG,<-JA,py]
  have U:((z.1:Rat) - w.1)*((z.1:Rat) - w.1)+((z.2:Rat) - w.2)*((z.2:Rat) - w.2)=((L:Int):Rat)*((L:Int):Rat):=by
   rw[<-KJ,<-KJ,<-IG,<-IG,<-IG,<-JA,e]
  have k:=GG (k:=Rat.divInt t (u*h)) Y U x y;unfold N3;rw[er,er,er,er,KJ,JA,KJ,JA,IG,IG,IG,IG,IG,IG,IG,IG,k];have q:Rat.divInt t (u*h)*(h:Rat)*((L:Int):Rat)=Rat.divInt (t*L) u:=by
   rw[er,IE,IE,IG];grind
  rw[q]
def gQ {a b h t u c:Int}(A:AbH a b h t u) (U:c.natAbs<=336) {x:Rat}(J:Gr 46410 x):Gr 10000000 (x+Rat.divInt (t*c) (u*h)):=by
 have:Gr 9000000 (Rat.divInt (t*c) (u*h)):=by
  refine Gr.div (Lm A.u0 A.h0) A.dv ?_;rw[JG];have:=A.t0;have:=A.t1;have:t.natAbs*c.natAbs<=3*336:=KL ∅ U;omega
 exact(J.add this).mono #[]
def ju {a z:Int}(J:a.natAbs<=12) (hz:z.natAbs<=14):(z*a).natAbs<=168:=by
 rw[JG];exact xr (KL hz J) #[]
def sN {a b:Int}{z:Int × Int}(U:a.natAbs<=12) (J:b.natAbs<=12) (h1:z.1.natAbs<=14) (h2:z.2.natAbs<=14):(z.1*a - z.2*b).natAbs<=336/\(z.1*b+z.2*a).natAbs<=336:=
 #[xr (Int.natAbs_sub_le ..) (MG (ju U h1) (ju J h2)),xr (Mw ..) (MG (ju J h1) (ju U h2))]
abbrev qM:c6:=mh U0 D4 E9 Y1 v8
abbrev oa:DM:=jw U0 D4 E9 Y1 v8
abbrev X5 (L:vD_) (l:D) (k a b h t u:Int) (x y:Rat) (x10 x11 x12 x13 x14:Sl) (f:FS):DS:=
 #[[.v .feed,.own L,.v l,.v (.int k),.v (.int a),.v (.int b),.v (.int h),.v (.tup [.int t,.int u]),.v (fr x),.v (fr y),x10,x11,x12,x13,x14],some f]
def Y4 {i:Int}(h:i.natAbs<=400):v7 i=true:=Bd.bits (k:=10) (show i.natAbs<2 ^ 10 by omega) #[]
def xm {a b h t u:Int}(A:AbH a b h t u) {x y:Rat}(hx:Gr 46410 x) (hy:Gr 46410 y) (L:vD_) (l:D) (k:Int) {z:Int × Int}(h1:z.1.natAbs<=14) (h2:z.2.natAbs<=14) (J:vD_) (hl:J.length<=20) (Y U:Sl) (f:FS) :
  ∃y13 y14,oa (X5 L l k a b h t u x y (.own J) (.v (.int z.1)) (.v (.int z.2)) Y U f)=some (.next,X5 L l k a b h t u x y (.own (J++[pt (N3 a b h t u x y z)])) (.v (.int z.1)) (.v (.int z.2)) y13 y14 f):=by
 obtain⟨c1,c2⟩:=sN (z:=z) A.a1 A.b1 h1 h2;have m1:=t7 (Y4 (xr h1 #[])) (Y4 (xr A.a1 #[]));have m2:=t7 (Y4 (xr h2 #[])) (Y4 (xr A.b1 #[]));have m3:=t7 (Y4 (xr h1 #[])) (Y4 (xr A.b1 #[]));have m4:=t7 (Y4 (xr h2 #[])) (Y4 (xr A.a1 #[]));have t0:=A.t0;have t1:=A.t1;have u0:=A.u0;have u1:=A.u1;have hh0:=A.h0;have hh1:=A.h1;have p1:=cR t u (z.1*a - z.2*b) h (some f) ∅ ∅ (k:=10) (l:=10) (show _<_ by omega) (show _<_ by omega) (show _<_ by omega) (show _<_ by omega) #[];have p2:=cR t u (z.1*b+z.2*a) h (some f) ∅ ∅ (k:=10) (l:=10) (show _<_ by omega) (show _<_ by omega) (show _<_ by omega) (show _<_ by omega) #[];have sd:∀c:Int,c.natAbs<=336->Sz 80 (Rat.divInt (t*c) (u*h)):=fun c hc=>by
  have:(t*c).natAbs<=3*336:=by rw[JG];exact KL ∅ hc
  have:(u*h).natAbs<=2*13:=by rw[JG];exact KL ∅ ∅
  exact Sz.of_divInt (JH ∅ ∅) ∅ ∅
 have s1:=U4 x _ (some f) (hx.sz #[]) (sd _ c1) #[];have s2:=U4 y _ (some f) (hy.sz #[]) (sd _ c2) #[];have sp:=gN _ _ (some f) ((gQ A c1 hx).sz #[]) ((gQ A c2 hy).sz #[]) #[];refine#[.v (fr (Rat.divInt (t*(z.1*a - z.2*b)) (u*h))),.v (fr (Rat.divInt (t*(z.1*b+z.2*a)) (u*h))),?_];unfold N3;show jw U0 D4 E9 Y1 v8 _=_;unfold jw;rw[e7 (s1:=X5 L l k a b h t u x y (.own J) (.v (.int z.1)) (.v (.int z.2)) (.v (fr (Rat.divInt (t*(z.1*a - z.2*b)) (u*h)))) U f) (f9 (u7 (d9 rfl (d9 (v4 (c7 (c7 rfl rfl m1) (c7 rfl rfl m2) rfl) rfl) rfl)) p1) rfl),
  e7 (s1:=X5 L l k a b h t u x y (.own J) (.v (.int z.1)) (.v (.int z.2)) (.v (fr (Rat.divInt (t*(z.1*a - z.2*b)) (u*h)))) (.v (fr (Rat.divInt (t*(z.1*b+z.2*a)) (u*h)))) f) (f9 (u7 (d9 rfl (d9 (v4 (c7 (c7 rfl rfl m3) (c7 rfl rfl m4) rfl) rfl) rfl)) p2) rfl)]
 exact U2 rfl (u7 (d9 (u7 (d9 rfl (d9 rfl rfl)) s1) (d9 (u7 (d9 rfl (d9 rfl rfl)) s2) rfl)) sp) rfl (Jf hl #[])
theorem qd {a b h t u:Int}(A:AbH a b h t u) {x y:Rat}(hx:Gr 46410 x) (hy:Gr 46410 y) (L:vD_) (l:D) (k:Int) (f:FS):∀(zs:List (Int × Int)) (acc:vD_) (x11 x12 x13 x14:Sl),(∀z∈zs,z.1.natAbs<=14/\z.2.natAbs<=14)->acc.length+zs.length<=20 ->
  ∃y11 y12 y13 y14,B2 (u9 2 (j4 (d6 11) (j4 (d6 12) v5))) oa (zs.map E4) (X5 L l k a b h t u x y (.own acc) x11 x12 x13 x14 f)=some (.next,X5 L l k a b h t u x y (.own (acc++zs.map fun z=>pt (N3 a b h t u x y z))) y11 y12 y13 y14 f)
 |[],acc,x11,x12,x13,x14,_,_=>#[x11,x12,x13,x14,by rw[KY,KY,Ju];rfl]
 |z::r,acc,x11,x12,x13,x14,hz,hl=>by
  rw[Ja] at hl;obtain⟨b1,b2⟩:=hz z (IY ..);obtain⟨y13,y14,e⟩:=xm A hx hy L l k b1 b2 acc ∅ x13 x14 f;obtain⟨Y,z12,J,U,e2⟩:=qd A hx hy L l k f r (acc++[pt (N3 a b h t u x y z)]) (.v (.int z.1)) (.v (.int z.2)) y13 y14 (fun w hw=>hz w (IT _ hw)) (by rw[Jb,Jm];omega);refine#[Y,z12,J,U,?_];rw[Js,T9 (s1:=X5 L l k a b h t u x y (.own acc) (.v (.int z.1)) (.v (.int z.2)) x13 x14 f) rfl e,e2,LV];rfl
def kT:List D:=[.tup [.int 1,.int 0,.int 1],.tup [.int 0,.int 1,.int 1],.tup [.int 3,.int 4,.int 5],.tup [.int (-4),.int 3,.int 5],.tup [.int 5,.int 12,.int 13]]
def lZ:List D:=[.tup [.int 1,.int 1],.tup [.int 1,.int 2],.tup [.int 3,.int 1]]
def tV (a b h t u:Int):Bool:=decide (a*a+b*b=h*h/\0<h/\h<=13/\a.natAbs<=12/\b.natAbs<=12/\0<t/\t<=3/\0<u/\u<=2/\(6630:Int) % (u*h)=0)
def Dg {a b h t u:Int}(e:tV a b h t u=true):AbH a b h t u:=by
 obtain⟨h1,h2,h3,h4,U,Y,h7,h8,h9,J⟩:=IZ e;exact#[h1,h2,h3,h4,U,Y,h7,h8,h9,J]
def A5:List (Int × Int × Int):=[(1,0,1),(0,1,1),(3,4,5),(-4,3,5),(5,12,13)]
def B3:List (Int × Int):=[(1,1),(1,2),(3,1)]
def BU:(A5.all fun x=>B3.all fun y=>tV x.1 x.2.1 x.2.2 y.1 y.2)=true:=by decide
def HS {r s:Int}(Y:0<=r) (h1:r<5) (g0:0<=s) (g1:s<3):∃a b h t u,p9 kT r=some (.tup [.int a,.int b,.int h])/\p9 lZ s=some (.tup [.int t,.int u])/\AbH a b h t u:=by
 obtain⟨x,hx,e⟩:=P7 (xs:=kT) Y h1;obtain⟨y,hy,f⟩:=P7 (xs:=lZ) g0 g1;obtain⟨z,J,rfl⟩:=IW.mp (show x∈A5.map (fun z=>D.tup [.int z.1,.int z.2.1,.int z.2.2]) from hx);obtain⟨w,U,rfl⟩:=IW.mp (show y∈B3.map (fun z=>D.tup [.int z.1,.int z.2]) from hy);exact#[_,_,_,_,_,e,f,Dg (Jc.mp (Jc.mp BU z J) w U)]
def Ca {J bs:vD_}(h:J.length+bs.length<=100):o9 (.tup J) (.tup bs)=some (.tup (J++bs)):=iO (Q8 h)
abbrev qg (m:c6):DE:=gh (a9 o9 (Q2 (dL 2) (P6 (dL 3)) P5) (Q2 (dL 2) P5 (P6 (dL 3)))) (a9 B7 (Ow 1) (a9 i8 (Ow 2) (c8 m (a7 (dV 0) (a7 (Ow 2) a8)))))
def HC {k:Nat}{X:List Sl}{f f':FS}{r:Int}(J:k<=ds.length) (hl:ds.length<=20) (e:v8 [.feed,.int 2] (some f)=some (.int r,some f')) (r0:0<=r) (r1:r<2) :
  qg v8 #[.v .feed::x1 :: .v (.tup ds) :: .v (.int k)::X,some f]=some (.tup (if r=1 then (ds.drop k++ds.take k).reverse else ds.drop k++ds.take k),#[.v .feed::x1 :: .v (.tup ds) :: .v (.int k)::X,some f']):=by
 have U:=vb ds k J;have c2:=uA ds k J;have Y:(ds.drop k).length+(ds.take k).length<=100:=by rw[JV,Kb];omega
 have s1:Q2 (dL 2) (P6 (dL 3)) P5 #[.v .feed::x1 :: .v (.tup ds) :: .v (.int k)::X,some f]=some (.tup (ds.drop k),#[.v .feed::x1 :: .v (.tup ds) :: .v (.int k)::X,some f]):=by rw[<-U];rfl
 have s2:Q2 (dL 2) P5 (P6 (dL 3)) #[.v .feed::x1 :: .v (.tup ds) :: .v (.int k)::X,some f]=some (.tup (ds.take k),#[.v .feed::x1 :: .v (.tup ds) :: .v (.int k)::X,some f]):=by rw[<-c2];rfl
 have a:=c7 s1 s2 (Ca Y);have h:r=0\/r=1:=by omega
 have m2:i8 (.int 2) (.int r)=some (.int (2*r)):=t7 #[] (Y4 ∅);have st:a9 B7 (Ow 1) (a9 i8 (Ow 2) (c8 v8 (a7 (dV 0) (a7 (Ow 2) a8)))) #[.v .feed::x1 :: .v (.tup ds) :: .v (.int k)::X,some f]=some (.int (1 - 2*r),#[.v .feed::x1 :: .v (.tup ds) :: .v (.int k)::X,some f']):=c7 rfl (c7 rfl (u7 (d9 rfl (d9 rfl rfl)) e) m2) rfl;unfold qg gh;rw[a,xo,st,xo];rcases h with rfl | rfl
 .rfl
 .rfl
def GC {a b h t u:Int}(x y:Rat) (zs:List (Int × Int)):(zs.map fun z=>pt (N3 a b h t u x y z))=(zs.map (N3 a b h t u x y)).map pt:=by rw[KN];rfl
def Ds (l:List (Int × Int)) (k:Nat):(l.map E4).drop k++(l.map E4).take k=(l.drop k++l.take k).map E4:=by rw[Kp,NI,List.map_take]
def zL (l:List (Int × Int)) (k:Nat) (r:Int):(if r=1 then ((l.map E4).drop k++(l.map E4).take k).reverse else (l.map E4).drop k++(l.map E4).take k)=(if r=1 then (l.drop k++l.take k).reverse else l.drop k++l.take k).map E4:=by
 rw[Ds];split
 .rw[List.map_reverse]
 .rfl
def qR {a b h t u:Int}(A:AbH a b h t u) {x y:Rat}(hx:Gr 46410 x) (hy:Gr 46410 y) {zs:List (Int × Int)}(hz:aD zs=true):ExS true (zs.map (N3 a b h t u x y))/\Tg true (zs.map (N3 a b h t u x y)):=by
 obtain⟨⟨l1,l2⟩,bd,ex⟩:=vV hz;have sz:∀p∈zs.map (N3 a b h t u x y),PtS 80 p:=fun p J=>by
  obtain⟨z,hz,rfl⟩:=IW.mp J;obtain⟨b1,b2⟩:=bd z hz;obtain⟨c1,c2⟩:=sN (z:=z) A.a1 A.b1 b1 b2;exact#[(gQ A c1 hx).sz #[],(gQ A c2 hy).sz #[]]
 have Y:∀q∈i7 true (zs.map (N3 a b h t u x y)),exT q.1 q.2:=fun q U=>by
  rw[jR] at U;obtain⟨z,hz,rfl⟩:=IW.mp U;obtain⟨L,h1,h3,h2⟩:=ex z hz;exact Aj A x y h1 h3 h2
 exact#[#[by rw[td];exact l1,by rw[td];omega,fun p J=>#[(sz p J).1.mono #[],(sz p J).2.mono #[]],fun q U=>(Y q U).exL,by have nf:=bX true (zs.map (N3 a b h t u x y));rw[td] at nf;simp at nf;omega],Y,sz]
def Fx {f:FS}(h:Fd3 n f) (hn:n<2 ^ 26):∃ps f',qM [.feed] (some f)=some (.tup [.bl true,.tup (ps.map pt)],some f')/\ExS true ps/\Tg true ps/\Fd3 (n+30) f':=by
 obtain⟨r1,f1,e1,a1,a2,h1⟩:=E3 7 h;obtain⟨d1,m1,q1⟩:=P7 (xs:=T7.map A7) a1 a2;obtain⟨l,hl,rfl⟩:=IW.mp m1;have hl0:1<=l.length/\l.length<=8:=by
  have:(T7.all fun l=>decide (1<=l.length/\l.length<=8))=true:=by decide
  exact IZ (Jc.mp this l hl)
 obtain⟨r2,f2,e2,b1,b2,h2⟩:=E3 ((l.map E4).length:Int) h1 (by rw[td];omega) ∅ (by rw[td];omega);obtain⟨k,rfl⟩:=NC b1;have hk:k<l.length:=by rw[td] at b2;omega
 obtain⟨J,f3,e3,c1,c2,h3⟩:=E3 2 h2;obtain⟨r4,f4,e4,i1,i2,h4⟩:=E3 5 h3;obtain⟨r5,f5,e5,j1,j2,h5⟩:=E3 3 h4;obtain⟨a,b,U,t,u,t1,t2,A⟩:=HS i1 i2 j1 j2;obtain⟨x,y,Y,e6,gx,gy,h6⟩:=tM h5 ∅;obtain⟨_,k1,k2⟩:=AS hl hk;have rt:=HC (x1:=.own (T7.map A7)) (X:=[.no,.no,.no,.no,.no,.no,.no,.no,.no,.no,.no]) (ds:=l.map E4) (k:=k) (by rw[td];omega) (by rw[td];omega) e3 c1 c2;rw[zL] at rt;have hz:aD (if J=1 then (l.drop k++l.take k).reverse else l.drop k++l.take k)=true:=by
  split
  .exact k2
  .exact k1
 obtain⟨⟨zl1,zl2⟩,bd,_⟩:=vV hz;obtain⟨y11,y12,y13,y14,lp⟩:=qd A gx gy (T7.map A7) (.tup (((if J=1 then (l.drop k++l.take k).reverse else l.drop k++l.take k)).map E4)) k Y ((if J=1 then (l.drop k++l.take k).reverse else l.drop k++l.take k)) [] .no .no .no .no bd (by rw[Kn];omega);rw[Kj,GC] at lp;refine#[((if J=1 then (l.drop k++l.take k).reverse else l.drop k++l.take k)).map (N3 a b U t u x y),Y,j7 (s:=X5 (T7.map A7) (.tup (((if J=1 then (l.drop k++l.take k).reverse else l.drop k++l.take k)).map E4)) k a b U t u x y (.own ((((if J=1 then (l.drop k++l.take k).reverse else l.drop k++l.take k)).map (N3 a b U t u x y)).map pt)) y11 y12 y13 y14 Y) ?_,(qR A gx gy hz).1,(qR A gx gy hz).2,h6.mono ∅];show gY U0 D4 E9 Y1 v8 #[[.v .feed,.no,.no,.no,.no,.no,.no,.no,.no,.no,.no,.no,.no,.no,.no],some f]=_;unfold gY;rw[e7 (s1:=#[[.v .feed,.own ((T7.take 3).map A7),.no,.no,.no,.no,.no,.no,.no,.no,.no,.no,.no,.no,.no],some f]) (D8 (s1:=#[[.v .feed,.no,.no,.no,.no,.no,.no,.no,.no,.no,.no,.no,.no,.no,.no],some f]) rfl (show 1<15 by decide)),
  e7 (s1:=#[[.v .feed,.own ((T7.take 5).map A7),.no,.no,.no,.no,.no,.no,.no,.no,.no,.no,.no,.no,.no],some f]) (D8 (s1:=#[[.v .feed,.own ((T7.take 3).map A7),.no,.no,.no,.no,.no,.no,.no,.no,.no,.no,.no,.no,.no],some f]) (am (x:=.lst ((T7.take 3).map A7)) (y:=.lst (((T7.drop 3).take 2).map A7)) (s1:=#[[.v .feed,.own ((T7.take 3).map A7),.no,.no,.no,.no,.no,.no,.no,.no,.no,.no,.no,.no,.no],some f]) rfl (A6 rfl) (bG #[])) (show 1<15 by decide)),
  e7 (s1:=#[[.v .feed,.own ((T7.take 6).map A7),.no,.no,.no,.no,.no,.no,.no,.no,.no,.no,.no,.no,.no],some f]) (D8 (s1:=#[[.v .feed,.own ((T7.take 5).map A7),.no,.no,.no,.no,.no,.no,.no,.no,.no,.no,.no,.no,.no],some f]) (am (x:=.lst ((T7.take 5).map A7)) (y:=.lst (((T7.drop 5).take 1).map A7)) (s1:=#[[.v .feed,.own ((T7.take 5).map A7),.no,.no,.no,.no,.no,.no,.no,.no,.no,.no,.no,.no,.no],some f]) rfl (A6 rfl) (bG #[])) (show 1<15 by decide)),
  e7 (s1:=#[[.v .feed,.own (T7.map A7),.no,.no,.no,.no,.no,.no,.no,.no,.no,.no,.no,.no,.no],some f]) (D8 (s1:=#[[.v .feed,.own ((T7.take 6).map A7),.no,.no,.no,.no,.no,.no,.no,.no,.no,.no,.no,.no,.no],some f]) (am (x:=.lst ((T7.take 6).map A7)) (y:=.lst ((T7.drop 6).map A7)) (s1:=#[[.v .feed,.own ((T7.take 6).map A7),.no,.no,.no,.no,.no,.no,.no,.no,.no,.no,.no,.no,.no],some f]) rfl (A6 rfl) (bG #[])) (show 1<15 by decide))]
 rw[e7 (s1:=#[[.v .feed,.own (T7.map A7),.v (A7 l),.no,.no,.no,.no,.no,.no,.no,.no,.no,.no,.no,.no],some f1]) (f9 (c7 rfl (u7 rfl e1) (w9 q1)) rfl),
  e7 (s1:=#[[.v .feed,.own (T7.map A7),.v (A7 l),.v (.int k),.no,.no,.no,.no,.no,.no,.no,.no,.no,.no,.no],some f2]) (f9 (u7 (d9 rfl (d9 (C7 (p:=j5) rfl rfl) rfl)) e2) rfl),
  e7 (s1:=#[[.v .feed,.own (T7.map A7),.v (.tup (((if J=1 then (l.drop k++l.take k).reverse else l.drop k++l.take k)).map E4)),.v (.int k),.no,.no,.no,.no,.no,.no,.no,.no,.no,.no,.no],some f3]) (f9 rt rfl),
  e7 (s1:=#[[.v .feed,.own (T7.map A7),.v (.tup (((if J=1 then (l.drop k++l.take k).reverse else l.drop k++l.take k)).map E4)),.v (.int k),.v (.int a),.v (.int b),.v (.int U),.no,.no,.no,.no,.no,.no,.no,.no],some f4]) (f9 (c7 (x:=.lst kT) (s1:=#[[.v .feed,.own (T7.map A7),.v (.tup (((if J=1 then (l.drop k++l.take k).reverse else l.drop k++l.take k)).map E4)),.v (.int k),.no,.no,.no,.no,.no,.no,.no,.no,.no,.no,.no],some f3]) (A6 rfl) (u7 rfl e4) (w9 t1)) rfl),
  e7 (s1:=#[[.v .feed,.own (T7.map A7),.v (.tup (((if J=1 then (l.drop k++l.take k).reverse else l.drop k++l.take k)).map E4)),.v (.int k),.v (.int a),.v (.int b),.v (.int U),.v (.tup [.int t,.int u]),.no,.no,.no,.no,.no,.no,.no],some f5]) (f9 (c7 (x:=.lst lZ) (s1:=#[[.v .feed,.own (T7.map A7),.v (.tup (((if J=1 then (l.drop k++l.take k).reverse else l.drop k++l.take k)).map E4)),.v (.int k),.v (.int a),.v (.int b),.v (.int U),.no,.no,.no,.no,.no,.no,.no,.no],some f4]) (A6 rfl) (u7 rfl e5) (w9 t2)) rfl),
  e7 (s1:=#[[.v .feed,.own (T7.map A7),.v (.tup (((if J=1 then (l.drop k++l.take k).reverse else l.drop k++l.take k)).map E4)),.v (.int k),.v (.int a),.v (.int b),.v (.int U),.v (.tup [.int t,.int u]),.v (fr x),.v (fr y),.no,.no,.no,.no,.no],some Y]) (f9 (u7 rfl e6) rfl),
  e7 (s1:=X5 (T7.map A7) (.tup (((if J=1 then (l.drop k++l.take k).reverse else l.drop k++l.take k)).map E4)) k a b U t u x y (.own []) .no .no .no .no Y) (D8 (s1:=#[[.v .feed,.own (T7.map A7),.v (.tup (((if J=1 then (l.drop k++l.take k).reverse else l.drop k++l.take k)).map E4)),.v (.int k),.v (.int a),.v (.int b),.v (.int U),.v (.tup [.int t,.int u]),.v (fr x),.v (fr y),.no,.no,.no,.no,.no],some Y]) rfl (show 10<15 by decide)),
  e7 ((cq (ds:=((if J=1 then (l.drop k++l.take k).reverse else l.drop k++l.take k)).map E4) (s1:=X5 (T7.map A7) (.tup (((if J=1 then (l.drop k++l.take k).reverse else l.drop k++l.take k)).map E4)) k a b U t u x y (.own []) .no .no .no .no Y) rfl).trans lp)]
 exact m8 (v4 rfl (C7 rfl rfl))
abbrev dA:c6:=kg v8 qM mW
def CA {f:FS}(J:Int) (hm:2<=J/\J<=9) (h:Fd3 n f) (hn:n<2 ^ 25):∃c ps f',dA [.feed,.int J] (some f)=some (.tup [.bl c,.tup (ps.map pt)],some f')/\ExS c ps/\Tg c ps/\Fd3 (n+31) f':=by
 obtain⟨r,f1,e1,a1,a2,h1⟩:=E3 3 h;by_cases hr:r=0
 .subst hr;obtain⟨ps,U,e2,x,Y,h2⟩:=Fx h1 ∅;refine#[true,ps,U,j7 (s:=#[[.v .feed,.v (.int J)],some U]) (m8 ?_),x,Y,h2.mono ∅];exact(fQ (B1 (c7 (u7 rfl e1) rfl (S0 0 0)))).trans (u7 rfl e2)
 .obtain⟨ps,U,e2,x,Y,h2⟩:=BR J hm h1 ∅;refine#[false,ps,U,j7 (s:=#[[.v .feed,.v (.int J)],some U]) (m8 ?_),x,Y,h2.mono ∅];exact(dP (B1 (c7 (u7 rfl e1) rfl ((S0 r 0).trans (by rw[ID hr]))))).trans (u7 rfl e2)
end T
namespace T
open PySem L2 DL
open Classical in
def C6 (q:Pt × Pt):Rat:=if h:exL q.1 q.2 then h.choose else 0
def js {q:Pt × Pt}(h:exL q.1 q.2):0<=C6 q/\Sz 90 (C6 q)/\E6 q.1 q.2=C6 q*C6 q:=by
 unfold C6;rw[dif_pos h];obtain⟨h1,h2,J,_⟩:=h.choose_spec;exact#[h1,h2,J]
def kj {q:Pt × Pt}(h:exL q.1 q.2):0<C6 q/\Gf M3 (C6 q):=by
 unfold C6;rw[dif_pos h];exact h.choose_spec.2.2.2
def xi {ps:vT_}(h:∀q∈i7 c ps,exL q.1 q.2):eS c ps=((i7 c ps).map C6).map fr:=by
 unfold eS;rw[KN];refine List.map_congr_left fun q U=>?_
 obtain⟨h1,_,J⟩:=js (h q U);rw[J,zE h1];rfl
def uH {T:List Rat}{S:Rat}(h:T[T.length - 1]? = some S):p9 (T.map fr) (-1)=some (fr S):=fH (by rw[td,Jl,h];rfl)
def BP (T:List Rat) (S:Rat):(T++[S])[(T++[S]).length - 1]? = some S:=by
 rw[Jb,Jm,MK,JU (tv _),KO];rfl
def qA {T:List Rat}(h:T.length<=50):(T.map fr).length<sizeLine:=Jf (by rw[td];exact h) (show 50<sizeLine by decide)
abbrev M1:c6:=X8 FP ip
abbrev bJ:c6:=bQ M1
def qt {α:Type}(l:List α) (a z:α) (h1:l[0]? = some a) (h2:l[l.length - 1]? = some z):i7 true l=i7 false l++[(z,a)]:=by
 unfold i7;have U:l=l.dropLast++[z]:=by
  have J:l≠[]:=fun e=>by subst e;simp at h1
  have:l.getLast J=z:=by
   rw[List.getLast_eq_getElem];rw[Ji (by have:=List.length_pos_iff.mpr J;omega)] at h2;exact Jg h2
  rw[<-this];exact(List.dropLast_concat_getLast J).symm
 have ha:l.take 1=[a]:=by
  cases l with
  |nil=>simp at h1
  |cons x r=>simp at h1;subst h1;rfl
 simp only[Jh,ha,iU IM];have Y:l.dropLast.length=(l.drop 1).length:=by rw[List.length_dropLast,JV]
 have e1:l.zip (l.drop 1++[a])=l.dropLast.zip (l.drop 1)++[(z,a)]:=by
  conv=>lhs;arg 1;rw[U]
  rw[List.zip_append Y];rfl
 have e2:l.zip (l.drop 1)=l.dropLast.zip (l.drop 1):=by
  conv=>lhs;arg 1;rw[U]
  conv=>lhs;arg 2;rw[<-Ju (l.drop 1)]
  rw[List.zip_append Y];simp
 rw[e1,e2]
def Fc (ds:vD_) (c:Bool) (fs:vO_) (h1:1<=ds.length) (hl:ds.length<=20):N9 [.tup [.bl c,.tup ds]] fs=some (.lst ((i7 c ds).map L5),fs):=by
 obtain⟨m,hm⟩:∃m:Nat,ds.length=m+1:=#[ds.length - 1,by omega]
 obtain⟨a,ha⟩:∃a,ds[0]? = some a:=#[_,Ji h1]
 obtain⟨z,hz⟩:∃z,ds[ds.length - 1]? = some z:=#[_,Ji ∅]
 have nf:=bX false ds;have nl:(i7 false ds).length=m:=by simp at nf;omega
 have pl:=xC false ds h1 (cY ds) (fun i=>by simp only[cY,Kc,JX,Jw,List.take_zero,Ju]);rw[nl] at pl;have U:=ui (idx:=[2]) (g:=cY ds) [.v (.tup ds)] fs (D0 0 m) (Ie ds fs m hm);rw[pl] at U;have la:p9 ds (-1)=some z:=fH hz;have l0:p9 ds 0=some a:=R9 (i:=0) ha;have J:c9 (a7 (a9 d7 (dL 2) (r8 v6 (Ow 1))) (a7 (Ox 2 0) a8)) #[[.v (.tup [.bl c,.tup ds]),.v (.bl c),.v (.tup ds),.own ((i7 false ds).map L5)],fs]=some (.tup [z,a],#[[.v (.tup [.bl c,.tup ds]),.v (.bl c),.v (.tup ds),.own ((i7 false ds).map L5)],fs]):=
  v4 (c7 rfl rfl ((Q4 ds (-1)).trans la)) (c7 rfl rfl ((Q4 ds 0).trans l0))
 have rg:aP (a7 (a9 B7 (i9 (one j5) (a7 (dL 2) a8)) (Ow 1)) a8) #[[.v (.tup [.bl c,.tup ds]),.v (.bl c),.v (.tup ds),.no],fs]=some (D0 0 m,#[[.v (.tup [.bl c,.tup ds]),.v (.bl c),.v (.tup ds),.no],fs]):=by
  have ln:(ds.length:Int) - 1=(m:Int):=by omega
  have e:a7 (a9 B7 (i9 (one j5) (a7 (dL 2) a8)) (Ow 1)) a8 #[[.v (.tup [.bl c,.tup ds]),.v (.bl c),.v (.tup ds),.no],fs]=some ([.int (m:Int)],#[[.v (.tup [.bl c,.tup ds]),.v (.bl c),.v (.tup ds),.no],fs]):=by
   rw[<-ln];exact d9 (c7 (C7 (p:=j5) rfl rfl) rfl rfl) rfl
  unfold aP;rw[e,xo];show (ak [.int (m:Int)]).map _=_;rw[cO ∅];rfl
 have R:∃Q:List D,gG (.lst [.tup [z,a]]) (.int (if c then 1 else 0))=some Q/\(i7 false ds).map L5++Q=(i7 c ds).map L5/\Q.length<=1:=by
  cases c with
  |true=>exact#[[.tup [z,a]],rfl,by rw[qt ds a z ha hz,Kp];rfl,tv 1]
  |false=>exact#[[],rfl,by rw[Ju],by decide]
 obtain⟨Q,Y,q2,q3⟩:=R;have lh:((i7 false ds).map L5).length<=20:=by rw[td];omega
 refine j7 (s:=#[[.v (.tup [.bl c,.tup ds]),.v (.bl c),.v (.tup ds),.own ((i7 false ds).map L5)],fs]) ?_;show nu #[[.v (.tup [.bl c,.tup ds]),.no,.no,.no],fs]=_;unfold nu;rw[e7 (s1:=#[[.v (.tup [.bl c,.tup ds]),.v (.bl c),.v (.tup ds),.no],fs]) (f9 rfl rfl),
  e7 (s1:=#[[.v (.tup [.bl c,.tup ds]),.v (.bl c),.v (.tup ds),.own ((i7 false ds).map L5)],fs]) (D8 (s1:=#[[.v (.tup [.bl c,.tup ds]),.v (.bl c),.v (.tup ds),.no],fs]) (aa (idx:=[2]) (ds:=D0 0 m) (R:=((i7 false ds).map L5)) (s1:=#[[.v (.tup [.bl c,.tup ds]),.v (.bl c),.v (.tup ds),.no],fs]) rg (Q8 (by rw[S7];omega)) U) (show 3<4 by decide))]
 rw[<-q2];exact m8 (A6 (am rfl (A6 (am (A6 (eA J)) (C7 (p:=nK) rfl rfl) Y)) (bG ∅)))
def rO (ds:vD_) (c:Bool) (fs:vO_) (h1:1<=ds.length) (J:ds.length<=9):N9 [.tup [.bl c,.tup ds]] fs=some (.lst ((i7 c ds).map L5),fs):=Fc ds c fs h1 (xr J #[])
abbrev M9:c6:=eB D4 hV N9
end T
namespace T
open PySem L2 DL
def aJ (a b:Pt) (s:Rat):Pt:=(a.1+s*(b.1 - a.1),a.2+s*(b.2 - a.2))
def AY {k:Nat}{a b:Pt}{s:Rat}(J:PtS k a) (Y:PtS k b) (U:Sz l s):PtS (k+(l+(k+k+1))+1) (aJ a b s):=
 #[J.1.add (U.mul (Y.1.sub J.1)),J.2.add (U.mul (Y.2.sub J.2))]
def vq {x y z:Rat}(J:y≠0) (h:x=z*y):x / y=z:=by rw[h,NF J]
def ik {p:Rat}(J:q≠0):(p.den:Int)*q.num≠0:=JH (K8 p) (fun z=>J (Rat.num_eq_zero.mp z))
theorem lB {p:Rat}(U:q≠0):Rat.divInt (p.num*q.den) (p.den*q.num)=p / q:=by
 have J:(((p.den:Int)*q.num:Int):Rat)≠0:=fun z=>ik U (JR.mp z)
 rw[IE];refine vq J ?_;rw[IG,IG,X6 p,X6 q];grind
def Hg {k:Nat}{p:Rat}(J:q≠0) (h1:Sz k p) (h2:Sz l q):Sz (k+l) (p / q):=by
 rw[<-lB J];exact Sz.of_divInt (ik J) (Bd.mul h1.num h2.den) (Bd.mul h1.den h2.num)
abbrev ft:c6:=iB cD
def Iu {k:Nat}(p q:Rat) (fs:vO_) (h1:Sz k p) (h2:Sz l q) (J:q≠0) (U:k+l<=8000):ft [fr p,fr q] fs=some (fr (p / q),fs):=by
 have b1:=h1.num.bits ∅;have Y:=h1.den.bits ∅;have b3:=h2.num.bits ∅;have b4:=h2.den.bits ∅;have e:=dD (p.num*q.den) (p.den*q.num) fs (ik J) (Bd.mul h1.den h2.num) U;rw[lB J] at e;refine j7 (s:=#[[.v (fr p),.v (fr q)],fs]) ?_;exact m8 (f8 (d9 (c7 (c7 rfl rfl (F8 p)) (c7 rfl rfl (D3 q)) (t7 b1 b4)) (d9 (c7 (c7 rfl rfl (D3 p)) (c7 rfl rfl (F8 q)) (t7 Y b3)) rfl)) e)
def V8 {k:Nat}(p q:Rat) (fs:vO_) (h1:Sz k p) (h2:Sz l q) (hk:k+l<=8000):u4 [fr p,fr q] fs=some (.bl (decide (p<q)),fs):=by
 have U:=h1.num.bits ∅;have J:=h1.den.bits ∅;have Y:=h2.num.bits ∅;have b4:=h2.den.bits ∅;rw[<-qJ];refine j7 (s:=#[[.v (fr p),.v (fr q)],fs]) ?_;exact m8 (c7 (c7 (c7 rfl rfl (F8 p)) (c7 rfl rfl (D3 q)) (t7 U b4)) (c7 (c7 rfl rfl (F8 q)) (c7 rfl rfl (D3 p)) (t7 Y J)) rfl)
abbrev dQ:c6:=gu U0 D4 E9 Q1 et
def yE (a b:Pt) (s:Rat) (fs:vO_) (J:PtS 200 a) (Y:PtS 200 b) (U:Sz l s) (hl:l<=500):dQ [pt a,pt b,fr s] fs=some (pt (aJ a b s),fs):=by
 have xa:=hX a fs (Ps.of J.1 J.2) #[];have xb:=hX b fs (Ps.of Y.1 Y.2) #[];have m1:=aU b.1 a.1 fs Y.1 J.1 #[];have m2:=aU b.2 a.2 fs Y.2 J.2 #[];have z1:=Y.1.sub J.1;have z2:=Y.2.sub J.2;have p1:=W7 s _ fs U z1 ∅;have p2:=W7 s _ fs U z2 ∅;have s1:=U4 a.1 _ fs J.1 (U.mul z1) ∅;have s2:=U4 a.2 _ fs J.2 (U.mul z2) ∅;have sp:=gN _ _ fs (J.1.add (U.mul z1)) (J.2.add (U.mul z2)) ∅;unfold aJ;refine j7 (s:=#[[.v (pt a),.v (pt b),.v (fr s),.v (fr (a.1+s*(b.1 - a.1))),.v (fr a.2),.v (fr b.1),.v (fr b.2)],fs]) ?_;show gE U0 D4 E9 Q1 et #[[.v (pt a),.v (pt b),.v (fr s),.no,.no,.no,.no],fs]=_;unfold gE;rw[e7 (s1:=#[[.v (pt a),.v (pt b),.v (fr s),.v (fr a.1),.v (fr a.2),.v (fr b.1),.v (fr b.2)],fs]) (f9 (v4 (f8 (d9 rfl rfl) xa) (f8 (d9 rfl rfl) xb)) rfl),
  e7 (s1:=#[[.v (pt a),.v (pt b),.v (fr s),.v (fr (a.1+s*(b.1 - a.1))),.v (fr a.2),.v (fr b.1),.v (fr b.2)],fs]) (f9 (f8 (d9 rfl (d9 (f8 (d9 rfl (d9 (f8 (d9 rfl (d9 rfl rfl)) m1) rfl)) p1) rfl)) s1) rfl)]
 exact m8 (f8 (d9 rfl (d9 (f8 (d9 rfl (d9 (f8 (d9 rfl (d9 (f8 (d9 rfl (d9 rfl rfl)) m2) rfl)) p2) rfl)) s2) rfl)) sp)
abbrev jO:c6:=iV FL
theorem oV {J U s A B d:Rat}(hA:A≠0) (hB:B≠0) (Y:d≠0):(J*A*(B*(d - s*d))+U*B*(A*(s*d))) / (A*B*d)=J+s*(U - J):=by
 refine vq ?_ ?_
 .exact fun z=>by
   rcases Rat.mul_eq_zero.mp z with z | z
   .rcases Rat.mul_eq_zero.mp z with z | z
    .exact hA z
    .exact hB z
   .exact Y z
 .grind
def uz (p:Rat):((p.den:Int):Rat)≠0:=fun h=>K8 p (JR.mp h)
def yH (a b:Pt) (s:Rat) (fs:vO_) (ha:PtS 200 a) (hb:PtS 200 b) (J:Sz l s) (hl:l<=500):jO [pt a,pt b,fr s] fs=some (pt (aJ a b s),fs):=by
 have Y:=Ps.of ha.1 ha.2;have U:=Ps.of hb.1 hb.2;have b1:=U.l.bits #[];have b2:=(J.den.sub J.num).bits ∅;have b3:=Y.l.bits #[];have b4:=J.num.bits ∅;have ax:=Y.x.bits #[];have ay:=Y.y.bits #[];have bx:=U.x.bits #[];have by_:=U.y.bits #[];have u:=(U.l.mul (J.den.sub J.num)).bits ∅;have v:=(Y.l.mul J.num).bits ∅;have w:=(Y.l.mul U.l).bits #[];have dn:=J.den.bits ∅;have e:=He (pX a*(pL b*(s.den - s.num))+pX b*(pL a*s.num)) (pY a*(pL b*(s.den - s.num))+pY b*(pL a*s.num)) (pL a*pL b*s.den) fs (JH (JH (Z4 a) (Z4 b)) (K8 s)) ((Y.l.mul U.l).mul J.den) ∅;have q1:Rat.divInt (pX a*(pL b*(s.den - s.num))+pX b*(pL a*s.num)) (pL a*pL b*s.den)=a.1+s*(b.1 - a.1):=by
  rw[IE];simp only[JA,IG,KJ];rw[eV,eV,X6 s];exact oV (av a) (av b) (uz s)
 have q2:Rat.divInt (pY a*(pL b*(s.den - s.num))+pY b*(pL a*s.num)) (pL a*pL b*s.den)=a.2+s*(b.2 - a.2):=by
  rw[IE];simp only[JA,IG,KJ];rw[eY,eY,X6 s];exact oV (av a) (av b) (uz s)
 rw[q1,q2] at e;unfold aJ;refine j7 (s:=#[[.v (pt a),.v (pt b),.v (fr s),.v (.int (pL b*(s.den - s.num))),.v (.int (pL a*s.num))],fs]) ?_;show fW FL #[[.v (pt a),.v (pt b),.v (fr s),.no,.no],fs]=_;unfold fW;rw[e7 (s1:=#[[.v (pt a),.v (pt b),.v (fr s),.v (.int (pL b*(s.den - s.num))),.no],fs]) (f9 (c7 (c7 rfl rfl (Z7 b)) (c7 (c7 rfl rfl (D3 s)) (c7 rfl rfl (F8 s)) rfl) (t7 b1 b2)) rfl),
  e7 (s1:=#[[.v (pt a),.v (pt b),.v (fr s),.v (.int (pL b*(s.den - s.num))),.v (.int (pL a*s.num))],fs]) (f9 (c7 (c7 rfl rfl (Z7 a)) (c7 rfl rfl (F8 s)) (t7 b3 b4)) rfl)]
 exact m8 (f8 (d9 (uQ (c7 (c7 (c7 rfl rfl (cb a)) rfl (t7 ax u)) (c7 (c7 rfl rfl (cb b)) rfl (t7 bx v)) rfl) (c7 (c7 (c7 rfl rfl (cV a)) rfl (t7 ay u)) (c7 (c7 rfl rfl (cV b)) rfl (t7 by_ v)) rfl) (c7 (c7 (c7 rfl rfl (Z7 a)) (c7 rfl rfl (Z7 b)) (t7 b3 b1)) (c7 rfl rfl (D3 s)) (t7 w dn))) rfl) e)
def R7:Rat->List Rat->List Rat
 |S,[]=>[S]
 |S,r::l=>S::R7 (S+r) l
theorem pT:∀(l:List Rat) (S:Rat),(R7 S l).length=l.length+1
 |[],_=>rfl
 |r::l,S=>by rw[R7,Ja,pT l,Ja]
theorem mG:∀(l:List Rat) (S:Rat) (i:Nat),i<=l.length->(R7 S l)[i]? = some ((l.take i).foldl (· + ·) S)
 |[],S,i,h=>by
  rw[Kn] at h;have:i=0:=by omega
  subst this;rfl
 |r::l,S,0,_=>rfl
 |r::l,S,i+1,h=>by
  rw[Ja] at h;rw[R7,MZ,mG l (S+r) i ∅];rfl
def ul (J:List Rat) (S r:Rat):(J++[S]).map fr++[fr (S+r)]=((J++[S])++[S+r]).map fr:=by simp
def vf (J:List Rat) (S:Rat):p9 ((J++[S]).map fr) (-1)=some (fr S):=uH (BP J S)
theorem uu (J:Sl) (fs:vO_):∀(ls T0:List Rat) (S:Rat) (k:Nat) (x2:Sl),Sz k S->(∀r∈ls,Sz 90 r)->k+91*ls.length<=1000->T0.length+1+ls.length<=50 ->
  ∃y2:Sl,B2 (d6 2) (qh FP ip) (ls.map fr) #[[J,.own ((T0++[S]).map fr),x2],fs]=some (.next,#[[J,.own ((T0++R7 S ls).map fr),y2],fs])
 |[],T0,S,k,x2,_,_,_,_=>#[x2,rfl]
 |r::l,T0,S,k,x2,hs,hl,hk,ht=>by
  rw[Ja] at hk ht;have U:=hl r (IY ..);obtain⟨y2,e⟩:=uu J fs l (T0++[S]) (S+r) (k+90+1) (.v (fr r)) (hs.add U) (fun x hx=>hl x (IT _ hx)) ∅ (by rw[Jb,Jm];omega);refine#[y2,?_];have p:=iZ S r fs hs U ∅;have Y:=vf T0 S;have ll:((T0++[S]).map fr).length<sizeLine:=qA (by rw[Jb,Jm];omega);rw[<-ul,LV] at e;rw[Js,T9 (s1:=#[[J,.own ((T0++[S]).map fr),.v (fr r)],fs]) rfl (U2 rfl (f8 (d9 (c7 rfl rfl (w9 Y)) (d9 rfl rfl)) p) rfl ll)];exact e
def Be {ps:vT_}(h:ExS c ps) (fs:vO_):M1 [.tup [.bl c,.tup (ps.map pt)]] fs=some (.lst ((R7 0 ((i7 c ps).map C6)).map fr),fs):=by
 have e:=xJ ps c fs h.sz h.hi;rw[xi h.ex] at e;have nl:=fM c ps;have hi:=h.hi;obtain⟨U,J⟩:=uu (.v (.tup [.bl c,.tup (ps.map pt)])) fs ((i7 c ps).map C6) [] 0 1 .no (Sz.lit #[]) (fun r hr=>by
  obtain⟨z,Y,rfl⟩:=IW.mp hr;exact(js (h.ex z Y)).2.1) (by rw[td];omega) (by rw[td,Kn];omega)
 rw[Kj,Kj] at J;refine j7 (s:=#[[.v (.tup [.bl c,.tup (ps.map pt)]),.v (.lst ((R7 0 ((i7 c ps).map C6)).map fr)),U],fs]) ?_;show jE FP ip #[[.v (.tup [.bl c,.tup (ps.map pt)]),.no,.no],fs]=_;unfold jE;rw[e7 (s1:=#[[.v (.tup [.bl c,.tup (ps.map pt)]),.own ([(0:Rat)].map fr),.no],fs]) (D8 (s1:=#[[.v (.tup [.bl c,.tup (ps.map pt)]),.no,.no],fs]) rfl (show 1<3 by decide)),
  e7 ((cq (ds:=(((i7 c ps).map C6).map fr)) (s1:=#[[.v (.tup [.bl c,.tup (ps.map pt)]),.own ([(0:Rat)].map fr),.no],fs]) (f8 rfl e)).trans J)]
 exact m8 rfl
theorem uB (J:Sl) (fs:vO_):∀(qs:List (Pt × Pt)) (T0:List Rat) (S:Rat) (k:Nat) (x2 x3:Sl),Sz k S->(∀q∈qs,exL q.1 q.2/\PtS 200 q.1/\PtS 200 q.2)->k+91*qs.length<=1000->T0.length+1+qs.length<=50 ->
  ∃(y2 y3:Sl),B2 (u9 2 (j4 (d6 2) (j4 (d6 3) v5))) (ud D4 hV N9) (qs.map N8) #[[J,.own ((T0++[S]).map fr),x2,x3],fs]=some (.next,#[[J,.own ((T0++R7 S (qs.map C6)).map fr),y2,y3],fs])
 |[],T0,S,k,x2,x3,_,_,_,_=>#[x2,x3,rfl]
 |q::l,T0,S,k,x2,x3,hs,hl,hk,ht=>by
  rw[Ja] at hk ht;obtain⟨U,s1,s2⟩:=hl q (IY ..);obtain⟨r1,Y,r3⟩:=js U;obtain⟨y2,y3,e⟩:=uB J fs l (T0++[S]) (S+C6 q) (k+90+1) (.v (pt q.1)) (.v (pt q.2)) (hs.add Y) (fun x U=>hl x (IT _ U)) ∅ (by rw[Jb,Jm];omega);refine#[y2,y3,?_];have z:=Ea q.1 q.2 (C6 q) fs s1 s2 r1 r3;have p:=U4 S (C6 q) fs hs Y ∅;have la:=vf T0 S;have ll:((T0++[S]).map fr).length<sizeLine:=qA (by rw[Jb,Jm];omega);rw[<-ul,LV] at e;rw[Js,T9 (s1:=#[[J,.own ((T0++[S]).map fr),.v (pt q.1),.v (pt q.2)],fs]) rfl (U2 rfl (f8 (d9 (c7 rfl rfl (w9 la)) (d9 (f8 rfl z) rfl)) p) rfl ll)];exact e
def tS {ps:vT_}(h:ExS c ps) (fs:vO_):M9 [.tup [.bl c,.tup (ps.map pt)]] fs=some (.lst ((R7 0 ((i7 c ps).map C6)).map fr),fs):=by
 have hi:=h.hi;have lo:=h.lo;have e:=rO (ps.map pt) c fs (by rw[td];exact lo) (by rw[td];exact hi);rw[lW] at e;have nl:=fM c ps;obtain⟨Y,y3,U⟩:=uB (.v (.tup [.bl c,.tup (ps.map pt)])) fs (i7 c ps) [] 0 1 .no .no (Sz.lit #[]) (fun r J=>by
  obtain⟨m1,m2⟩:=jS J;exact#[h.ex r J,h.sz _ m1,h.sz _ m2]) ∅ (by rw[Kn];omega)
 rw[Kj,Kj] at U;refine j7 (s:=#[[.v (.tup [.bl c,.tup (ps.map pt)]),.v (.lst ((R7 0 ((i7 c ps).map C6)).map fr)),Y,y3],fs]) ?_;show jN D4 hV N9 #[[.v (.tup [.bl c,.tup (ps.map pt)]),.no,.no,.no],fs]=_;unfold jN;rw[e7 (s1:=#[[.v (.tup [.bl c,.tup (ps.map pt)]),.own ([(0:Rat)].map fr),.no,.no],fs]) (D8 (s1:=#[[.v (.tup [.bl c,.tup (ps.map pt)]),.no,.no,.no],fs]) rfl (show 1<4 by decide)),
  e7 ((rj (ds:=((i7 c ps).map N8)) (s1:=#[[.v (.tup [.bl c,.tup (ps.map pt)]),.own ([(0:Rat)].map fr),.no,.no],fs]) (f8 rfl e)).trans U)]
 exact m8 rfl
structure Lay (c:Bool) (ps:vT_) (m:Nat) (S:Nat->Rat) (Q:Nat->Pt × Pt) (T:List Rat):Prop where
 m1:1<=m
 m9:m<=9
 nl:(i7 c ps).length=m
 len:T.length=m+1
 at_:∀i,i<=m->T[i]? = some (S i)
 q:∀i,i<m->(i7 c ps)[i]? = some (Q i)
 z:S 0=0
 up:∀i,i<m->S i<S (i+1)
 sz:∀i,i<=m->Sz 81 (S i)
 df:∀i,i<m->Sz 90 (S (i+1) - S i)
 pz:∀i,i<m->PtS 200 (Q i).1/\PtS 200 (Q i).2
 fst:ps[0]? = some (Q 0).1
 lst:c=true->ps[0]? = some (Q (m - 1)).2
def qq:∀(i:Nat) (ls:List Rat),(∀r∈ls,Gf M3 r)->ls.length<=i->Gf (i*M3) (ls.foldl (· + ·) 0):=by
 have J:∀(ls:List Rat) (S:Rat) (k:Nat),Gf k S->(∀r∈ls,Gf M3 r)->Gf (k+ls.length*M3) (ls.foldl (· + ·) S):=by
  intro ls;induction ls with
  |nil=>intro S k h _;exact h.mono ∅
  |cons r l Y=>
   intro S k h U;have:=Y (S+r) (k+M3) (h.add (U r (IY ..))) fun x hx=>U x (IT _ hx)
   rw[List.foldl_cons,Ja];exact this.mono (by rw[Nat.add_mul];omega)
 intro i ls h hi;refine(J ls 0 0 #[0,by decide,by decide +kernel] h).mono ?_;rw[JF];exact Nat.mul_le_mul_right _ hi
def FQ {α:Type}{l:List α}{p:α × α}(h:(i7 c l)[0]? = some p):l[0]? = some p.1:=by
 unfold i7 at h;cases c
 .exact(Ld.mp h).1
 .exact(Ld.mp h).1
theorem Af {ps:vT_}(h:ExS c ps):∃m S Q,Lay c ps m S Q (R7 0 ((i7 c ps).map C6)):=by
 have hi:=h.hi;have lo:=h.lo;have nl:=fM c ps;have ne:=h.ne;have J:∀i,i<(i7 c ps).length->(i7 c ps)[i]? = some ((i7 c ps).getD i ((0,0),(0,0))):=fun i hi=>by
  rw[Lq,Ji hi];rfl
 have Y:∀i,i<(i7 c ps).length->exL ((i7 c ps).getD i ((0,0),(0,0))).1 ((i7 c ps).getD i ((0,0),(0,0))).2:=fun i hi=>h.ex _ (JP (J i hi))
 have hs:∀i,i<(i7 c ps).length->((((i7 c ps).map C6).take (i+1)).foldl (· + ·) 0:Rat)=(((i7 c ps).map C6).take i).foldl (· + ·) 0+C6 ((i7 c ps).getD i ((0,0),(0,0))):=fun i hi=>by
  rw[List.take_add_one,List.foldl_append,Jl,J i hi];rfl
 refine#[(i7 c ps).length,fun i=>(((i7 c ps).map C6).take i).foldl (· + ·) 0,fun i=>(i7 c ps).getD i ((0,0),(0,0)),ne,by omega,rfl,?_,?_,J,rfl,?_,?_,?_,?_,?_,?_]
 .rw[pT,td]
 .intro i hi;exact mG _ 0 i (by rw[td];exact hi)
 .intro i hi;rw[hs i hi];have:=(kj (Y i hi)).1;grind
 .intro i hi;refine(qq 9 (((i7 c ps).map C6).take i) (fun r hr=>?_) (by rw[Kb];omega)).sz (by unfold M3 K3;decide);obtain⟨z,U,rfl⟩:=IW.mp (NJ hr);exact(kj (h.ex z U)).2
 .intro i hi;have e:=hs i hi;have e2:((((i7 c ps).map C6).take (i+1)).foldl (· + ·) 0:Rat) - (((i7 c ps).map C6).take i).foldl (· + ·) 0=C6 ((i7 c ps).getD i ((0,0),(0,0))):=by rw[e];grind
  rw[e2];exact(js (Y i hi)).2.1
 .intro i hi;obtain⟨a,b⟩:=jS (JP (J i hi));exact#[h.sz _ a,h.sz _ b]
 .exact FQ (J 0 ne)
 .intro hc;subst hc;obtain⟨a,ha⟩:∃a,ps[0]? = some a:=#[_,Ji lo]
  obtain⟨z,U⟩:∃z,ps[ps.length - 1]? = some z:=#[_,Ji ∅]
  have e:=qt ps a z ha U;rw[ha,e,Jb,Jm,MK,Lq,JU (tv _),KO];rfl
variable {ps:vT_}{Q:Nat->Pt × Pt}{T:List Rat}
theorem Lay.mono (L:Lay c ps m S Q T):∀(j i:Nat),i<=j->j<=m->S i<=S j
 |0,i,h,_=>by
  have:i=0:=by omega
  subst this;exact ML
 |j+1,i,h,hj=>by
  by_cases e:i=j+1
  .subst e;exact ML
  .exact Rat.le_trans (L.mono j i ∅ ∅) (Lo (L.up j ∅))
def Z5 (S:Nat->Rat) (Q:Nat->Pt × Pt) (J:Rat) (n:Nat):Pt:=aJ (Q n).1 (Q n).2 ((J - S n) / (S (n+1) - S n))
def T4 (S:Nat->Rat) (Q:Nat->Pt × Pt) (J:Rat) (U:Pt):Nat->Pt
 |0=>U
 |i+1=>if S i<J then Z5 S Q J i else T4 S Q J U i
def HB (a b:Pt):aJ a b 0=a:=by
 unfold aJ;rw[NQ,NQ,Rat.add_zero,Rat.add_zero]
theorem Lay.df_ne (L:Lay c ps m S Q T) (J:n<m):S (n+1) - S n≠0:=fun z=>by
 have:=L.up n J;grind
theorem uk (L:Lay c ps m S Q T) {J:Rat}(hn:n<m) (h:n=0\/S n<J) (h0:0<=J) (h2:J<=S (n+1)):T4 S Q J (Q 0).1 m=Z5 S Q J n:=by
 by_cases Y:S n<J
 .have g:∀i,n<i->i<=m->T4 S Q J (Q 0).1 i=Z5 S Q J n:=by
   intro i;induction i with
   |zero=>intro z;omega
   |succ i U=>
    intro h4 h5;rw[T4];by_cases e:i=n
    .subst e;rw[iO Y]
    .have:=L.mono i (n+1) ∅ ∅;rw[iU (fun z=>by grind),U ∅ ∅]
  exact g m hn (tv _)
 .have hz:n=0:=by
   rcases h with h | h
   .exact h
   .exact absurd h Y
  subst hz;have e0:J=0:=by have:=L.z;grind
  have g:∀i,i<=m->T4 S Q J (Q 0).1 i=(Q 0).1:=by
   intro i;induction i with
   |zero=>intro _;rfl
   |succ i U=>
    intro h5;have:=L.mono i 0 ∅ ∅;have:=L.z;rw[T4,iU (fun z=>by grind),U ∅]
  rw[g m (tv _)];unfold Z5;have e1:J - S 0=0:=by have:=L.z;grind
  have e2:(0:Rat) / (S (0+1) - S 0)=0:=by rw[MJ,NQ]
  rw[e1,e2,HB]
def Lay.sh_sz (L:Lay c ps m S Q T) {J:Rat}(Y:Sz 92 J) (U:n<m):Sz 264 ((J - S n) / (S (n+1) - S n)):=Hg (L.df_ne U) (Y.sub (L.sz n ∅)) (L.df n U)
def Lay.on_ps (L:Lay c ps m S Q T) {J:Rat}(Y:Sz 92 J) (U:n<m):Ok 1 3 (pt (Z5 S Q J n)):=by
 obtain⟨a,b⟩:=L.pz n U;have h:=AY a b (L.sh_sz Y U);exact Ok.pt (Ps.of h.1 h.2)
def Lay.fr_at (L:Lay c ps m S Q T) (hi:i<=m):p9 (T.map fr) (i:Int)=some (fr (S i)):=R9 (by rw[Jl,L.at_ i hi];rfl)
def Lay.fr_at1 (L:Lay c ps m S Q T) (hi:i<m):p9 (T.map fr) ((i:Int)+1)=some (fr (S (i+1))):=by
 rw[<-Int.natCast_succ];exact L.fr_at hi
def Lay.pc_at (L:Lay c ps m S Q T) (hi:i<m):((i7 c ps).map N8)[i]? = some (N8 (Q i)):=by rw[Jl,L.q i hi];rfl
abbrev bo:c6:=ig jO FF FX cy w8 M1
abbrev pi:DT:=j9 (c8 w8 (a7 (a9 d7 (dL 2) (a9 o9 (dL 3) (Ow 1))) (a7 (dV 1) a8)))
abbrev fB (Ln:D) (len:Rat) (TL:vD_) (n:Nat) (fs:vO_):DS:=#[[.v Ln,.v (fr len),.v (.lst TL),.v (.int (n:Int)),.no,.no,.no],fs]
theorem rA (L:Lay c ps m S Q T) (U:D) {J:Rat}(Y:Sz 92 J) (h1:J<=S m) (fs:vO_):∀(k n:Nat),m - n=k->n<m->(n=0\/S n<J) ->
  ∃n',n'<m/\(n'=0\/S n'<J)/\J<=S (n'+1)/\A9 pi (vd jO FF FX cy w8 M1) (fB U J (T.map fr) n fs)=some (.next,fB U J (T.map fr) n' fs)
 |0,n,hk,hn,_=>by omega
 |k+1,n,hk,hn,h=>by
  have b:=aQ (S (n+1)) J fs (L.sz (n+1) hn) Y #[];have a:=L.fr_at1 hn;have t:pi (fB U J (T.map fr) n fs)=some (decide (S (n+1)<J),fB U J (T.map fr) n fs):=F3 (f8 (d9 (c7 rfl (c7 rfl rfl rfl) (w9 a)) (d9 rfl rfl)) b);by_cases q:S (n+1)<J
  .rw[II q] at t;have hm:n+1<m:=by
    by_cases z:n+1=m
    .rw[z] at q;have:J<J:=by grind
     exact absurd this Rat.lt_irrefl
    .omega
   obtain⟨n',e1,e2,e3,e⟩:=rA L U Y h1 fs k (n+1) ∅ hm (.inr q);exact#[n',e1,e2,e3,W4 t (f9 (c7 rfl rfl rfl) rfl) e]
  .rw[ID q] at t;exact#[n,hn,h,Rat.not_lt.mp q,Z8 t]
def tF (L:Lay c ps m S Q T) (hl:ps.length<=9) (fs:vO_) (e:M1 [.tup [.bl c,.tup (ps.map pt)]] fs=some (.lst (T.map fr),fs)) {J:Rat}(Y:Sz 92 J) (h1:J<=S m) :
  ∃n,n<m/\(n=0\/S n<J)/\J<=S (n+1)/\bo [.tup [.bl c,.tup (ps.map pt)],fr J] fs=some (pt (Z5 S Q J n),fs):=by
 obtain⟨n,U,g1,g2,w⟩:=rA L (.tup [.bl c,.tup (ps.map pt)]) Y h1 fs m 0 rfl L.m1 (.inl rfl);refine#[n,U,g1,g2,?_];have e2:=si (ps.map pt) c fs (by rw[td];exact xr (by omega:ps.length+1<=100) #[]);rw[lW] at e2;have i1:=L.fr_at (i:=n) ∅;have i2:=L.fr_at1 U;have i3:p9 ((i7 c ps).map N8) (n:Int)=some (N8 (Q n)):=R9 (L.pc_at U);obtain⟨z1,z2⟩:=L.pz n U;have s1:=Y.sub (L.sz n ∅);have s2:=L.df n U;have m1:=mS J (S n) fs Y (L.sz n ∅) #[];have m2:=mS (S (n+1)) (S n) fs (L.sz (n+1) U) (L.sz n ∅) #[];have q0:=L.df_ne U;have q1:=lB (p:=J - S n) q0;have q2:=ik (p:=J - S n) q0;have sh:=L.sh_sz Y U;have bt:=yH (Q n).1 (Q n).2 _ fs z1 z2 sh #[];unfold Z5;have f1:=lP ((J - S n).num*(S (n+1) - S n).den) ((J - S n).den*(S (n+1) - S n).num) fs q2 (Bd.mul s1.den s2.num) #[];rw[q1] at f1;have b1:=s1.num.bits #[];have b2:=s1.den.bits #[];have b3:=s2.num.bits #[];have b4:=s2.den.bits #[];refine j7 (s:=#[[.v (D.tup [.bl c,.tup (ps.map pt)]),.v (fr J),.v (.lst (T.map fr)),.v (.int (n:Int)),.v (N8 (Q n)),.v (fr (J - S n)),.v (fr (S (n+1) - S n))],fs]) ?_;show gf jO FF FX cy w8 M1 #[[.v (D.tup [.bl c,.tup (ps.map pt)]),.v (fr J),.no,.no,.no,.no,.no],fs]=_;unfold gf;rw[e7 (s1:=#[[.v (D.tup [.bl c,.tup (ps.map pt)]),.v (fr J),.v (.lst (T.map fr)),.no,.no,.no,.no],fs]) (f9 (f8 rfl e) rfl),
  e7 (s1:=fB (D.tup [.bl c,.tup (ps.map pt)]) J (T.map fr) 0 fs) (f9 rfl rfl),
  e7 w,
  e7 (s1:=#[[.v (D.tup [.bl c,.tup (ps.map pt)]),.v (fr J),.v (.lst (T.map fr)),.v (.int (n:Int)),.v (N8 (Q n)),.no,.no],fs]) (f9 (c7 (f8 rfl e2) rfl ((Q4 ((i7 c ps).map N8) n).trans i3)) rfl),
  e7 (s1:=#[[.v (D.tup [.bl c,.tup (ps.map pt)]),.v (fr J),.v (.lst (T.map fr)),.v (.int (n:Int)),.v (N8 (Q n)),.v (fr (J - S n)),.no],fs]) (f9 (f8 (d9 rfl (d9 (c7 rfl rfl (w9 i1)) rfl)) m1) rfl),
  e7 (s1:=#[[.v (D.tup [.bl c,.tup (ps.map pt)]),.v (fr J),.v (.lst (T.map fr)),.v (.int (n:Int)),.v (N8 (Q n)),.v (fr (J - S n)),.v (fr (S (n+1) - S n))],fs]) (f9 (f8 (d9 (c7 rfl (c7 rfl rfl rfl) (w9 i2)) (d9 (c7 rfl rfl (w9 i1)) rfl)) m2) rfl)]
 exact m8 (f8 (d9 (c7 rfl rfl rfl) (d9 (c7 rfl rfl rfl) (d9 (f8 (d9 (c7 (c7 rfl rfl (F8 (J - S n))) (c7 rfl rfl (D3 (S (n+1) - S n))) (t7 b1 b4)) (d9 (c7 (c7 rfl rfl (D3 (J - S n))) (c7 rfl rfl (F8 (S (n+1) - S n))) (t7 b2 b3)) rfl)) f1) rfl))) bt)
abbrev cM:c6:=jG u4 dQ ft Q1 N9
abbrev sR:DM:=iX u4 dQ ft Q1 N9
abbrev Gz:D->DS->Option DS:=u9 2 (j4 (d6 4) (j4 (u9 2 (j4 (d6 5) (j4 (d6 6) v5))) v5))
abbrev V7 (Ln:D) (TL:vD_) (len:Rat) (p:Pt) (x4 x5 x6 x7:Sl) (fs:vO_):DS:=#[[.v Ln,.v (.lst TL),.v (fr len),.v (pt p),x4,x5,x6,x7],fs]
def yM {t:D->DS->Option DS}{b:DM}{s:DS}(h:f s=some ([.lst ds],s1)):eI f t b s=B2 t b (T2 ds) s1:=by
 unfold eI;rw[h];rfl
def wg (L:Lay c ps m S Q T) (U:D) {J:Rat}(hs:Sz 92 J) (p:Pt) (Y:Sl) (fs:vO_) (hi:i<m) :
  ∃y7,sR (V7 U (T.map fr) J p (.v (.int (i:Int))) (.v (pt (Q i).1)) (.v (pt (Q i).2)) Y fs)=some (.next,V7 U (T.map fr) J (if S i<J then Z5 S Q J i else p) (.v (.int (i:Int))) (.v (pt (Q i).1)) (.v (pt (Q i).2)) y7 fs):=by
 have b:=V8 (S i) J fs (L.sz i ∅) hs #[];have i1:=L.fr_at (i:=i) ∅;have i2:=L.fr_at1 hi;have t:j9 (c8 u4 (a7 (a9 d7 (dL 1) (dL 4)) (a7 (dV 2) a8))) (V7 U (T.map fr) J p (.v (.int (i:Int))) (.v (pt (Q i).1)) (.v (pt (Q i).2)) Y fs)=some (decide (S i<J),V7 U (T.map fr) J p (.v (.int (i:Int))) (.v (pt (Q i).1)) (.v (pt (Q i).2)) Y fs):=F3 (f8 (d9 (c7 rfl rfl (w9 i1)) (d9 rfl rfl)) b);show ∃y7,iX u4 dQ ft Q1 N9 _=_;unfold iX;by_cases q:S i<J
 .rw[II q] at t;rw[iO q];obtain⟨z1,z2⟩:=L.pz i hi;have s1:=hs.sub (L.sz i ∅);have m1:=aU J (S i) fs hs (L.sz i ∅) #[];have m2:=aU (S (i+1)) (S i) fs (L.sz (i+1) hi) (L.sz i ∅) #[];have ov:=Iu _ _ fs s1 (L.df i hi) (L.df_ne hi) #[];have bt:=yE (Q i).1 (Q i).2 _ fs z1 z2 (L.sh_sz hs hi) #[];refine#[.v (fr (S (i+1) - S i)),?_];unfold Z5;rw[F7 t,e7 (s1:=V7 U (T.map fr) J p (.v (.int (i:Int))) (.v (pt (Q i).1)) (.v (pt (Q i).2)) (.v (fr (S (i+1) - S i))) fs) (f9 (f8 (d9 (c7 rfl (c7 rfl rfl rfl) (w9 i2)) (d9 (c7 rfl rfl (w9 i1)) rfl)) m2) rfl)];exact f9 (f8 (d9 rfl (d9 rfl (d9 (f8 (d9 (f8 (d9 rfl (d9 (c7 rfl rfl (w9 i1)) rfl)) m1) (d9 rfl rfl)) ov) rfl))) bt) rfl
 .rw[ID q] at t;rw[iU q];exact#[Y,C9 t]
def tY (L:Lay c ps m S Q T) (h1:1<=ps.length) (hl:ps.length<=9) (fs:vO_) {J:Rat}(hs:Sz 92 J):cM [.tup [.bl c,.tup (ps.map pt)],.lst (T.map fr),fr J] fs=some (pt (T4 S Q J (Q 0).1 m),fs):=by
 have e:=rO (ps.map pt) c fs (by rw[td];exact h1) (by rw[td];exact hl);rw[lW] at e;have f0:p9 (ps.map pt) 0=some (pt (Q 0).1):=R9 (i:=0) (by rw[Jl,L.fst];rfl);obtain⟨s',lp,Y,x5,x6,U,rfl⟩:=bq (t:=Gz) (b:=sR) (fun i s=>∃Y x5 x6 U,s=V7 (.tup [.bl c,.tup (ps.map pt)]) (T.map fr) J (T4 S Q J (Q 0).1 i) Y x5 x6 U fs) (T2 ((i7 c ps).map N8)) 0 (V7 (.tup [.bl c,.tup (ps.map pt)]) (T.map fr) J (Q 0).1 .no .no .no .no fs) #[.no,.no,.no,.no,rfl] (by
  rintro i d s hd ⟨Y,x5,x6,U,rfl⟩;rw[JF] at *;have hi:i<m:=by
   have:=(Jj.mp hd).1;unfold T2 at this;rw[td,Np,td,L.nl] at this;exact this
  rw[tH (L.pc_at hi)] at hd;cases hd;obtain⟨y7,e⟩:=wg L (.tup [.bl c,.tup (ps.map pt)]) hs (T4 S Q J (Q 0).1 i) U fs hi;exact#[_,_,rfl,.inl e,_,_,_,_,rfl])
 have en:(T2 ((i7 c ps).map N8)).length=m:=by
  unfold T2;rw[td,Np,td,L.nl]
 rw[JF,en] at lp;refine j7 (s:=V7 (.tup [.bl c,.tup (ps.map pt)]) (T.map fr) J (T4 S Q J (Q 0).1 m) Y x5 x6 U fs) ?_;show kW u4 dQ ft Q1 N9 #[[.v (.tup [.bl c,.tup (ps.map pt)]),.v (.lst (T.map fr)),.v (fr J),.no,.no,.no,.no,.no],fs]=_;unfold kW;rw[e7 (s1:=V7 (.tup [.bl c,.tup (ps.map pt)]) (T.map fr) J (Q 0).1 .no .no .no .no fs) (f9 (c7 (c7 rfl rfl rfl) rfl ((Q4 (ps.map pt) 0).trans f0)) rfl),
  e7 ((yM (ds:=((i7 c ps).map N8)) (s1:=V7 (.tup [.bl c,.tup (ps.map pt)]) (T.map fr) J (Q 0).1 .no .no .no .no fs) (d9 (f8 rfl e) rfl)).trans lp)]
 exact m8 rfl
end T
namespace T
open PySem L2 DL
structure In (M x:Rat):Prop where
 lo:0<=x
 hi:x<=M
 sz:Sz 92 x
variable {ps:vT_}{Q:Nat->Pt × Pt}{T:List Rat}
def Lay.lst_at (L:Lay c ps m S Q T):p9 (T.map fr) (-1)=some (fr (S m)):=uH (by rw[L.len,MK];exact L.at_ m (tv _))
end T
namespace T
open PySem L2 DL
variable {ps:vT_}{Q:Nat->Pt × Pt}{T:List Rat}
abbrev D5 (S:Nat->Rat) (Q:Nat->Pt × Pt) (m:Nat) (len:Rat):Pt:=T4 S Q len (Q 0).1 m
def rB (L:Lay c ps m S Q T) (U:ps.length<=9) (fs:vO_) (e:M1 [.tup [.bl c,.tup (ps.map pt)]] fs=some (.lst (T.map fr),fs)) {J:Rat}(h:In (S m) J):bo [.tup [.bl c,.tup (ps.map pt)],fr J] fs=some (pt (D5 S Q m J),fs):=by
 obtain⟨n,Y,g1,g2,q⟩:=tF L U fs e h.sz h.hi;rw[<-uk L Y g1 h.lo g2] at q;exact q
def qH (L:Lay c ps m S Q T) (hl:ps.length<=9) (e:M1 [.tup [.bl c,.tup (ps.map pt)]] none=some (.lst (T.map fr),none)) {J:Rat}(h:In (S m) J):Ok 1 3 (pt (D5 S Q m J)):=by
 obtain⟨n,U,g1,Y,q⟩:=tF L hl none e h.sz h.hi;show Ok 1 3 (pt (T4 S Q J (Q 0).1 m));rw[uk L U g1 h.lo Y];exact L.on_ps h.sz U
def aM (b e:Rat) (z:Pt × Rat):Bool:=decide (b<z.2)&&decide (z.2<e)
def t9 (b e:Rat) (Z:List (Pt × Rat)):List Pt:=(Z.filter (aM b e)).map (·.1)
def Hs (b e:Rat) (Z:List (Pt × Rat)) (z:Pt × Rat):t9 b e (Z++[z])=t9 b e Z++(if aM b e z then [z.1] else []):=by
 unfold t9;rw[List.filter_append,Kp];cases h:aM b e z
 .rw[LM (by rw[h];decide)];simp
 .rw[MH h];simp
def Ed {b e:Rat}(h:Z[i]? = some z):t9 b e (Z.take (i+1))=t9 b e (Z.take i)++(if aM b e z then [z.1] else []):=by
 rw[List.take_add_one,h];exact Hs ..
def fw (b e:Rat) (Z:List (Pt × Rat)):(t9 b e Z).length<=Z.length:=by
 unfold t9;rw[td];exact NP ..
def yS {b e:Rat}{p:Pt}(h:p∈t9 b e Z):∃z∈Z,z.1=p:=by
 unfold t9 at h;obtain⟨z,J,rfl⟩:=IW.mp h;exact#[z,(JS.mp J).1,rfl]
def Lay.ps_len (L:Lay c ps m S Q T):ps.length<=m+1:=by
 have:=bX c ps;rw[L.nl] at this;omega
def oF {A:vT_}{b e:Rat}(h:Z[i]? = some z):(A++t9 b e (Z.take (i+1))).map pt=(A++t9 b e (Z.take i)).map pt++(if aM b e z then [pt z.1] else []):=by
 rw[Ed h];cases aM b e z <;> simp
abbrev ck:c6:=jk bo w8 M1
abbrev aA (Ln:D) (b e:Rat) (A:vT_) (x4 x5:Sl) (fs:vO_):DS:=#[[.v Ln,.v (fr b),.v (fr e),.own (A.map pt),x4,x5],fs]
def Cd (J:D) {b e:Rat}(hb:Sz 92 b) (he:Sz 92 e) (A:vT_) (h:Z[i]? = some z) (hz:Sz 81 z.2) (hl:(A++t9 b e (Z.take i)).length<=50) (fs:vO_) :
  fZ bo w8 M1 (aA J b e (A++t9 b e (Z.take i)) (.v (pt z.1)) (.v (fr z.2)) fs)=some (.next,aA J b e (A++t9 b e (Z.take (i+1))) (.v (pt z.1)) (.v (fr z.2)) fs):=by
 have b1:=aQ b z.2 fs hb hz #[];have b2:=aQ z.2 e fs hz he #[];have ap:=oF (A:=A) (b:=b) (e:=e) h;have ll:((A++t9 b e (Z.take i)).map pt).length<sizeLine:=Jf (by rw[td];exact hl) (show 50<sizeLine by decide);unfold aA;rw[ap];unfold fZ;have U:j9 (c8 w8 (a7 (dV 1) (a7 (dV 5) a8))) #[[.v J,.v (fr b),.v (fr e),.own ((A++t9 b e (Z.take i)).map pt),.v (pt z.1),.v (fr z.2)],fs]=some (decide (b<z.2),#[[.v J,.v (fr b),.v (fr e),.own ((A++t9 b e (Z.take i)).map pt),.v (pt z.1),.v (fr z.2)],fs]):=F3 (f8 rfl b1);have Y:j9 (c8 w8 (a7 (dV 5) (a7 (dV 2) a8))) #[[.v J,.v (fr b),.v (fr e),.own ((A++t9 b e (Z.take i)).map pt),.v (pt z.1),.v (fr z.2)],fs]=some (decide (z.2<e),#[[.v J,.v (fr b),.v (fr e),.own ((A++t9 b e (Z.take i)).map pt),.v (pt z.1),.v (fr z.2)],fs]):=F3 (f8 rfl b2);unfold aM;cases q1:decide (b<z.2) with
 |false=>
  rw[q1] at U;rw[C9 (bj U)];simp
 |true=>
  rw[q1] at U;cases q2:decide (z.2<e) with
  |false=>
   rw[q2] at Y;rw[C9 (S9 U Y)];simp
  |true=>
   rw[q2] at Y;rw[F7 (S9 U Y)];exact U2 (s1:=#[[.v J,.v (fr b),.v (fr e),.own ((A++t9 b e (Z.take i)).map pt),.v (pt z.1),.v (fr z.2)],fs]) (ds:=((A++t9 b e (Z.take i)).map pt)) (ds0:=((A++t9 b e (Z.take i)).map pt)) (d:=pt z.1) rfl rfl rfl ll
def DN {t:D->DS->Option DS}{b:DM}{s:DS}{xs ys:vD_}(h:f s=some ([.tup xs,.lst ys],s1)):eX f t b s=B2 t b (List.zipWith O8 xs ys) s1:=by
 unfold eX;rw[h];rfl
theorem jJ:∀(ps:vT_) (T:List Rat),List.zipWith O8 (ps.map pt) (T.map fr)=(ps.zip T).map fun z=>.tup [pt z.1,fr z.2]
 |[],_=>rfl
 |_::_,[]=>rfl
 |p::r,s::l=>by
  rw[Js,Js,Nn,jJ r l,List.zip_cons_cons,Js];rfl
abbrev cF (A:vT_):D:=.tup [.bl false,.tup (A.map pt)]
abbrev Y5 (S:Nat->Rat) (Q:Nat->Pt × Pt) (m:Nat) (Z:List (Pt × Rat)) (b e:Rat):List Pt:=([D5 S Q m b]++t9 b e Z)++[D5 S Q m e]
def ko (L:Lay c ps m S Q T) (h:(ps.zip T)[i]? = some z):ps[i]? = some z.1/\i<=m/\z.2=S i:=by
 obtain⟨h1,h2⟩:=Ld.mp h;have hi:i<=m:=by
  have:=(Jj.mp h2).1;rw[L.len] at this;omega
 rw[L.at_ i hi] at h2;exact#[h1,hi,(Jg h2).symm]
def re (A:vT_) (p:Pt):(A++[p]).map pt=A.map pt++[pt p]:=by simp
def Bb (L:Lay c ps m S Q T) (hl:ps.length<=9) (fs:vO_) (Y:M1 [.tup [.bl c,.tup (ps.map pt)]] fs=some (.lst (T.map fr),fs)) {b e:Rat}(hb:In (S m) b) (he:In (S m) e) :
  ck [.tup [.bl c,.tup (ps.map pt)],fr b,fr e] fs=some (cF (Y5 S Q m (ps.zip T) b e),fs):=by
 have p1:=rB L hl fs Y hb;have p2:=rB L hl fs Y he;have zl:(ps.zip T).length<=9:=by rw[Ll];omega
 obtain⟨s',lp,J,U,rfl⟩:=bq (t:=u9 2 (j4 (d6 4) (j4 (d6 5) v5))) (b:=fZ bo w8 M1) (fun i s=>∃J U,s=aA (.tup [.bl c,.tup (ps.map pt)]) b e ([D5 S Q m b]++t9 b e ((ps.zip T).take i)) J U fs) (List.zipWith O8 (ps.map pt) (T.map fr)) 0 (aA (.tup [.bl c,.tup (ps.map pt)]) b e ([D5 S Q m b]++t9 b e ((ps.zip T).take 0)) .no .no fs) #[.no,.no,rfl] (by
  rintro i d s hd ⟨J,U,rfl⟩;rw[JF] at *;rw[jJ,Jl] at hd;obtain⟨z,hz,rfl⟩:=Ly.mp hd;obtain⟨_,hi,zz⟩:=ko L hz;have sl:=fw b e ((ps.zip T).take i);have e:=Cd (.tup [.bl c,.tup (ps.map pt)]) hb.sz he.sz [D5 S Q m b] hz (by rw[zz];exact L.sz i hi) (by rw[Jb,Jm];rw[Kb] at sl;omega) fs;exact#[_,_,rfl,.inl e,_,_,rfl])
 rw[JF,jJ,td,NH (tv _),<-jJ] at lp;have sl:=fw b e (ps.zip T);have ll:(([D5 S Q m b]++t9 b e (ps.zip T)).map pt).length<sizeLine:=Jf (by rw[td,Jb,Jm];omega) (show 50<sizeLine by decide);have i0:B8 3 (j8 (a7 (c8 bo (a7 (dV 0) (a7 (dV 1) a8))) a8)) #[[.v (.tup [.bl c,.tup (ps.map pt)]),.v (fr b),.v (fr e),.no,.no,.no],fs]=some (.next,aA (.tup [.bl c,.tup (ps.map pt)]) b e ([D5 S Q m b]++t9 b e ((ps.zip T).take 0)) .no .no fs):=
  D8 (s1:=#[[.v (.tup [.bl c,.tup (ps.map pt)]),.v (fr b),.v (fr e),.no,.no,.no],fs]) (eA (f8 rfl p1)) (show 3<6 by decide)
 unfold cF Y5;rw[re];unfold aA at lp;refine j7 (s:=#[[.v (.tup [.bl c,.tup (ps.map pt)]),.v (fr b),.v (fr e),.own ((([D5 S Q m b]++t9 b e (ps.zip T)).map pt)++[pt (D5 S Q m e)]),J,U],fs]) ?_;show lN bo w8 M1 #[[.v (.tup [.bl c,.tup (ps.map pt)]),.v (fr b),.v (fr e),.no,.no,.no],fs]=_;unfold lN;rw[e7 i0,e7 ((DN (xs:=ps.map pt) (ys:=T.map fr) (s1:=aA (.tup [.bl c,.tup (ps.map pt)]) b e ([D5 S Q m b]++t9 b e ((ps.zip T).take 0)) .no .no fs) (d9 (c7 rfl rfl rfl) (d9 (f8 rfl Y) rfl))).trans lp),
  e7 (s1:=#[[.v (.tup [.bl c,.tup (ps.map pt)]),.v (fr b),.v (fr e),.own ((([D5 S Q m b]++t9 b e (ps.zip T)).map pt)++[pt (D5 S Q m e)]),J,U],fs]) (U2 (s1:=#[[.v (.tup [.bl c,.tup (ps.map pt)]),.v (fr b),.v (fr e),.own (([D5 S Q m b]++t9 b e (ps.zip T)).map pt),J,U],fs]) rfl (f8 rfl p2) rfl ll)]
 exact m8 (v4 rfl (C7 (p:=J9) rfl rfl))
abbrev V2:c6:=iL cM u4
abbrev ae (Ln TL:D) (b e:Rat) (A:vT_) (x5:Sl) (fs:vO_):DS:=#[[.v Ln,.v TL,.v (fr b),.v (fr e),.own (A.map pt),x5],fs]
def xP (L:Lay c ps m S Q T) {b e:Rat}(hb:Sz 92 b) (he:Sz 92 e) (A:vT_) (h:(ps.zip T)[i]? = some z) (hl:(A++t9 b e ((ps.zip T).take i)).length<=50) (fs:vO_) :
  ic cM u4 (ae (.tup [.bl c,.tup (ps.map pt)]) (.lst (T.map fr)) b e (A++t9 b e ((ps.zip T).take i)) (.v (.int (i:Int))) fs)=some (.next,ae (.tup [.bl c,.tup (ps.map pt)]) (.lst (T.map fr)) b e (A++t9 b e ((ps.zip T).take (i+1))) (.v (.int (i:Int))) fs):=by
 obtain⟨hp,hi,zz⟩:=ko L h;have hz:=L.sz i hi;have b1:=V8 b (S i) fs hb hz #[];have b2:=V8 (S i) e fs hz he #[];have i1:=L.fr_at hi;have i2:p9 (ps.map pt) (i:Int)=some (pt z.1):=R9 (by rw[Jl,hp];rfl);have ap:=oF (A:=A) (b:=b) (e:=e) h;have ll:((A++t9 b e ((ps.zip T).take i)).map pt).length<sizeLine:=Jf (by rw[td];exact hl) (show 50<sizeLine by decide);unfold ae;rw[ap];unfold aM;rw[zz];unfold ic;have J:j9 (c8 u4 (a7 (dV 2) (a7 (a9 d7 (dL 1) (dL 5)) a8))) #[[.v (.tup [.bl c,.tup (ps.map pt)]),.v (.lst (T.map fr)),.v (fr b),.v (fr e),.own ((A++t9 b e ((ps.zip T).take i)).map pt),.v (.int (i:Int))],fs]=some (decide (b<S i),#[[.v (.tup [.bl c,.tup (ps.map pt)]),.v (.lst (T.map fr)),.v (fr b),.v (fr e),.own ((A++t9 b e ((ps.zip T).take i)).map pt),.v (.int (i:Int))],fs]):=F3 (f8 (d9 rfl (d9 (c7 rfl rfl (w9 i1)) rfl)) b1);have U:j9 (c8 u4 (a7 (a9 d7 (dL 1) (dL 5)) (a7 (dV 3) a8))) #[[.v (.tup [.bl c,.tup (ps.map pt)]),.v (.lst (T.map fr)),.v (fr b),.v (fr e),.own ((A++t9 b e ((ps.zip T).take i)).map pt),.v (.int (i:Int))],fs]=some (decide (S i<e),#[[.v (.tup [.bl c,.tup (ps.map pt)]),.v (.lst (T.map fr)),.v (fr b),.v (fr e),.own ((A++t9 b e ((ps.zip T).take i)).map pt),.v (.int (i:Int))],fs]):=F3 (f8 (d9 (c7 rfl rfl (w9 i1)) (d9 rfl rfl)) b2);cases Y:decide (b<S i) with
 |false=>
  rw[Y] at J;rw[C9 (bj J)];simp
 |true=>
  rw[Y] at J;cases q2:decide (S i<e) with
  |false=>
   rw[q2] at U;rw[C9 (S9 J U)];simp
  |true=>
   rw[q2] at U;rw[F7 (S9 J U)];exact U2 (s1:=#[[.v (.tup [.bl c,.tup (ps.map pt)]),.v (.lst (T.map fr)),.v (fr b),.v (fr e),.own ((A++t9 b e ((ps.zip T).take i)).map pt),.v (.int (i:Int))],fs]) (ds:=((A++t9 b e ((ps.zip T).take i)).map pt)) (ds0:=((A++t9 b e ((ps.zip T).take i)).map pt)) (d:=pt z.1) rfl (c7 (c7 rfl rfl rfl) rfl ((Q4 (ps.map pt) i).trans i2)) rfl ll
def uF (L:Lay c ps m S Q T) (h1:1<=ps.length) (Y:ps.length<=9) (fs:vO_) {b e:Rat}(hb:In (S m) b) (he:In (S m) e) :
  V2 [.tup [.bl c,.tup (ps.map pt)],.lst (T.map fr),fr b,fr e] fs=some (cF (Y5 S Q m (ps.zip T) b e),fs):=by
 have p1:=tY L h1 Y fs hb.sz;have p2:=tY L h1 Y fs he.sz;have pl:=L.ps_len;have zl:(ps.zip T).length=ps.length:=by rw[Ll,L.len];omega
 obtain⟨s',U,J,rfl⟩:=bq (t:=d6 5) (b:=ic cM u4) (fun i s=>∃J,s=ae (.tup [.bl c,.tup (ps.map pt)]) (.lst (T.map fr)) b e ([D5 S Q m b]++t9 b e ((ps.zip T).take i)) J fs) (D0 0 ps.length) 0 (ae (.tup [.bl c,.tup (ps.map pt)]) (.lst (T.map fr)) b e ([D5 S Q m b]++t9 b e ((ps.zip T).take 0)) .no fs) #[.no,rfl] (by
  rintro i d s hd ⟨J,rfl⟩;obtain⟨rfl,hi⟩:=eZ hd;rw[JF] at *;have ei:(0:Int)+(i:Int)=(i:Int):=NO _;rw[ei];obtain⟨z,hz⟩:∃z,(ps.zip T)[i]? = some z:=#[_,Ji ∅]
  have sl:=fw b e ((ps.zip T).take i);have e:=xP L hb.sz he.sz [D5 S Q m b] hz (by rw[Jb,Jm];rw[Kb] at sl;omega) fs;exact#[_,_,rfl,.inl e,_,rfl])
 rw[JF,S7,NH (l:=ps.zip T) (i:=ps.length) ∅] at U;have sl:=fw b e (ps.zip T);have ll:(([D5 S Q m b]++t9 b e (ps.zip T)).map pt).length<=50:=by rw[td,Jb,Jm];omega
 have i0:B8 4 (j8 (a7 (c8 cM (a7 (dV 0) (a7 (dV 1) (a7 (dV 2) a8)))) a8)) #[[.v (.tup [.bl c,.tup (ps.map pt)]),.v (.lst (T.map fr)),.v (fr b),.v (fr e),.no,.no],fs]=some (.next,ae (.tup [.bl c,.tup (ps.map pt)]) (.lst (T.map fr)) b e ([D5 S Q m b]++t9 b e ((ps.zip T).take 0)) .no fs):=
  D8 (s1:=#[[.v (.tup [.bl c,.tup (ps.map pt)]),.v (.lst (T.map fr)),.v (fr b),.v (fr e),.no,.no],fs]) (eA (f8 rfl p1)) (show 4<6 by decide)
 have rg:(a7 (i9 (one j5) (a7 (Ox 0 1) a8)) a8) (ae (.tup [.bl c,.tup (ps.map pt)]) (.lst (T.map fr)) b e ([D5 S Q m b]++t9 b e ((ps.zip T).take 0)) .no fs)=some ([.int (ps.length:Int)],ae (.tup [.bl c,.tup (ps.map pt)]) (.lst (T.map fr)) b e ([D5 S Q m b]++t9 b e ((ps.zip T).take 0)) .no fs):=by
  have:((ps.map pt).length:Int)=(ps.length:Int):=by rw[td]
  rw[<-this];exact d9 (C7 (p:=j5) (c7 rfl rfl rfl) rfl) rfl
 unfold cF Y5;rw[re];unfold ae at U;refine j7 (s:=#[[.v (.tup [.bl c,.tup (ps.map pt)]),.v (.lst (T.map fr)),.v (fr b),.v (fr e),.own (([D5 S Q m b]++t9 b e (ps.zip T)).map pt),J],fs]) ?_;show gF cM u4 #[[.v (.tup [.bl c,.tup (ps.map pt)]),.v (.lst (T.map fr)),.v (fr b),.v (fr e),.no,.no],fs]=_;unfold gF;rw[e7 i0,e7 ((cw rg (cO (n:=ps.length) ∅)).trans U)];exact m8 (v4 rfl (C7 (p:=J9) (A6 (am (x:=.lst (([D5 S Q m b]++t9 b e (ps.zip T)).map pt)) (y:=.lst [pt (D5 S Q m e)]) (s1:=#[[.v (.tup [.bl c,.tup (ps.map pt)]),.v (.lst (T.map fr)),.v (fr b),.v (fr e),.own (([D5 S Q m b]++t9 b e (ps.zip T)).map pt),J],fs]) rfl (A6 (eA (f8 rfl p2))) (bG (by rw[Jm];omega)))) rfl))
def xz (L:Lay c ps m S Q T) (U:ExS c ps) (Y:M1 [.tup [.bl c,.tup (ps.map pt)]] none=some (.lst (T.map fr),none)) {b e:Rat}(hb:In (S m) b) (he:In (S m) e):Ok 3 100 (cF (Y5 S Q m (ps.zip T) b e)):=by
 have o1:=qH L U.hi Y hb;have o2:=qH L U.hi Y he;have sl:=fw b e (ps.zip T);have hi:=U.hi;have zl:(ps.zip T).length<=9:=by rw[Ll];omega
 have h1:=Ok.tup (OkL.all (k:=1) (n:=3) (ds:=(Y5 S Q m (ps.zip T) b e).map pt) fun d hd=>by
  obtain⟨p,J,rfl⟩:=IW.mp hd;rcases JT.mp J with J | J
  .rcases JT.mp J with J | J
   .rw[Jo.mp J];exact o1
   .obtain⟨z,hz,rfl⟩:=yS J;obtain⟨i,hi⟩:=LL hz;have:=U.sz _ (JP (ko L hi).1);exact Ok.pt (Ps.of this.1 this.2) #[]
  .rw[Jo.mp J];exact o2)
 have h2:Ok 2 60 (.tup ((Y5 S Q m (ps.zip T) b e).map pt)):=h1.mono #[] (by
  rw[td,Jb,Jb,Jm,Jm];omega)
 exact(Ok.tup (OkL.cons (Ok.bl false) (OkL.cons h2 OkL.nil))).mono #[] #[]
end T
namespace T
open PySem L2 DL
variable {ps:vT_}{Q:Nat->Pt × Pt}{T:List Rat}
def Du (L:Lay c ps m S Q T) (fs:vO_) (e:M1 [.tup [.bl c,.tup (ps.map pt)]] fs=some (.lst (T.map fr),fs)):bJ [.tup [.bl c,.tup (ps.map pt)]] fs=some (fr (S m),fs):=
 j7 (s:=#[[.v (.tup [.bl c,.tup (ps.map pt)])],fs]) (m8 (c7 (f8 rfl e) rfl (w9 L.lst_at)))
end T
namespace T
open PySem L2 DL
variable {p D:Nat->Pt}{X:List Rat}
end T
namespace T
open PySem L2 DL
def wX (x y:Str):C8 (.str x) (.str y)=some (.bl (decide (x=y))):=rfl
def HG (h:x=y):C8 (.str x) (.str y)=some (.bl true):=by rw[wX,II h]
def sr {α:Type}(fs:vO_) (A B G:α->D):∀l:List α,(∀z∈l,fe #[.v (A z) :: .v (B z)::L4 idx sl,fs]=some (G z,#[.v (A z) :: .v (B z)::L4 idx sl,fs]))->C0 (V1 idx sl) A8 fe (l.map fun z=>.tup [A z,B z]) fs=some (l.map G,fs):=by
 intro l;induction l with
 |nil=>exact fun _=>rfl
 |cons z r J=>
  intro h;have e:=h z (IY ..);have J:=J fun y U=>h y (IT _ U)
  rw[Js,C0,show V1 idx sl (.tup [A z,B z])=some (.v (A z) :: .v (B z)::L4 idx sl) from rfl,xo,
   show A8 #[.v (A z) :: .v (B z)::L4 idx sl,fs]=some (true,#[.v (A z) :: .v (B z)::L4 idx sl,fs]) from rfl,xo,iO rfl,e,xo,J]
  rfl
def gS {α:Type}{caps:List Sl}(fs:vO_) (A G:α->D):∀l:List α,(∀z∈l,fe #[.v (A z)::caps,fs]=some (G z,#[.v (A z)::caps,fs]))->C0 (fun d=>some (.v d::caps)) A8 fe (l.map A) fs=some (l.map G,fs):=by
 intro l;induction l with
 |nil=>exact fun _=>rfl
 |cons z r J=>
  intro h;have e:=h z (IY ..);have J:=J fun y U=>h y (IT _ U)
  rw[Js,C0,xo,
   show A8 #[.v (A z)::caps,fs]=some (true,#[.v (A z)::caps,fs]) from rfl,xo,iO rfl,e,xo,J]
  rfl
abbrev lj:c6:=cK FP
abbrev fO:c6:=cS FX FT lj
abbrev dh:c6:=bF w8
abbrev bR:c6:=bM w8
def mZ (h:0<q):0<q.num:=by
 have a:=dY (Lo h);have b:q.num≠0:=fun z=>by
  rw[Rat.num_eq_zero] at z;rw[z] at h;exact absurd h Rat.lt_irrefl
 omega
variable {p D:Nat->Pt}{X:List Rat}
variable {u v:Rat}{k:Nat}{S':Nat->Rat}{Q':Nat->Pt × Pt}
end T
namespace T
open PySem L2 DL
section
variable {a b:DM}{c c':DT}{e e':DE}{s:DS}{x y w:D}{xs:vD_}{r:Option (Fl × DS)}{q:Option (D × DS)}{v:Option (Bool × DS)}{fs:vO_}{m:c6}{p:D->D->Option D}{p1:D->Option D}{pl:List D->Option D}{t:D->DS->Option DS}{B:Bool}
def jD (h:a s=some (.next,s1)) (k:b s1=r):d8 a b s=r:=by simp[d8,h,K6,k]
end
def pk {b:DM}{fs:vO_}{s:DS}(h:b #[ds.map .v++List.replicate (n - ds.length) .no,fs]=some (.ret d,s)):aw n b ds fs=some (.inl d,s.fs):=by simp[aw,h]
def oW {b:DM}{es:vD_}{fs:vO_}{c:Str}{s:DS}(h:b #[ds.map .v++List.replicate (n - ds.length) .no,fs]=some (.thr c es,s)):aw n b ds fs=some (.inr (c,es),s.fs):=by simp[aw,h]
def Ik {c:Str}{t:DA}{s:DS}(h:t s=some (ds,s1)):iW c t s=some (.thr c ds,s1):=by simp[iW,h]
def uD {a b:DM}{s:DS}{c:Str}(h:a s=some (.thr c ds,s1)):d8 a b s=some (.thr c ds,s1):=by simp[d8,h,K6]
def lq {m:G7}{s:DS}{xs:vD_}{fs:vO_}{r:Rx}(h1:f s=some (xs,#[sl,fs])) (h2:m xs fs=some (r,fs')):S5 m f s=some (r,#[sl,fs']):=by simp[S5,h1,h2]
def Fk {f:K0}{t:D->DS->Option DS}{s:DS}(h1:f s=some (.inl d,s1)) (h2:t d s1=some s2):cP f t s=some (.next,s2):=by simp[cP,h1,h2]
def HM {f:K0}{t:D->DS->Option DS}{s:DS}{c:Str}{es:vD_}(h1:f s=some (.inr (c,es),s1)):cP f t s=some (.thr c es,s1):=by simp[cP,h1]
def GM {b h:DM}{s:DS}(h1:b s=some (.next,s1)):bI cs i b h s=some (.next,s1):=by simp[bI,h1]
def EU {cs:List Str}{i:Nat}{b h:DM}{s s1 s2:DS}{c:Str}{ds:vD_}(h1:b s=some (.thr c ds,s1)) (J:cs.contains c=true/\ds.length<=2) (h2:h { s1 with sl:=s1.sl.set i (.v (.exc c ds)) }=some (.next,s2)):bI cs i b h s=some (.next,{ s2 with sl:=s2.sl.set i .no }):=by
 unfold bI;rw[h1,xo];show (if cs.contains c=true/\ds.length<=2 then _ else none)=_;rw[iO J,h2];rfl
variable {ps:vT_}{Q:Nat->Pt × Pt}{T:List Rat}
theorem Lay.lt (L:Lay c ps m S Q T) (h:i<j) (J:j<=m):S i<S j:=by
 have a:=L.up i ∅;have b:=L.mono j (i+1) h J;grind
end T
namespace T
open PySem L2 DL
def Gk (x:Rat):Prop:=∃n:Int,x=Rat.divInt n 280910448000
theorem Gk.add {x y:Rat}(h1:Gk x) (h2:Gk y):Gk (x+y):=by
 obtain⟨n,rfl⟩:=h1;obtain⟨m,rfl⟩:=h2;refine#[n+m,?_];rw[IE,IE,IE,JA];grind
theorem Gk.neg {x:Rat}(h1:Gk x):Gk (-x):=by
 obtain⟨n,rfl⟩:=h1;refine#[-n,?_];rw[IE,IE,LJ];grind
theorem Gk.sz {x:Rat}(h:Gk x) (a:-4611686018427387904<=x) (b:x<=4611686018427387904):Sz 102 x:=by
 obtain⟨n,rfl⟩:=h;have e:(n:Rat)=Rat.divInt n 280910448000*280910448000:=by
  rw[IE];have:((280910448000:Int):Rat)=280910448000:=rfl;grind
 have u:(n:Rat)<=((1295470785471773791582420992000:Int):Rat):=by
  have:((1295470785471773791582420992000:Int):Rat)=1295470785471773791582420992000:=by rfl
  grind
 have l:((-1295470785471773791582420992000:Int):Rat)<=(n:Rat):=by
  have:((-1295470785471773791582420992000:Int):Rat) = -1295470785471773791582420992000:=by rfl
  grind
 have u:=KP.mp u;have l:=KP.mp l;exact Sz.of_divInt #[] (show n.natAbs<2 ^ 102 by omega) #[]
structure Pn (M:Rat) (P:List Rat):Prop where
 ev:P.length % 2=0
 l2:2<=P.length
 l8:P.length<=8
 all:∀x∈P,Gk x/\0<x/\x<=72057594037927936
 gM:Gk M
 m0:0<M
 m1:M<=9007199254740992
def K5 (M a e:Rat) (k:Nat):List (Rat × Rat):=if k % 2=0/\0<e then [(if a<0 then 0 else a,if e<M then e else M)] else []
def O5 (M:Rat) (P:List Rat):Nat->Nat->Rat->List (Rat × Rat)->Option (Option (List (Rat × Rat)))
 |0,_,_,_=>none
 |t+1,k,a,L=>if a<M then (if 200<(L++K5 M a (a+P.getD (k % P.length) 1) k).length then some none else O5 M P t (k+1) (a+P.getD (k % P.length) 1) (L++K5 M a (a+P.getD (k % P.length) 1) k)) else some (some L)
def Pn.at_ {M:Rat}{P:List Rat}(h:Pn M P) (k:Nat):P[k % P.length]? = some (P.getD (k % P.length) 1):=by
 have:=h.l2;rw[Lq,Ji (Nat.mod_lt _ ∅)];rfl
theorem Pn.sM {M:Rat}(h:Pn M P):Sz 102 M:=h.gM.sz (by have:=h.m0;grind) (by have:=h.m1;grind)
def xj (a:Rat) (fs:vO_) (J:Sz 102 a):dh [fr a,fr 0] fs=some (fr (if a<0 then 0 else a),fs):=by
 have e:=aQ a 0 fs J (Sz.lit (k:=1) #[]) #[];refine j7 (s:=#[[.v (fr a),.v (fr 0)],fs]) (m8 ?_);by_cases c:a<0
 .rw[II c] at e;rw[fQ (F3 (f8 rfl e)),iO c];rfl
 .rw[ID c] at e;rw[dP (F3 (f8 rfl e)),iU c];rfl
def Fn (a M:Rat) (fs:vO_) (J:Sz 102 a) (U:Sz 102 M):bR [fr a,fr M] fs=some (fr (if a<M then a else M),fs):=by
 have e:=aQ a M fs J U #[];refine j7 (s:=#[[.v (fr a),.v (fr M)],fs]) (m8 ?_);by_cases c:a<M
 .rw[II c] at e;rw[fQ (F3 (f8 rfl e)),iO c];rfl
 .rw[ID c] at e;rw[dP (F3 (f8 rfl e)),iU c];rfl
abbrev i4 (z:Rat × Rat):D:=.tup [fr z.1,fr z.2]
abbrev K7 (Ln P off:D) (M:Rat) (acc:vD_) (b:Rat) (n:Nat) (x7:Sl) (fs:vO_):DS:=#[[.v Ln,.v P,.v off,.v (fr M),.own acc,.v (fr b),.v (.int (n:Int)),x7],fs]
abbrev lS:DM:=jy w8 bR dh FP fO bJ
theorem GH {M:Rat}{P:List Rat}(h:Pn M P) (fs:vO_) (Y J:D) {k:Nat}{a:Rat}(ga:Gk a) (a0:-1152921504606846976<=a) (a1:a<M) (L:List (Rat × Rat)) (hL:L.length<=200) (x7:Sl) :
  lS (K7 Y (.tup (P.map fr)) J M (L.map i4) a (k % P.length) x7 fs)=if 200<(L++K5 M a (a+P.getD (k % P.length) 1) k).length then some (.thr "TooMany" [.str "marks"],K7 Y (.tup (P.map fr)) J M ((L++K5 M a (a+P.getD (k % P.length) 1) k).map i4) a (k % P.length) (.v (fr (a+P.getD (k % P.length) 1))) fs) else some (.next,K7 Y (.tup (P.map fr)) J M ((L++K5 M a (a+P.getD (k % P.length) 1) k).map i4) (a+P.getD (k % P.length) 1) ((k+1) % P.length) (.v (fr (a+P.getD (k % P.length) 1))) fs):=by
 have hg:=h.at_ k;have l2:=h.l2;have ev:=h.ev;have par:k % P.length % 2=k % 2:=Nat.mod_mod_of_dvd _ (Nat.dvd_of_mod_eq_zero ev);have nx:(k % P.length+1) % P.length=(k+1) % P.length:=Nat.mod_add_mod k P.length 1;obtain⟨gp,p0,p1⟩:=h.all _ (JP hg);have ix:p9 (P.map fr) ((k % P.length:Nat):Int)=some (fr (P.getD (k % P.length) 1)):=R9 (by rw[Jl,hg];rfl);generalize P.getD (k % P.length) 1=p at *;have m1:=h.m1;have sa:=ga.sz (by grind) (by grind);have sp:=gp.sz (by grind) (by grind);have se:=(ga.add gp).sz (by grind) (by grind);have pl:=iZ a p fs sa sp #[];have bl:=aQ 0 (a+p) fs (Sz.lit (k:=1) #[]) se #[];have g:=xj a fs sa;have s:=Fn (a+p) M fs se h.sM;have md:y8 (.int ((k % P.length:Nat):Int)) (.int 2)=some (.int ((k % 2:Nat):Int)):=by
  rw[U8 #[],KH _ #[],<-par];congr 2
 have ml:y8 (.int (((k % P.length:Nat):Int)+1)) (.int ((P.map fr).length:Int))=some (.int (((k+1) % P.length:Nat):Int)):=by
  rw[td,U8 ∅,KH _ ∅,<-nx];congr 2
 generalize hn:k % P.length=n at *;generalize P.map fr=PD at *;generalize U:L++K5 M a (a+p) k=L';have st:l7 (B4 (dB (a9 C8 (a9 y8 (dL 6) (Ow 2)) (Ow 0))) (j9 (c8 w8 (a7 (c9 (a7 (Ow 0) (a7 (Ow 1) a8))) (a7 (dV 7) a8))))) (F9 4 (c9 (a7 (c8 dh (a7 (dV 5) (a7 (c9 (a7 (Ow 0) (a7 (Ow 1) a8))) a8))) (a7 (c8 bR (a7 (dV 7) (a7 (dV 3) a8))) a8)))) n8 (K7 Y (.tup PD) J M (L.map i4) a n (.v (fr (a+p))) fs)=some (.next,K7 Y (.tup PD) J M (L'.map i4) a n (.v (fr (a+p))) fs):=by
  have t1:dB (a9 C8 (a9 y8 (dL 6) (Ow 2)) (Ow 0)) (K7 Y (.tup PD) J M (L.map i4) a n (.v (fr (a+p))) fs)=some (decide (((k % 2:Nat):Int)=0),K7 Y (.tup PD) J M (L.map i4) a n (.v (fr (a+p))) fs):=B1 (c7 (c7 rfl rfl md) rfl (S0 _ 0));have t2:j9 (c8 w8 (a7 (c9 (a7 (Ow 0) (a7 (Ow 1) a8))) (a7 (dV 7) a8))) (K7 Y (.tup PD) J M (L.map i4) a n (.v (fr (a+p))) fs)=some (decide (0<a+p),K7 Y (.tup PD) J M (L.map i4) a n (.v (fr (a+p))) fs):=F3 (f8 (d9 (v4 rfl rfl) (d9 rfl rfl)) bl);unfold K5 at U;by_cases c1:k % 2=0
  .rw[II ∅] at t1;by_cases c2:0<a+p
   .rw[II c2] at t2;rw[iO #[c1,c2]] at U;rw[F7 (S9 t1 t2),<-U,Kp];exact U2 (s1:=K7 Y (.tup PD) J M (L.map i4) a n (.v (fr (a+p))) fs) (ds:=L.map i4) (ds0:=L.map i4) rfl (v4 (f8 (d9 rfl (d9 (v4 rfl rfl) rfl)) g) (f8 rfl s)) rfl (Jf (by rw[td];exact hL) #[])
   .rw[ID c2] at t2;rw[iU (fun z=>c2 z.2),Ju] at U;rw[<-U];exact C9 (S9 t1 t2)
  .rw[ID ∅] at t1;rw[iU (fun z=>c1 z.1),Ju] at U;rw[<-U];exact C9 (bj t1)
 have tl:dB (a9 (k9 (fun i j=>decide (j<i))) (i9 (one j5) (a7 (dL 4) a8)) (Ow 200)) (K7 Y (.tup PD) J M (L'.map i4) a n (.v (fr (a+p))) fs)=some (decide ((200:Int)<(L'.length:Int)),K7 Y (.tup PD) J M (L'.map i4) a n (.v (fr (a+p))) fs):=B1 (c7 (C7 (p:=j5) rfl rfl) rfl (show some (D.bl (decide ((200:Int)<((L'.map i4).length:Int))))=_ by rw[td]));show jy w8 bR dh FP fO bJ _=_;unfold jy;rw[e7 (s1:=K7 Y (.tup PD) J M (L.map i4) a n (.v (fr (a+p))) fs) (f9 (f8 (d9 rfl (d9 (c7 rfl rfl ((Q4 PD n).trans ix)) rfl)) pl) rfl),
  e7 st]
 by_cases c:200<L'.length
 .rw[II ∅] at tl;rw[iO c];exact uD ((F7 tl).trans (Ik (d9 rfl rfl)))
 .rw[ID ∅] at tl;rw[iU c,e7 (C9 tl),
   e7 (s1:=K7 Y (.tup PD) J M (L'.map i4) (a+p) n (.v (fr (a+p))) fs) (f9 rfl rfl)]
  exact f9 (c7 (c7 rfl rfl rfl) (C7 (p:=j5) rfl rfl) ml) rfl
def Ir {c:DT}{b:DM}{s:DS}{w:Str}(h1:c s=some (true,s1)) (h2:b s1=some (.thr w ds,s2)):A9 c b s=some (.thr w ds,s2):=by
 refine gZ (n:=1) ?_;rw[G5,h1];simp only[xo,Jh,h2]
def yq {c:DT}{b:DM}{s:DS}(h1:c s=some (true,s1)) (h2:b s1=some (.ret d,s2)):A9 c b s=some (.ret d,s2):=by
 refine gZ (n:=1) ?_;rw[G5,h1];simp only[xo,Jh,h2]
variable {M:Rat}{P:List Rat}
def Pn.pc (h:Pn M P) (k:Nat):Gk (P.getD (k % P.length) 1)/\0<P.getD (k % P.length) 1/\P.getD (k % P.length) 1<=72057594037927936:=h.all _ (JP (h.at_ k))
theorem Hq (h:Pn M P) (fs:vO_) (Y J:D):∀(t k:Nat) (a:Rat) (L:List (Rat × Rat)) (x7:Sl) (r:Option (List (Rat × Rat))),O5 M P t k a L=some r->Gk a -> -1152921504606846976<=a->a<=2305843009213693952->L.length<=200 ->
  ∃s',A9 (j9 (c8 w8 (a7 (dV 5) (a7 (dV 3) a8)))) lS (K7 Y (.tup (P.map fr)) J M (L.map i4) a (k % P.length) x7 fs)=some (r.elim (.thr "TooMany" [.str "marks"]) (fun _=>.next),s')/\s'.fs=fs/\∀R,r=some R->∃x5 x6 x7,s'=#[[.v Y,.v (.tup (P.map fr)),.v J,.v (fr M),.own (R.map i4),x5,x6,x7],fs]:=by
 intro t;induction t with
 |zero=>intro k a L x7 r e;cases e
 |succ t ih=>
  intro k a L x7 r e ga a0 a1 hL;have pb:=aQ a M fs (ga.sz (by grind) (by grind)) h.sM #[];have U:j9 (c8 w8 (a7 (dV 5) (a7 (dV 3) a8))) (K7 Y (.tup (P.map fr)) J M (L.map i4) a (k % P.length) x7 fs)=some (decide (a<M),K7 Y (.tup (P.map fr)) J M (L.map i4) a (k % P.length) x7 fs):=F3 (f8 rfl pb);rw[O5] at e;by_cases c:a<M
  .rw[II c] at U;rw[iO c] at e;have tr:=GH h fs Y J (k:=k) ga a0 c L hL x7;obtain⟨gp,p0,p1⟩:=h.pc k;have m1:=h.m1;by_cases c2:200<(L++K5 M a (a+P.getD (k % P.length) 1) k).length
   .rw[iO c2] at e tr;cases e;exact#[_,Ir U tr,rfl,fun R z=>by cases z]
   .rw[iU c2] at e tr;obtain⟨s',w,e1,e2⟩:=ih (k+1) _ _ (.v (fr (a+P.getD (k % P.length) 1))) r e (ga.add gp) (by grind) (by grind) ∅;exact#[s',W4 U tr w,e1,e2]
  .rw[ID c] at U;rw[iU c] at e;cases e;exact#[_,Z8 U,rfl,fun R z=>by cases z;exact#[_,_,_,rfl]]
theorem yR (h:Pn M P):∀(t k:Nat) (a:Rat) (L:List (Rat × Rat)) (m n:Int),M=Rat.divInt m 280910448000->a=Rat.divInt n 280910448000->m - n<=t->∃r,O5 M P (t+1) k a L=some r:=by
 have Y:∀m n:Int,Rat.divInt m 280910448000<Rat.divInt n 280910448000↔m<n:=fun m n=>by
  rw[IE,IE,<-Rat.intCast_lt_intCast];have:((280910448000:Int):Rat)=280910448000:=rfl;constructor <;> intro _ <;> grind
 intro t;induction t with
 |zero=>
  intro k a L m n J U ht;refine#[some L,?_];rw[O5,iU (fun z=>?_)];rw[J,U,Y] at z;omega
 |succ t ih=>
  intro k a L m n J U ht;rw[O5];by_cases c:a<M
  .rw[iO c];by_cases c2:200<(L++K5 M a (a+P.getD (k % P.length) 1) k).length
   .rw[iO c2];exact#[none,rfl]
   .rw[iU c2];obtain⟨⟨p,ep⟩,p0,_⟩:=h.pc k;have p1:0<p:=by
     have z:(0:Rat)=Rat.divInt 0 280910448000:=by rfl
     rw[ep,z,Y] at p0;exact p0
    refine ih (k+1) _ _ m (n+p) J ?_ ∅;rw[ep,U,IE,IE,IE,JA];grind
  .rw[iU c];exact#[_,rfl]
def AW (h:Pn M P) {a:Rat}(U:Gk a):∃t r,O5 M P t 0 a []=some r:=by
 obtain⟨m,Y⟩:=h.gM;obtain⟨n,J⟩:=U;exact#[(m - n).toNat+1,yR h (m - n).toNat 0 a [] m n Y J ∅]
abbrev au:c6:=fv D4
abbrev V9:c6:=ij u4 D4 Q1 E9 au
abbrev kO:DM:=jc u4 D4 Q1 E9 au
abbrev E8 (P off x4 x5:D) (M:Rat) (acc:vD_) (b:Rat) (n:Nat) (x9 x10 x11:Sl) (fs:vO_):DS:=#[[.v (fr M),.v P,.v off,.v (.int 200),.v x4,.v x5,.v (fr b),.own acc,.v (.int (n:Int)),x9,x10,x11],fs]
theorem we (h:Pn M P) (fs:vO_) (J x4 Y:D) {k:Nat}{a:Rat}(ga:Gk a) (a0:-1152921504606846976<=a) (a1:a<M) (L:List (Rat × Rat)) (hL:L.length<=200) (x9 x10 x11:Sl) :
  ∃y9 y10 y11,kO (E8 (.tup (P.map fr)) J x4 Y M (L.map i4) a k x9 x10 x11 fs)=if 200<(L++K5 M a (a+P.getD (k % P.length) 1) k).length then some (.ret .non,E8 (.tup (P.map fr)) J x4 Y M ((L++K5 M a (a+P.getD (k % P.length) 1) k).map i4) a k y9 y10 y11 fs) else some (.next,E8 (.tup (P.map fr)) J x4 Y M ((L++K5 M a (a+P.getD (k % P.length) 1) k).map i4) (a+P.getD (k % P.length) 1) (k+1) y9 y10 y11 fs):=by
 have hg:=h.at_ k;have l2:=h.l2;obtain⟨gp,p0,p1⟩:=h.all _ (JP hg);have ix:p9 (P.map fr) ((k % P.length:Nat):Int)=some (fr (P.getD (k % P.length) 1)):=R9 (by rw[Jl,hg];rfl);generalize P.getD (k % P.length) 1=p at *;have m1:=h.m1;have m0:=h.m0;have sa:=ga.sz (by grind) (by grind);have sp:=gp.sz (by grind) (by grind);have se:=(ga.add gp).sz (by grind) (by grind);have z0:Sz 102 0:=Sz.lit #[];have pl:=U4 a p fs sa sp #[];have b1:=V8 a 0 fs sa z0 #[];have b2:=V8 M (a+p) fs h.sM se #[];have md:y8 (.int (k:Int)) (.int 2)=some (.int ((k % 2:Nat):Int)):=by
  rw[U8 #[],KH _ #[]];congr 2
 have ml:y8 (.int (k:Int)) (.int ((P.map fr).length:Int))=some (.int ((k % P.length:Nat):Int)):=by
  rw[td,U8 ∅,KH _ ∅];congr 2
 obtain⟨u,hu⟩:∃u,u=if a<0 then 0 else a:=#[_,rfl]
 obtain⟨v,hv⟩:∃v,v=if a+p<M then a+p else M:=#[_,rfl]
 have su:Sz 102 u:=by rw[hu];split <;> assumption
 have sv:Sz 102 v:=by rw[hv];split;exact se;exact h.sM
 have b3:=V8 u v fs su sv #[];have huv:u<v↔0<a+p:=by
  rw[hu,hv];by_cases c1:a<0 <;> by_cases c2:a+p<M <;> simp only[c1,c2,Jh,Jw] <;> constructor <;> intro _ <;> grind
 rw[show decide (u<v)=decide (0<a+p) by rw[KS,Lk,Lk];exact huv] at b3;have hS:K5 M a (a+p) k=if k % 2=0/\0<a+p then [(u,v)] else []:=by rw[K5,<-hu,<-hv]
 rw[hS];generalize P.map fr=PD at *;generalize U:L++(if k % 2=0/\0<a+p then [(u,v)] else [])=L';refine#[.v (fr (a+p)),.v (fr u),.v (fr v),?_];have s1:e8 (D7 (j9 (c8 u4 (a7 (dV 6) (a7 (c9 (a7 (Ow 0) (a7 (Ow 1) a8))) a8)))) (c9 (a7 (Ow 0) (a7 (Ow 1) a8))) (dV 6)) (d6 10) (E8 (.tup PD) J x4 Y M (L.map i4) a k (.v (fr (a+p))) x10 x11 fs)=some (.next,E8 (.tup PD) J x4 Y M (L.map i4) a k (.v (fr (a+p))) (.v (fr u)) x11 fs):=by
  by_cases c:a<0
  .rw[II c] at b1;rw[iO c] at hu;exact f9 ((fQ (F3 (f8 (d9 rfl (d9 (v4 rfl rfl) rfl)) b1))).trans (show _=some (fr u,_) by rw[hu];rfl)) rfl
  .rw[ID c] at b1;rw[iU c] at hu;exact f9 ((dP (F3 (f8 (d9 rfl (d9 (v4 rfl rfl) rfl)) b1))).trans (show _=some (fr u,_) by rw[hu];rfl)) rfl
 have s2:e8 (D7 (j9 (c8 u4 (a7 (dV 0) (a7 (dV 9) a8)))) (dV 0) (dV 9)) (d6 11) (E8 (.tup PD) J x4 Y M (L.map i4) a k (.v (fr (a+p))) (.v (fr u)) x11 fs)=some (.next,E8 (.tup PD) J x4 Y M (L.map i4) a k (.v (fr (a+p))) (.v (fr u)) (.v (fr v)) fs):=by
  by_cases c:M<a+p
  .rw[II c] at b2;rw[iU (by grind)] at hv;exact f9 ((fQ (F3 (f8 rfl b2))).trans (show _=some (fr v,_) by rw[hv];rfl)) rfl
  .rw[ID c] at b2;have hv:v=a+p:=by
    rw[hv];split
    .rfl
    .grind
   exact f9 ((dP (F3 (f8 rfl b2))).trans (show _=some (fr v,_) by rw[hv];rfl)) rfl
 have st:l7 (B4 (dB (a9 C8 (a9 y8 (dL 8) (Ow 2)) (Ow 0))) (j9 (c8 u4 (a7 (dV 10) (a7 (dV 11) a8))))) (F9 7 (c9 (a7 (dV 10) (a7 (dV 11) a8)))) n8 (E8 (.tup PD) J x4 Y M (L.map i4) a k (.v (fr (a+p))) (.v (fr u)) (.v (fr v)) fs)=some (.next,E8 (.tup PD) J x4 Y M (L'.map i4) a k (.v (fr (a+p))) (.v (fr u)) (.v (fr v)) fs):=by
  have t1:dB (a9 C8 (a9 y8 (dL 8) (Ow 2)) (Ow 0)) (E8 (.tup PD) J x4 Y M (L.map i4) a k (.v (fr (a+p))) (.v (fr u)) (.v (fr v)) fs)=some (decide (((k % 2:Nat):Int)=0),E8 (.tup PD) J x4 Y M (L.map i4) a k (.v (fr (a+p))) (.v (fr u)) (.v (fr v)) fs):=B1 (c7 (c7 rfl rfl md) rfl (S0 _ 0));have t2:j9 (c8 u4 (a7 (dV 10) (a7 (dV 11) a8))) (E8 (.tup PD) J x4 Y M (L.map i4) a k (.v (fr (a+p))) (.v (fr u)) (.v (fr v)) fs)=some (decide (0<a+p),E8 (.tup PD) J x4 Y M (L.map i4) a k (.v (fr (a+p))) (.v (fr u)) (.v (fr v)) fs):=F3 (f8 rfl b3);by_cases c1:k % 2=0
  .rw[II ∅] at t1;by_cases c2:0<a+p
   .rw[II c2] at t2;rw[iO #[c1,c2]] at U;rw[F7 (S9 t1 t2),<-U,Kp];exact U2 (s1:=E8 (.tup PD) J x4 Y M (L.map i4) a k (.v (fr (a+p))) (.v (fr u)) (.v (fr v)) fs) (ds:=L.map i4) (ds0:=L.map i4) rfl (v4 rfl rfl) rfl (Jf (by rw[td];exact hL) #[])
   .rw[ID c2] at t2;rw[iU (fun z=>c2 z.2),Ju] at U;rw[<-U];exact C9 (S9 t1 t2)
  .rw[ID ∅] at t1;rw[iU (fun z=>c1 z.1),Ju] at U;rw[<-U];exact C9 (bj t1)
 have tl:dB (a9 (k9 (fun i j=>decide (j<i))) (i9 (one j5) (a7 (dL 7) a8)) (dL 3)) (E8 (.tup PD) J x4 Y M (L'.map i4) a k (.v (fr (a+p))) (.v (fr u)) (.v (fr v)) fs)=some (decide ((200:Int)<(L'.length:Int)),E8 (.tup PD) J x4 Y M (L'.map i4) a k (.v (fr (a+p))) (.v (fr u)) (.v (fr v)) fs):=B1 (c7 (C7 (p:=j5) rfl rfl) rfl (show some (D.bl (decide ((200:Int)<((L'.map i4).length:Int))))=_ by rw[td]));show jc u4 D4 Q1 E9 au _=_;unfold jc;rw[e7 (s1:=E8 (.tup PD) J x4 Y M (L.map i4) a k (.v (fr (a+p))) x10 x11 fs) (f9 (f8 (d9 rfl (d9 (c7 rfl (c7 rfl (C7 (p:=j5) rfl rfl) ml) ((Q4 PD _).trans ix)) rfl)) pl) rfl),
  e7 s1,e7 s2,e7 st]
 by_cases c:200<L'.length
 .rw[II ∅] at tl;rw[iO c];exact T8 ((F7 tl).trans (m8 rfl))
 .rw[ID ∅] at tl;rw[iU c,e7 (C9 tl),
   e7 (s1:=E8 (.tup PD) J x4 Y M (L'.map i4) (a+p) k (.v (fr (a+p))) (.v (fr u)) (.v (fr v)) fs) (f9 rfl rfl)]
  exact f9 (c7 rfl rfl rfl) rfl
end T
namespace T
open PySem L2 DL
variable {M:Rat}{P:List Rat}
theorem AG (h:Pn M P) (fs:vO_) (J Y x5:D):∀(t k:Nat) (a:Rat) (L:List (Rat × Rat)) (x9 x10 x11:Sl) (r:Option (List (Rat × Rat))),O5 M P t k a L=some r->Gk a -> -1152921504606846976<=a->a<=2305843009213693952->L.length<=200 ->
  ∃s',A9 (j9 (c8 u4 (a7 (dV 6) (a7 (dV 0) a8)))) kO (E8 (.tup (P.map fr)) J Y x5 M (L.map i4) a k x9 x10 x11 fs)=some (r.elim (.ret .non) (fun _=>.next),s')/\s'.fs=fs/\∀R,r=some R->∃x6 x8 x9 x10 x11,s'=#[[.v (fr M),.v (.tup (P.map fr)),.v J,.v (.int 200),.v Y,.v x5,x6,.own (R.map i4),x8,x9,x10,x11],fs]:=by
 intro t;induction t with
 |zero=>intro k a L x9 x10 x11 r e;cases e
 |succ t ih=>
  intro k a L x9 x10 x11 r e ga a0 a1 hL;have pb:=V8 a M fs (ga.sz (by grind) (by grind)) h.sM #[];have U:j9 (c8 u4 (a7 (dV 6) (a7 (dV 0) a8))) (E8 (.tup (P.map fr)) J Y x5 M (L.map i4) a k x9 x10 x11 fs)=some (decide (a<M),E8 (.tup (P.map fr)) J Y x5 M (L.map i4) a k x9 x10 x11 fs):=F3 (f8 rfl pb);rw[O5] at e;by_cases c:a<M
  .rw[II c] at U;rw[iO c] at e;obtain⟨y9,y10,y11,tr⟩:=we h fs J Y x5 (k:=k) ga a0 c L hL x9 x10 x11;obtain⟨gp,p0,p1⟩:=h.pc k;have m1:=h.m1;by_cases c2:200<(L++K5 M a (a+P.getD (k % P.length) 1) k).length
   .rw[iO c2] at e tr;cases e;exact#[_,yq U tr,rfl,fun R z=>by cases z]
   .rw[iU c2] at e tr;obtain⟨s',w,e1,e2⟩:=ih (k+1) _ _ y9 y10 y11 r e (ga.add gp) (by grind) (by grind) ∅;exact#[s',W4 U tr w,e1,e2]
  .rw[ID c] at U;rw[iU c] at e;cases e;exact#[_,Z8 U,rfl,fun R z=>by cases z;exact#[_,_,_,_,_,rfl]]
def A3 (P:List Rat) (b:Rat):Rat:=P.foldl (· + ·) b
theorem tI:∀(l:List Rat) (b:Rat),(∀x∈l,Gk x/\0<x/\x<=72057594037927936)->Gk b->Gk (A3 l b)/\b<=A3 l b/\A3 l b<=b+72057594037927936*(l.length:Rat):=by
 intro l;induction l with
 |nil=>intro b _ g;exact#[g,by show b<=b;grind,by show b<=b+72057594037927936*((0:Nat):Rat);have:((0:Nat):Rat)=0:=rfl;grind]
 |cons x r J=>
  intro b h g;obtain⟨U,x0,x1⟩:=h x (IY ..);obtain⟨a1,a2,a3⟩:=J (b+x) (fun y Y=>h y (IT _ Y)) (g.add U);have e:((r.length+1:Nat):Rat)=(r.length:Rat)+1:=by rw[NR];rfl
  rw[Ja,e];exact#[a1,by show b<=A3 r (b+x);grind,by show A3 r (b+x)<=_;grind]
theorem CZ (A:Sl) (fs:vO_):∀(l:List Rat) (b:Rat) (x2:Sl),(∀x∈l,Gk x/\0<x/\x<=72057594037927936)->Gk b->0<=b->b+72057594037927936*(l.length:Rat)<=1152921504606846976->∃y2,
  B2 (d6 2) (rb FP) (l.map fr) #[[A,.v (fr b),x2],fs]=some (.next,#[[A,.v (fr (A3 l b)),y2],fs])/\B2 (d6 2) (vS D4) (l.map fr) #[[A,.v (fr b),x2],fs]=some (.next,#[[A,.v (fr (A3 l b)),y2],fs]):=by
 intro l;induction l with
 |nil=>exact fun b x2 _ _ _ _=>#[x2,rfl,rfl]
 |cons x r ih=>
  intro b x2 h g b0 b1;obtain⟨J,x0,x1⟩:=h x (IY ..);have e:((r.length+1:Nat):Rat)=(r.length:Rat)+1:=by rw[NR];rfl
  have z:(0:Rat)<=(r.length:Rat):=Rat.natCast_nonneg;rw[Ja,e] at b1;obtain⟨y2,U,q2⟩:=ih (b+x) (.v (fr x)) (fun y Y=>h y (IT _ Y)) (g.add J) (by grind) (by grind);have p:=iZ b x fs (g.sz (by grind) (by grind)) (J.sz (by grind) (by grind)) #[];have w:=U4 b x fs (g.sz (by grind) (by grind)) (J.sz (by grind) (by grind)) #[];refine#[y2,?_,?_]
  .rw[Js,T9 (s1:=#[[A,.v (fr b),.v (fr x)],fs]) rfl (f9 (f8 rfl p) rfl)];exact U
  .rw[Js,T9 (s1:=#[[A,.v (fr b),.v (fr x)],fs]) rfl (f9 (f8 rfl w) rfl)];exact q2
def Gk.zero:Gk 0:=#[0,rfl]
def Pn.len (h:Pn M P):(2:Rat)<=(P.length:Rat)/\(P.length:Rat)<=8:=#[by
 have:=NS.mpr h.l2;exact this,by
 have:=NS.mpr h.l8;exact this]
theorem Pn.sums (h:Pn M P) (fs:vO_):lj [.tup (P.map fr)] fs=some (fr (A3 P 0),fs)/\au [.tup (P.map fr)] fs=some (fr (A3 P 0),fs):=by
 obtain⟨_,l8⟩:=h.len;obtain⟨J,Y,U⟩:=CZ (.v (.tup (P.map fr))) fs P 0 .no h.all Gk.zero #[] (by grind);generalize P.map fr=PD at *;refine#[j7 (s:=#[[.v (.tup PD),.v (fr (A3 P 0)),J],fs]) ?_,j7 (s:=#[[.v (.tup PD),.v (fr (A3 P 0)),J],fs]) ?_]
 .show jj FP #[[.v (.tup PD),.no,.no],fs]=_;unfold jj;rw[e7 (s1:=#[[.v (.tup PD),.v (fr 0),.no],fs]) (f9 (v4 rfl rfl) rfl),e7 ((cq (ds:=PD) (s1:=#[[.v (.tup PD),.v (fr 0),.no],fs]) rfl).trans Y)];exact m8 rfl
 .show gR D4 #[[.v (.tup PD),.no,.no],fs]=_;unfold gR;rw[e7 (s1:=#[[.v (.tup PD),.v (fr 0),.no],fs]) (f9 (v4 rfl rfl) rfl),e7 ((cq (ds:=PD) (s1:=#[[.v (.tup PD),.v (fr 0),.no],fs]) rfl).trans U)];exact m8 rfl
theorem Pn.sum_gt (h:Pn M P):Gk (A3 P 0)/\0<A3 P 0/\A3 P 0<=576460752303423488:=by
 obtain⟨a1,a2,a3⟩:=tI P 0 h.all Gk.zero;obtain⟨_,l8⟩:=h.len;refine#[a1,?_,by grind];have l2:=h.l2;have J:=h.all;cases P with
 |nil=>simp at l2
 |cons x r=>
  obtain⟨U,x0,_⟩:=J x (IY ..);obtain⟨_,b2,_⟩:=tI r (0+x) (fun y Y=>J y (IT _ Y)) (Gk.zero.add U);show 0<A3 r (0+x);grind
def F1 (s o:Rat):Int:=(o.num*s.den).fdiv (o.den*s.num)
def O6 (s o:Rat):Rat:=s*((F1 s o:Int):Rat) - o
theorem kH {s o:Rat}(hs:0<s) (ho:0<=o):0<=F1 s o/\F1 s o<=o.num*s.den/\O6 s o<=0 /\ -s<=O6 s o:=by
 have J:0<(o.den:Int)*s.num:=Lm (V5 _) (mZ hs);have n0:0<=o.num*(s.den:Int):=JY (dY ho) (MF (V5 _));have e:F1 s o=(o.num*s.den) / (o.den*s.num):=Lg _ (MF J);have a:=NG (o.num*s.den) (o.den*s.num);have b:=Mt (o.num*s.den) (show (o.den:Int)*s.num≠0 by omega);have c:=Nx (o.num*s.den) J;rw[<-e] at a;have k1:((o.den:Int)*s.num)*F1 s o<=o.num*s.den:=by omega
 have k2:o.num*s.den<=((o.den:Int)*s.num)*F1 s o+(o.den:Int)*s.num:=by omega
 have Y:=KP.mpr k1;have U:=KP.mpr k2;rw[JA] at U;simp only[IG] at Y U;rw[X6 o,X6 s] at Y U;have p1:(0:Rat)<((o.den:Int):Rat):=LN.mpr (V5 _);have p2:(0:Rat)<((s.den:Int):Rat):=LN.mpr (V5 _);have p3:(0:Rat)<((o.den:Int):Rat)*((s.den:Int):Rat):=Rat.mul_pos p1 p2;generalize ((o.den:Int):Rat)=u at *;generalize ((s.den:Int):Rat)=v at *;refine#[?_,?_,?_,?_]
 .rw[e];exact Int.ediv_nonneg n0 (MF J)
 .rw[e];exact Int.ediv_le_self _ n0
 .unfold O6;have:s*(F1 s o:Rat)<=o:=Ot (c:=u*v) (by grind) p3;grind
 .unfold O6;have:o<=s*(F1 s o:Rat)+s:=Ot (c:=u*v) (by grind) p3;grind
theorem Gk.zmul {x:Rat}(h:Gk x) (z:Int):Gk (x*(z:Rat)):=by
 obtain⟨n,rfl⟩:=h;refine#[n*z,?_];rw[IE,IE,IG];grind
def nP {s o:Rat}(U:Gk s) (J:Gk o):Gk (O6 s o):=by
 unfold O6;rw[Mz];exact(U.zmul _).add J.neg
theorem Pn.first (h:Pn M P) (fs:vO_) {o:Rat}(go:Gk o) (o0:0<=o) (o1:o<=1152921504606846976):fO [.tup (P.map fr),fr o] fs=some (fr (O6 (A3 P 0) o),fs):=by
 obtain⟨Y,_⟩:=h.sums fs;obtain⟨gs,s0,s1⟩:=h.sum_gt;generalize A3 P 0=s at *;obtain⟨z0,z1,z2,z3⟩:=kH s0 o0;have J:=go.sz (by grind) (by grind);have zs:=gs.sz (by grind) (by grind);have d0:(o.den:Int)*s.num≠0:=JH (K8 _) (Int.ne_of_gt (mZ s0));have dv:=(Bd.mul J.den zs.num).div d0 #[];have bz:Bd (102+102) (o.num*s.den):=Bd.mul J.num zs.den;have U:Sz 204 ((F1 s o:Int):Rat):=#[show (F1 s o).natAbs<2 ^ 204 from Jf ∅ bz,show 1<2 ^ 204 by decide]
 have t1:=AV s ((F1 s o:Int):Rat) fs zs U #[];have l1:=mS (s*((F1 s o:Int):Rat)) o fs (zs.mul U) J #[];have b1:=J.num.bits #[];have b2:=J.den.bits #[];have b3:=zs.num.bits #[];have b4:=zs.den.bits #[];generalize P.map fr=PD at *;refine j7 (s:=#[[.v (.tup PD),.v (fr o),.v (fr s),.v (.int (F1 s o))],fs]) ?_;show jM FX FT lj #[[.v (.tup PD),.v (fr o),.no,.no],fs]=_;unfold jM;rw[e7 (s1:=#[[.v (.tup PD),.v (fr o),.v (fr s),.no],fs]) (f9 (f8 rfl Y) rfl),
  e7 (s1:=#[[.v (.tup PD),.v (fr o),.v (fr s),.v (.int (F1 s o))],fs]) (f9 (c7 (c7 (c7 rfl rfl (F8 _)) (c7 rfl rfl (D3 _)) (t7 b1 b4)) (c7 (c7 rfl rfl (D3 _)) (c7 rfl rfl (F8 _)) (t7 b2 b3)) (dG _ dv)) rfl)]
 exact m8 (f8 (d9 (f8 (d9 rfl (d9 (v4 rfl rfl) rfl)) t1) (d9 rfl rfl)) l1)
end T
namespace T
open PySem L2 DL
variable {M:Rat}{P:List Rat}
theorem Gk.in_ {x:Rat}(h:Gk x) (lo:0<=x) (hi:x<=M) (J:M<=9007199254740992):In M x:=by
 refine#[lo,hi,?_];obtain⟨n,rfl⟩:=h;have e:(n:Rat)=Rat.divInt n 280910448000*280910448000:=by
  rw[IE];have:((280910448000:Int):Rat)=280910448000:=rfl;grind
 have u:(n:Rat)<=((2530216377874558186684416000:Int):Rat):=by
  have:((2530216377874558186684416000:Int):Rat)=2530216377874558186684416000:=by rfl
  grind
 have l:((0:Int):Rat)<=(n:Rat):=by
  have:((0:Int):Rat)=0:=by rfl
  grind
 have u:=KP.mp u;have l:=KP.mp l;exact Sz.of_divInt #[] (show n.natAbs<2 ^ 92 by omega) #[]
theorem yC (h:Pn M P):∀(t k:Nat) (a:Rat) (L R:List (Rat × Rat)),O5 M P t k a L=some (some R)->Gk a->(∀z∈L,In M z.1/\In M z.2)->L.length<=200->(∀z∈R,In M z.1/\In M z.2)/\R.length<=200:=by
 intro t;induction t with
 |zero=>intro k a L R e;cases e
 |succ t ih=>
  intro k a L R e U Y hl;rw[O5] at e;by_cases c:a<M
  .rw[iO c] at e;obtain⟨gp,p0,p1⟩:=h.pc k;generalize P.getD (k % P.length) 1=p at *;by_cases c2:200<(L++K5 M a (a+p) k).length
   .rw[iO c2] at e;cases e
   .rw[iU c2] at e;refine ih (k+1) _ _ R e (U.add gp) (fun z hz=>?_) ∅;rcases JT.mp hz with q | q
    .exact Y z q
    .unfold K5 at q;by_cases J:k % 2=0/\0<a+p
     .rw[iO J] at q;rw[Jo.mp q];have m0:=h.m0;have c4:=J.2;refine#[?_,?_]
      .show In M (if a<0 then 0 else a);split
       .exact Gk.zero.in_ #[] (by grind) h.m1
       .exact U.in_ (by grind) (by grind) h.m1
      .show In M (if a+p<M then a+p else M);split
       .exact(U.add gp).in_ (by grind) (by grind) h.m1
       .exact h.gM.in_ (by grind) (by grind) h.m1
     .rw[iU J] at q;cases q
  .rw[iU c] at e;cases e;exact#[Y,hl]
abbrev V0:G7:=bH w8 bR dh FP fO bJ
def eD:Option (List (Rat × Rat))->Rx
 |some R=>.inl (.lst (R.map i4))
 |none=>.inr ("TooMany",[.str "marks"])
def nv:Option (List (Rat × Rat))->D
 |some R=>.lst (R.map i4)
 |none=>.non
theorem Ak (h:Pn M P) (fs:vO_) (J:D) {o:Rat}(Y:Gk o) (o0:0<=o) (o1:o<=1152921504606846976) {t:Nat}(hr:O5 M P t 0 (O6 (A3 P 0) o) []=some r) (U:bJ [J] fs=some (fr M,fs)):V0 [J,.tup (P.map fr),fr o] fs=some (eD r,fs):=by
 obtain⟨gs,s0,s1⟩:=h.sum_gt;have fb:=h.first fs Y o0 o1;obtain⟨_,_,b1,b0⟩:=kH s0 o0;obtain⟨s',w,e1,e2⟩:=Hq h fs J (fr o) t 0 (O6 (A3 P 0) o) [] .no r hr (nP gs Y) (by grind) (by grind) #[];rw[Nat.zero_mod] at w;generalize O6 (A3 P 0) o=a at *;generalize P.map fr=PD at *;have st:ng w8 bR dh FP fO bJ #[[.v J,.v (.tup PD),.v (fr o),.no,.no,.no,.no,.no],fs]=d8 (A9 (j9 (c8 w8 (a7 (dV 5) (a7 (dV 3) a8)))) lS) (i5 (dV 4)) (K7 J (.tup PD) (fr o) M [] a 0 .no fs):=by
  unfold ng;rw[e7 (s1:=#[[.v J,.v (.tup PD),.v (fr o),.v (fr M),.no,.no,.no,.no],fs]) (f9 (f8 rfl U) rfl),
   e7 (s1:=#[[.v J,.v (.tup PD),.v (fr o),.v (fr M),.own [],.no,.no,.no],fs]) (D8 (s1:=#[[.v J,.v (.tup PD),.v (fr o),.v (fr M),.no,.no,.no,.no],fs]) rfl (show 4<8 by decide)),
   e7 (s1:=#[[.v J,.v (.tup PD),.v (fr o),.v (fr M),.own [],.v (fr a),.no,.no],fs]) (f9 (f8 rfl fb) rfl),
   e7 (s1:=K7 J (.tup PD) (fr o) M [] a 0 .no fs) (f9 rfl rfl)]
 cases r with
 |none=>
  obtain⟨sl,fs'⟩:=s';cases e1;exact oW (s:=#[sl,fs']) (st.trans (uD w))
 |some R=>
  obtain⟨x5,x6,x7,rfl⟩:=e2 R rfl;exact pk (s:=#[[.v J,.v (.tup PD),.v (fr o),.v (fr M),.v (.lst (R.map i4)),x5,x6,x7],fs]) (st.trans ((e7 w).trans (m8 rfl)))
theorem AQ (h:Pn M P) (fs:vO_) {o:Rat}(go:Gk o) (o0:0<=o) (o1:o<=1152921504606846976) {t:Nat}(hr:O5 M P t 0 (O6 (A3 P 0) o) []=some r):V9 [fr M,.tup (P.map fr),fr o,.int 200] fs=some (nv r,fs):=by
 obtain⟨_,e0⟩:=h.sums fs;obtain⟨gs,s0,s1⟩:=h.sum_gt;have bg:=nP gs go;obtain⟨z0,z1,b1,b0⟩:=kH s0 o0;obtain⟨s',w,e1,e2⟩:=AG h fs (fr o) (fr (A3 P 0)) (.int (F1 (A3 P 0) o)) t 0 (O6 (A3 P 0) o) [] .no .no .no r hr bg (by grind) (by grind) #[];generalize A3 P 0=s at *;have J:=go.sz (by grind) (by grind);have zs:=gs.sz (by grind) (by grind);have d0:(o.den:Int)*s.num≠0:=JH (K8 _) (Int.ne_of_gt (mZ s0));have dv:=(Bd.mul J.den zs.num).div d0 #[];have bz:Bd (102+102) (o.num*s.den):=Bd.mul J.num zs.den;have zb:Bd 204 (F1 s o):=show (F1 s o).natAbs<2 ^ 204 from Jf ∅ bz
 have zt:Sz 204 ((F1 s o:Int):Rat):=#[zb,show 1<2 ^ 204 by decide]
 have pr:=cR s.num s.den (F1 s o) 1 fs (K8 _) #[] zs.num zs.den zb (show Bd 204 1 from (by decide:1<2 ^ 204)) #[];have ep:Rat.divInt (s.num*F1 s o) (s.den*1)=s*((F1 s o:Int):Rat):=by
  rw[IE,Int.mul_one,IG,X6];have:((s.den:Int):Rat)≠0:=by
   have:=LN.mpr (V5 s);grind
  grind
 rw[ep] at pr;have U:=aU (s*((F1 s o:Int):Rat)) o fs (zs.mul zt) J #[];have c1:=J.num.bits #[];have c2:=J.den.bits #[];have c3:=zs.num.bits #[];have c4:=zs.den.bits #[];generalize hZ:F1 s o=Z at *;have U:Q1 [fr (s*(Z:Rat)),fr o] fs=some (fr (O6 s o),fs):=by rw[O6,hZ];exact U
 have dz:u6 (.int (o.num*s.den)) (.int (o.den*s.num))=some (.int Z):=by rw[dG _ dv,<-hZ];rfl
 generalize O6 s o=a at *;generalize P.map fr=PD at *;have st:ib u4 D4 Q1 E9 au #[[.v (fr M),.v (.tup PD),.v (fr o),.v (.int 200),.no,.no,.no,.no,.no,.no,.no,.no],fs]=d8 (A9 (j9 (c8 u4 (a7 (dV 6) (a7 (dV 0) a8)))) kO) (i5 (dV 7)) (E8 (.tup PD) (fr o) (fr s) (.int Z) M [] a 0 .no .no .no fs):=by
  unfold ib;rw[e7 (s1:=#[[.v (fr M),.v (.tup PD),.v (fr o),.v (.int 200),.v (fr s),.no,.no,.no,.no,.no,.no,.no],fs]) (f9 (f8 rfl e0) rfl),
   e7 (s1:=#[[.v (fr M),.v (.tup PD),.v (fr o),.v (.int 200),.v (fr s),.v (.int Z),.no,.no,.no,.no,.no,.no],fs]) (f9 (c7 (c7 (c7 rfl rfl (F8 _)) (c7 rfl rfl (D3 _)) (t7 c1 c4)) (c7 (c7 rfl rfl (D3 _)) (c7 rfl rfl (F8 _)) (t7 c2 c3)) dz) rfl),
   e7 (s1:=#[[.v (fr M),.v (.tup PD),.v (fr o),.v (.int 200),.v (fr s),.v (.int Z),.v (fr a),.no,.no,.no,.no,.no],fs]) (f9 (f8 (d9 (f8 (d9 rfl (d9 (v4 rfl rfl) rfl)) pr) (d9 rfl rfl)) U) rfl),
   e7 (s1:=#[[.v (fr M),.v (.tup PD),.v (fr o),.v (.int 200),.v (fr s),.v (.int Z),.v (fr a),.own [],.no,.no,.no,.no],fs]) (D8 (s1:=#[[.v (fr M),.v (.tup PD),.v (fr o),.v (.int 200),.v (fr s),.v (.int Z),.v (fr a),.no,.no,.no,.no,.no],fs]) rfl (show 7<12 by decide)),
   e7 (s1:=E8 (.tup PD) (fr o) (fr s) (.int Z) M [] a 0 .no .no .no fs) (f9 rfl rfl)]
 cases r with
 |none=>
  obtain⟨sl,fs'⟩:=s';cases e1;exact j7 (s:=#[sl,fs']) (st.trans (T8 w))
 |some R=>
  obtain⟨x6,x8,x9,x10,Y,rfl⟩:=e2 R rfl;exact j7 (s:=#[[.v (fr M),.v (.tup PD),.v (fr o),.v (.int 200),.v (fr s),.v (.int Z),x6,.v (.lst (R.map i4)),x8,x9,x10,Y],fs]) (st.trans ((e7 w).trans (m8 rfl)))
end T
namespace T
open PySem L2 DL
variable {ps:vT_}{Q:Nat->Pt × Pt}{T:List Rat}{P:List Rat}
abbrev jB:G7:=hU V0 ck
abbrev M0:c6:=fR jB V0
def mt {α:Type}(f:α->D):Option (List α)->D
 |some R=>.lst (R.map f)
 |none=>.str "marks"
def iY {α:Type}(f:α->D):Option (List α)->Rx
 |some R=>.inl (.lst (R.map f))
 |none=>.inr ("TooMany",[.str "marks"])
def qN (w:Int) (U J o:D) (fs:vO_) {α:Type}(f:α->D) (r:Option (List α)) (h:br (dB (a9 C8 (dL 0) (Ow 1))) (S5 jB (a7 (dV 1) (a7 (dV 2) (a7 (dV 3) a8)))) (S5 V0 (a7 (dV 1) (a7 (dV 2) (a7 (dV 3) a8)))) #[[.v (.int w),.v U,.v J,.v o,.v (.str "other"),.no,.no],fs]=some (iY f r,#[[.v (.int w),.v U,.v J,.v o,.v (.str "other"),.no,.no],fs])):M0 [.int w,U,J,o] fs=some (mt f r,fs):=by
 cases r with
 |some R=>exact j7 (s:=#[[.v (.int w),.v U,.v J,.v o,.v (.lst (R.map f)),.no,.no],fs]) (jD (s1:=#[[.v (.int w),.v U,.v J,.v o,.v (.str "other"),.no,.no],fs]) rfl (jD (GM (Fk h rfl)) rfl))
 |none=>exact j7 (s:=#[[.v (.int w),.v U,.v J,.v o,.v (.str "marks"),.no,.v (.bl false)],fs]) (jD (s1:=#[[.v (.int w),.v U,.v J,.v o,.v (.str "other"),.no,.no],fs]) rfl (jD (EU (s2:=#[[.v (.int w),.v U,.v J,.v o,.v (.str "marks"),.v (.exc "TooMany" [.str "marks"]),.v (.bl false)],fs]) (HM h) #[rfl,by decide] rfl) rfl))
def IA {fa fb:K0}{s:DS}(h:fc s=some (false,s1)):br fc fa fb s=fb s1:=by simp[br,h]
def zG {fa fb:K0}{s:DS}(h:fc s=some (true,s1)):br fc fa fb s=fa s1:=by simp[br,h]
def yw (r:Option (List (Rat × Rat))):eD r=iY i4 r:=by cases r <;> rfl
def EH (J U o:D) (fs:vO_) (h:V0 [J,U,o] fs=some (eD r,fs)):M0 [.int 0,J,U,o] fs=some (mt i4 r,fs):=by
 refine qN 0 J U o fs i4 r ?_;rw[IA (s1:=#[[.v (.int 0),.v J,.v U,.v o,.v (.str "other"),.no,.no],fs]) (B1 (c7 rfl rfl ((S0 0 1).trans (by rw[ID #[]]))))];exact lq rfl (by rw[<-yw];exact h)
abbrev A0 (S:Nat->Rat) (Q:Nat->Pt × Pt) (m:Nat) (Z:List (Pt × Rat)) (z:Rat × Rat):D:=cF (Y5 S Q m Z z.1 z.2)
def HV (L:Lay c ps m S Q T) (hx:ExS c ps) (fs:vO_) (e0:M1 [.tup [.bl c,.tup (ps.map pt)]] fs=some (.lst (T.map fr),fs)) (J o:D) (h:V0 [.tup [.bl c,.tup (ps.map pt)],J,o] fs=some (eD r,fs)) (U:∀R,r=some R->(∀z∈R,In (S m) z.1/\In (S m) z.2)/\R.length<=200) :
  jB [.tup [.bl c,.tup (ps.map pt)],J,o] fs=some (iY (A0 S Q m (ps.zip T)) r,fs):=by
 have Y:S5 V0 (a7 (dV 0) (a7 (dV 1) (a7 (dV 2) a8))) #[[.v (.tup [.bl c,.tup (ps.map pt)]),.v J,.v o],fs]=some (eD r,#[[.v (.tup [.bl c,.tup (ps.map pt)]),.v J,.v o],fs]):=lq rfl h;cases r with
 |none=>
  refine oW (s:=#[[.v (.tup [.bl c,.tup (ps.map pt)]),.v J,.v o],fs]) ?_;show ek V0 ck #[[.v (.tup [.bl c,.tup (ps.map pt)]),.v J,.v o],fs]=_;unfold ek gj iM;rw[Y];rfl
 |some R=>
  obtain⟨U,hl⟩:=U R rfl;refine pk (s:=#[[.v (.tup [.bl c,.tup (ps.map pt)]),.v J,.v o],fs]) ?_;show ek V0 ck #[[.v (.tup [.bl c,.tup (ps.map pt)]),.v J,.v o],fs]=_;have nx:cA (S5 V0 (a7 (dV 0) (a7 (dV 1) (a7 (dV 2) a8)))) #[[.v (.tup [.bl c,.tup (ps.map pt)]),.v J,.v o],fs]=some (.lst (R.map i4),#[[.v (.tup [.bl c,.tup (ps.map pt)]),.v J,.v o],fs]):=by
   unfold cA;rw[Y];rfl
  have cm:=sr (idx:=[0]) (sl:=[.v (.tup [.bl c,.tup (ps.map pt)]),.v J,.v o]) (fe:=c8 ck (a7 (dV 2) (a7 (dV 0) (a7 (dV 1) a8)))) fs (fun z:Rat × Rat=>fr z.1) (fun z=>fr z.2) (A0 S Q m (ps.zip T)) R (fun z hz=>f8 rfl (Bb L hx.hi fs e0 (U z hz).1 (U z hz).2));have cl:k6 (Q0 [0] (F6 (cA (S5 V0 (a7 (dV 0) (a7 (dV 1) (a7 (dV 2) a8)))))) A8 (c8 ck (a7 (dV 2) (a7 (dV 0) (a7 (dV 1) a8))))) #[[.v (.tup [.bl c,.tup (ps.map pt)]),.v J,.v o],fs]=some (.lst (R.map (A0 S Q m (ps.zip T))),#[[.v (.tup [.bl c,.tup (ps.map pt)]),.v J,.v o],fs]):=by
   refine A6 (eJ (ds:=R.map i4) (s1:=#[[.v (.tup [.bl c,.tup (ps.map pt)]),.v J,.v o],fs]) ?_ (by rw[td];exact xr hl #[]) cm);unfold F6;rw[nx];rfl
  unfold ek gj iM;rw[Y];show ((k6 _ _).map _).map _=_;rw[cl];rfl
def xy (J U o:D) (fs:vO_) {α:Type}{f:α->D}{r:Option (List α)}(h:jB [J,U,o] fs=some (iY f r,fs)):M0 [.int 1,J,U,o] fs=some (mt f r,fs):=by
 refine qN 1 J U o fs f r ?_;rw[zG (s1:=#[[.v (.int 1),.v J,.v U,.v o,.v (.str "other"),.no,.no],fs]) (B1 (c7 rfl rfl ((S0 1 1).trans (by rw[II rfl]))))];exact lq rfl h
end T
namespace T
open PySem L2 DL
variable {M:Rat}{P:List Rat}
theorem Ep (h:Pn M P):∀(t k:Nat) (a:Rat) (L R:List (Rat × Rat)),O5 M P t k a L=some (some R)->L.Pairwise (fun z w=>z.2<=w.1)->(∀z∈L,z.2<=if a<0 then 0 else a)->R.Pairwise (fun z w=>z.2<=w.1):=by
 intro t;induction t with
 |zero=>intro k a L R e;cases e
 |succ t ih=>
  intro k a L R e Y U;rw[O5] at e;by_cases c:a<M
  .rw[iO c] at e;obtain⟨gp,p0,p1⟩:=h.pc k;generalize P.getD (k % P.length) 1=p at *;by_cases c2:200<(L++K5 M a (a+p) k).length
   .rw[iO c2] at e;cases e
   .rw[iU c2] at e;have up:(if a<0 then 0 else a)<=(if a+p<0 then 0 else a+p):=by
     split <;> split <;> grind
    unfold K5 at e;by_cases c3:k % 2=0/\0<a+p
    .rw[iO c3] at e;refine ih (k+1) _ _ R e (List.pairwise_append.mpr #[Y,List.pairwise_singleton ..,fun z J w hw=>?_]) (fun z J=>?_)
     .rw[Jo.mp hw];exact U z J
     .rcases JT.mp J with q | q
      .have:=U z q;grind
      .rw[Jo.mp q];show (if a+p<M then a+p else M)<=_;have:=c3.2;split <;> split <;> grind
    .rw[iU c3,Ju] at e;exact ih (k+1) _ _ R e Y fun z J=>by
      have:=U z J;grind
  .rw[iU c] at e;cases e;exact Y
def G6 (s:Rat) (z:Rat × Rat):Bool:=decide (z.1<s)&&decide (s<z.2)
theorem GA (s:Rat):∀R:List (Rat × Rat),R.Pairwise (fun z w=>z.2<=w.1)->(R.filter (G6 s)).length<=1:=by
 intro R;induction R with
 |nil=>exact fun _=>JK _
 |cons z r U=>
  intro h;obtain⟨h1,h2⟩:=List.pairwise_cons.mp h;cases c:G6 s z with
  |false=>
   rw[LM (by rw[c];decide)];exact U h2
  |true=>
   have c:=IZ (show decide (s<z.2)=true by unfold G6 at c;rw[Je] at c;exact c.2);have e:r.filter (G6 s)=[]:=Ou.mpr fun w J q=>by
    unfold G6 at q;rw[Je,Lk,Lk] at q;have:=h1 w J;grind
   by_cases c':G6 s z=true
   .rw[MH c',e];exact tv 1
   .rw[LM c',e];exact JK _
def wo (h:R.Pairwise (fun z w=>z.2<=w.1)):∀T:List Rat,(R.filter fun z=>T.any fun s=>G6 s z).length<=T.length:=by
 intro T;induction T with
 |nil=>simp
 |cons s r U=>
  have a:=GA s R h;have b:∀l:List (Rat × Rat),(l.filter fun z=>(s::r).any fun s=>G6 s z).length<=(l.filter (G6 s)).length+(l.filter fun z=>r.any fun s=>G6 s z).length:=by
   intro l;induction l with
   |nil=>exact tv _
   |cons z l J=>
    rw[MM,MM,MM,List.any_cons];cases G6 s z <;> cases (r.any fun s=>G6 s z) <;> simp only[Bool.or_false,Bool.or_true,Bool.false_or,Jh,Jw,Ja,JX] <;> omega
  have:=b R;rw[Ja];omega
end T
namespace T
open PySem L2 DL
abbrev Z0:c6:=fS u4
def G9 (T:List Rat) (R:List (Rat × Rat)) (i:Nat):List Nat:=(List.range i).filter fun k=>T.any fun s=>G6 s (R.getD k (0,0))
def Eh (T:List Rat) (R:List (Rat × Rat)) (i:Nat):G9 T R (i+1)=G9 T R i++if (T.any fun s=>G6 s (R.getD i (0,0)))=true then [i] else []:=by
 unfold G9;rw[List.range_succ,List.filter_append,MM];rfl
def wQ (T:List Rat) (h:R.Pairwise (fun z w=>z.2<=w.1)):(G9 T R R.length).length<=T.length:=by
 have e:(List.range R.length).map (fun k=>R.getD k (0,0))=R:=by
  refine Mc fun i=>?_
  rw[Jl];by_cases c:i<R.length
  .rw[List.getElem?_range c,Ji c];show some (R.getD i (0,0))=_;rw[Lq,Ji c];rfl
  .rw[LK (show (List.range R.length).length<=i by rw[NM];omega),LK (show R.length<=i by omega)];rfl
 have q:=wo h T;rw[<-e,List.filter_map,td] at q;exact q
def AH {k:Nat}(h:k∈G9 T R i):k<i:=KQ.mp (JS.mp h).1
def nI (k:Nat):D:=.int (k:Int)
def Ab {T:List Rat}(h:∀s∈T,Sz 92 s) (g:Rat->Bool):C5 (.lst ((T.filter g).map fr)) (.lst [])=some (.bl (T.any g)):=by
 cases e:T.filter g with
 |nil=>
  have:T.any g=false:=List.any_eq_false.mpr fun x J=>by
   have:=Ou.mp e x J;exact this
  rw[this];rfl
 |cons a r=>
  have:T.any g=true:=by
   have:a∈T.filter g:=by rw[e];exact IY ..
   exact MI.mpr #[a,(JS.mp this).1,(JS.mp this).2]
  rw[this];have U:E1 (.lst ((a::r).map fr))=true:=Ok.eq (Ok.lst (OkL.all (k:=1) (n:=2) fun d Y=>by
   obtain⟨x,J,rfl⟩:=IW.mp Y;rw[<-e] at J;exact Ok.fr (h x (JS.mp J).1))) #[]
  show (if E1 (.lst ((a::r).map fr))&&E1 (.lst []) then some (D.bl (!PyData.eqv (D.lst ((a::r).map fr)).py (D.lst []).py)) else none)=_;rw[U,iO (show (true&&E1 (.lst []))=true from rfl)];rfl
def yQ {α:Type}{caps:List Sl}(fs:vO_) (A:α->D) (g:α->Bool):∀l:List α,(∀z∈l,fc #[.v (A z)::caps,fs]=some (g z,#[.v (A z)::caps,fs]))->C0 (fun d=>some (.v d::caps)) fc (dV 0) (l.map A) fs=some ((l.filter g).map A,fs):=by
 intro l;induction l with
 |nil=>exact fun _=>rfl
 |cons z r J=>
  intro h;have e:=h z (IY ..);have J:=J fun y U=>h y (IT _ U)
  rw[Js,C0,xo,e,xo];cases c:g z with
  |true=>
   rw[iO rfl,MH c,show dV 0 #[.v (A z)::caps,fs]=some (A z,#[.v (A z)::caps,fs]) from rfl,xo,J];rfl
  |false=>
   rw[iU (show ¬ (false=true) by decide),LM (by rw[c];decide)];exact J
def yu {T:List Rat}(hT:∀s∈T,Sz 92 s) (tl:T.length<=100) (hR:∀z∈R,Sz 92 z.1/\Sz 92 z.2) (rl:R.length<=200) (fs:vO_):Z0 [.lst (T.map fr),.lst (R.map i4)] fs=some (.lst ((G9 T R R.length).map nI),fs):=by
 obtain⟨s',lp,J,rfl⟩:=bq (t:=d6 3) (b:=iG u4) (fun i s=>∃J:Sl,s=#[[.v (.lst (T.map fr)),.v (.lst (R.map i4)),.own ((G9 T R i).map nI),J],fs]) (D0 0 R.length) 0 #[[.v (.lst (T.map fr)),.v (.lst (R.map i4)),.own [],.no],fs] #[.no,rfl] (by
  rintro i d s hd ⟨J,rfl⟩;obtain⟨rfl,hi⟩:=eZ hd;rw[JF] at *;refine#[#[[.v (.lst (T.map fr)),.v (.lst (R.map i4)),.own ((G9 T R i).map nI),.v (.int ((0:Int)+i))],fs],#[[.v (.lst (T.map fr)),.v (.lst (R.map i4)),.own ((G9 T R (i+1)).map nI),.v (.int ((0:Int)+i))],fs],rfl,.inl ?_,_,rfl];rw[NO,Eh];have hz:R[i]? = some (R.getD i (0,0)):=by
   rw[Lq,Ji hi];rfl
  obtain⟨z1,z2⟩:=hR _ (JP hz);have ix:p9 (R.map i4) (i:Int)=some (i4 (R.getD i (0,0))):=R9 (by rw[Jl,hz];rfl);have wl:(G9 T R i).length<=i:=by
   have:=NP (fun k=>T.any fun s=>G6 s (R.getD k (0,0))) (List.range i);rw[NM] at this;exact this
  generalize R.getD i (0,0)=z at *;have cm:=yQ (caps:=[.v (.lst (R.map i4)),.v (.int (i:Int))]) (fc:=B4 (j9 (c8 u4 (a7 (a9 d7 (a9 d7 (dL 1) (dL 2)) (Ow 0)) (a7 (dV 0) a8)))) (j9 (c8 u4 (a7 (dV 0) (a7 (a9 d7 (a9 d7 (dL 1) (dL 2)) (Ow 1)) a8))))) fs fr (fun s=>G6 s z) T (fun s hs=>by
   have b1:=V8 z.1 s fs z1 (hT s hs) #[];have b2:=V8 s z.2 fs (hT s hs) z2 #[];have Y:j9 (c8 u4 (a7 (a9 d7 (a9 d7 (dL 1) (dL 2)) (Ow 0)) (a7 (dV 0) a8))) #[[.v (fr s),.v (.lst (R.map i4)),.v (.int (i:Int))],fs]=some (decide (z.1<s),#[[.v (fr s),.v (.lst (R.map i4)),.v (.int (i:Int))],fs]):=F3 (f8 (d9 (c7 (c7 rfl rfl (w9 ix)) rfl rfl) (d9 rfl rfl)) b1);have t2:j9 (c8 u4 (a7 (dV 0) (a7 (a9 d7 (a9 d7 (dL 1) (dL 2)) (Ow 1)) a8))) #[[.v (fr s),.v (.lst (R.map i4)),.v (.int (i:Int))],fs]=some (decide (s<z.2),#[[.v (fr s),.v (.lst (R.map i4)),.v (.int (i:Int))],fs]):=F3 (f8 (d9 rfl (d9 (c7 (c7 rfl rfl (w9 ix)) rfl rfl) rfl)) b2);unfold G6;by_cases c:z.1<s
   .rw[II c] at Y ⊢;rw[LF];exact S9 Y t2
   .rw[ID c] at Y ⊢;exact bj Y)
  have U:dB (a9 C5 (k6 (K2 [1,3] (F6 (dV 0)) (B4 (j9 (c8 u4 (a7 (a9 d7 (a9 d7 (dL 1) (dL 2)) (Ow 0)) (a7 (dV 0) a8)))) (j9 (c8 u4 (a7 (dV 0) (a7 (a9 d7 (a9 d7 (dL 1) (dL 2)) (Ow 1)) a8))))) (dV 0))) (k6 (j8 a8))) #[[.v (.lst (T.map fr)),.v (.lst (R.map i4)),.own ((G9 T R i).map nI),.v (.int (i:Int))],fs]=some (T.any fun s=>G6 s z,#[[.v (.lst (T.map fr)),.v (.lst (R.map i4)),.own ((G9 T R i).map nI),.v (.int (i:Int))],fs]):=
   B1 (c7 (x:=.lst ((T.filter fun s=>G6 s z).map fr)) (s1:=#[[.v (.lst (T.map fr)),.v (.lst (R.map i4)),.own ((G9 T R i).map nI),.v (.int (i:Int))],fs]) (A6 (aa (idx:=[1,3]) (ds:=T.map fr) (s1:=#[[.v (.lst (T.map fr)),.v (.lst (R.map i4)),.own ((G9 T R i).map nI),.v (.int (i:Int))],fs]) rfl (Q8 (by rw[td];exact tl)) cm)) (A6 rfl) (Ab hT _))
  show iG u4 _=_;unfold iG;by_cases c:(T.any fun s=>G6 s z)=true
  .rw[c] at U;rw[iO c,Kp,F7 U];exact U2 (s1:=#[[.v (.lst (T.map fr)),.v (.lst (R.map i4)),.own ((G9 T R i).map nI),.v (.int (i:Int))],fs]) (ds:=(G9 T R i).map nI) (ds0:=(G9 T R i).map nI) rfl rfl rfl (Jf (show _<=200 by rw[td];omega) #[])
  .rw[iU c,Ju];rw[Bool.not_eq_true] at c;rw[c] at U;exact C9 U)
 rw[JF,S7] at lp;refine j7 (s:=#[[.v (.lst (T.map fr)),.v (.lst (R.map i4)),.v (.lst ((G9 T R R.length).map nI)),J],fs]) ?_;show kA u4 #[[.v (.lst (T.map fr)),.v (.lst (R.map i4)),.no,.no],fs]=_;unfold kA;rw[e7 (s1:=#[[.v (.lst (T.map fr)),.v (.lst (R.map i4)),.own [],.no],fs]) (D8 (s1:=#[[.v (.lst (T.map fr)),.v (.lst (R.map i4)),.no,.no],fs]) rfl (show 2<4 by decide)),
  e7 ((cw (xs:=[.int (R.length:Int)]) (s1:=#[[.v (.lst (T.map fr)),.v (.lst (R.map i4)),.own [],.no],fs]) (d9 (C7 (p:=j5) rfl (by rw[show j5 (.lst (R.map i4))=some (.int ((R.map i4).length:Int)) from rfl,td])) rfl) (cO (n:=R.length) ∅)).trans lp)]
 exact m8 rfl
def ux {m:c6}{t:DA}{s:DS}{J:vD_}(h:t s=some (J,s1)) (hf:D.flats J=true) (U:m J none=some (.lst ds,none)) (Y:D.flats ds=true):aR m t s=some (ds,s1):=by
 have e:du (.lst ds,none)=some ds:=iO Y;unfold aR;rw[h,xo];show (if D.flats J=true then ((m J none).bind du).map fun ds=>(ds,s1) else none)=_;rw[iO hf,U,xo,e];rfl
def eM {α:Type}(f:α->D) (h:∀z,D.flat (f z)=true):∀l:List α,D.flats (l.map f)=true:=fun l=>by
 induction l with
 |nil=>rfl
 |cons d r J=>
  show (D.flat (f d)&&D.flats (r.map f))=true;rw[h d,J];rfl
variable {ps:vT_}{Q:Nat->Pt × Pt}{T:List Rat}{P:List Rat}
abbrev az:c6:=ie M0 V2 Z0 V9 M9
abbrev sD:DM:=io M0 V2 Z0 V9 M9
abbrev Ha:DM:=jx M0 V2 Z0 V9 M9
abbrev u3 (c:Bool) (ps:vT_):D:=.tup [.bl c,.tup (ps.map pt)]
def nE (w:Int) (c:Bool) (ps:vT_) (P:List Rat) (o:Rat):D.flats [.int w,u3 c ps,.tup (P.map fr),fr o]=true:=by
 show (true&&((true&&(D.flats (ps.map pt)&&true))&&(D.flats (P.map fr)&&(true&&true))))=true;rw[eM pt (fun _=>rfl),eM fr (fun _=>rfl)];rfl
abbrev A1 (c:Bool) (ps:vT_) (P:List Rat) (o:Rat) (T:List Rat) (R:List (Rat × Rat)) (x5 x6 x7 x8:Sl) (fs:vO_):DS:=#[[.v (u3 c ps),.v (.tup (P.map fr)),.v (fr o),.v (.lst (T.map fr)),.v (.lst (R.map i4)),x5,x6,x7,x8],fs]
def wZ {M:Rat}(U:∀z∈R,In M z.1/\In M z.2) (hl:R.length<=200):Ok 3 1400 (.lst (R.map i4)):=by
 refine(Ok.lst (OkL.all (k:=2) (n:=6) (ds:=R.map i4) fun d Y=>?_)).mono #[] (by rw[td];omega);obtain⟨z,J,rfl⟩:=IW.mp Y;exact Ok.tup (OkL.cons (Ok.fr (U z J).1.sz) (OkL.cons (Ok.fr (U z J).2.sz) OkL.nil))
def sJ {M:Rat}{o:Rat}(hR:∀z∈R,In M z.1/\In M z.2) (hl:R.length<=200) (ht:M0 [.int 0,u3 c ps,.tup (P.map fr),fr o] none=some (.lst (R.map i4),none)) (U x6 J Y:Sl) (fs:vO_) :
  sD (A1 c ps P o T R U x6 J Y fs)=some (.next,A1 c ps P o T R U (.own []) J Y fs):=by
 have rp:=(wZ hR hl).repr;have fa:=nE 0 c ps P o;have fd:D.flats (R.map i4)=true:=eM i4 (fun _=>rfl) R;show io M0 V2 Z0 V9 M9 _=_;unfold io;unfold A1;generalize R.map i4=RD at *;generalize P.map fr=PD at *;rw[e7 (s1:=#[[.v (u3 c ps),.v (.tup PD),.v (fr o),.v (.lst (T.map fr)),.v (.lst RD),U,.own RD,J,Y],fs]) (D8 (s1:=#[[.v (u3 c ps),.v (.tup PD),.v (fr o),.v (.lst (T.map fr)),.v (.lst RD),U,x6,J,Y],fs]) (ux rfl fa ht fd) (show 6<9 by decide)),
  e7 (C9 (B1 (c7 (C7 (p:=M4) rfl rp) (C7 (p:=M4) rfl rp) (oX _))))]
 rfl
def tq {o:Rat}{L:vD_}(hL:Ok 4 4000 (.lst L)) (ll:L.length<=200) (fl:D.flats L=true) (ht:M0 [.int 1,u3 c ps,.tup (P.map fr),fr o] none=some (.lst L,none)) (U x6 J:Sl) (fs:vO_) :
  Ha (A1 c ps P o T R U x6 J (.own L) fs)=some (.next,A1 c ps P o T R U (.own (L++[.non])) J (.own L) fs):=by
 have Y:=hL.repr;have fa:=nE 1 c ps P o;show jx M0 V2 Z0 V9 M9 _=_;unfold jx;unfold A1;generalize R.map i4=RD at *;generalize P.map fr=PD at *;rw[e7 (s1:=#[[.v (u3 c ps),.v (.tup PD),.v (fr o),.v (.lst (T.map fr)),.v (.lst RD),U,.own L,J,.own L],fs]) (D8 (s1:=#[[.v (u3 c ps),.v (.tup PD),.v (fr o),.v (.lst (T.map fr)),.v (.lst RD),U,x6,J,.own L],fs]) (ux rfl fa ht fl) (show 6<9 by decide)),
  e7 (C9 (B1 (c7 (C7 (p:=M4) rfl Y) (C7 (p:=M4) rfl Y) (oX _))))]
 exact U2 (s1:=#[[.v (u3 c ps),.v (.tup PD),.v (fr o),.v (.lst (T.map fr)),.v (.lst RD),U,.own L,J,.own L],fs]) (ds:=L) (ds0:=L) rfl rfl rfl (Jf ll #[])
end T
namespace T
open PySem L2 DL
variable {ps:vT_}{Q:Nat->Pt × Pt}{T:List Rat}{P:List Rat}
def yX {a b c:DE}{s J:DS}{x y z:D}(h:a s=some (x,s1)) (h2:b s1=some (y,s2)) (U:c s2=some (z,J)):j8 (a7 a (a7 b (a7 c a8))) s=some ([x,y,z],J):=by
 unfold j8;rw[d9 h (d9 h2 (d9 U rfl)),xo];exact iO (e:=(none:Option (List D × DS))) (show 3<=sizeLine by decide)
def HI:C8 (.lst [.str "marks",.str "marks"]) (.lst [.str "marks",.str "marks"])=some (.bl true):=by
 have J:Ok 1 20 (.lst [.str "marks",.str "marks"]):=(Ok.lst (OkL.cons (Ok.str (by decide +kernel)) (OkL.cons (Ok.str (by decide +kernel)) OkL.nil))).mono #[] #[];show (if E1 (.lst [.str "marks",.str "marks"])&&E1 (.lst [.str "marks",.str "marks"]) then some (D.bl (PyData.eqv (D.lst [.str "marks",.str "marks"]).py (D.lst [.str "marks",.str "marks"]).py)) else none)=_;rw[J.eq,SeqAt.eqv_refl _ J.la];rfl
def Eu (L:Lay c ps m S Q T) (hx:ExS c ps) (hT:∀fs,M1 [u3 c ps] fs=some (.lst (T.map fr),fs)) (e2:∀fs,M9 [u3 c ps] fs=some (.lst (T.map fr),fs)) (h:Pn (S m) P) {o:Rat}(go:Gk o) (o0:0<=o) (o1:o<=1152921504606846976) (fs:vO_):az [u3 c ps,.tup (P.map fr),fr o] fs=some (.bl true,fs):=by
 have bg:=nP h.sum_gt.1 go;obtain⟨t,r,hr⟩:=AW h bg;have m0:=fun fs=>Ak h fs (u3 c ps) go o0 o1 hr (Du L fs (hT fs))
 have mw:=AQ h fs go o0 o1 hr;have good:∀R,r=some R->(∀z∈R,In (S m) z.1/\In (S m) z.2)/\R.length<=200:=fun R e=>yC h t 0 _ [] R (by rw[hr,e]) bg (fun z U=>by cases U) #[]
 have t0:=fun fs=>EH _ _ _ fs (m0 fs)
 have t1:=fun fs=>xy _ _ _ fs (HV L hx fs (hT fs) _ _ (m0 fs) good)
 have la:=L.lst_at;have st:∀F:DM,d8 (e8 (c8 M9 (a7 (dV 0) a8)) (d6 3)) (d8 (e8 (c8 V9 (a7 (a9 d7 (dL 3) (r8 v6 (Ow 1))) (a7 (dV 1) (a7 (dV 2) (a7 (Ow 200) a8))))) (d6 4)) F) #[[.v (u3 c ps),.v (.tup (P.map fr)),.v (fr o),.no,.no,.no,.no,.no,.no],fs]=F #[[.v (u3 c ps),.v (.tup (P.map fr)),.v (fr o),.v (.lst (T.map fr)),.v (nv r),.no,.no,.no,.no],fs]:=fun F=>by
  rw[e7 (s1:=#[[.v (u3 c ps),.v (.tup (P.map fr)),.v (fr o),.v (.lst (T.map fr)),.no,.no,.no,.no,.no],fs]) (f9 (f8 rfl (e2 fs)) rfl),
   e7 (s1:=#[[.v (u3 c ps),.v (.tup (P.map fr)),.v (fr o),.v (.lst (T.map fr)),.v (nv r),.no,.no,.no,.no],fs]) (f9 (f8 (d9 (c7 rfl rfl (w9 la)) rfl) mw) rfl)]
 cases r with
 |none=>
  refine j7 (s:=#[[.v (u3 c ps),.v (.tup (P.map fr)),.v (fr o),.v (.lst (T.map fr)),.v .non,.no,.no,.no,.no],fs]) ?_;show aZ M0 V2 Z0 V9 M9 #[[.v (u3 c ps),.v (.tup (P.map fr)),.v (fr o),.no,.no,.no,.no,.no,.no],fs]=_;unfold aZ;rw[st];have cm:=gS (caps:=[.v (u3 c ps),.v (.tup (P.map fr)),.v (fr o)]) (fe:=c8 M0 (a7 (dV 0) (a7 (dV 1) (a7 (dV 2) (a7 (dV 3) a8))))) fs (fun w:Int=>D.int w) (fun _=>D.str "marks") [0,1] (fun z U=>by
   rcases IH.mp U with q | q
   .rw[q];exact f8 rfl (t0 fs)
   .rw[Jo.mp q];exact f8 rfl (t1 fs))
  refine T8 ((F7 (B1 (c7 rfl rfl rfl))).trans (m8 (c7 (x:=.lst [.str "marks",.str "marks"]) (s1:=#[[.v (u3 c ps),.v (.tup (P.map fr)),.v (fr o),.v (.lst (T.map fr)),.v .non,.no,.no,.no,.no],fs]) (A6 (aa (idx:=[0,1,2]) (ds:=[.int 0,.int 1]) (s1:=#[[.v (u3 c ps),.v (.tup (P.map fr)),.v (fr o),.v (.lst (T.map fr)),.v .non,.no,.no,.no,.no],fs]) rfl #[] cm)) (A6 rfl) HI)))
 |some R=>
  obtain⟨hR,hl⟩:=good R rfl;have t0:M0 [.int 0,u3 c ps,.tup (P.map fr),fr o] none=some (.lst (R.map i4),none):=t0 none;have t1f:M0 [.int 1,u3 c ps,.tup (P.map fr),fr o] fs=some (.lst (R.map (A0 S Q m (ps.zip T))),fs):=t1 fs;have t1:M0 [.int 1,u3 c ps,.tup (P.map fr),fr o] none=some (.lst (R.map (A0 S Q m (ps.zip T))),none):=t1 none;have okp:∀z∈R,Ok 3 100 (A0 S Q m (ps.zip T) z):=fun z U=>xz L hx (hT none) (hR z U).1 (hR z U).2
  have flp:D.flats (R.map (A0 S Q m (ps.zip T)))=true:=eM _ (fun z=>by
   show (true&&(D.flats ((Y5 S Q m (ps.zip T) z.1 z.2).map pt)&&true))=true;rw[eM pt (fun _=>rfl)];rfl) R
  have l2:∃J,W8 (a7 (Ow 2) a8) (d6 5) sD (A1 c ps P o T R .no .no .no .no fs)=some (.next,A1 c ps P o T R J (.own []) .no .no fs):=by
   refine#[.v (.int 1),(cw (xs:=[.int 2]) (ds:=[.int 0,.int 1]) (s1:=A1 c ps P o T R .no .no .no .no fs) rfl rfl).trans ?_];rw[T9 (s1:=A1 c ps P o T R (.v (.int 0)) .no .no .no fs) rfl (sJ hR hl t0 _ _ _ _ _),T9 (s1:=A1 c ps P o T R (.v (.int 1)) (.own []) .no .no fs) rfl (sJ hR hl t0 _ _ _ _ _)];rfl
  obtain⟨J,l2⟩:=l2;have Y:dB (a9 (k9 (fun i j=>decide (j<i))) (i9 (one j5) (a7 (dL 4) a8)) (Ow 12)) (A1 c ps P o T R J (.own []) .no .no fs)=some (decide ((12:Int)<(R.length:Int)),A1 c ps P o T R J (.own []) .no .no fs):=B1 (c7 (C7 (p:=j5) rfl rfl) rfl (show some (D.bl (decide ((12:Int)<((R.map i4).length:Int))))=_ by rw[td]));by_cases c12:12<R.length
  .rw[II ∅] at Y;have pw:=Ep h t 0 _ [] R hr List.Pairwise.nil (fun z U=>by cases U);have wl:=wQ T pw;have tl:T.length<=10:=by have:=L.len;have:=L.m9;omega
   have sT:∀s∈T,Sz 92 s:=fun s hs=>by
    obtain⟨i,hi⟩:=LL hs;have i1:i<T.length:=(Jj.mp hi).1;have le:=L.len;rw[L.at_ i ∅] at hi;cases hi;exact(L.sz i ∅).mono #[]
   have ww:=yu sT ∅ (fun z U=>#[(hR z U).1.sz,(hR z U).2.sz]) hl fs;obtain⟨K,hK⟩:∃K,K=[0,R.length / 2,R.length - 1]++G9 T R R.length:=#[_,rfl]
   have kl:K.length<=13:=by rw[hK,Jb];show 3+_<=13;omega
   have kin:∀k∈K,R[k]? = some (R.getD k (0,0)):=fun k hk=>by
    have:k<R.length:=by
     rw[hK] at hk;rcases JT.mp hk with q | q
     .rcases IH.mp q with q | q
      .omega
      .rcases IH.mp q with q | q
       .omega
       .rw[Jo.mp q];omega
     .exact AH q
    rw[Lq,Ji this];rfl
   have okK:Ok 4 4000 (.lst (K.map fun k=>A0 S Q m (ps.zip T) (R.getD k (0,0)))):=(Ok.lst (OkL.all (k:=3) (n:=100) fun d hd=>by
    obtain⟨k,hk,rfl⟩:=IW.mp hd;exact okp _ (JP (kin k hk)))).mono #[] (by rw[td];omega)
   have rp:=okK.repr;have c1:=gS (caps:=[.v (.lst (R.map (A0 S Q m (ps.zip T))))]) (fe:=a9 d7 (dL 1) (dL 0)) fs nI (fun k=>A0 S Q m (ps.zip T) (R.getD k (0,0))) K (fun k hk=>c7 rfl rfl (w9 (R9 (by rw[Jl,kin k hk];rfl))));have c2:=gS (caps:=[.v (u3 c ps),.v (.lst (T.map fr)),.v (.lst (R.map i4))]) (fe:=c8 V2 (a7 (dV 1) (a7 (dV 2) (a7 (a9 d7 (a9 d7 (dL 3) (dL 0)) (Ow 0)) (a7 (a9 d7 (a9 d7 (dL 3) (dL 0)) (Ow 1)) a8))))) fs nI (fun k=>A0 S Q m (ps.zip T) (R.getD k (0,0))) K (fun k hk=>by
    have g:=hR _ (JP (kin k hk));have ix:p9 (R.map i4) (k:Int)=some (i4 (R.getD k (0,0))):=R9 (by rw[Jl,kin k hk];rfl);exact f8 (d9 rfl (d9 rfl (d9 (c7 (c7 rfl rfl (w9 ix)) rfl rfl) (d9 (c7 (c7 rfl rfl (w9 ix)) rfl rfl) rfl)))) (uF L hx.lo hx.hi fs g.1 g.2))
   have U:(K.map nI).length<=sizeLine:=Q8 (by rw[td];omega);have dv:u6 (.int ((R.map i4).length:Int)) (.int 2)=some (nI (R.length / 2)):=by
    rw[dG _ #[],td,Lg _ #[]];rfl
   have sb:B7 (.int ((R.map i4).length:Int)) (.int 1)=some (nI (R.length - 1)):=by
    rw[td];show some (D.int ((R.length:Int) - 1))=some (D.int ((R.length - 1:Nat):Int));rw[show ((R.length - 1:Nat):Int)=(R.length:Int) - 1 by omega]
   have ap:U1 (.lst [nI 0,nI (R.length / 2),nI (R.length - 1)]) (.lst ((G9 T R R.length).map nI))=some (K.map nI):=by
    rw[hK,Kp];exact iO (Q8 (by rw[td];show 3+_<=100;omega))
   have fa:=nE 1 c ps P o;have nel:C5 (.int ((R.map (A0 S Q m (ps.zip T))).length:Int)) (.int ((R.map i4).length:Int))=some (.bl false):=by
    rw[td,td,iP,II rfl];rfl
   have len6:i9 (one j5) (a7 (dL 6) a8) (A1 c ps P o T R J (.v (.lst (R.map (A0 S Q m (ps.zip T))))) .no .no fs)=some (.int ((R.map (A0 S Q m (ps.zip T))).length:Int),A1 c ps P o T R J (.v (.lst (R.map (A0 S Q m (ps.zip T))))) .no .no fs):=C7 (p:=j5) rfl rfl;have isl:G8 (j9 (r8 (mF "list") (dL 6))) (A1 c ps P o T R J (.v (.lst (R.map (A0 S Q m (ps.zip T))))) .no .no fs)=some (false,A1 c ps P o T R J (.v (.lst (R.map (A0 S Q m (ps.zip T))))) .no .no fs):=qe (b:=true) rfl;have lenE:i9 (one j5) (a7 (dL 4) a8) (A1 c ps P o T R J (.v (.lst (R.map (A0 S Q m (ps.zip T))))) .no .no fs)=some (.int ((R.map i4).length:Int),A1 c ps P o T R J (.v (.lst (R.map (A0 S Q m (ps.zip T))))) .no .no fs):=C7 (p:=j5) rfl rfl;refine j7 (s:=A1 c ps P o T R J (.v (.lst (R.map (A0 S Q m (ps.zip T))))) (.v (.lst (K.map nI))) .no fs) ?_;show aZ M0 V2 Z0 V9 M9 #[[.v (u3 c ps),.v (.tup (P.map fr)),.v (fr o),.no,.no,.no,.no,.no,.no],fs]=_;unfold aZ;rw[st,e7 (s1:=A1 c ps P o T R .no .no .no .no fs) (C9 (B1 (c7 rfl rfl rfl))),e7 l2];refine T8 ((F7 Y).trans ?_);rw[e7 (s1:=A1 c ps P o T R J (.v (.lst (R.map (A0 S Q m (ps.zip T))))) .no .no fs) (f9 (f8 rfl t1f) rfl),
    e7 (C9 (nU isl (B1 (c7 len6 lenE nel)))),
    e7 (s1:=A1 c ps P o T R J (.v (.lst (R.map (A0 S Q m (ps.zip T))))) (.own (K.map nI)) .no fs) (D8 (s1:=A1 c ps P o T R J (.v (.lst (R.map (A0 S Q m (ps.zip T))))) .no .no fs) (am (A6 (yX rfl (c7 lenE rfl dv) (c7 lenE rfl sb))) (f8 rfl ww) ap) (show 7<9 by decide))]
   exact m8 (c7 (C7 (p:=M4) (A6 (aa (idx:=[6]) (ds:=K.map nI) (s1:=A1 c ps P o T R J (.v (.lst (R.map (A0 S Q m (ps.zip T))))) (.v (.lst (K.map nI))) .no fs) rfl U c1)) rp) (C7 (p:=M4) (A6 (aa (idx:=[0,3,4]) (ds:=K.map nI) (s1:=A1 c ps P o T R J (.v (.lst (R.map (A0 S Q m (ps.zip T))))) (.v (.lst (K.map nI))) .no fs) rfl U c2)) rp) (HG rfl))
  .rw[ID ∅] at Y;have okL:Ok 4 4000 (.lst (R.map (A0 S Q m (ps.zip T)))):=(Ok.lst (OkL.all (k:=3) (n:=100) fun d hd=>by
    obtain⟨z,U,rfl⟩:=IW.mp hd;exact okp z U)).mono #[] (by rw[td];omega)
   have cm:=sr (idx:=[0,3]) (sl:=(A1 c ps P o T R J (.own []) .no .no fs).sl) (fe:=c8 V2 (a7 (dV 2) (a7 (dV 3) (a7 (dV 0) (a7 (dV 1) a8))))) fs (fun z:Rat × Rat=>fr z.1) (fun z=>fr z.2) (A0 S Q m (ps.zip T)) R (fun z U=>f8 rfl (uF L hx.lo hx.hi fs (hR z U).1 (hR z U).2));have ll:(R.map (A0 S Q m (ps.zip T))).length<=200:=by rw[td];exact hl
   refine j7 (s:=A1 c ps P o T R (.v (.int 1)) (.own (R.map (A0 S Q m (ps.zip T))++[.non])) .no (.own (R.map (A0 S Q m (ps.zip T)))) fs) ?_;show aZ M0 V2 Z0 V9 M9 #[[.v (u3 c ps),.v (.tup (P.map fr)),.v (fr o),.no,.no,.no,.no,.no,.no],fs]=_;unfold aZ;rw[st,e7 (s1:=A1 c ps P o T R .no .no .no .no fs) (C9 (B1 (c7 rfl rfl rfl))),e7 l2,e7 (C9 Y),
    e7 (s1:=A1 c ps P o T R J (.own []) .no (.own (R.map (A0 S Q m (ps.zip T)))) fs) (D8 (s1:=A1 c ps P o T R J (.own []) .no .no fs) (eJ (ds:=R.map i4) (s1:=A1 c ps P o T R J (.own []) .no .no fs) rfl (by rw[td];exact xr hl #[]) cm) (show 8<9 by decide)),
    e7 (s1:=A1 c ps P o T R (.v (.int 1)) (.own (R.map (A0 S Q m (ps.zip T))++[.non])) .no (.own (R.map (A0 S Q m (ps.zip T)))) fs) ((cw (xs:=[.int 2]) (ds:=[.int 0,.int 1]) (s1:=A1 c ps P o T R J (.own []) .no (.own (R.map (A0 S Q m (ps.zip T)))) fs) rfl rfl).trans (by
    rw[T9 (s1:=A1 c ps P o T R (.v (.int 0)) (.own []) .no (.own (R.map (A0 S Q m (ps.zip T)))) fs) rfl (tq okL ll flp t1 _ _ _ _),T9 (s1:=A1 c ps P o T R (.v (.int 1)) (.own (R.map (A0 S Q m (ps.zip T))++[.non])) .no (.own (R.map (A0 S Q m (ps.zip T)))) fs) rfl (tq okL ll flp t1 _ _ _ _)];rfl))]
   exact m8 rfl
end T
namespace T
open PySem L2 DL
variable {ps:vT_}{Q:Nat->Pt × Pt}
def FB (J:ExS c ps) (L:Lay c ps m S Q (R7 0 ((i7 c ps).map C6))):Gf (9*M3) (S m):=by
 have a:=L.at_ m (tv _);have nl:=L.nl;have m9:=L.m9;rw[mG _ 0 m (by rw[td];omega)] at a;rw[<-Jg a];refine qq 9 _ (fun r Y=>?_) (by rw[Kb];omega);obtain⟨z,U,rfl⟩:=IW.mp (NJ Y);exact(kj (J.ex z U)).2
def Gf.gk {x:Rat}(h:Gf B x):Gk x:=by
 obtain⟨n,_,rfl⟩:=h;refine#[n*800,?_];rw[show (280910448000:Int)=351138060*800 from rfl,Lj #[]]
theorem vy {x:Rat}(h:Gf (9*M3) x):x<=9007199254740992:=by
 obtain⟨n,a,rfl⟩:=h;have a:n<=3162770472343197733355520:=by
  have:9*M3<=3162770472343197733355520:=by unfold M3 K3;decide
  omega
 have r:=KP.mpr a;have e:(n:Rat)=Rat.divInt n 351138060*351138060:=by
  rw[IE];have:((351138060:Int):Rat)=351138060:=rfl;grind
 have q:((3162770472343197733355520:Int):Rat)=3162770472343197733355520:=by rfl
 grind
end T
namespace T
open PySem L2 DL
def Gq (x:Rat):Prop:=∃n:Int,x=Rat.divInt n 42
def Gq.six {x:Rat}(h:Gq x) (c:Int):Gk (x*Rat.divInt c 6):=by
 obtain⟨n,rfl⟩:=h;refine#[n*c*1114724000,?_];rw[show (280910448000:Int)=42*6*1114724000 from rfl,Lj #[],LH]
theorem Gq.add {x y:Rat}(h1:Gq x) (h2:Gq y):Gq (x+y):=by
 obtain⟨n,rfl⟩:=h1;obtain⟨m,rfl⟩:=h2;refine#[n+m,?_];rw[IE,IE,IE,JA];grind
theorem Gq.zmul {x:Rat}(h:Gq x) (z:Int):Gq (x*(z:Rat)):=by
 obtain⟨n,rfl⟩:=h;refine#[n*z,?_];rw[IE,IE,IG];grind
def Gq.k {x:Rat}(h:Gq x):Gk x:=by
 have:=h.six 6
 rwa [show Rat.divInt 6 6=1 from rfl,Rat.mul_one] at this
def mt8:List Rat:=[1,2,1 / 2,1 / 3,5,7 / 2,3 / 7,60]
def mH:∀x∈mt8,Gq x/\0<x/\x<=60:=fun x J=>by
 have:=IZ (Jc.mp (show (mt8.all fun x=>decide (x=Rat.divInt (x.num*(42 / x.den)) 42/\0<x/\x<=60))=true by decide +kernel) x J);exact#[#[_,this.1],this.2]
abbrev cQ (z:Int × Int):D:=.tup [.int z.1,.int z.2]
def C4 {l:List Rat}{t:List (Int × Int)}(h:l.map (fun x=>(x.num,(x.den:Int)))=t):t.map cQ=l.map fr:=by
 rw[<-h,KN];rfl
def fF {x:Rat}(a b:Int) (h:x.num=a/\(x.den:Int)=b):cQ (a,b)=fr x:=by
 rw[<-h.1,<-h.2];rfl
abbrev fq:DE:=a9 d7 (dL 1) (c8 v8 (a7 (dV 2) (a7 (Ow 8) a8)))
def EG:∀(ds:vD_) (n:Nat) (f:FS),Fd3 n f->n+ds.length<2 ^ 30->∃(P:List Rat) (f':FS),C0 (fun d=>some (.v d::[.v (.lst (mt8.map fr)),.v .feed])) A8 fq ds (some f)=some (P.map fr,some f')/\P.length=ds.length/\(∀p∈P,p∈mt8)/\Fd3 (n+ds.length) f':=by
 intro ds;induction ds with
 |nil=>exact fun n f h _=>#[[],f,rfl,rfl,(fun k J=>by cases J),h]
 |cons d r ih=>
  intro n f h hn;rw[Ja] at hn;obtain⟨x,f1,e1,a1,a2,h1⟩:=E3 8 h;obtain⟨z,hz,q⟩:=P7 (xs:=mt8.map fr) a1 a2;obtain⟨p,hp,rfl⟩:=IW.mp hz;obtain⟨P,f',e,kl,U,h'⟩:=ih (n+1) f1 h1 ∅;refine#[p::P,f',?_,by rw[Ja,Ja,kl],?_,by rw[Ja];exact h'.mono ∅]
  .generalize mt8.map fr=B at *;have Y:fq #[.v d::[.v (.lst B),.v .feed],some f]=some (fr p,#[.v d::[.v (.lst B),.v .feed],some f1]):=c7 rfl (u7 rfl e1) (w9 q);rw[C0,xo,show A8 #[.v d::[.v (.lst B),.v .feed],some f]=some (true,#[.v d::[.v (.lst B),.v .feed],some f]) from rfl,xo,iO rfl,Y,xo,e];rfl
  .intro k J;rcases IH.mp J with z | z
   .rw[z];exact hp
   .exact U k z
structure Pq (P:List Rat):Prop where
 ev:P.length % 2=0
 l2:2<=P.length
 l8:P.length<=8
 all:∀x∈P,Gq x/\0<x/\x<=60000000000000
theorem Pq.pn {M:Rat}(h:Pq P) (J:Gk M) (Y:0<M) (m1:M<=9007199254740992):Pn M P:=#[h.ev,h.l2,h.l8,fun x U=>by
 obtain⟨a,b,c⟩:=h.all x U;exact#[a.k,b,by grind],J,Y,m1]
theorem Hf:∀(l:List Rat) (b:Rat),(∀x∈l,Gq x/\0<x/\x<=60000000000000)->Gq b->Gq (A3 l b)/\b<=A3 l b/\A3 l b<=b+60000000000000*(l.length:Rat):=by
 intro l;induction l with
 |nil=>exact fun b _ h=>#[h,ML,by show b<=b+_*((0:Nat):Rat);grind]
 |cons x r J=>
  intro b h U;obtain⟨a1,a2,a3⟩:=h x (IY ..);obtain⟨g,g1,g2⟩:=J (b+x) (fun y Y=>h y (IT _ Y)) (U.add a1);refine#[g,?_,?_]
  .show b<=A3 r (b+x);grind
  .show A3 r (b+x)<=_;rw[Ja];have:((r.length+1:Nat):Rat)=(r.length:Rat)+1:=by rw[NR];rfl
   grind
theorem Pq.sum (h:Pq P):Gq (A3 P 0)/\0<=A3 P 0/\A3 P 0<=480000000000000:=by
 obtain⟨a,b,c⟩:=Hf P 0 h.all #[0,rfl];refine#[a,b,?_];have l8:(P.length:Rat)<=((8:Nat):Rat):=NS.mpr h.l8;have:((8:Nat):Rat)=8:=rfl;grind
def mo5:List Rat:=[0,1 / 800,1 / 400,3 / 800,1 / 200]
def Fj:∀x∈mo5,(∃c:Int,x=Rat.divInt c 800)/\0<=x/\x<=1:=fun x J=>by
 have:=IZ (Jc.mp (show (mo5.all fun x=>decide (x=Rat.divInt (x.num*(800 / x.den)) 800/\0<=x/\x<=1))=true by decide +kernel) x J);exact#[#[_,this.1],this.2]
def vZ {x:Rat}(h:Gf B x) (c:Int):Gk (x*Rat.divInt c 800):=by
 obtain⟨n,_,rfl⟩:=h;refine#[n*c,?_];rw[show (280910448000:Int)=351138060*800 from rfl,LH]
def mg5:List Rat:=[0,0,1,7,99]
def GS:∀x∈mg5,(∃c:Int,x=(c:Rat))/\0<=x/\x<=99:=fun x J=>by
 have:=IZ (Jc.mp (show (mg5.all fun x=>decide (x=(x.num:Rat)/\0<=x/\x<=99))=true by decide +kernel) x J);exact#[#[_,this.1],this.2]
abbrev eF:c6:=kz D4 E9 v8 au u4
def bD {s:DS}(h:f s=some (ds,s1)) (hz:ds.length<=100):j8 f s=some (ds,s1):=by
 unfold j8;rw[h,xo,iO (Q8 hz)]
def on (j:Nat) (h:(0:Int)<=j/\(j:Int)<=1000000):P8 (.int 10) (.int (j:Int))=some (.int (10 ^ j)):=by
 show (if (0:Int)<=j/\(j:Int)<=1000000/\(10:Int).natAbs<2 ^ 64 then some (D.int (10 ^ (j:Int).toNat)) else none)=_;rw[iO #[h.1,h.2,by decide]];rfl
theorem Dy {M:Rat}(gM:Gf (9*M3) M) (m0:0<M) {f:FS}(h:Fd3 n f) (hn:n<2 ^ 28):∃(P:List Rat) (o:Rat) (f':FS),eF [.feed,fr M] (some f)=some (.tup [.tup (P.map fr),fr o],some f')/\Pn M P/\Gk o/\0<=o/\o<=1152921504606846976/\Fd3 (n+12) f':=by
 have m1:=vy gM;have gk:=gM.gk;have sM:Sz 102 M:=gk.sz (by grind) (by grind);obtain⟨r,f1,e1,a1,a2,h1⟩:=E3 6 h;have c1:dB (a9 C8 (c8 v8 (a7 (dV 0) (a7 (Ow 6) a8))) (Ow 0)) #[[.v .feed,.v (fr M),.no,.no,.no,.no,.no,.no],some f]=some (decide (r=0),#[[.v .feed,.v (fr M),.no,.no,.no,.no,.no,.no],some f1]):=B1 (c7 (u7 rfl e1) rfl (S0 r 0));by_cases c:r=0
 .rw[II c] at c1;obtain⟨k,f2,e2,b1,b2,h2⟩:=E3 5 h1;obtain⟨z,hz,q⟩:=P7 (xs:=mo5.map fr) b1 b2;obtain⟨y,hy,rfl⟩:=IW.mp hz;obtain⟨⟨cc,hc⟩,y0,y1⟩:=Fj y hy;have t5:=C4 (l:=mo5) (t:=[(0,1),(1,800),(1,400),(3,800),(1,200)]) (by decide +kernel);have s4:Sz 9 (1 / 400:Rat):=Sz.lit (by decide +kernel);have p1:=W7 M (1 / 400) (some f1) sM s4 #[];rw[<-fF (x:=1 / 400) 1 400 (by decide +kernel)] at p1;have gy:Gk (M*y):=by rw[hc];exact vZ gM cc
  have sy:Sz 20 y:=Sz.lit (Jc.mp (show (mo5.all fun p=>decide (p.num.natAbs<2 ^ 20/\p.den<2 ^ 20))=true by decide +kernel) y hy);have p2:=W7 M y (some f2) sM sy #[];have g4:Gk (M*(1 / 400)):=by
   have:=vZ gM 2
   rwa [show Rat.divInt 2 800=1 / 400 by decide +kernel] at this
  refine#[[M*(1 / 400),M*(1 / 400)],M*y,f2,j7 (s:=#[[.v .feed,.v (fr M),.v (fr (M*(1 / 400))),.own (mo5.map fr),.no,.no,.no,.no],some f2]) ?_,#[(show 2 % 2=0 from rfl),tv _,(show 2<=8 by decide),fun x hx=>?_,gk,m0,m1],gy,ME (Lo m0) y0,?_,h2.mono ∅]
  .show dM D4 E9 v8 au u4 #[[.v .feed,.v (fr M),.no,.no,.no,.no,.no,.no],some f]=_;unfold dM;refine T8 ((F7 c1).trans ?_);rw[e7 (s1:=#[[.v .feed,.v (fr M),.v (fr (M*(1 / 400))),.no,.no,.no,.no,.no],some f1]) (f9 (f8 (d9 rfl (d9 (v4 rfl rfl) rfl)) p1) rfl),
    e7 (s1:=#[[.v .feed,.v (fr M),.v (fr (M*(1 / 400))),.own (mo5.map fr),.no,.no,.no,.no],some f1]) (D8 (s1:=#[[.v .feed,.v (fr M),.v (fr (M*(1 / 400))),.no,.no,.no,.no,.no],some f1]) (bD (ds:=mo5.map fr) (by rw[<-t5];rfl) #[]) (show 3<8 by decide))]
   generalize mo5.map fr=B at *;exact m8 (v4 (v4 rfl rfl) (qj (sl':=[.v .feed,.v (fr M),.v (fr (M*(1 / 400))),.own B,.no,.no,.no,.no]) (d9 rfl (d9 (c7 rfl (u7 rfl e2) (w9 q)) rfl)) p2))
  .have:x=M*(1 / 400):=by
    rcases IH.mp hx with z | z
    .exact z
    .exact Jo.mp z
   rw[this];exact#[g4,by grind,by grind]
  .have:M*y<=M*1:=Ov y1 (Lo m0);grind
 .rw[ID c] at c1;obtain⟨k,f2,e2,b1,b2,h2⟩:=E3 5 h1;obtain⟨x,hx,q2⟩:=P7 (xs:=[D.int 2,.int 4,.int 2,.int 6,.int 8]) b1 b2;obtain⟨y,hy,rfl⟩:=IW.mp (show x∈[(2:Nat),4,2,6,8].map (fun (z:Nat)=>D.int (z:Int)) from hx);have hy2:2<=y/\y<=8/\y % 2=0:=IZ (Jc.mp (show ([(2:Nat),4,2,6,8].all fun y=>decide (2<=y/\y<=8/\y % 2=0))=true by decide) y hy);obtain⟨Y,J,e3,kl,kb,h3⟩:=EG (D0 0 y) (n+2) f2 (h2.mono ∅) (by rw[S7];omega);rw[S7] at kl h3;have t8:=C4 (l:=mt8) (t:=[(1,1),(2,1),(1,2),(1,3),(5,1),(7,2),(3,7),(60,1)]) (by decide +kernel);have lt8:(mt8.map fr).length<=100:=by decide
  have bl:=V8 1000000 M (some J) (Sz.lit (k:=20) #[]) sM #[];rw[<-fF (x:=1000000) 1000000 1 (by decide +kernel)] at bl;have great:∃P,Pq P/\l7 (j9 (c8 u4 (a7 (c9 (a7 (a9 P8 (Ow 10) (Ow 6)) (a7 (Ow 1) a8))) (a7 (dV 1) a8)))) (e8 (i9 (one J9) (a7 (k6 (K2 [] (F6 (dV 4)) A8 (c8 E9 (a7 (dV 0) (a7 (c9 (a7 (a9 P8 (Ow 10) (Ow 12)) (a7 (Ow 1) a8))) a8))))) a8)) (d6 4)) n8 #[[.v .feed,.v (fr M),.no,.v (.lst (mt8.map fr)),.v (.tup (Y.map fr)),.no,.no,.no],some J]=some (.next,#[[.v .feed,.v (fr M),.no,.v (.lst (mt8.map fr)),.v (.tup (P.map fr)),.no,.no,.no],some J]):=by
   generalize mt8.map fr=B at *;have cd:j9 (c8 u4 (a7 (c9 (a7 (a9 P8 (Ow 10) (Ow 6)) (a7 (Ow 1) a8))) (a7 (dV 1) a8))) #[[.v .feed,.v (fr M),.no,.v (.lst B),.v (.tup (Y.map fr)),.no,.no,.no],some J]=some (decide (1000000<M),#[[.v .feed,.v (fr M),.no,.v (.lst B),.v (.tup (Y.map fr)),.no,.no,.no],some J]):=F3 (f8 (d9 (v4 (c7 rfl rfl (on 6 #[])) rfl) (d9 rfl rfl)) bl);by_cases g:1000000<M
   .rw[II g] at cd;have cm:=gS (caps:=[]) (fe:=c8 E9 (a7 (dV 0) (a7 (c9 (a7 (a9 P8 (Ow 10) (Ow 12)) (a7 (Ow 1) a8))) a8))) (some J) fr (fun p=>fr (p*1000000000000)) Y (fun p hp=>by
     obtain⟨q1,q2,q3⟩:=mH p (kb p hp);have pr:=W7 p 1000000000000 (some J) (q1.k.sz (by grind) (by grind)) (Sz.lit (k:=40) #[]) #[];rw[<-fF (x:=1000000000000) 1000000000000 1 (by decide +kernel)] at pr;exact f8 (d9 rfl (d9 (v4 (c7 rfl rfl (on 12 #[])) rfl) rfl)) pr)
    refine#[Y.map (· * 1000000000000),#[by rw[td];omega,by rw[td];omega,by rw[td];omega,fun x hx=>?_],?_]
    .obtain⟨p,hp,rfl⟩:=IW.mp hx;obtain⟨q1,q2,q3⟩:=mH p (kb p hp);exact#[q1.zmul 1000000000000,by grind,by grind]
    .rw[F7 cd,KN];exact f9 (C7 (p:=J9) (A6 (aa (idx:=[]) (ds:=Y.map fr) (s1:=#[[.v .feed,.v (fr M),.no,.v (.lst B),.v (.tup (Y.map fr)),.no,.no,.no],some J]) rfl (Q8 (by rw[td];omega)) cm)) rfl) rfl
   .rw[ID g] at cd;exact#[Y,#[by omega,by omega,by omega,fun x hx=>by
     obtain⟨q1,q2,q3⟩:=mH x (kb x hx);exact#[q1,q2,by grind]],C9 cd]
  obtain⟨P,hP,gr⟩:=great;have pn:=hP.pn gk m0 m1;have sm:=(pn.sums (some J)).2;obtain⟨w1,w2,w3⟩:=hP.sum;obtain⟨p0,Pt,rfl⟩:∃p0 Pt,P=p0::Pt:=by
   cases P with
   |nil=>exact absurd hP.l2 #[]
   |cons a b=>exact#[a,b,rfl]
  obtain⟨v1,v2,v3⟩:=hP.all p0 (IY ..);generalize A3 (p0::Pt) 0=W at *;have sp:Sz 102 p0:=v1.k.sz (by grind) (by grind);have sW:Sz 102 W:=w1.k.sz (by grind) (by grind);have x2:=W7 p0 (1 / 2) (some J) sp (Sz.lit (k:=2) (by decide +kernel)) #[];rw[<-fF (x:=1 / 2) 1 2 (by decide +kernel)] at x2;have x3:=W7 W (2 / 3) (some J) sW (Sz.lit (k:=2) (by decide +kernel)) #[];rw[<-fF (x:=2 / 3) 2 3 (by decide +kernel)] at x3;obtain⟨k4,f4,e4,d1,d2,h4⟩:=E3 4 h3;obtain⟨z4,hz4,q4⟩:=P7 (xs:=[0,p0,p0*(1 / 2),W*(2 / 3)].map fr) d1 d2;obtain⟨rs,hr,rfl⟩:=IW.mp hz4;have hr2:Gk rs/\0<=rs/\rs<=480000000000000:=by
   rcases IH.mp hr with z | hr
   .rw[z];exact#[Gk.zero,ML,by decide +kernel]
   .rcases IH.mp hr with z | hr
    .rw[z];exact#[v1.k,by grind,by grind]
    .rcases IH.mp hr with z | hr
     .rw[z];have:=v1.six 3;rw[show Rat.divInt 3 6=1 / 2 by decide +kernel] at this;exact#[this,by grind,by grind]
     .rw[Jo.mp hr];have:=w1.six 4;rw[show Rat.divInt 4 6=2 / 3 by decide +kernel] at this;exact#[this,by grind,by grind]
  obtain⟨r1,r2,r3⟩:=hr2;obtain⟨k5,f5,e5,g1,g2,h5⟩:=E3 5 h4;obtain⟨z5,hz5,q5⟩:=P7 (xs:=mg5.map fr) g1 g2;obtain⟨U,hg,rfl⟩:=IW.mp hz5;obtain⟨⟨cc,hc⟩,y0,y1⟩:=GS U hg;have sg:Sz 20 U:=Sz.lit (Jc.mp (show (mg5.all fun p=>decide (p.num.natAbs<2 ^ 20/\p.den<2 ^ 20))=true by decide +kernel) U hg);have t5:=C4 (l:=mg5) (t:=[(0,1),(0,1),(1,1),(7,1),(99,1)]) (by decide +kernel);have lt5:(mg5.map fr).length<=100:=by decide
  have p5:=W7 W U (some f5) sW sg #[];have p6:=U4 (W*U) rs (some f5) (sW.mul sg) (r1.sz (by grind) (by grind)) #[];have gw:Gk (W*U):=by rw[hc];exact(w1.zmul cc).k
  have wl:W*U<=W*99:=Ov y1 w2;have wz:0<=W*U:=ME w2 y0;refine#[p0::Pt,W*U+rs,f5,j7 (s:=#[[.v .feed,.v (fr M),.no,.v (.lst (mt8.map fr)),.v (.tup ((p0::Pt).map fr)),.v (fr W),.v (fr rs),.v (fr U)],some f5]) ?_,pn,gw.add r1,by grind,by grind,h5.mono ∅];show dM D4 E9 v8 au u4 #[[.v .feed,.v (fr M),.no,.no,.no,.no,.no,.no],some f]=_;unfold dM;have l8:(j8 (a7 (c9 (a7 (Ow 1) (a7 (Ow 1) a8))) (a7 (c9 (a7 (Ow 2) (a7 (Ow 1) a8))) (a7 (c9 (a7 (Ow 1) (a7 (Ow 2) a8))) (a7 (c9 (a7 (Ow 1) (a7 (Ow 3) a8))) (a7 (c9 (a7 (Ow 5) (a7 (Ow 1) a8))) (a7 (c9 (a7 (Ow 7) (a7 (Ow 2) a8))) (a7 (c9 (a7 (Ow 3) (a7 (Ow 7) a8))) (a7 (c9 (a7 (Ow 60) (a7 (Ow 1) a8))) a8))))))))) #[[.v .feed,.v (fr M),.no,.no,.no,.no,.no,.no],some f1]=some (mt8.map fr,#[[.v .feed,.v (fr M),.no,.no,.no,.no,.no,.no],some f1]):=bD (ds:=mt8.map fr) (by rw[<-t8];rfl) lt8;have l5:(j8 (a7 (c9 (a7 (Ow 0) (a7 (Ow 1) a8))) (a7 (c9 (a7 (Ow 0) (a7 (Ow 1) a8))) (a7 (c9 (a7 (Ow 1) (a7 (Ow 1) a8))) (a7 (c9 (a7 (Ow 7) (a7 (Ow 1) a8))) (a7 (c9 (a7 (Ow 99) (a7 (Ow 1) a8))) a8)))))) #[[.v .feed,.v (fr M),.no,.v (.lst (mt8.map fr)),.v (.tup ((p0::Pt).map fr)),.v (fr W),.v (fr rs),.no],some f4]=some (mg5.map fr,#[[.v .feed,.v (fr M),.no,.v (.lst (mt8.map fr)),.v (.tup ((p0::Pt).map fr)),.v (fr W),.v (fr rs),.no],some f4]):=bD (ds:=mg5.map fr) (by rw[<-t5];rfl) lt5;generalize mt8.map fr=B at *;generalize mg5.map fr=B5 at *;have rg:aP (a7 (a9 d7 (k6 (j8 (a7 (Ow 2) (a7 (Ow 4) (a7 (Ow 2) (a7 (Ow 6) (a7 (Ow 8) a8))))))) (c8 v8 (a7 (dV 0) (a7 (Ow 5) a8)))) a8) #[[.v .feed,.v (fr M),.no,.v (.lst B),.no,.no,.no,.no],some f1]=some (D0 0 y,#[[.v .feed,.v (fr M),.no,.v (.lst B),.no,.no,.no,.no],some f2]):=by
   unfold aP;rw[d9 (c7 (A6 (bD (ds:=[D.int 2,.int 4,.int 2,.int 6,.int 8]) (s:=#[[.v .feed,.v (fr M),.no,.v (.lst B),.no,.no,.no,.no],some f1]) rfl (show 5<=100 by decide))) (u7 rfl e2) (w9 q2)) rfl,xo,cO ∅];rfl
  have cm:lQ [3] (K2 [3,0] (aP (a7 (a9 d7 (k6 (j8 (a7 (Ow 2) (a7 (Ow 4) (a7 (Ow 2) (a7 (Ow 6) (a7 (Ow 8) a8))))))) (c8 v8 (a7 (dV 0) (a7 (Ow 5) a8)))) a8)) A8 fq) #[[.v .feed,.v (fr M),.no,.own B,.no,.no,.no,.no],some f1]=some (Y.map fr,#[[.v .feed,.v (fr M),.no,.v (.lst B),.no,.no,.no,.no],some J]):=by
   show K2 [3,0] _ A8 fq #[[.v .feed,.v (fr M),.no,.v (.lst B),.no,.no,.no,.no],some f1]=_;unfold K2;rw[rg,xo,iO (Q8 (by rw[S7];omega))];show (C0 (fun d=>some (.v d::[.v (.lst B),.v .feed])) A8 fq (D0 0 y) (some f2)).map _=_;rw[e3];rfl
  have i0:d7 (.tup ((p0::Pt).map fr)) (.int 0)=some (fr p0):=(Q4 _ _).trans (R9 (i:=0) rfl);rw[e7 (C9 c1),
   e7 (s1:=#[[.v .feed,.v (fr M),.no,.own B,.no,.no,.no,.no],some f1]) (D8 (s1:=#[[.v .feed,.v (fr M),.no,.no,.no,.no,.no,.no],some f1]) l8 (show 3<8 by decide)),
   e7 (s1:=#[[.v .feed,.v (fr M),.no,.v (.lst B),.v (.tup (Y.map fr)),.no,.no,.no],some J]) (f9 (C7 (p:=J9) (A6 cm) rfl) rfl),
   e7 gr,
   e7 (s1:=#[[.v .feed,.v (fr M),.no,.v (.lst B),.v (.tup ((p0::Pt).map fr)),.v (fr W),.no,.no],some J]) (f9 (f8 rfl sm) rfl),
   e7 (s1:=#[[.v .feed,.v (fr M),.no,.v (.lst B),.v (.tup ((p0::Pt).map fr)),.v (fr W),.v (fr rs),.no],some f4]) (f9 (c7 (x:=.lst ([0,p0,p0*(1 / 2),W*(2 / 3)].map fr)) (s1:=#[[.v .feed,.v (fr M),.no,.v (.lst B),.v (.tup ((p0::Pt).map fr)),.v (fr W),.no,.no],some J]) (A6 (bD (d9 (v4 rfl rfl) (d9 (c7 rfl rfl i0) (d9 (f8 (d9 (c7 rfl rfl i0) (d9 (v4 rfl rfl) rfl)) x2) (d9 (f8 (d9 rfl (d9 (v4 rfl rfl) rfl)) x3) rfl)))) (show 4<=100 by decide))) (u7 rfl e4) (w9 q4)) rfl),
   e7 (s1:=#[[.v .feed,.v (fr M),.no,.v (.lst B),.v (.tup ((p0::Pt).map fr)),.v (fr W),.v (fr rs),.v (fr U)],some f5]) (f9 (c7 (A6 l5) (u7 rfl e5) (w9 q5)) rfl)]
  exact m8 (v4 rfl (f8 (d9 (f8 rfl p5) (d9 rfl rfl)) p6))
abbrev mN (z:Int × Int × Int):D:=.tup [.int z.1,.int z.2.1,.int z.2.2]
def tJ {l:vT_}{t:List (Int × Int × Int)}(h:l.map (fun p=>(pX p,pY p,pL p))=t):t.map mN=l.map pt:=by
 rw[<-h,KN];rfl
def aL (q:Pt × Pt):Rat:=if q.1.1=q.2.1 then q.2.2 - q.1.2 else q.2.1 - q.1.1
def mC (ps:vT_):Bool:=decide (1<=ps.length/\ps.length<=9/\1<=(i7 false ps).length)&&(ps.all (fun p=>decide ((p.1.num.natAbs<2 ^ 200/\p.1.den<2 ^ 200)/\p.2.num.natAbs<2 ^ 200/\p.2.den<2 ^ 200))&&(i7 false ps).all fun q=>decide (E6 q.1 q.2=aL q*aL q/\0<aL q/\aL q=((aL q).num:Rat)/\(aL q).num.natAbs<1024))
theorem sB {ps:vT_}(h:mC ps=true):ExS false ps:=by
 obtain⟨h1,h⟩:=Lp.mp h;obtain⟨h2,J⟩:=Lp.mp h;obtain⟨a,b,c⟩:=IZ h1;refine#[a,b,fun p Y=>?_,fun q U=>?_,c]
 .have:=IZ (Jc.mp h2 p Y);exact#[this.1,this.2]
 .obtain⟨e,p,i,s⟩:=IZ (Jc.mp J q U);refine#[aL q,Lo p,?_,e,p,(aL q).num*351138060,?_,?_]
  .rw[i];exact Sz.int (show _<2 ^ 90 by omega) #[]
  .have:359565373440<=M3:=by unfold M3 K3;decide
   omega
  .rw[IE,IG,<-i];have:((351138060:Int):Rat)=351138060:=rfl;grind
def fl6:List Int:=[398,400,402,404,406,408]
def V4 (a:Int):List Pt:=[(0,0),((a:Rat),0)]
def bK (a:Int):List Pt:=[(0,0),(((a.fdiv 2:Int):Rat),0),(((a.fdiv 2:Int):Rat),((a - a.fdiv 2:Int):Rat))]
def Gd:∀a∈fl6,(ExS false (V4 a)/\[(0,0,1),(a,0,1)].map mN=(V4 a).map pt)/\ExS false (bK a)/\[(0,0,1),(a.fdiv 2,0,1),(a.fdiv 2,a - a.fdiv 2,1)].map mN=(bK a).map pt:=fun a U=>by
 obtain⟨h1,h2,J,Y⟩:=IZ (Jc.mp (show (fl6.all fun a=>decide (mC (V4 a)=true/\(V4 a).map (fun p=>(pX p,pY p,pL p))=[(0,0,1),(a,0,1)]/\mC (bK a)=true/\(bK a).map (fun p=>(pX p,pY p,pL p))=[(0,0,1),(a.fdiv 2,0,1),(a.fdiv 2,a - a.fdiv 2,1)]))=true by decide +kernel) a U);exact#[#[sB h1,tJ h2],sB J,tJ Y]
def mz (P:List Rat):Bool:=decide (P.length % 2=0/\2<=P.length/\P.length<=8)&&P.all fun x=>decide (x=Rat.divInt (x.num*(42 / x.den)) 42/\0<x/\x<=60000000000000)
def vA (h:mz P=true):Pq P:=by
 obtain⟨h1,h2⟩:=Lp.mp h;obtain⟨a,b,c⟩:=IZ h1;refine#[a,b,c,fun x J=>?_];have:=IZ (Jc.mp h2 x J);exact#[#[_,this.1],this.2]
abbrev tP:DE:=a9 o9 (a9 fL (c9 (a7 (c9 (a7 (Ow 1) (a7 (Ow 2) a8))) (a7 (c9 (a7 (Ow 1) (a7 (Ow 2) a8))) (a7 (c9 (a7 (Ow 3) (a7 (Ow 2) a8))) (a7 (c9 (a7 (Ow 3) (a7 (Ow 2) a8))) a8))))) (a9 u6 (i9 (one j5) (a7 (dL 3) a8)) (Ow 4))) (Q2 (dL 3) P5 (P6 (a9 y8 (i9 (one j5) (a7 (dL 3) a8)) (Ow 4))))
def M8 (r:Nat):List Rat:=List.replicate (2*(r+1)) 1
def aS:Nat->List Rat
 |1=>[1 / 2,1 / 2,3 / 2,3 / 2]
 |2=>[1 / 2,1 / 2,3 / 2,3 / 2,1,1]
 |_=>[1 / 2,1 / 2,3 / 2,3 / 2,1 / 2,1 / 2,3 / 2,3 / 2]
def Fv {r:Nat}(h:r<4):Pq (M8 r)/\Pq (aS r):=by
 have:=Jc.mp (show ((List.range 4).all fun r=>mz (M8 r)&&mz (aS r))=true by decide +kernel) r (KQ.mpr h);obtain⟨a,b⟩:=Lp.mp this;exact#[vA a,vA b]
def Aa {r:Nat}(h:r<4):fL (.tup [cQ (1,1),cQ (1,1)]) (.int (1+(r:Int)))=some (.tup ((M8 r).map fr)):=by
 have e:r=0\/r=1\/r=2\/r=3:=by omega
 rcases e with rfl | rfl | rfl | rfl <;> rfl
def CK {r:Nat}(J:r≠0) (h:r<4) (x1 x2:Sl) (fs:vO_):tP #[[.v .feed,x1,x2,.v (.tup ((M8 r).map fr))],fs]=some (.tup ((aS r).map fr),#[[.v .feed,x1,x2,.v (.tup ((M8 r).map fr))],fs]):=by
 have e:r=1\/r=2\/r=3:=by omega
 rcases e with rfl | rfl | rfl
 .rw[<-C4 (l:=aS 1) (t:=[(1,2),(1,2),(3,2),(3,2)]) (by decide +kernel)];rfl
 .rw[<-C4 (l:=aS 2) (t:=[(1,2),(1,2),(3,2),(3,2),(1,1),(1,1)]) (by decide +kernel)];rfl
 .rw[<-C4 (l:=aS 3) (t:=[(1,2),(1,2),(3,2),(3,2),(1,2),(1,2),(3,2),(3,2)]) (by decide +kernel)];rfl
def nG {s:DS}(h:f s=some (ds,s1)) (hz:ds.length<=3):c9 f s=some (.tup ds,s1):=by
 unfold c9;rw[h,xo,iO (Q8 (xr hz #[]))]
abbrev dE:c6:=lK az v8
def pF {ps:vT_}(J:ExS c ps):∃M:Rat,(∀fs,∃T:List Rat,M9 [u3 c ps] fs=some (.lst (T.map fr),fs)/\p9 (T.map fr) (-1)=some (fr M))/\Gf (9*M3) M/\0<M/\∀(P:List Rat) (o:Rat) (fs:vO_),Pn M P->Gk o->0<=o->o<=1152921504606846976->az [u3 c ps,.tup (P.map fr),fr o] fs=some (.bl true,fs):=by
 obtain⟨m,S,Q,L⟩:=Af J;have mp:0<S m:=by
  have:=L.lt (i:=0) (j:=m) L.m1 (tv _)
  rwa [L.z] at this
 exact#[S m,fun fs=>#[_,tS J fs,L.lst_at],FB J L,mp,fun P o fs h go Y U=>Eu L J (fun fs=>Be J fs) (fun fs=>tS J fs) h go Y U fs]
def mf4:List Rat:=[0,0,1 / 2,1]
def Hc:∀x∈mf4,Gk x/\0<=x/\x<=1152921504606846976:=fun x J=>by
 have:=IZ (Jc.mp (show (mf4.all fun x=>decide (x=Rat.divInt (x.num*(42 / x.den)) 42/\0<=x/\x<=1152921504606846976))=true by decide +kernel) x J);exact#[Gq.k #[_,this.1],this.2]
def FI {f:FS}(h:Fd3 n f) (hn:n<2 ^ 28):∃f',dE [.feed] (some f)=some (.bl true,some f'):=by
 obtain⟨r,f1,e1,a1,a2,h1⟩:=E3 6 h;obtain⟨x,hx,q1⟩:=P7 (xs:=fl6.map D.int) a1 a2;obtain⟨a,ha,rfl⟩:=IW.mp hx;obtain⟨⟨x2,J⟩,x3,t3⟩:=Gd a ha;obtain⟨r2,f2,e2,b1,b2,h2⟩:=E3 2 h1;have sl:∃ps,ExS false ps/\l7 (dB (a9 C8 (c8 v8 (a7 (dV 0) (a7 (Ow 2) a8))) (Ow 0))) (e8 (c9 (a7 (dC (.bl false)) (a7 (c9 (a7 (c9 (a7 (Ow 0) (a7 (Ow 0) (a7 (Ow 1) a8)))) (a7 (c9 (a7 (a9 u6 (dL 1) (Ow 2)) (a7 (Ow 0) (a7 (Ow 1) a8)))) (a7 (c9 (a7 (a9 u6 (dL 1) (Ow 2)) (a7 (a9 B7 (dL 1) (a9 u6 (dL 1) (Ow 2))) (a7 (Ow 1) a8)))) a8)))) a8))) (d6 2)) n8 #[[.v .feed,.v (.int a),.v (u3 false (V4 a)),.no],some f1]=some (.next,#[[.v .feed,.v (.int a),.v (u3 false ps),.no],some f2]):=by
  have cd:dB (a9 C8 (c8 v8 (a7 (dV 0) (a7 (Ow 2) a8))) (Ow 0)) #[[.v .feed,.v (.int a),.v (u3 false (V4 a)),.no],some f1]=some (decide (r2=0),#[[.v .feed,.v (.int a),.v (u3 false (V4 a)),.no],some f2]):=B1 (c7 (u7 rfl e2) rfl (S0 r2 0));by_cases c:r2=0
  .rw[II c] at cd;refine#[bK a,x3,?_];rw[F7 cd];show _=some (Fl.next,(#[[.v .feed,.v (.int a),.v (.tup [.bl false,.tup ((bK a).map pt)]),.no],some f2]:DS));rw[<-t3];have dv:u6 (.int a) (.int 2)=some (.int (a.fdiv 2)):=dG a #[];exact f9 (v4 rfl (nG (d9 rfl (d9 (nG (d9 (c7 rfl rfl dv) rfl) (show 3<=3 by decide)) (d9 (nG (d9 (c7 rfl rfl dv) (d9 (c7 rfl (c7 rfl rfl dv) rfl) rfl)) (show 3<=3 by decide)) rfl))) (show 3<=3 by decide))) rfl
  .rw[ID c] at cd;exact#[V4 a,x2,C9 cd]
 obtain⟨ps,hx,sl⟩:=sl;obtain⟨M,_,gM,m0,rt⟩:=pF hx;obtain⟨r3,U,e3,c1,c2,h3⟩:=E3 4 h2;obtain⟨k,rfl⟩:∃k:Nat,r3=(k:Int):=#[r3.toNat,by omega]
 have k4:k<4:=by omega
 obtain⟨pq1,pq2⟩:=Fv k4;obtain⟨r4,f4,e4,d1,d2,h4⟩:=E3 2 h3;have lp:(((M8 k).map fr).length:Int)=2*(k+1):=by
  rw[td];unfold M8;rw[MQ];omega
 have sp:∃P Y,Pq P/\Fd3 (n+4) Y/\l7 (B4 (dB (a9 (k9 (fun i j=>decide (j<i))) (i9 (one j5) (a7 (dL 3) a8)) (Ow 2))) (dB (a9 C8 (c8 v8 (a7 (dV 0) (a7 (Ow 2) a8))) (Ow 0)))) (e8 tP (d6 3)) n8 #[[.v .feed,.v (.int a),.v (u3 false ps),.v (.tup ((M8 k).map fr))],some U]=some (.next,#[[.v .feed,.v (.int a),.v (u3 false ps),.v (.tup (P.map fr))],some Y]):=by
  have t1:dB (a9 (k9 (fun i j=>decide (j<i))) (i9 (one j5) (a7 (dL 3) a8)) (Ow 2)) #[[.v .feed,.v (.int a),.v (u3 false ps),.v (.tup ((M8 k).map fr))],some U]=some (decide ((2:Int)<2*(k+1)),#[[.v .feed,.v (.int a),.v (u3 false ps),.v (.tup ((M8 k).map fr))],some U]):=B1 (c7 (C7 (p:=j5) rfl rfl) rfl (show some (D.bl (decide ((2:Int)<(((M8 k).map fr).length:Int))))=_ by rw[lp]));have J:dB (a9 C8 (c8 v8 (a7 (dV 0) (a7 (Ow 2) a8))) (Ow 0)) #[[.v .feed,.v (.int a),.v (u3 false ps),.v (.tup ((M8 k).map fr))],some U]=some (decide (r4=0),#[[.v .feed,.v (.int a),.v (u3 false ps),.v (.tup ((M8 k).map fr))],some f4]):=B1 (c7 (u7 rfl e4) rfl (S0 r4 0));by_cases k0:k=0
  .rw[ID ∅] at t1;exact#[M8 k,U,pq1,h3.mono ∅,C9 (bj t1)]
  .rw[II ∅] at t1;by_cases c:r4=0
   .rw[II c] at J;refine#[aS k,f4,pq2,h4.mono ∅,?_];rw[F7 (S9 t1 J)];exact f9 (CK k0 k4 _ _ _) rfl
   .rw[ID c] at J;exact#[M8 k,f4,pq1,h4.mono ∅,C9 (S9 t1 J)]
 obtain⟨P,Y,pq,h5,sp⟩:=sp;obtain⟨r6,f6,e6,g1,g2,h6⟩:=E3 4 h5;obtain⟨z,hz,q6⟩:=P7 (xs:=mf4.map fr) g1 g2;obtain⟨o,ho,rfl⟩:=IW.mp hz;obtain⟨go,o0,o1⟩:=Hc o ho;have t6:=C4 (l:=mf4) (t:=[(0,1),(0,1),(1,2),(1,1)]) (by decide +kernel);have l6:(mf4.map fr).length<=100:=by decide
 have rr:=rt P o (some f6) (pq.pn gM.gk m0 (vy gM)) go o0 o1;have m1:=Aa k4;refine#[f6,j7 (s:=#[[.v .feed,.v (.int a),.v (u3 false ps),.v (.tup (P.map fr))],some f6]) ?_];show gU az v8 #[[.v .feed,.no,.no,.no],some f]=_;unfold gU;have w2:e8 (c9 (a7 (dC (.bl false)) (a7 (c9 (a7 (c9 (a7 (Ow 0) (a7 (Ow 0) (a7 (Ow 1) a8)))) (a7 (c9 (a7 (dV 1) (a7 (Ow 0) (a7 (Ow 1) a8)))) a8))) a8))) (d6 2) #[[.v .feed,.v (.int a),.no,.no],some f1]=some (.next,#[[.v .feed,.v (.int a),.v (u3 false (V4 a)),.no],some f1]):=by
  show _=some (Fl.next,(#[[.v .feed,.v (.int a),.v (.tup [.bl false,.tup ((V4 a).map pt)]),.no],some f1]:DS));rw[<-J];rfl
 have w6:k6 (j8 (a7 (c9 (a7 (Ow 0) (a7 (Ow 1) a8))) (a7 (c9 (a7 (Ow 0) (a7 (Ow 1) a8))) (a7 (c9 (a7 (Ow 1) (a7 (Ow 2) a8))) (a7 (c9 (a7 (Ow 1) (a7 (Ow 1) a8))) a8))))) #[[.v .feed,.v (.int a),.v (u3 false ps),.v (.tup (P.map fr))],some Y]=some (.lst (mf4.map fr),#[[.v .feed,.v (.int a),.v (u3 false ps),.v (.tup (P.map fr))],some Y]):=A6 (bD (by rw[<-t6];rfl) l6);generalize mf4.map fr=B6 at *;rw[e7 (s1:=#[[.v .feed,.v (.int a),.no,.no],some f1]) (f9 (c7 (A6 (bD (ds:=fl6.map D.int) (s:=#[[.v .feed,.no,.no,.no],some f]) rfl #[])) (u7 rfl e1) (w9 q1)) rfl),
  e7 w2,e7 sl,
  e7 (s1:=#[[.v .feed,.v (.int a),.v (u3 false ps),.v (.tup ((M8 k).map fr))],some U]) (f9 (c7 (x:=.tup [cQ (1,1),cQ (1,1)]) rfl (c7 rfl (u7 (sl:=[.v .feed,.v (.int a),.v (u3 false ps),.no]) rfl e3) rfl) m1) rfl),
  e7 sp]
 exact m8 (qj (sl':=[.v .feed,.v (.int a),.v (u3 false ps),.v (.tup (P.map fr))]) (d9 rfl (d9 rfl (d9 (c7 w6 (u7 rfl e6) (w9 q6)) rfl))) rr)
abbrev vU:DM:=gL dE az eF M9 dA bA
def xE {f:FS}(h:Fd3 n f) (hn:n<2 ^ 24) (J x2 x3 x4 x5:Sl):∃y3 y4 y5 f',vU #[[J,.v .feed,x2,x3,x4,x5],some f]=some (.next,#[[J,.v .feed,x2,y3,y4,y5],some f'])/\Fd3 (n+43) f':=by
 obtain⟨c,ps,f1,U,hx,ht,h1⟩:=CA 5 #[] h ∅;obtain⟨M,sm,gM,m0,rt⟩:=pF hx;obtain⟨T,s1,la⟩:=sm (some f1);obtain⟨P,o,Y,e2,pn,go,o0,o1,h2⟩:=Dy gM m0 h1 ∅;have rr:=rt P o (some Y) pn go o0 o1;have U:dA [.feed,.int 5] (some f)=some (u3 c ps,some f1):=U;generalize u3 c ps=Ln at *;refine#[.v Ln,.v (.tup (P.map fr)),.v (fr o),Y,?_,h2.mono ∅];show gL dE az eF M9 dA bA _=_;unfold gL;rw[e7 (s1:=#[[J,.v .feed,x2,.v Ln,x4,x5],some f1]) (f9 (u7 rfl U) rfl),
  e7 (s1:=#[[J,.v .feed,x2,.v Ln,.v (.tup (P.map fr)),.v (fr o)],some Y]) (f9 (u7 (d9 rfl (d9 (c7 (f8 rfl s1) rfl (w9 la)) rfl)) e2) rfl)]
 exact C9 (qe (F3 (f8 rfl rr)))
abbrev yG:c6:=jV dE az eF M9 dA bA
def math (ns:List Int) (hl:ns.length<=63):∃fs',yG [.scr ns] none=some (.bl true,fs'):=by
 have e0:=Hm ns;obtain⟨s',lp,x2,U,J,Y,f',rfl,I⟩:=bq (t:=d6 2) (b:=vU) (fun i s=>∃x2 U J Y f',s=#[[.v (.scr ns),.v .feed,x2,U,J,Y],some f']/\Fd3 (43*i) f') (D0 0 3) 0 #[[.v (.scr ns),.v .feed,.no,.no,.no,.no],some #[ns,0,0,0,1]]
  #[.no,.no,.no,.no,_,rfl,Fd3.zero ns] (by
   rintro i d s hd ⟨x2,U,J,Y,f',rfl,I⟩;obtain⟨rfl,hi⟩:=eZ hd;rw[JF] at *;obtain⟨y3,y4,y5,f'',e,I'⟩:=xE I ∅ (.v (.scr ns)) (.v (.int ((0:Int)+i))) U J Y;exact#[#[[.v (.scr ns),.v .feed,.v (.int ((0:Int)+i)),U,J,Y],some f'],_,rfl,.inl e,_,y3,y4,y5,f'',rfl,I'.mono ∅])
 rw[S7] at I;obtain⟨f2,e2⟩:=FI I ∅;refine#[some f2,j7 (s:=#[[.v (.scr ns),.v .feed,x2,U,J,Y],some f2]) ?_];show ia dE az eF M9 dA bA #[[.v (.scr ns),.no,.no,.no,.no,.no],none]=_;unfold ia;rw[e7 (s1:=#[[.v (.scr ns),.v .feed,.no,.no,.no,.no],some #[ns,0,0,0,1]]) (f9 (u7 rfl e0) rfl),
  e7 ((cw (xs:=[.int 3]) (s1:=#[[.v (.scr ns),.v .feed,.no,.no,.no,.no],some #[ns,0,0,0,1]]) rfl (cO (n:=3) #[])).trans lp)]
 exact m8 (u7 rfl e2)
end T
namespace T
open PySem PySem.Spec L2 DL
local macro_rules | `(tactic| wtm_at "c")=>`(tactic| first | with_reducible exact DY | with_reducible exact DW | with_reducible exact Fb | with_reducible exact Ct | with_reducible exact yg | (with_reducible apply kY);exact fg (by assumption) | (with_reducible apply po);exact fg (by assumption))
local macro_rules | `(tactic| wtm_at "o")=>`(tactic| first | with_reducible exact Hu | with_reducible exact wK | with_reducible exact Ag | with_reducible exact Fq | with_reducible exact Cb | with_reducible exact Az | with_reducible exact sY | with_reducible exact sP | with_reducible exact EJ)
local macro_rules | `(tactic| wtm_at "q")=>`(tactic| first | with_reducible exact zr | with_reducible exact EW | with_reducible exact xF | with_reducible exact wt | with_reducible exact wJ | with_reducible exact Gv | with_reducible exact zu | with_reducible exact wS | with_reducible exact Cw)
local macro_rules | `(tactic| wtm_at "r")=>`(tactic| first | with_reducible exact zC _ | with_reducible exact kR | with_reducible exact pK | with_reducible exact wC)
local macro_rules | `(tactic| wtm_at "k")=>`(tactic| first | with_reducible exact Fd | with_reducible exact Ch | with_reducible exact Ia | with_reducible exact cT | (focus (with_reducible apply lX);exact kJ (by assumption);exact(by assumption:Room _ _).gd))
local macro_rules | `(tactic| wtm_at "m")=>`(tactic| first | with_reducible exact Er | with_reducible exact Gm | with_reducible exact xV | with_reducible exact cj | with_reducible exact lE)
local macro_rules | `(tactic| wtm_at "b")=>`(tactic| first | exact Blt.abs (by assumption) | exact Blt.enumerate (by assumption) | exact Blt.int (by assumption) | exact Blt.isinstance (by assumption) | exact Blt.len (by assumption) | exact Blt.list (by assumption) | exact Blt.range (by assumption) | exact Blt.repr (by assumption) | exact Blt.tuple (by assumption) | exact Blt.zip (by assumption))
local macro_rules | `(tactic| wtm_at "t")=>`(tactic| first | exact Ib | exact AB | exact Ic | exact tZ | exact mO | exact cu)
local macro_rules | `(tactic| wtm_at "n")=>`(tactic| first | exact bv | (refine K9 ?_);wtm_at "n")
local macro_rules | `(tactic| wtm_at "l")=>`(tactic| first | exact Or.inl rfl | exact Or.inr rfl)
local macro_rules | `(tactic| wtm_at "x")=>`(tactic| first | exact rfl | exact Or.inl rfl | exact Or.inr rfl | decide | (intro _;rfl))
local macro_rules | `(tactic| wtm_at "S")=>`(tactic| first | (focus (with_reducible apply W1);all_goals wtm_at "x") | (focus (with_reducible apply F4);wtm_at "s";all_goals wtm_at "x") | (focus (with_reducible apply n9);wtm_at "s";wtm_at "S";all_goals wtm_at "x"))
local macro_rules | `(tactic| wtm_at "s")=>`(tactic| first | (focus (with_reducible apply eR);assumption;exact rfl;wtm_at "l";wtm_at "E";all_goals wtm_at "x") | (focus (with_reducible apply Q7);wtm_at "E";all_goals wtm_at "x") | (focus (with_reducible apply W0);wtm_at "T";wtm_at "S";wtm_at "S";all_goals wtm_at "x") | (focus (with_reducible apply HD);wtm_at "E";wtm_at "G";all_goals wtm_at "x") | (focus (with_reducible apply Fe);exact pv _;wtm_at "E";all_goals wtm_at "x") | (focus (with_reducible apply nH);assumption;exact rfl;wtm_at "l";wtm_at "F";all_goals wtm_at "x") | (focus (with_reducible apply CL);exact Ke;exact rfl;wtm_at "E";wtm_at "G";wtm_at "S";all_goals wtm_at "x") | (focus (with_reducible apply ox);exact Ke;wtm_at "T";wtm_at "S";all_goals wtm_at "x") | (focus (with_reducible apply eG);exact Ke;exact rfl;exact rfl;exact Blt.range (by assumption);wtm_at "E";wtm_at "G";wtm_at "S";all_goals wtm_at "x") | (focus (with_reducible apply wY);exact pv _;wtm_at "E";all_goals wtm_at "x") | (focus (with_reducible apply Hv);exact rfl;assumption;exact rfl;exact rfl;decide;exact rfl;exact rfl;wtm_at "A";exact rfl;all_goals wtm_at "x"))
local macro_rules | `(tactic| wtm_at "B")=>`(tactic| first | (focus (with_reducible apply qr);exact pv _;all_goals wtm_at "x") | (focus (with_reducible apply EO.b);wtm_at "E";all_goals wtm_at "x"))
local macro_rules | `(tactic| wtm_at "E")=>`(tactic| first | (focus (with_reducible apply M5);exact pv _;all_goals wtm_at "x") | (focus (with_reducible apply lV);all_goals wtm_at "x") | (focus (with_reducible apply wv);exact zk;exact BX;wtm_at "B";wtm_at "B";exact fun _ _=>rfl;all_goals wtm_at "x") | (focus (with_reducible apply EN);rotate_left;wtm_at "q";rotate_right;wtm_at "o";wtm_at "B";wtm_at "B";all_goals wtm_at "x") | (focus (with_reducible apply ye);assumption;assumption;(first | decide | exact tv _ | exact xr (by decide) (Nat.le_add_right _ _));exact rfl;wtm_at "A";wtm_at "n";all_goals wtm_at "x") | (focus (with_reducible apply kv);wtm_at "A";all_goals wtm_at "x") | (focus (with_reducible apply CB);decide +kernel;all_goals wtm_at "x") | (focus (with_reducible apply Ih);all_goals wtm_at "x") | (focus (with_reducible apply nr);all_goals wtm_at "x") | (focus (with_reducible apply Gu);exact Ej;exact wp;wtm_at "B";all_goals wtm_at "x") | (focus (with_reducible apply FO.v);wtm_at "F";all_goals wtm_at "x") | (focus (with_reducible apply mI);rotate_left;wtm_at "r";rotate_right;wtm_at "c";wtm_at "B";wtm_at "B";(first | exact eK _ | exact rfl);all_goals wtm_at "x") | (focus (with_reducible apply Dz);wtm_at "T";wtm_at "E";wtm_at "E";all_goals wtm_at "x") | (focus (with_reducible apply Ga);wtm_at "B";wtm_at "O";wtm_at "O";all_goals wtm_at "x") | (focus (with_reducible apply vY);wtm_at "E";all_goals wtm_at "x") | (focus (with_reducible apply GR);assumption;exact rfl;all_goals wtm_at "x") | (focus (with_reducible apply lG);rotate_left;wtm_at "m";rotate_right;wtm_at "k";exact rfl;wtm_at "b";wtm_at "t";wtm_at "a";all_goals wtm_at "x") | (focus (with_reducible apply bU);rotate_left;wtm_at "m";rotate_right;wtm_at "k";exact rfl;wtm_at "b";wtm_at "t";wtm_at "a";all_goals wtm_at "x") | (focus (with_reducible apply Br);exact pv _;all_goals wtm_at "x") | (focus (with_reducible apply yr);wtm_at "B";wtm_at "B";all_goals wtm_at "x") | (focus (with_reducible apply qy);wtm_at "E";all_goals wtm_at "x") | (focus (with_reducible apply vc);wtm_at "E";wtm_at "E";all_goals wtm_at "x"))
local macro_rules | `(tactic| wtm_at "A")=>`(tactic| first | (focus (with_reducible apply ac);wtm_at "E";wtm_at "A";all_goals wtm_at "x") | (focus (with_reducible apply ee);all_goals wtm_at "x"))
local macro_rules | `(tactic| wtm_at "a")=>`(tactic| first | (focus (with_reducible apply bc);wtm_at "B";wtm_at "a";all_goals wtm_at "x") | (focus (with_reducible apply aF);all_goals wtm_at "x"))
local macro_rules | `(tactic| wtm_at "T")=>`(tactic| first | (focus (with_reducible apply oM);rotate_left;wtm_at "r";rotate_right;wtm_at "c";wtm_at "B";wtm_at "B";(first | exact eK _ | exact rfl);all_goals wtm_at "x") | (focus (with_reducible apply WO.t);wtm_at "W";all_goals wtm_at "x") | (focus (with_reducible apply qY);wtm_at "T";all_goals wtm_at "x") | (focus (with_reducible apply lL);wtm_at "B";all_goals wtm_at "x"))
local macro_rules | `(tactic| wtm_at "W")=>`(tactic| first | (focus (with_reducible apply vv);wtm_at "T";wtm_at "W";all_goals wtm_at "x") | (focus (with_reducible apply FJ);wtm_at "T";all_goals wtm_at "x") | (focus (with_reducible apply vw);wtm_at "T";wtm_at "W";all_goals wtm_at "x") | (focus (with_reducible apply Gw);wtm_at "T";all_goals wtm_at "x"))
local macro_rules | `(tactic| wtm_at "O")=>`(tactic| first | (focus (with_reducible apply DP);all_goals wtm_at "x") | (focus (with_reducible apply BF);wtm_at "B";all_goals wtm_at "x"))
local macro_rules | `(tactic| wtm_at "F")=>`(tactic| first | (focus (with_reducible apply zW);wtm_at "A";all_goals wtm_at "x") | (focus (with_reducible apply xO);rotate_left;wtm_at "q";rotate_right;wtm_at "o";wtm_at "B";wtm_at "B";all_goals wtm_at "x"))
local macro_rules | `(tactic| wtm_at "G")=>`(tactic| first | (focus (with_reducible apply xh);wtm_at "h";all_goals wtm_at "x") | (focus (with_reducible apply DR);exact rfl;wtm_at "g";all_goals wtm_at "x"))
local macro_rules | `(tactic| wtm_at "h")=>`(tactic| first | (focus (with_reducible apply L9);assumption;exact rfl;wtm_at "l";all_goals wtm_at "x"))
local macro_rules | `(tactic| wtm_at "g")=>`(tactic| first | (focus (with_reducible apply Gy);wtm_at "G";wtm_at "g";all_goals wtm_at "x") | (focus (with_reducible apply Ef);all_goals wtm_at "x"))
local macro_rules | `(tactic| wtm_at "R")=>`(tactic| first | (refine F4 ?_;wtm_at "s") | (refine n9 ?_ ?_;wtm_at "s";wtm_at "S"))
local macro_rules | `(tactic| wtm_at "p")=>`(tactic| first | exact fun _ _ _ _ _ _=>FZ fun _=>rfl | exact fun _ _ _ _ _ _=>on2 fun _ _=>rfl | exact fun _ _ _ _ _ _=>on3 fun _ _ _=>rfl | exact fun _ _ _ _ _ _=>Bs fun _ _ _ _=>rfl | exact fun _ _ _ _ _ _=>on5 fun _ _ _ _ _=>rfl | exact fun _ _ _ _ _ _=>on0 rfl)
local macro_rules | `(tactic| wtm_at "f")=>`(tactic| exact⟨rfl,rfl,rfl,by decide +kernel,rfl,by decide +kernel,by decide +kernel⟩)
local macro_rules | `(tactic| wtm_at "M")=>`(tactic| (intro nd _ _ _ _ _ _ _ hr;wtm_at "R"))
def top (i:Nat):Stmt:=PySem.Challenge.pw_widelines_k44_marks_along_lines.main.body.getD i (.Pass #[0,0,0,0])
section
variable (P:Program) (w:World) (K:vF_) (mg:vG_) (base:Heap)
abbrev rZ:=Cal P w K mg base 1 "_law_new_tape" ["_law_script"]
abbrev kZ:=Cal P w K mg base 1 "_law_pairs" ["_law_line"]
abbrev lM:=Cal P w K mg base 1 "_law_divisor" ["_law_one", "_law_other"]
abbrev cU:=Cal P w K mg base 2 "_law_low" ["_law_top", "_law_bottom"]
abbrev Z2:=Cal P w K mg base 3 "_law_plus" ["_law_one", "_law_other"]
abbrev nO:=Cal P w K mg base 3 "_law_xy" ["_law_spot_here"]
abbrev dS:=Cal P w K mg base 3 "_law_minus" ["_law_one", "_law_other"]
abbrev bf:=Cal P w K mg base 3 "_law_product" ["_law_one", "_law_other"]
abbrev vC:=Cal P w K mg base 4 "_law_square" ["_law_a", "_law_b"]
abbrev uX:=Cal P w K mg base 1 "_law_root" ["_law_number"]
abbrev vM:=Cal P w K mg base 5 "_law_size" ["_law_a", "_law_b"]
abbrev lu:=Cal P w K mg base 6 "_law_sums" ["_law_line"]
abbrev mK:=Cal P w K mg base 4 "_law_sum" ["_law_some"]
abbrev cp:=Cal P w K mg base 1 "_law_below" ["_law_one", "_law_other"]
abbrev pQ:=Cal P w K mg base 5 "_law_marks" ["_law_length", "_law_pattern_here", "_law_offset", "_law_most"]
abbrev vH:=Cal P w K mg base 1 "above_root" ["number"]
abbrev uo:=Cal P w K mg base 2 "root_below" ["number"]
abbrev sk:=Cal P w K mg base 3 "root" ["one"]
abbrev kU:=Cal P w K mg base 1 "divisor_of_two" ["one", "other"]
abbrev uW:=Cal P w K mg base 2 "divisor" ["parts"]
abbrev nJ:=Cal P w K mg base 3 "lowest" ["parts"]
abbrev fV:=Cal P w K mg base 4 "fraction" ["top", "bottom"]
abbrev ue:=Cal P w K mg base 5 "squared" ["one", "other"]
abbrev tB:=Cal P w K mg base 1 "neighbours" ["row", "closed"]
abbrev lO:=Cal P w K mg base 2 "pieces" ["line"]
abbrev ss:=Cal P w K mg base 6 "lengths" ["line"]
abbrev dN:=Cal P w K mg base 2 "plus" ["one", "other"]
abbrev jQ:=Cal P w K mg base 7 "stations" ["line"]
abbrev dc:=Cal P w K mg base 1 "is_below" ["one", "other"]
abbrev kQ:=Cal P w K mg base 3 "less" ["one", "other"]
abbrev rk:=Cal P w K mg base 4 "between" ["a", "b", "share"]
abbrev sx:=Cal P w K mg base 8 "place_at" ["line", "length"]
abbrev vF:=Cal P w K mg base 9 "part_of" ["line", "begin", "end"]
abbrev pJ:=Cal P w K mg base 8 "line_length" ["line"]
abbrev ql:=Cal P w K mg base 3 "sum_of" ["fractions"]
abbrev uL:=Cal P w K mg base 5 "times" ["one", "other"]
abbrev uc:=Cal P w K mg base 6 "first_begin" ["pattern", "offset"]
abbrev pP:=Cal P w K mg base 2 "greater_of" ["one", "other"]
abbrev pS:=Cal P w K mg base 2 "lesser_of" ["one", "other"]
abbrev tj:=Cal P w K mg base 11 "_law_told" ["_law_choice", "_law_line", "_law_pattern_here", "_law_offset"]
abbrev jg:=Cal P w K mg base 2 "_law_spot" ["_law_x", "_law_y"]
abbrev uJ:=Cal P w K mg base 4 "_law_between" ["_law_a", "_law_b", "_law_share"]
abbrev qZ:=Cal P w K mg base 3 "_law_over" ["_law_one", "_law_other"]
abbrev qG:=Cal P w K mg base 5 "_law_at" ["_law_line", "_law_sums_here", "_law_length"]
abbrev uT:=Cal P w K mg base 6 "_law_part" ["_law_line", "_law_sums_here", "_law_begin", "_law_end"]
abbrev rY:=Cal P w K mg base 2 "_law_with_places" ["_law_sums_here", "_law_due"]
abbrev jW:=Cal P w K mg base 12 "_law_right" ["_law_line", "_law_pattern_here", "_law_offset"]
abbrev aH:=Cal P w K mg base 1 "_law_draw" ["_law_tape", "_law_many"]
abbrev tK:=Cal P w K mg base 13 "_law_many_right" ["_law_tape"]
abbrev nj:=Cal P w K mg base 2 "_law_start" ["_law_tape"]
abbrev vz:=Cal P w K mg base 4 "_law_closed" ["_law_tape"]
abbrev rC:=Cal P w K mg base 2 "_law_menu" ["_law_tape"]
abbrev rK:=Cal P w K mg base 4 "_law_open" ["_law_tape", "_law_most"]
abbrev vg:=Cal P w K mg base 5 "_law_exact" ["_law_tape", "_law_most"]
abbrev oE:=Cal P w K mg base 5 "_law_pattern" ["_law_tape", "_law_length"]
end
variable {f:Addr}
section
variable {P:Program}{w:World}{K:vF_}
def DK (B:Blt mg) (F:GF K mg "_law_new_tape" (top 42) f fd):rZ P w K mg base (bA):=
 o7 [] F (by wtm_at "p") (by wtm_at "f") fun J _ _ _ _ _ _ g U=>
 (F4 (Q7 (FE (pv 0))))
def Hx (B:Blt mg) (F:GF K mg "_law_pairs" (top 58) f fd):kZ P w K mg base (N9):=
 o7 ["_law_closed_here", "_law_some", "_law_found"] F (by wtm_at "p") (by wtm_at "f") fun J _ _ _ _ _ _ g U=>
 (n9 (by wtm_at "s") (n9 (lY (i:=3) J rfl (by first | exact Or.inl rfl | exact Or.inr rfl) (sK (N':=["_law_k", "_law_some"]) (idx:=[2]) rfl (W3 (by rfl) (.cons rfl .nil) (by decide +kernel) rfl (by decide +kernel) (by rfl) (.cons rfl (by first | exact Or.inl rfl | exact Or.inr rfl) (by first | exact Or.inl rfl | exact Or.inr rfl) .nil)) (uy (by rfl) B.range (by wtm_at "E")) (fun _ _ _ _=>L9 (i:=0) (show List.Nodup (["_law_k", "_law_some"]:List Str) by decide +kernel) rfl (Or.inl rfl)) (fun _ _ _ _ _=>R8) (fun _ _ _ _ _=>(by wtm_at "E")))) (by wtm_at "S")))
def Bv (B:Blt mg) (F:GF K mg "_law_divisor" (top 44) f fd):lM P w K mg base (u5):=
 o7 [] F (by wtm_at "p") (by wtm_at "f") (by unfold jA;wtm_at "M")
def xD (J:lM P w K mg base m0k) (B:Blt mg) (F:GF K mg "_law_low" (top 45) f fd):cU P w K mg base (u8 m0k):=
 o7 ["_law_shared"] F (by wtm_at "p") (by wtm_at "f") (by unfold jF;wtm_at "M")
def wk (J:cU P w K mg base m05) (B:Blt mg) (F:GF K mg "_law_plus" (top 46) f fd):Z2 P w K mg base (L8 m05):=
 o7 [] F (by wtm_at "p") (by wtm_at "f") (by unfold qk;wtm_at "M")
def BW (J:cU P w K mg base m05) (B:Blt mg) (F:GF K mg "_law_xy" (top 52) f fd):nO P w K mg base (bw m05):=
 o7 [] F (by wtm_at "p") (by wtm_at "f") (by unfold vW;wtm_at "M")
def EA (J:cU P w K mg base m05) (B:Blt mg) (F:GF K mg "_law_minus" (top 47) f fd):dS P w K mg base (U7 m05):=
 o7 [] F (by wtm_at "p") (by wtm_at "f") (by unfold tf;wtm_at "M")
def wV (J:cU P w K mg base m05) (B:Blt mg) (F:GF K mg "_law_product" (top 48) f fd):bf P w K mg base (S3 m05):=
 o7 [] F (by wtm_at "p") (by wtm_at "f") (by unfold qu;wtm_at "M")
def Ah (C00:Z2 P w K mg base m01) (J:bf P w K mg base m02) (U:dS P w K mg base m06) (Y:nO P w K mg base m0h) (B:Blt mg) (F:GF K mg "_law_square" (top 60) f fd):vC P w K mg base (dR m01 m02 m06 m0h):=
 o7 ["_law_x", "_law_y", "_law_far", "_law_high", "_law_one", "_law_other"] F (by wtm_at "p") (by wtm_at "f") (by unfold im;wtm_at "M")
def zD (B:Blt mg) (F:GF K mg "_law_root" (top 59) f fd):uX P w K mg base (be):=
 o7 ["_law_found", "_law_step"] F (by wtm_at "p") (by wtm_at "f") (by unfold iA;wtm_at "M")
def Bp (U:uX P w K mg base m0J) (J:vC P w K mg base m0Q) (B:Blt mg) (F:GF K mg "_law_size" (top 61) f fd):vM P w K mg base (fK m0J m0Q):=
 o7 ["_law_top", "_law_bottom"] F (by wtm_at "p") (by wtm_at "f") (by unfold iK;wtm_at "M")
def wf (J:Z2 P w K mg base m01) (Y:vM P w K mg base m0w) (U:kZ P w K mg base m0d) (B:Blt mg) (F:GF K mg "_law_sums" (top 62) f fd):lu P w K mg base (eB m01 m0w m0d):=
 o7 ["_law_found", "_law_a", "_law_b"] F (by wtm_at "p") (by wtm_at "f") (by unfold jN;wtm_at "M")
def DG (J:Z2 P w K mg base m01) (B:Blt mg) (F:GF K mg "_law_sum" (top 66) f fd):mK P w K mg base (fv m01):=
 o7 ["_law_found", "_law_one"] F (by wtm_at "p") (by wtm_at "f") (by unfold gR;wtm_at "M")
def yN (B:Blt mg) (F:GF K mg "_law_below" (top 50) f fd):cp P w K mg base (u4):=
 o7 [] F (by wtm_at "p") (by wtm_at "f") (by unfold nZ;wtm_at "M")
def Bz (J:cp P w K mg base m03) (C00:Z2 P w K mg base m01) (Y:dS P w K mg base m06) (U:bf P w K mg base m02) (C0f:mK P w K mg base m0i) (B:Blt mg) (F:GF K mg "_law_marks" (top 67) f fd):pQ P w K mg base (ij m03 m01 m06 m02 m0i):=
 o7 ["_law_whole", "_law_gone", "_law_at_here", "_law_found", "_law_k", "_law_behind", "_law_low_here", "_law_high"] F (by wtm_at "p") (by wtm_at "f") (by unfold ib;wtm_at "M")
def EV (B:Blt mg) (F:GF K mg "above_root" (top 17) f fd):vH P w K mg base (N5):=
 o7 ["guess", "rest"] F (by wtm_at "p") (by wtm_at "f") (by unfold ja;wtm_at "M")
def AF (J:vH P w K mg base m0t) (B:Blt mg) (F:GF K mg "root_below" (top 18) f fd):uo P w K mg base (R0 m0t):=
 o7 ["guess", "better"] F (by wtm_at "p") (by wtm_at "f") (by unfold cE;wtm_at "M")
def En (J:uo P w K mg base m0I) (B:Blt mg) (F:GF K mg "root" (top 19) f fd):sk P w K mg base (U9 m0I):=
 o7 ["top", "bottom"] F (by wtm_at "p") (by wtm_at "f") (by unfold jn;wtm_at "M")
def HY (B:Blt mg) (F:GF K mg "divisor_of_two" (top 9) f fd):kU P w K mg base (o6):=
 o7 ["greater", "rest", "left_over"] F (by wtm_at "p") (by wtm_at "f") (by unfold iE;wtm_at "M")
def xT (J:kU P w K mg base m0e) (B:Blt mg) (F:GF K mg "divisor" (top 10) f fd):uW P w K mg base (F0 m0e):=
 o7 ["shared", "part"] F (by wtm_at "p") (by wtm_at "f") (by unfold iw;wtm_at "M")
def HQ (J:uW P w K mg base m0K) (B:Blt mg) (F:GF K mg "lowest" (top 11) f fd):nJ P w K mg base (L0 m0K):=
 o7 ["shared"] F (by wtm_at "p") (by wtm_at "f") fun U _ _ _ _ _ _ g Y=>
 (n9 (by wtm_at "s") (n9 (by wtm_at "s") (F4 (Q7 (bU cT cj (by rfl) B.tuple cu (bc (EO.b (FO.v (ao (N':=["part", "shared"]) (idx:=[1]) rfl (W3 (by rfl) (.cons rfl .nil) (by decide +kernel) rfl (by decide +kernel) (by rfl) (.cons rfl (by first | exact Or.inl rfl | exact Or.inr rfl) (by first | exact Or.inl rfl | exact Or.inr rfl) .nil)) (Q6 (M5 (pv 0))) (fun _ _ _ _=>L9 (i:=0) (show List.Nodup (["part", "shared"]:List Str) by decide +kernel) rfl (Or.inl rfl)) (fun _ _ _ _ _=>R8) (fun _ _ _ _ _=>(by wtm_at "E"))))) aF))))))
def wE (J:nJ P w K mg base m0m) (B:Blt mg) (F:GF K mg "fraction" (top 12) f fd):fV P w K mg base (N0 m0m):=
 o7 [] F (by wtm_at "p") (by wtm_at "f") (by unfold lm;wtm_at "M")
def zH (J:fV P w K mg base m0a) (B:Blt mg) (F:GF K mg "squared" (top 21) f fd):ue P w K mg base (R5 m0a):=
 o7 ["wide", "high", "bottom"] F (by wtm_at "p") (by wtm_at "f") (by unfold jh;wtm_at "M")
def Ge (B:Blt mg) (F:GF K mg "neighbours" (top 23) f fd):tB P w K mg base (P4):=
 o7 [] F (by wtm_at "p") (by wtm_at "f") fun J _ _ _ _ _ _ g U=>
 (n9 (W0 (by wtm_at "T") (F4 (Q7 (FO.v (tG rfl (by rfl) B.list (by rfl) B.zip (by wtm_at "a"))))) W1) (F4 (Q7 (FO.v (tG rfl (by rfl) B.list (by rfl) B.zip (by wtm_at "a"))))))
def zP (J:tB P w K mg base m0L) (B:Blt mg) (F:GF K mg "pieces" (top 26) f fd):lO P w K mg base (S8 m0L):=
 o7 [] F (by wtm_at "p") (by wtm_at "f") (by unfold iC;wtm_at "M")
def Dw (J:lO P w K mg base m0g) (U:sk P w K mg base m0M) (Y:ue P w K mg base m0N) (B:Blt mg) (F:GF K mg "lengths" (top 27) f fd):ss P w K mg base (X9 m0g m0M m0N):=
 o7 [] F (by wtm_at "p") (by wtm_at "f") fun nd _ _ _ _ _ _ g hr=>
 (F4 (Q7 (bU cT cj (by rfl) B.tuple cu (bc (EO.b (FO.v (jr (caps:=[]) (idx:=[]) rfl (fP (by rfl) .nil (by decide +kernel) rfl (by decide +kernel) (by rfl) .nil) (Q6 (by wtm_at "E")) (show List.Nodup (["a", "b"]:List Str) by decide +kernel) (fun _ _ _ _=>rfl) (fun _ _ _ _=>rfl) (fun _ _ _ _ _=>R8) (fun _ _ _ _ _=>(by wtm_at "E"))))) aF))))
def Fu (J:kU P w K mg base m0e) (B:Blt mg) (F:GF K mg "plus" (top 13) f fd):dN P w K mg base (E5 m0e):=
 o7 ["shared", "top", "taken_out"] F (by wtm_at "p") (by wtm_at "f") (by unfold gO;wtm_at "M")
def FG (U:dN P w K mg base m07) (J:ss P w K mg base m0v) (B:Blt mg) (F:GF K mg "stations" (top 29) f fd):jQ P w K mg base (X8 m07 m0v):=
 o7 ["told", "length"] F (by wtm_at "p") (by wtm_at "f") (by unfold jE;wtm_at "M")
def zA (B:Blt mg) (F:GF K mg "is_below" (top 16) f fd):dc P w K mg base (w8):=
 o7 [] F (by wtm_at "p") (by wtm_at "f") (by unfold gm;wtm_at "M")
def xY (J:dN P w K mg base m07) (B:Blt mg) (F:GF K mg "less" (top 14) f fd):kQ P w K mg base (ai m07):=
 o7 [] F (by wtm_at "p") (by wtm_at "f") (by unfold iT;wtm_at "M")
def Bh (J:nJ P w K mg base m0m) (B:Blt mg) (F:GF K mg "between" (top 24) f fd):rk P w K mg base (iV m0m):=
 o7 ["near", "far"] F (by wtm_at "p") (by wtm_at "f") (by unfold fW;wtm_at "M")
def CU (C0z:rk P w K mg base m0x) (Y:fV P w K mg base m0a) (C0j:kQ P w K mg base m0f) (J:lO P w K mg base m0g) (C05:dc P w K mg base m04) (U:jQ P w K mg base m09) (B:Blt mg) (F:GF K mg "place_at" (top 31) f fd):sx P w K mg base (ig m0x m0a m0f m0g m04 m09):=
 o7 ["rows", "number", "piece", "gone", "whole"] F (by wtm_at "p") (by wtm_at "f") (by unfold gf;wtm_at "M")
def zq (U:sx P w K mg base m0s) (Y:dc P w K mg base m04) (J:jQ P w K mg base m09) (B:Blt mg) (F:GF K mg "part_of" (top 34) f fd):vF P w K mg base (jk m0s m04 m09):=
 o7 ["told", "one", "station"] F (by wtm_at "p") (by wtm_at "f") fun nd _ _ _ _ _ _ g hr=>
 (n9 (by wtm_at "s") (n9 (EY Ke rfl (by rfl) B.zip (by wtm_at "A") (by wtm_at "G") (by wtm_at "S")) (by wtm_at "S")))
def Iy (J:jQ P w K mg base m09) (B:Blt mg) (F:GF K mg "line_length" (top 30) f fd):pJ P w K mg base (bQ m09):=
 o7 [] F (by wtm_at "p") (by wtm_at "f") (by unfold oJ;wtm_at "M")
def Ao (J:dN P w K mg base m07) (B:Blt mg) (F:GF K mg "sum_of" (top 37) f fd):ql P w K mg base (cK m07):=
 o7 ["told", "one"] F (by wtm_at "p") (by wtm_at "f") (by unfold jj;wtm_at "M")
def xv (J:fV P w K mg base m0a) (B:Blt mg) (F:GF K mg "times" (top 15) f fd):uL P w K mg base (cH m0a):=
 o7 [] F (by wtm_at "p") (by wtm_at "f") (by unfold fX;wtm_at "M")
def yK (J:kQ P w K mg base m0f) (Y:uL P w K mg base m0R) (U:ql P w K mg base m0S) (B:Blt mg) (F:GF K mg "first_begin" (top 36) f fd):uc P w K mg base (cS m0f m0R m0S):=
 o7 ["size", "passed"] F (by wtm_at "p") (by wtm_at "f") (by unfold jM;wtm_at "M")
def wu (J:dc P w K mg base m04) (B:Blt mg) (F:GF K mg "greater_of" (top 38) f fd):pP P w K mg base (bF m04):=
 o7 [] F (by wtm_at "p") (by wtm_at "f") (by unfold pA;wtm_at "M")
def EB (J:dc P w K mg base m04) (B:Blt mg) (F:GF K mg "lesser_of" (top 39) f fd):pS P w K mg base (bM m04):=
 o7 [] F (by wtm_at "p") (by wtm_at "f") (by unfold qw;wtm_at "M")
def u00:FnScope ["line", "pattern", "offset", "whole", "told", "begin", "number", "end"] ["line", "pattern", "offset"] (A2 (top 35)):=by wtm_at "f"
def AX (C05:dc P w K mg base m04) (C0D:pS P w K mg base m0A) (Y:pP P w K mg base m0B) (C07:dN P w K mg base m07) (C0F:uc P w K mg base m0C) (C0G:pJ P w K mg base m0D) (U:Con K mg "MOST_MARKS" (.int 200)) (J:Rf1 K mg "TooMany") {f:Addr}(B:Blt mg) (F:GF K mg "mark_lengths" (top 35) f fd):CalX P w K mg base 9 "mark_lengths" ["line", "pattern", "offset"] (bH m04 m0A m0B m07 m0C m0D):=
 rh F (fun _ _ _ _ _ _=>on3 fun _ _ _=>rfl) u00 fun cdv A outer s H E g R hr=>
  have nd:=u00.nd
  (n9 (by wtm_at "s") (n9 (by wtm_at "s") (n9 (by wtm_at "s") (n9 (by wtm_at "s") (n9 (ox PassesOwn.leaving (by wtm_at "T") (n9 (by wtm_at "s") (n9 (by wtm_at "s") (n9 (W0 (by wtm_at "T") (F4 (Df (k:=0) R J (hr.mono #[]) rfl (by rfl) (by wtm_at "A") (K9 bv))) W1) (by wtm_at "S"))))) (by wtm_at "S"))))))
def u01:FnScope ["line", "pattern", "offset"] ["line", "pattern", "offset"] (A2 (top 40)):=by wtm_at "f"
def Fy (J:CalX P w K mg base 9 "mark_lengths" ["line", "pattern", "offset"] m0l) (U:vF P w K mg base m0T) {f:Addr}(B:Blt mg) (F:GF K mg "marks_of" (top 40) f fd):CalX P w K mg base 10 "marks_of" ["line", "pattern", "offset"] (hU m0l m0T):=
 rh F (fun _ _ _ _ _ _=>on3 fun _ _ _=>rfl) u01 fun cdv A outer s H E g R Y=>
  have nd:=u01.nd
  (F4 (BD (Fh (caps:=["line"]) (idx:=[0]) rfl (fP (by rfl) (.cons rfl .nil) (by decide +kernel) rfl (by decide +kernel) (by rfl) (.cons rfl (by first | exact Or.inl rfl | exact Or.inr rfl) (by first | exact Or.inl rfl | exact Or.inr rfl) .nil)) (jY J R _ Y #[] (by rfl) (by wtm_at "A") (K9 (K9 (K9 bv)))) (show List.Nodup (["begin", "end", "line"]:List Str) by decide +kernel) (fun _ _ _ _=>rfl) (fun _ _ _ _=>rfl) (fun _ _ _ _ _=>R8) (fun _ _ _ _ _=>(by wtm_at "E")))))
def Ee (C0o:CalX P w K mg base 10 "marks_of" ["line", "pattern", "offset"] m0U) (C0a:CalX P w K mg base 9 "mark_lengths" ["line", "pattern", "offset"] m0l) (U:RfA K mg ["TooMany"] ["WideError", "NoPaper", "NoOutline", "NoJoin", "TooMany", "NoText", "NoRow"]) (J:Ck K mg ["TooMany"] "WideError") (B:Blt mg) (F:GF K mg "_law_told" (top 69) f fd):tj P w K mg base (fR m0U m0l):=
 o7 ["_law_found", "e", "_law_strange"] F (by wtm_at "p") (by wtm_at "f") fun Y _ _ _ _ _ _ g hr=>
 (n9 (by wtm_at "s") (n9 (CH (fun pn xe g1 R _ _ _=>(F4 (FH Y (by rfl) (by first | exact Or.inl rfl | exact Or.inr rfl) (Hz (by wtm_at "T") (jY C0o R _ hr #[] (by rfl) (by wtm_at "A") (K9 (K9 (K9 bv)))) (jY C0a R _ hr #[] (by rfl) (by wtm_at "A") (K9 (K9 (K9 bv)))))))) (fun _=>(n9 (eR (i:=6) Y rfl (by first | exact Or.inl rfl | exact Or.inr rfl) (vc (Gx U (fA (by rfl) (U.mm _ #[]) (fA (by rfl) (U.mm _ #[]) (fA (by rfl) (U.mm _ #[]) (fA (by rfl) (U.mm _ #[]) (fA (by rfl) (U.mm _ #[]) CS))))) (by rfl) #[] (by rfl) B.isinstance (M5 (pv 5))) (qy (vY (EK U.rx (by rfl) B.isinstance (by rfl) U.ve (M5 (pv 5))))))) (F4 (W0 (WO.t (vv (lL (EO.b (DF U (by rfl) (by rfl) B.isinstance (by rfl) (M5 (pv 5))))) (by wtm_at "W"))) (F4 (eR (i:=4) Y rfl (by first | exact Or.inl rfl | exact Or.inr rfl) (yj U.rx (M5 (pv 5)) (by rfl)))) W1)))) J (by rfl) Y (by rfl) (by rfl)) (by wtm_at "S")))
def DX (J:lM P w K mg base m0k) (B:Blt mg) (F:GF K mg "_law_spot" (top 51) f fd):jg P w K mg base (dk m0k):=
 o7 ["_law_some", "_law_shared"] F (by wtm_at "p") (by wtm_at "f") fun U _ _ _ _ _ _ g Y=>
 (n9 (by wtm_at "s") (n9 (by wtm_at "s") (F4 (Q7 (bU cT cj (by rfl) B.tuple cu (bc (EO.b (FO.v (ao (N':=["_law_one", "_law_shared"]) (idx:=[3]) rfl (W3 (by rfl) (.cons rfl .nil) (by decide +kernel) rfl (by decide +kernel) (by rfl) (.cons rfl (by first | exact Or.inl rfl | exact Or.inr rfl) (by first | exact Or.inl rfl | exact Or.inr rfl) .nil)) (Q6 (M5 (pv 2))) (fun _ _ _ _=>L9 (i:=0) (show List.Nodup (["_law_one", "_law_shared"]:List Str) by decide +kernel) rfl (Or.inl rfl)) (fun _ _ _ _ _=>R8) (fun _ _ _ _ _=>(by wtm_at "E"))))) aF))))))
def Iv (C0b:jg P w K mg base m08) (C00:Z2 P w K mg base m01) (U:bf P w K mg base m02) (Y:dS P w K mg base m06) (J:nO P w K mg base m0h) (B:Blt mg) (F:GF K mg "_law_between" (top 63) f fd):uJ P w K mg base (gu m08 m01 m02 m06 m0h):=
 o7 ["_law_x", "_law_y", "_law_far", "_law_high"] F (by wtm_at "p") (by wtm_at "f") (by unfold gE;wtm_at "M")
def zO (J:cU P w K mg base m05) (B:Blt mg) (F:GF K mg "_law_over" (top 49) f fd):qZ P w K mg base (iB m05):=
 o7 [] F (by wtm_at "p") (by wtm_at "f") (by unfold oO;wtm_at "M")
def xg (J:cp P w K mg base m03) (Y:uJ P w K mg base m0y) (C0K:qZ P w K mg base m0z) (C06:dS P w K mg base m06) (U:kZ P w K mg base m0d) (B:Blt mg) (F:GF K mg "_law_at" (top 64) f fd):qG P w K mg base (jG m03 m0y m0z m06 m0d):=
 o7 ["_law_found", "_law_k", "_law_a", "_law_b", "_law_size_here"] F (by wtm_at "p") (by wtm_at "f") fun nd _ _ _ _ _ _ g hr=>
 (n9 (by wtm_at "s") (n9 (Im Ke rfl (by rfl) B.enumerate (by wtm_at "A") (by wtm_at "G") (by wtm_at "S")) (by wtm_at "S")))
def Gc (J:qG P w K mg base m0r) (U:cp P w K mg base m03) (B:Blt mg) (F:GF K mg "_law_part" (top 65) f fd):uT P w K mg base (iL m0r m03):=
 o7 ["_law_found", "_law_k"] F (by wtm_at "p") (by wtm_at "f") (by unfold gF;wtm_at "M")
def yZ (J:cp P w K mg base m03) (B:Blt mg) (F:GF K mg "_law_with_places" (top 70) f fd):rY P w K mg base (fS m03):=
 o7 ["_law_found", "_law_k"] F (by wtm_at "p") (by wtm_at "f") fun Y _ _ _ _ _ _ g U=>
 (n9 (by wtm_at "s") (n9 (eG Ke rfl (by rfl) B.range (by wtm_at "E") (by wtm_at "G") (F4 (W0 (oM (po (fg U)) pK (EO.b (FO.v (ao (N':=["_law_one", "_law_due", "_law_k"]) (idx:=[1,3]) rfl (W3 (by rfl) (.cons rfl (.cons rfl .nil)) (by decide +kernel) rfl (by decide +kernel) (by rfl) (.cons rfl (by first | exact Or.inl rfl | exact Or.inr rfl) (by first | exact Or.inl rfl | exact Or.inr rfl) (.cons rfl (by first | exact Or.inl rfl | exact Or.inr rfl) (by first | exact Or.inl rfl | exact Or.inr rfl) .nil))) (Q6 (M5 (pv 0))) (fun _ _ _ _=>L9 (i:=0) (show List.Nodup (["_law_one", "_law_due", "_law_k"]:List Str) by decide +kernel) rfl (Or.inl rfl)) (fun _ _ _ _ _=>(sj (by wtm_at "T"))) (fun _ _ _ _ _=>(M5 (pv 0)))))) (by wtm_at "B") (eK _)) (by wtm_at "S") W1))) (by wtm_at "S")))
def Ae (U:tj P w K mg base m0n) (C0M:uT P w K mg base m0o) (C0N:rY P w K mg base m0p) (C0O:pQ P w K mg base m0q) (C0l:lu P w K mg base m0b) (B:Blt mg) (F:GF K mg "_law_right" (top 72) f fd):jW P w K mg base (ie m0n m0o m0p m0q m0b):=
 o7 ["_law_sums_here", "_law_due", "_law_again", "_law_told_here", "_law_some", "_law_parts"] F (by wtm_at "p") (by wtm_at "f") fun Y _ _ _ _ _ _ g J=>
 (n9 (by wtm_at "s") (n9 (by wtm_at "s") (n9 (W0 (by wtm_at "T") (F4 (Q7 (mI (kY (fg J)) kR (EO.b (FO.v (ao (N':=["_law_choice", "_law_line", "_law_pattern_here", "_law_offset"]) (idx:=[0,1,2]) rfl (W3 (by rfl) (.cons rfl (.cons rfl (.cons rfl .nil))) (by decide +kernel) rfl (by decide +kernel) (by rfl) (.cons rfl (by first | exact Or.inl rfl | exact Or.inr rfl) (by first | exact Or.inl rfl | exact Or.inr rfl) (.cons rfl (by first | exact Or.inl rfl | exact Or.inr rfl) (by first | exact Or.inl rfl | exact Or.inr rfl) (.cons rfl (by first | exact Or.inl rfl | exact Or.inr rfl) (by first | exact Or.inl rfl | exact Or.inr rfl) .nil)))) (Q6 (by wtm_at "E")) (fun _ _ _ _=>L9 (i:=0) (show List.Nodup (["_law_choice", "_law_line", "_law_pattern_here", "_law_offset"]:List Str) by decide +kernel) rfl (Or.inl rfl)) (fun _ _ _ _ _=>R8) (fun _ _ _ _ _=>(by wtm_at "E"))))) (by wtm_at "B") (eK _)))) W1) (n9 (eG Ke rfl (by rfl) B.range lV (by wtm_at "G") (n9 (nH (i:=6) Y rfl (by first | exact Or.inl rfl | exact Or.inr rfl) (vP U _ J #[] (by rfl) (by wtm_at "A") (K9 (K9 (K9 (K9 bv)))))) (n9 (by wtm_at "s") (F4 (AL (pv 6)))))) (n9 (W0 (by wtm_at "T") (n9 (by wtm_at "s") (n9 (W0 (WO.t (vw (qY (lL (EO.b (xL FA (by rfl) B.isinstance (by rfl) B.list tZ (qr (pv 6)))))) (by wtm_at "W"))) (F4 (Q7 nr)) W1) (n9 (by wtm_at "s") (F4 (Q7 (mI (kY (fg J)) kR (EO.b (lG (lX (kJ J) J.gd) lE (by rfl) B.repr mO (bc (EO.b (FO.v (ao (N':=["_law_k", "_law_told_here"]) (idx:=[6]) rfl (W3 (by rfl) (.cons rfl .nil) (by decide +kernel) rfl (by decide +kernel) (by rfl) (.cons rfl (by first | exact Or.inl rfl | exact Or.inr rfl) (by first | exact Or.inl rfl | exact Or.inr rfl) .nil)) (Q6 (M5 (pv 7))) (fun _ _ _ _=>L9 (i:=0) (show List.Nodup (["_law_k", "_law_told_here"]:List Str) by decide +kernel) rfl (Or.inl rfl)) (fun _ _ _ _ _=>R8) (fun _ _ _ _ _=>(by wtm_at "E"))))) aF))) (EO.b (lG (lX (kJ J) J.gd) lE (by rfl) B.repr mO (bc (EO.b (FO.v (ao (N':=["_law_k", "_law_line", "_law_sums_here", "_law_due"]) (idx:=[0,3,4]) rfl (W3 (by rfl) (.cons rfl (.cons rfl (.cons rfl .nil))) (by decide +kernel) rfl (by decide +kernel) (by rfl) (.cons rfl (by first | exact Or.inl rfl | exact Or.inr rfl) (by first | exact Or.inl rfl | exact Or.inr rfl) (.cons rfl (by first | exact Or.inl rfl | exact Or.inr rfl) (by first | exact Or.inl rfl | exact Or.inr rfl) (.cons rfl (by first | exact Or.inl rfl | exact Or.inr rfl) (by first | exact Or.inl rfl | exact Or.inr rfl) .nil)))) (Q6 (M5 (pv 7))) (fun _ _ _ _=>L9 (i:=0) (show List.Nodup (["_law_k", "_law_line", "_law_sums_here", "_law_due"]:List Str) by decide +kernel) rfl (Or.inl rfl)) (fun _ _ _ _ _=>R8) (fun _ _ _ _ _=>(by wtm_at "E"))))) aF))) (eK _))))))) W1) (n9 (lY (i:=8) Y rfl (by first | exact Or.inl rfl | exact Or.inr rfl) (HU (caps:=["_law_line", "_law_sums_here"]) (idx:=[0,3]) rfl (fP (by rfl) (.cons rfl (.cons rfl .nil)) (by decide +kernel) rfl (by decide +kernel) (by rfl) (.cons rfl (by first | exact Or.inl rfl | exact Or.inr rfl) (by first | exact Or.inl rfl | exact Or.inr rfl) (.cons rfl (by first | exact Or.inl rfl | exact Or.inr rfl) (by first | exact Or.inl rfl | exact Or.inr rfl) .nil))) (Q6 (M5 (pv 4))) (show List.Nodup (["_law_begin", "_law_end", "_law_line", "_law_sums_here"]:List Str) by decide +kernel) (fun _ _ _ _=>rfl) (fun _ _ _ _=>rfl) (fun _ _ _ _ _=>R8) (fun _ _ _ _ _=>(by wtm_at "E")))) (n9 (eG Ke rfl (by rfl) B.range lV (by wtm_at "G") (n9 (nH (i:=6) Y rfl (by first | exact Or.inl rfl | exact Or.inr rfl) (vP U _ J #[] (by rfl) (by wtm_at "A") (K9 (K9 (K9 (K9 bv)))))) (by wtm_at "S"))) (F4 (Q7 nr)))))))))
def FC (B:Blt mg) (F:GF K mg "_law_draw" (top 43) f fd):aH P w K mg base (Y0):=
 o7 ["_law_found", "_law_spot_here", "_law_cell", "_law_seed"] F (by wtm_at "p") (by wtm_at "f") (by unfold aC;wtm_at "M")
def Go (J:jW P w K mg base m0j) (U:aH P w K mg base m00) (B:Blt mg) (F:GF K mg "_law_many_right" (top 71) f fd):tK P w K mg base (lK m0j m00):=
 o7 ["_law_far", "_law_line", "_law_pattern_here"] F (by wtm_at "p") (by wtm_at "f") (by unfold gU;wtm_at "M")
def ED (J:aH P w K mg base m00) (B:Blt mg) (F:GF K mg "_law_start" (top 54) f fd):nj P w K mg base (gH m00):=
 o7 ["_law_some", "_law_x"] F (by wtm_at "p") (by wtm_at "f") (by unfold iq;wtm_at "M")
def yf (C0b:jg P w K mg base m08) (C00:Z2 P w K mg base m01) (Y:bf P w K mg base m02) (J:nj P w K mg base m0c) (U:aH P w K mg base m00) (B:Blt mg) (F:GF K mg "_law_closed" (top 56) f fd):vz P w K mg base (mh m08 m01 m02 m0c m00):=
 o7 ["_law_some", "_law_told_here", "_law_k", "_law_a", "_law_b", "_law_h", "_law_size_here", "_law_x", "_law_y", "_law_found", "_law_one", "_law_other", "_law_far", "_law_high"] F (by wtm_at "p") (by wtm_at "f") (by unfold gY;wtm_at "M")
def yP (J:aH P w K mg base m00) (B:Blt mg) (F:GF K mg "_law_menu" (top 53) f fd):rC P w K mg base (nD m00):=
 o7 ["_law_great", "_law_choice", "_law_some", "_law_a", "_law_b", "_law_h", "_law_found", "_law_x", "_law_y"] F (by wtm_at "p") (by wtm_at "f") fun U _ _ _ _ _ _ g Y=>
 (n9 (by wtm_at "s") (n9 (by wtm_at "s") (n9 (W0 (by wtm_at "T") (n9 (by wtm_at "s") (F4 (Q7 (kv (ac (by wtm_at "E") (ac (FO.v (jr (caps:=["_law_great"]) (idx:=[1]) rfl (fP (by rfl) (.cons rfl .nil) (by decide +kernel) rfl (by decide +kernel) (by rfl) (.cons rfl (by first | exact Or.inl rfl | exact Or.inr rfl) (by first | exact Or.inl rfl | exact Or.inr rfl) .nil)) (Q6 (M5 (pv 3))) (show List.Nodup (["_law_top", "_law_bottom", "_law_great"]:List Str) by decide +kernel) (fun _ _ _ _=>rfl) (fun _ _ _ _=>rfl) (fun _ _ _ _ _=>R8) (fun _ _ _ _ _=>(by wtm_at "E")))) ee)))))) W1) (n9 (by wtm_at "s") (n9 (by wtm_at "s") (n9 (by wtm_at "s") (F4 (Q7 (kv (ac (M5 (pv 7)) (ac (FO.v (jr (caps:=["_law_great"]) (idx:=[1]) rfl (fP (by rfl) (.cons rfl .nil) (by decide +kernel) rfl (by decide +kernel) (by rfl) (.cons rfl (by first | exact Or.inl rfl | exact Or.inr rfl) (by first | exact Or.inl rfl | exact Or.inr rfl) .nil)) (Q6 (by wtm_at "E")) (show List.Nodup (["_law_top", "_law_bottom", "_law_great"]:List Str) by decide +kernel) (fun _ _ _ _=>rfl) (fun _ _ _ _=>rfl) (fun _ _ _ _ _=>R8) (fun _ _ _ _ _=>(by wtm_at "E")))) ee)))))))))))
def xf (C0b:jg P w K mg base m08) (C00:Z2 P w K mg base m01) (Y:bf P w K mg base m02) (C01:aH P w K mg base m00) (U:nj P w K mg base m0c) (C0P:rC P w K mg base m0u) (B:Blt mg) (F:GF K mg "_law_open" (top 55) f fd):rK P w K mg base (ni m08 m01 m02 m00 m0c m0u):=
 o7 ["_law_ways", "_law_sizes", "_law_x", "_law_y", "_law_found", "_law_former", "_law_k", "_law_some", "_law_size_here"] F (by wtm_at "p") (by wtm_at "f") fun J _ _ _ _ _ _ g hr=>
 (n9 (by wtm_at "s") (n9 (by wtm_at "s") (n9 (by wtm_at "s") (n9 (by wtm_at "s") (n9 (eG Ke rfl (by rfl) B.range (by wtm_at "E") (by wtm_at "G") (n9 (lY (i:=9) J rfl (by first | exact Or.inl rfl | exact Or.inr rfl) (sK (N':=["_law_choice", "_law_former"]) (idx:=[7]) rfl (W3 (by rfl) (.cons rfl .nil) (by decide +kernel) rfl (by decide +kernel) (by rfl) (.cons rfl (by first | exact Or.inl rfl | exact Or.inr rfl) (by first | exact Or.inl rfl | exact Or.inr rfl) .nil)) (Q6 (M5 (pv 2))) (fun _ _ _ _=>L9 (i:=0) (show List.Nodup (["_law_choice", "_law_former"]:List Str) by decide +kernel) rfl (Or.inl rfl)) (fun _ _ _ _ _=>(sj (by wtm_at "T"))) (fun _ _ _ _ _=>(M5 (pv 0))))) (by wtm_at "S"))) (by wtm_at "S"))))))
def Hr (U:aH P w K mg base m00) (J:vz P w K mg base m0O) (Y:rK P w K mg base m0P) (B:Blt mg) (F:GF K mg "_law_exact" (top 57) f fd):vg P w K mg base (kg m00 m0O m0P):=
 o7 [] F (by wtm_at "p") (by wtm_at "f") (by unfold uP;wtm_at "M")
def Ai (C00:Z2 P w K mg base m01) (U:bf P w K mg base m02) (Y:aH P w K mg base m00) (C0f:mK P w K mg base m0i) (C04:cp P w K mg base m03) (B:Blt mg) (F:GF K mg "_law_pattern" (top 68) f fd):oE P w K mg base (kz m01 m02 m00 m0i m03):=
 o7 ["_law_one", "_law_some", "_law_pattern_here", "_law_whole", "_law_rest", "_law_gone"] F (by wtm_at "p") (by wtm_at "f") fun J _ _ _ _ _ _ g hr=>
 (n9 (by wtm_at "s") (n9 (by wtm_at "s") (n9 (eR (i:=4) J rfl (by first | exact Or.inl rfl | exact Or.inr rfl) (bU cT cj (by rfl) B.tuple cu (bc (EO.b (FO.v (AD [3] (ao (N':=["_law_k", "_law_some", "_law_tape"]) (idx:=[3,0]) rfl (W3 (by rfl) (.cons rfl (.cons rfl .nil)) (by decide +kernel) rfl (by decide +kernel) (by rfl) (.cons rfl (by first | exact Or.inl rfl | exact Or.inr rfl) (by first | exact Or.inl rfl | exact Or.inr rfl) (.cons rfl (by first | exact Or.inl rfl | exact Or.inr rfl) (by first | exact Or.inl rfl | exact Or.inr rfl) .nil))) (uy (by rfl) B.range (by wtm_at "E")) (fun _ _ _ _=>L9 (i:=0) (show List.Nodup (["_law_k", "_law_some", "_law_tape"]:List Str) by decide +kernel) rfl (Or.inl rfl)) (fun _ _ _ _ _=>R8) (fun _ _ _ _ _=>(by wtm_at "E")))))) aF))) (n9 (W0 (by wtm_at "T") (F4 (eR (i:=4) J rfl (by first | exact Or.inl rfl | exact Or.inr rfl) (bU cT cj (by rfl) B.tuple cu (bc (EO.b (FO.v (ao (N':=["_law_one"]) (idx:=[]) rfl (W3 (by rfl) .nil (by decide +kernel) rfl (by decide +kernel) (by rfl) .nil) (Q6 (M5 (pv 4))) (fun _ _ _ _=>L9 (i:=0) (show List.Nodup (["_law_one"]:List Str) by decide +kernel) rfl (Or.inl rfl)) (fun _ _ _ _ _=>R8) (fun _ _ _ _ _=>(by wtm_at "E"))))) aF)))) W1) (by wtm_at "S")))))
def u02:FnScope ["_law_script", "_law_tape", "_law_k", "_law_line", "_law_pattern_here", "_law_offset"] ["_law_script"] (A2 (top 73)):=by wtm_at "f"
def HP (J:tK P w K mg base m0E) (C0m:jW P w K mg base m0j) (C0T:oE P w K mg base m0F) (Y:lu P w K mg base m0b) (C0U:vg P w K mg base m0G) (U:rZ P w K mg base m0H) {f:Addr}(B:Blt mg) (F:Fun K "law" "law" (top 73) f fd):eu P w K mg base 14 f fd ["_law_script"] (jV m0E m0j m0F m0b m0G m0H):=
 ug F u02 fun cdv A outer s H E g hr=>
  have nd:=u02.nd
  by unfold ia;wtm_at "R"
end
end T
namespace T
open PySem PySem.Spec L2 DL
abbrev whole:c6:=(jV (lK (ie (fR (hU (bH w8 (bM w8) (bF w8) (E5 o6) (cS (ai (E5 o6)) (cH (N0 (L0 (F0 o6)))) (cK (E5 o6))) (bQ (X8 (E5 o6) (X9 (S8 P4) (U9 (R0 N5)) (R5 (N0 (L0 (F0 o6)))))))) (jk (ig (iV (L0 (F0 o6))) (N0 (L0 (F0 o6))) (ai (E5 o6)) (S8 P4) w8 (X8 (E5 o6) (X9 (S8 P4) (U9 (R0 N5)) (R5 (N0 (L0 (F0 o6))))))) w8 (X8 (E5 o6) (X9 (S8 P4) (U9 (R0 N5)) (R5 (N0 (L0 (F0 o6)))))))) (bH w8 (bM w8) (bF w8) (E5 o6) (cS (ai (E5 o6)) (cH (N0 (L0 (F0 o6)))) (cK (E5 o6))) (bQ (X8 (E5 o6) (X9 (S8 P4) (U9 (R0 N5)) (R5 (N0 (L0 (F0 o6))))))))) (iL (jG u4 (gu (dk u5) (L8 (u8 u5)) (S3 (u8 u5)) (U7 (u8 u5)) (bw (u8 u5))) (iB (u8 u5)) (U7 (u8 u5)) N9) u4) (fS u4) (ij u4 (L8 (u8 u5)) (U7 (u8 u5)) (S3 (u8 u5)) (fv (L8 (u8 u5)))) (eB (L8 (u8 u5)) (fK be (dR (L8 (u8 u5)) (S3 (u8 u5)) (U7 (u8 u5)) (bw (u8 u5)))) N9)) Y0) (ie (fR (hU (bH w8 (bM w8) (bF w8) (E5 o6) (cS (ai (E5 o6)) (cH (N0 (L0 (F0 o6)))) (cK (E5 o6))) (bQ (X8 (E5 o6) (X9 (S8 P4) (U9 (R0 N5)) (R5 (N0 (L0 (F0 o6)))))))) (jk (ig (iV (L0 (F0 o6))) (N0 (L0 (F0 o6))) (ai (E5 o6)) (S8 P4) w8 (X8 (E5 o6) (X9 (S8 P4) (U9 (R0 N5)) (R5 (N0 (L0 (F0 o6))))))) w8 (X8 (E5 o6) (X9 (S8 P4) (U9 (R0 N5)) (R5 (N0 (L0 (F0 o6)))))))) (bH w8 (bM w8) (bF w8) (E5 o6) (cS (ai (E5 o6)) (cH (N0 (L0 (F0 o6)))) (cK (E5 o6))) (bQ (X8 (E5 o6) (X9 (S8 P4) (U9 (R0 N5)) (R5 (N0 (L0 (F0 o6))))))))) (iL (jG u4 (gu (dk u5) (L8 (u8 u5)) (S3 (u8 u5)) (U7 (u8 u5)) (bw (u8 u5))) (iB (u8 u5)) (U7 (u8 u5)) N9) u4) (fS u4) (ij u4 (L8 (u8 u5)) (U7 (u8 u5)) (S3 (u8 u5)) (fv (L8 (u8 u5)))) (eB (L8 (u8 u5)) (fK be (dR (L8 (u8 u5)) (S3 (u8 u5)) (U7 (u8 u5)) (bw (u8 u5)))) N9)) (kz (L8 (u8 u5)) (S3 (u8 u5)) Y0 (fv (L8 (u8 u5))) u4) (eB (L8 (u8 u5)) (fK be (dR (L8 (u8 u5)) (S3 (u8 u5)) (U7 (u8 u5)) (bw (u8 u5)))) N9) (kg Y0 (mh (dk u5) (L8 (u8 u5)) (S3 (u8 u5)) (gH Y0) Y0) (ni (dk u5) (L8 (u8 u5)) (S3 (u8 u5)) Y0 (gH Y0) (nD Y0))) bA)
set_option autoImplicit true in
set_option relaxedAutoImplicit true in
def all_mk {l:PySem.W.OpenLaw}{w:World}{K:vF_}{fa:Addr}(X:K.In h) (G:h.Ns mainGlobals mg) (hfa:mg "law" = some (.ref fa))
  (g1:GF K mg "_law_new_tape" (top 42) jf1 jd1)
  (g2:GF K mg "_law_pairs" (top 58) jf2 jd2)
  (g3:GF K mg "_law_divisor" (top 44) jf3 jd3)
  (g4:GF K mg "_law_low" (top 45) jf4 jd4)
  (g5:GF K mg "_law_plus" (top 46) jf5 jd5)
  (g6:GF K mg "_law_xy" (top 52) jf6 jd6)
  (g7:GF K mg "_law_minus" (top 47) jf7 jd7)
  (g8:GF K mg "_law_product" (top 48) jf8 jd8)
  (g9:GF K mg "_law_square" (top 60) jf9 jd9)
  (g10:GF K mg "_law_root" (top 59) jf10 jd10)
  (g11:GF K mg "_law_size" (top 61) jf11 jd11)
  (g12:GF K mg "_law_sums" (top 62) jf12 jd12)
  (g13:GF K mg "_law_sum" (top 66) jf13 jd13)
  (g14:GF K mg "_law_below" (top 50) jf14 jd14)
  (g15:GF K mg "_law_marks" (top 67) jf15 jd15)
  (g16:GF K mg "above_root" (top 17) jf16 jd16)
  (g17:GF K mg "root_below" (top 18) jf17 jd17)
  (g18:GF K mg "root" (top 19) jf18 jd18)
  (g19:GF K mg "divisor_of_two" (top 9) jf19 jd19)
  (g20:GF K mg "divisor" (top 10) jf20 jd20)
  (g21:GF K mg "lowest" (top 11) jf21 jd21)
  (g22:GF K mg "fraction" (top 12) jf22 jd22)
  (g23:GF K mg "squared" (top 21) jf23 jd23)
  (g24:GF K mg "neighbours" (top 23) jf24 jd24)
  (g25:GF K mg "pieces" (top 26) jf25 jd25)
  (g26:GF K mg "lengths" (top 27) jf26 jd26)
  (g27:GF K mg "plus" (top 13) jf27 jd27)
  (g28:GF K mg "stations" (top 29) jf28 jd28)
  (g29:GF K mg "is_below" (top 16) jf29 jd29)
  (g30:GF K mg "less" (top 14) jf30 jd30)
  (g31:GF K mg "between" (top 24) jf31 jd31)
  (g32:GF K mg "place_at" (top 31) jf32 jd32)
  (g33:GF K mg "part_of" (top 34) jf33 jd33)
  (g34:GF K mg "line_length" (top 30) jf34 jd34)
  (g35:GF K mg "sum_of" (top 37) jf35 jd35)
  (g36:GF K mg "times" (top 15) jf36 jd36)
  (g37:GF K mg "first_begin" (top 36) jf37 jd37)
  (g38:GF K mg "greater_of" (top 38) jf38 jd38)
  (g39:GF K mg "lesser_of" (top 39) jf39 jd39)
  (g40:GF K mg "mark_lengths" (top 35) jf40 jd40)
  (g41:GF K mg "marks_of" (top 40) jf41 jd41)
  (g42:GF K mg "_law_told" (top 69) jf42 jd42)
  (g43:GF K mg "_law_spot" (top 51) jf43 jd43)
  (g44:GF K mg "_law_between" (top 63) jf44 jd44)
  (g45:GF K mg "_law_over" (top 49) jf45 jd45)
  (g46:GF K mg "_law_at" (top 64) jf46 jd46)
  (g47:GF K mg "_law_part" (top 65) jf47 jd47)
  (g48:GF K mg "_law_with_places" (top 70) jf48 jd48)
  (g49:GF K mg "_law_right" (top 72) jf49 jd49)
  (g50:GF K mg "_law_draw" (top 43) jf50 jd50)
  (g51:GF K mg "_law_many_right" (top 71) jf51 jd51)
  (g52:GF K mg "_law_start" (top 54) jf52 jd52)
  (g53:GF K mg "_law_closed" (top 56) jf53 jd53)
  (g54:GF K mg "_law_menu" (top 53) jf54 jd54)
  (g55:GF K mg "_law_open" (top 55) jf55 jd55)
  (g56:GF K mg "_law_exact" (top 57) jf56 jd56)
  (g57:GF K mg "_law_pattern" (top 68) jf57 jd57)
  (g58:GF K mg "law" (top 73) jf58 jd58)
  (U:PySem.W.nsIn K mainGlobals "MOST_MARKS" = some (some (.int 200 t_MOST_MARKS_1)))
  (R_TooMany:Rf1 K mg "TooMany")
  (RA:RfA K mg ["TooMany"] ["WideError", "NoPaper", "NoOutline", "NoJoin", "TooMany", "NoText", "NoRow"])
  (J:Ck K mg ["TooMany"] "WideError")
  (B:Blt mg) :
  ∃fd:FuncData,(∀(s:Shared) (v:Value),BindsTo s fd #[[v],[]] [("_law_script",v)])/\∀base:Heap,K.In base->base.Ns mainGlobals mg->FnOk l.prog w K mg base U3 14 fa fd ["_law_script"] (aG K 1 whole):=by
 have e:=hfa.symm.trans g58.m;cases e;refine#[jd58,yo g58.F fun _ _ _ _ _ _ _ _=>.of_eq rfl,fun base _ _=>?_];have C0H:Con K mg "MOST_MARKS" (.int 200):=#[_,Le X G U,(Ht _ _)]
 have C0V:=DK (P:=l.prog) (w:=w) (base:=base) B g1;have C0e:=Hx (P:=l.prog) (w:=w) (base:=base) B g2;have C0c:=Bv (P:=l.prog) (w:=w) (base:=base) B g3;have C03:=xD C0c B g4;have Y:=wk C03 B g5;have C0d:=BW C03 B g6;have C06:=EA C03 B g7;have C02:=wV C03 B g8;have C0q:=Ah Y C02 C06 C0d B g9;have C0p:=zD (P:=l.prog) (w:=w) (base:=base) B g10;have C0r:=Bp C0p C0q B g11;have C0l:=wf Y C0r C0e B g12;have C0f:=DG Y B g13;have C04:=yN (P:=l.prog) (w:=w) (base:=base) B g14;have C0O:=Bz C04 Y C06 C02 C0f B g15;have C0s:=EV (P:=l.prog) (w:=w) (base:=base) B g16;have C0t:=AF C0s B g17;have C0w:=En C0t B g18;have C0g:=HY (P:=l.prog) (w:=w) (base:=base) B g19;have C0u:=xT C0g B g20;have C0h:=HQ C0u B g21;have C08:=wE C0h B g22;have C0x:=zH C08 B g23;have C0v:=Ge (P:=l.prog) (w:=w) (base:=base) B g24;have C0i:=zP C0v B g25;have C0y:=Dw C0i C0w C0x B g26;have C07:=Fu C0g B g27;have C09:=FG C07 C0y B g28;have C05:=zA (P:=l.prog) (w:=w) (base:=base) B g29;have C0j:=xY C07 B g30;have C0z:=Bh C0h B g31;have C0A:=CU C0z C08 C0j C0i C05 C09 B g32;have C0I:=zq C0A C05 C09 B g33;have C0G:=Iy C09 B g34;have C0C:=Ao C07 B g35;have C0B:=xv C08 B g36;have C0F:=yK C0j C0B C0C B g37;have C0E:=wu C05 B g38;have C0D:=EB C05 B g39;have C0a:=AX C05 C0D C0E C07 C0F C0G C0H R_TooMany B g40;have C0o:=Fy C0a C0I B g41;have C0k:=Ee C0o C0a RA J B g42;have C0b:=DX C0c B g43;have C0J:=Iv C0b Y C02 C06 C0d B g44;have C0K:=zO C03 B g45;have C0L:=xg C04 C0J C0K C06 C0e B g46;have C0M:=Gc C0L C04 B g47;have C0N:=yZ C04 B g48;have C0m:=Ae C0k C0M C0N C0O C0l B g49;have C01:=FC (P:=l.prog) (w:=w) (base:=base) B g50;have C0S:=Go C0m C01 B g51;have C0n:=ED C01 B g52;have C0Q:=yf C0b Y C02 C0n C01 B g53;have C0P:=yP C01 B g54;have C0R:=xf C0b Y C02 C01 C0n C0P B g55;have C0U:=Hr C01 C0Q C0R B g56;have C0T:=Ai Y C02 C01 C0f C04 B g57;exact HP C0S C0m C0T C0l C0U C0V B g58.F
end T
abbrev GK:=@DL.gf_mk
end
open PySem PySem.W PyProof.Rows
set_option maxRecDepth 100000 in
set_option maxHeartbeats 0 in
theorem PySem.Challenge.cw_widelines_k44_marks_along_lines_holds : PySem.Challenge.rw_widelines_k44_marks_along_lines.Holds := by
 w_on; o_law; k_head; (case hw=>w_witness2)
 k_fill
 refine DL.walkD (l:=PySem.Challenge.rw_widelines_k44_marks_along_lines) (m:=T.whole) (k:=14) rfl rfl ⟨rfl,by decide,by decide,rfl⟩ (fun w h Y=>PySem.W.kIn_of Y) ?F T.math
 case F=>
  intro w mg fa h KX G hmg
  refine' T.all_mk KX G hmg (GK KX G ?_ ?_ ?_ ?_) (GK KX G ?_ ?_ ?_ ?_) (GK KX G ?_ ?_ ?_ ?_) (GK KX G ?_ ?_ ?_ ?_) (GK KX G ?_ ?_ ?_ ?_) (GK KX G ?_ ?_ ?_ ?_) (GK KX G ?_ ?_ ?_ ?_) (GK KX G ?_ ?_ ?_ ?_) (GK KX G ?_ ?_ ?_ ?_) (GK KX G ?_ ?_ ?_ ?_) (GK KX G ?_ ?_ ?_ ?_) (GK KX G ?_ ?_ ?_ ?_) (GK KX G ?_ ?_ ?_ ?_) (GK KX G ?_ ?_ ?_ ?_) (GK KX G ?_ ?_ ?_ ?_) (GK KX G ?_ ?_ ?_ ?_) (GK KX G ?_ ?_ ?_ ?_) (GK KX G ?_ ?_ ?_ ?_) (GK KX G ?_ ?_ ?_ ?_) (GK KX G ?_ ?_ ?_ ?_) (GK KX G ?_ ?_ ?_ ?_) (GK KX G ?_ ?_ ?_ ?_) (GK KX G ?_ ?_ ?_ ?_) (GK KX G ?_ ?_ ?_ ?_) (GK KX G ?_ ?_ ?_ ?_) (GK KX G ?_ ?_ ?_ ?_) (GK KX G ?_ ?_ ?_ ?_) (GK KX G ?_ ?_ ?_ ?_) (GK KX G ?_ ?_ ?_ ?_) (GK KX G ?_ ?_ ?_ ?_) (GK KX G ?_ ?_ ?_ ?_) (GK KX G ?_ ?_ ?_ ?_) (GK KX G ?_ ?_ ?_ ?_) (GK KX G ?_ ?_ ?_ ?_) (GK KX G ?_ ?_ ?_ ?_) (GK KX G ?_ ?_ ?_ ?_) (GK KX G ?_ ?_ ?_ ?_) (GK KX G ?_ ?_ ?_ ?_) (GK KX G ?_ ?_ ?_ ?_) (GK KX G ?_ ?_ ?_ ?_) (GK KX G ?_ ?_ ?_ ?_) (GK KX G ?_ ?_ ?_ ?_) (GK KX G ?_ ?_ ?_ ?_) (GK KX G ?_ ?_ ?_ ?_) (GK KX G ?_ ?_ ?_ ?_) (GK KX G ?_ ?_ ?_ ?_) (GK KX G ?_ ?_ ?_ ?_) (GK KX G ?_ ?_ ?_ ?_) (GK KX G ?_ ?_ ?_ ?_) (GK KX G ?_ ?_ ?_ ?_) (GK KX G ?_ ?_ ?_ ?_) (GK KX G ?_ ?_ ?_ ?_) (GK KX G ?_ ?_ ?_ ?_) (GK KX G ?_ ?_ ?_ ?_) (GK KX G ?_ ?_ ?_ ?_) (GK KX G ?_ ?_ ?_ ?_) (GK KX G ?_ ?_ ?_ ?_) (GK KX G ?_ ?_ ?_ ?_) ?_ (DL.rf1_mk KX G ?_ ?_ (DL.xk1_mk (DL.xc_mk ?_ ?_ ?_ ?_ ?_ ?_) ?_ ?_) ?_ ?_ ?_ ?_ ?_ ?_) (DL.rfa_mk KX G ?_ (DL.memC (DL.rfx_mk ?_ (DL.xc_mk ?_ ?_ ?_ ?_ ?_ ?_) ?_ ?_ ?_ (DL.memC (DL.kit_mk KX G ?_ ?_) (DL.memC (DL.kit_mk KX G ?_ ?_) (DL.memC (DL.kit_mk KX G ?_ ?_) (DL.memC (DL.kit_mk KX G ?_ ?_) (DL.memC (DL.kit_mk KX G ?_ ?_) (DL.memC (DL.kit_mk KX G ?_ ?_) (DL.memC (DL.kit_mk KX G ?_ ?_) DL.mem0)))))))) DL.mem0) (DL.memC (DL.cls_mk KX G ?_) (DL.memC (DL.cls_mk KX G ?_) (DL.memC (DL.cls_mk KX G ?_) (DL.memC (DL.cls_mk KX G ?_) (DL.memC (DL.cls_mk KX G ?_) (DL.memC (DL.cls_mk KX G ?_) (DL.memC (DL.cls_mk KX G ?_) DL.mem0)))))))) (DL.ck_mk KX G ?_ ?_ ?_ (DL.memC (DL.sub_mk ?_ ?_) DL.mem0)) (DL.blt_mk KX G ?_ ?_ ?_ ?_ ?_ ?_ ?_ ?_ ?_ ?_ ?_ ?_ ?_ ?_ ?_ ?_ ?_ ?_ ?_)
  all_goals try k_is
  all_goals first | rfl | decide | exact ⟨rfl,rfl,rfl,by decide +kernel⟩ | exact DL.on2 (fun _ _=>rfl) | exact DL.on3 (fun _ _ _=>rfl)
