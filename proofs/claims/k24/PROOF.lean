import PyProof.Rows.All
import Wide.All
import OpenK.AllK
import Wide.FinOn
import Lean
import PyProof.EqAt
import PyProof.EqKinds
import PyProof.TupleCall
import PySem.Challenge.RW_widelines_k24_whole_area_to_the_left_alo
inductive PySem.W.Fast|tw6959201421321563908|tw9491085992079778225|tw17666309834769011240|tw10996532833717408204|tw11418441343920901462|tw9626548798011390340|tw11081551437442503919|tw14797470478227812850|tw13591111483449922250|tw6150420843483124424|tw2476059494969208313|tw12305337653264852705|tw13942027761368488993|tw11237363679009475146|tw101294479444491402|tw14889841556354171275|tw6241234539671823547|tw17994758879040388319|tw15352436149376554932|tw2728214217558676441|tw14030603808524782311|tw2580938666909477866|tw12757394562424435452|tw1128544963753892982|tw11453464083203990239|tw1641960105839337955|tw4496768795420099373|tw3849504422358794326|tw1585744050744122706|tw3534658453579391798|tw3021001207449036265|tw12499228890537457213|tw5674966270835728781|tw14617609910047921838|tw6650238123072330634|tw11185329225298953063|tw2508229097927330074|tw153650125814023633|tw14275027470066633454|tw10941043487705982363|tw5506527614586946774|tw14792333453890378440|tw14337069654206352109|tw15775705926308783719|tw12501115945913763657|tw12854662180791656509|tw17946213948945373064|tw17420713413112059674|tw2323578035587952043|tw154983922723887384|tw7424093225298217742|tw16449603763457255753|tw13909151269703100541|tw611312195106089910|tw11281346509328789909|tw13729834704449636069|tw18270871668538497391|tw14795006989790751836|tw4664535184722150987|tw6916966897988355553|tw8015240680227054994|tw12809651771619916316|tw17414650497043891245|tw9897292487413581700|tw9336785735899616814|tw1798323022881996988|tw5468715955570998370|tw10848338960265503775|tw4331478942214186984|tw11013297416705462312|tw1239576538522005016|tw1161740601769614460|tw1273275857619386933|tw11241861734141412452|tw10089971915174804117|tw14113572947322954683|tw554845687070021122|tw17492472544177817494|tw12250024368770375943|tw7307795493332499499|tw16053408850367943314|tw7063433102377244392|tw13194008775808471557|tw2638613795274351105|tw3283456629039546676|tw13494743423501982419|tw4273267836261380629|tw17288019120593258041|tw5603918477530803260|tw10088882825429544553|tw13031653132984497973|tw1663593837448152219|tw10327420779432431731|tw7390556070558407379|tw10389349786849723396|tw15943714664412306519|tw8198835444689380551|tw3127705454172669155|tw17613185928663352549|tw8390081089814036449|tw1414636993803586467|tw16420165663986419919|tw6430238277611343426|tw16914479008946492447|tw16461446184030555101|tw15484561499455684592|tw11647519644687995299|tw12609888246230483340|tw9390105022147550967|tw12971713390389286655|tw15710858933684537038|tw6372885852027723595|tw12983388485182028905|tw7901096469580318733|tw7837190034110548963|tw6528143981711166979|tw12756708557654950951|tw12611390811990168766|tw10603975503078107545|tw17445813634001775514|tw17503316776937578747|tw16652169591979049648|tw8340423518570732238|tw9219379614718383681|tw229726634737717334|tw9690577004162348757|tw4606550978317083659|tw1863416450819824946|tw14876177829093825768|tw8649666134561848433|tw16073247346094309316|tw8545570144338268067|tw8514740520972783144|tw842060021840409439|tw8090187074896534938|tw7988281024187181342|tw7732774478982703733|tw7374345278314404994|tw6389172417001691074|tw6361202962977890141|tw5634395345191516101|tw5376337460084213408|tw4737051263686262980|tw4413774751862538090|tw3442737526214051345|tw3247272194490988606|tw2542878393823292738|tw18174383471698008638|tw17951565617155122357|tw16783497023360505236|tw16597350543674668431|tw15193247470356804989|tw14853116561679841003|tw1450489137145101541|tw13936601477223550472|tw13906051318445191303|tw138613669226936658|tw12738687427859869765|tw1170783938183549146|tw11055376109015583545|tw14492595219476883351|tw12652061211470081916|tw7937221675136130190|tw7469176042676899226|tw5318266262067880915|tw4635322766563479495|tw4232567713714687436|tw2482225931187186717|tw11721835895634696113|tw6492928710467284543|tw15624077114348220413|tw8499932666395157890|tw6419997623756101960|tw14839316791872686492|tw7059699699118236801|tw17633203035148587261|tw6781986588283718428|tw9955826772040315525|tw9861687292917140323|tw8800162023567646747|tw8502339873807969468|tw8228534288695335961|tw8034762235894501739|tw7949895221890686097|tw7898091736895163822|tw7761322937105130691|tw7731924131336023746|tw7615818140036547301|tw7501570225497801224|tw7195530997146054169|tw697959730163273446|tw693207023447465858|tw6772694328716608466|tw558497330627592673|tw5568461772317516591|tw551088105086013308|tw5502389798477402482|tw4635038779459365148|tw4240857426863099233|tw3982046098769999717|tw3775975092142198687|tw3771968866903086089|tw3763907547049746719|tw3679887948789972644|tw3555853782739784007|tw3465793085996545463|tw3208648700085767029|tw3164023331019876986|tw3083297422410909438|tw2715389937461287539|tw2480433053748849294|tw2222201475217863984|tw1834065412624700052|tw18221417807540376233|tw1817162470399817255|tw18148084271729067634|tw17792223615701555668|tw17515554823993761252|tw17178796744127571839|tw17041112604330244720
local macro_rules | `(tactic| omega) => `(tactic| first | with_reducible assumption | decide | omega +splitMinMax)
theorem PySem.W.Fast.te9491085992079778225 : True := True.intro
set_option Elab.async false
set_option linter.all false
set_option maxRecDepth 100000
set_option bootstrap.genMatcherCode false
set_option genSizeOf false
set_option autoImplicit true
set_option relaxedAutoImplicit true
set_option maxHeartbeats 4000000
noncomputable section
section
set_option compiler.extract_closed false
set_option hygiene false in
local macro_rules | `(tactic|simp! [$a,*])=>`(tactic|simp[A1,A6,B2,C2,C3,C6,C7,D0,D3,Od,Oe,a0,a7,b9,d8,dB,dC,dL,dV,e7,f6,i8,i9,j5,k9,l7,o0,o6,o7,one,p7,p8,p9,t6,u4,u5,u6,u7,u8,v4,w8,$a,*])
set_option hygiene false in
local macro_rules | `(tactic|simp! [])=>`(tactic|simp[A1,A6,B2,C2,C3,C6,C7,D0,D3,Od,Oe,a0,a7,b9,d8,dB,dC,dL,dV,e7,f6,i8,i9,j5,k9,l7,o0,o6,o7,one,p7,p8,p9,t6,u4,u5,u6,u7,u8,v4,w8])
set_option hygiene false in
local macro_rules | `(tactic|simp! only [$a,*])=>`(tactic|simp[B2,C3,C7,L9,Od,Oe,P0,R0,R5,V4,a0,a7,aA,b9,bG,d8,dB,dC,dL,dQ,dV,e7,f6,f8,i8,i9,iZ,j5,k9,l7,o0,o7,one,p7,p9,u6,u7,$a,*])
set_option hygiene false in
local macro_rules | `(tactic|simp! only [])=>`(tactic|simp[B2,C3,C7,L9,Od,Oe,P0,R0,R5,V4,a0,a7,aA,b9,bG,d8,dB,dC,dL,dQ,dV,e7,f6,f8,i8,i9,iZ,j5,k9,l7,o0,o7,one,p7,p9,u6,u7])
local macro_rules | `(∅)=>`(by omega)
local macro_rules | `(#v[$a,*])=>`(List.toArray [$a,*])
local macro_rules | `(#[])=>`(by decide) | `(#[$a,*])=>`(⟨$a,*⟩)
def cn:=@PySem.wpAny_bind
def fx:=@if_pos
def fI:=@if_neg
def gV:=@PySem.wpAny_pure
def iO:=@List.mem_cons
def iR:=@List.mem_cons_self
def iU:=@List.mem_cons_of_mem
def td:=@Option.bind_some
def tx:=@Nat.le_refl
def xo:=@List.length_map
def xr:=@Rat.mul_pos
def xu:=@Ne.symm
def Ie:=@Rat.mul_nonneg
def Ig:=@PySem.Heap.lt_size
def Ih:=@Rat.intCast_mul
def Ii:=@PySem.Heap.get?_push_of_some
def Ij:=@Nat.le_trans
def Ik:=@List.mem_map
def Il:=@Prod.ext
def Im:=@Rat.not_lt
def Io:=@Bool.false_ne_true
def Iq:=@Bool.and_eq_true
def Ir:=@Nat.ne_of_lt
def Iu:=@List.length_cons
def Iv:=@List.map_cons
def Iw:=@Prod.mk.injEq
def Iy:=@Nat.lt_of_lt_of_le
def Iz:=@List.size_toArray
def IA:=@List.mem_singleton
def IB:=@Rat.mul_eq_zero
def IC:=@if_true
def ID:=@PySem.Heap.get?_push_size
def IE:=@List.nodup_cons
def IG:=@if_false
def IH:=@decide_eq_true
def II:=@Rat.le_of_lt
def IJ:=@List.mem_append
def IK:=@List.getElem?_eq_some_iff
def IL:=@List.length_drop
def IM:=@Rat.not_le
def IQ:=@List.length_append
def IT:=@List.getElem?_map
def IU:=@PySem.wpAny_field
def IV:=@Nat.mod_lt
def IW:=@Bool.false_eq_true
def IY:=@List.not_mem_nil
def IZ:=@PySem.W.mg_none_of
def Ja:=@Nat.lt_of_le_of_lt
def Jb:=@decide_eq_true_iff
def Jc:=@decide_eq_false
def Jd:=@PySem.wpAny_mono
def Je:=@PySem.wpAny_call_entry
def Jf:=@Option.some.injEq
def Jg:=@List.getElem?_eq_getElem
def Jh:=@or_false
def Ji:=@Rat.div_def
def Jj:=@Option.some.inj
def Jk:=@Rat.lt_irrefl
def Jl:=@List.mem_flatMap
def Jm:=@Rat.div_mul_cancel
def Jn:=@List.pairwise_cons
def Jo:=@PySem.F.slot_zip_next
def Jp:=@Classical.byContradiction
def Jq:=@List.mem_filter
def Jr:=@Nat.ne_of_gt
def Js:=@Bool.and_self
def Jt:=@PySem.wpAny_holding
def Ju:=@List.mem_of_getElem?
def Jv:=@PySem.wpAny_seqItems
def Jw:=@PySem.PassesOwn.never
def Jx:=@PySem.wpAny_rule
def Jy:=@List.mem_append_right
def Jz:=@List.length_take
def JA:=@PySem.wpAny_callSpecial?_slot
def JB:=@List.set_cons_succ
def JC:=@of_decide_eq_true
def JD:=@List.mem_range
def JE:=@PySem.wpAny_newObj_type
def JF:=@Nat.zero_le
def JG:=@Bool.eq_iff_iff
def JH:=@Int.toNat_natCast
def JI:=@List.all_eq_true
def JJ:=@List.length_nil
def JK:=@Bool.not_eq_true'
def JL:=@Rat.intCast_sub
def JM:=@PySem.Heap.get?_update_self
def JN:=@List.map_append
def JO:=@Rat.intCast_add
def JP:=@Nat.add_mod
def JQ:=@Nat.lt_irrefl
def JR:=@List.append_nil
def JS:=@List.of_mem_zip
def JT:=@PySem.Heap.get?_update_other
def JU:=@Nat.add_comm
def JV:=@Nat.mod_eq_of_lt
def JW:=@PySem.wpAny_Call_Name_kw
def JX:=@PySem.wpAny_setField_rec
def JY:=@not_or
def JZ:=@PySem.wpAny_attempt
def Ka:=@Array.getElem?_eq_getElem
def Kb:=@List.getElem?_of_mem
def Kc:=@Rat.divInt_eq_div
def Kd:=@Rat.intCast_neg
def Ke:=@Rat.zero_mul
def Kf:=@List.getElem?_drop
def Kg:=@Rat.le_refl
def Kh:=@Rat.mul_zero
def Ki:=@Nat.add_mod_right
def Kj:=@Bool.eq_false_iff
def Kk:=@List.any_eq_true
def Kl:=@List.getElem?_set_ne
def Km:=@PySem.wpAny_passesOwn
def Kn:=@PyProof.Rows.callWith_type1
def Ko:=@List.replicate_succ
def Kp:=@Option.bind_eq_some_iff
def Kq:=@Nat.sub_zero
def Kr:=@PySem.wpAny_updateSeq
def Ks:=@Nat.min_eq_left
def Kt:=@List.mem_of_mem_drop
def Ku:=@List.any_cons
def Kv:=@Nat.mod_add_mod
def Kw:=@PySem.wpAny_truthy_bool
def Kx:=@List.getElem?_append_right
def Ky:=@PyProof.Rows.slot_tuple_getitem
def Kz:=@List.map_nil
def KA:=@PySem.Heap.size_push
def KC:=@Nat.min_le_left
def KD:=@PySem.SeqAt.canLay_of_shaped
def KG:=@List.forIn_cons
def KH:=@PySem.F.entry_zip_next
def KI:=@PySem.F.args_zip_next_1
def KJ:=@PySem.wpAny_isInstance
def KL:=@PySem.F.slot_zip_iter
def KN:=@List.map_map
def KO:=@List.getElem_mem
def KP:=@Rat.intCast_eq_zero_iff
def KQ:=@Int.ofNat_dvd
def KR:=@Int.eq_ofNat_of_zero_le
def KS:=@Int.mul_le_mul_of_nonneg_left
def KU:=@List.takeWhile_append_dropWhile
def KW:=@List.map_drop
def KY:=@List.length_zip
def KZ:=@Rat.mul_assoc
def La:=@Nat.zero_add
def Lb:=@List.flatMap_cons
def Lc:=@Int.mul_pos
def Ld:=@Int.mul_one
def Le:=@PySem.mem_of_lookup
def Lf:=@List.getElem?_append_left
def Lg:=@List.getElem?_take_of_lt
def Lh:=@PySem.wpAny_typeOf
def Li:=@List.flatten_cons
def Lj:=@List.drop_zero
def Lk:=@Bool.not_true
def Ll:=@List.forIn_nil
def Lm:=@PySem.wpAny_letGo
def Ln:=@PySem.F.plain_extend_loop
def Lo:=@Bool.or_false
def Lp:=@PySem.wpAny_specialOf
def Lq:=@Array.getElem?_eq_none
def Lr:=@Nat.min_eq_right
def Ls:=@List.getElem?_zip_eq_some
def Lu:=@PySem.F.slot_dict_keyiterator_next
def Lv:=@Bool.true_and
def Lw:=@Bool.beq_eq_decide_eq
def Lx:=@Int.natAbs_neg
def Ly:=@Int.natCast_mul
def Lz:=@Int.mul_comm
def LA:=@List.mem_of_mem_take
def LB:=@List.take_append_drop
def LC:=@List.take_of_length_le
def LD:=@Rat.mul_one
def LF:=@Rat.inv_pos
def LG:=@decide_eq_true_eq
def LH:=@List.any_eq_false
def LI:=@Nat.le_of_lt
def LJ:=@List.filterMap_cons
def LK:=@List.getElem?_set_self
def LL:=@PySem.wpAny_execs_nil
def LM:=@PySem.wpAny_standAt
def LN:=@List.append_assoc
def LO:=@List.nil_append
def LP:=@Nat.le_of_not_lt
def LQ:=@Nat.le_of_eq
def LR:=@List.set_cons_zero
def LS:=@List.nodup_nil
def LU:=@PySem.F.slot_tuple_iterator_next
def LV:=@PySem.wpAny_setField
def LX:=@PySem.Heap.SameBut.update
def LY:=@PySem.Obj.data_mapFields
def Ma:=@PySem.wpAny_onRaise
def Mb:=@PySem.isSubtype_stop
def Mc:=@List.nodup_append
def Md:=@List.mem_iff_getElem?
def Me:=@PySem.wpAny_pyIter_slot
def Mf:=@PySem.W.mg_of
def Mg:=@PySem.wpAny_typeNameOfWhole_keyiter
def Mh:=@PySem.wpAny_typeNameOf_keyiter
def Mi:=@PySem.F.slot_tuple_hash
def Mj:=@Nat.add_assoc
def Mk:=@List.cons.injEq
def Ml:=@Int.fmod_eq_emod_of_nonneg
def Mm:=@Int.natAbs_mul
def Mn:=@Nat.gcd_comm
def Mo:=@Bool.and_true
def Mp:=@Rat.mul_inv_cancel
def Mq:=@Int.fdiv_eq_ediv_of_nonneg
def Mr:=@List.length_range
def Ms:=@decide_eq_decide
def Mt:=@Nat.div_add_mod
def Mu:=@Nat.mul_le_mul_left
def Mv:=@Int.mul_neg
def Mw:=@beq_eq_false_iff_ne
def Mx:=@Array.length_toList
def My:=@List.mem_filterMap
def Mz:=@PySem.noFill_tuple_add
def MA:=@PySem.F.slot_tuple_add
def MB:=@PySem.F.entry_tuple_add
def MC:=@PySem.F.args_tuple_add_2
def MD:=@List.length_singleton
def ME:=@Option.map_some
def MF:=@Option.map_eq_some_iff
def MG:=@List.cons_append
def MH:=@List.Sublist.refl
def MI:=@List.ext_getElem?
def MJ:=@PySem.wpAny_updateSeq_pair
def MK:=@PySem.F.entry_zip_iter
def ML:=@PySem.F.args_zip_iter_1
def MM:=@List.pairwise_map
def MN:=@List.length_zipWith
def MO:=@PySem.wpAny_dictEntries
def MP:=@PySem.wpAny_dictEpoch
def MQ:=@PySem.wpAny_tupleItemsOf
def MR:=@PySem.wpAny_forIn_list
def MS:=@PySem.F.slot_tuple_eq
def MT:=@PySem.tupleKind_room_in1
def MU:=@Nat.pow_le_pow_right
def MV:=@Int.gcd_dvd_right
def MW:=@Nat.pow_succ
def MX:=@Rat.intCast_inj
def MY:=@Rat.mul_pos_iff_of_pos_left
def MZ:=@Int.mul_nonneg
def Na:=@Bool.or_eq_true
def Nb:=@Rat.le_total
def Nc:=@List.dropWhile_subset
def Nd:=@List.takeWhile_cons
def Nf:=@List.zip_map
def Ng:=@List.map_take
def Nh:=@Int.zero_add
def Ni:=@List.getElem?_eq_none
def Nj:=@List.ne_nil_of_mem
def Nk:=@List.Pairwise.map
def Nl:=@Int.mul_zero
def Nm:=@List.any_nil
def Nn:=@PySem.W.cellsFrom_some
def Np:=@Option.isSome_iff_exists
def Nq:=@List.length_replicate
def Nr:=@List.sublist_cons_self
def Nu:=@List.getElem?_cons_succ
def Nv:=@List.drop_eq_nil_of_le
def Nw:=@List.eq_nil_iff_forall_not_mem
def Nx:=@PyProof.Rows.eq_dataH
def Ny:=@PySem.F.entry_tuple_iterator_next
def Nz:=@PySem.F.args_tuple_iterator_next_1
def NA:=@PySem.F.entry_extend_loop
def NB:=@PySem.F.typeCall_list_1
def NC:=@PySem.F.entry_list_init
def ND:=@PySem.F.args_list_init_2
def NF:=@PyProof.Rows.zipApart_new
def NG:=@List.getElem?_zipWith
def NH:=@List.zipWith_nil_left
def NI:=@List.eq_nil_of_length_eq_zero
def NJ:=@List.zipWith_nil_right
def NK:=@List.zipWith_cons_cons
def NL:=@PySem.F.slot_dict_iter
def NM:=@PySem.F.entry_dict_keyiterator_next
def NO:=@PySem.F.args_dict_keyiterator_next_1
def NP:=@Int.gcd_pos_of_ne_zero_right
def NQ:=@Nat.div_eq_of_eq_mul_right
def NR:=@Nat.div_le_iff_le_mul_add_pred
def NS:=@List.drop_of_length_le
def NT:=@Int.natAbs_ediv_le_natAbs
def NU:=@Int.mul_le_mul_of_nonneg_right
def NV:=@List.length_filterMap_le
def NW:=@List.filter_cons_of_pos
def NX:=@List.filter_cons_of_neg
def NY:=@List.length_filter_le
def NZ:=@List.takeWhile_cons_of_pos
def Oa:=@List.takeWhile_cons_of_neg
def Ob:=@List.exists_cons_of_ne_nil
def Oc:=@decide_eq_false_iff_not
abbrev vQ_:=PySem.Value→PySem.Shared→Prop
abbrev vF_:=PySem.W.Frag
abbrev vP_:=List (PySem.Addr × PySem.Obj)
abbrev vA_:=Option PySem.Addr
abbrev vL_:=List PySem.Addr
abbrev vV_:=List PySem.Value
abbrev vG_:=PySem.Str→Option PySem.Value
abbrev vR_:=Array PySem.Value
abbrev vB_:=PySem.Addr→Prop
abbrev vS_:=Array (Option PySem.Value)
variable {k i n j t':Nat}{s:PySem.Shared}{es ifs elts rest:List PySem.Expr}{pins:vP_}{x qual:PySem.Str}{A:PySem.Around}{e tg iter c elt:PySem.Expr}{fa fa':vA_}{cl:List (PySem.Str × PySem.Addr)}{h base h':PySem.Heap}{idx:List Nat}{N:vB_}{E:vQ_}{scope:PySem.Scope}{Q:Option PySem.Value->PySem.Shared->Prop}{fd:PySem.FuncData}{prog q:PySem.Program}{XP:(PySem.Str->Option PySem.Value)->PySem.Heap->Prop}{mg:vG_}{O ch fp:vL_}{body:List PySem.Stmt}{l S:PySem.Addr}{pos' p2 p1:PySem.Pos}{G:Prop}{ns is:List Int}{N' caps loose:List PySem.Str}{YP:PySem.World->PySem.Heap->Prop}{us its:vV_}{items:vR_}{y:Int}{g':Array PySem.GenState}{osl:vS_}
namespace L2
open PySem PySem.Spec PyProof.Rows
abbrev A8:=Sum Int Str
def cV:A8->Value->Bool
 |.inl k,v=>Value.isInt k v
 |.inr x,v=>Value.isStrOf x v
def DW (w:World):A8->Int
 |.inl k=>hashInt k
 |.inr x=>hashStr w x
def Z5:∀{k:A8}{v:Value},cV k v=true->(∃i t,k=Sum.inl i/\v=Value.int i t)\/(∃x t,k=Sum.inr x/\v=Value.str x t)
 |.inl i,v,h=>by
  obtain⟨t,e⟩:=Value.isInt_shape (k:=i) (v:=v) h;exact .inl #[i,t,rfl,e]
 |.inr x,v,h=>by
  obtain⟨t,e⟩:=Value.isStrOf_shape (x:=x) (v:=v) h;exact .inr #[x,t,rfl,e]
def AF (i:Int) (t:Tok):cV (.inl i) (.int i t)=true:=by simp[cV,Value.isInt]
def Ev (x:Str) (t:Tok):cV (.inr x) (.str x t)=true:=by simp[cV,Value.isStrOf]
def Ar (a b:Int):decide ((Sum.inl a:A8)=Sum.inl b)=(a == b):=by
 by_cases e:a=b
 .subst e;simp
 .have h:¬ (Sum.inl a:A8)=Sum.inl b:=fun q=>e (Sum.inl.inj q)
  rw[Jc h];exact(Mw.mpr e).symm
def Ak (a b:Str):decide ((Sum.inr a:A8)=Sum.inr b)=decide (a=b):=by
 by_cases e:a=b
 .subst e;simp
 .have h:¬ (Sum.inr a:A8)=Sum.inr b:=fun q=>e (Sum.inr.inj q)
  rw[Jc h,Jc e]
def Hm (a:Int) (b:Str):decide ((Sum.inl a:A8)=Sum.inr b)=false:=Jc (fun q=>nomatch q)
def FD (a:Str) (b:Int):decide ((Sum.inr a:A8)=Sum.inl b)=false:=Jc (fun q=>nomatch q)
def Q2 (prog:Program) (w:World):PySem.KeyKind prog w A8 where
 is:=cV
 hash:=DW w
 inj:=fun v a b ha hb=>by
  rcases Z5 ha with ⟨i,t,rfl,rfl⟩ | ⟨x,t,rfl,rfl⟩
  .rcases Z5 hb with ⟨j,u,rfl,e⟩ | ⟨y,u,rfl,e⟩
   .injection e with e1 _;rw[e1]
   .exact nomatch e
  .rcases Z5 hb with ⟨j,u,rfl,e⟩ | ⟨y,u,rfl,e⟩
   .exact nomatch e
   .injection e with e1 _;rw[e1]
 byValue:=fun k v h=>by
  rcases Z5 h with ⟨i,t,rfl,rfl⟩ | ⟨x,t,rfl,rfl⟩ <;> rfl
 pyHash:=fun B h=>by
  rcases Z5 B with ⟨i,t,rfl,rfl⟩ | ⟨x,t,rfl,rfl⟩
  .exact wpAny_pyHash_int h
  .exact wpAny_pyHash_str h
 eqBool:=fun J B h=>by
  rcases Z5 J with ⟨i,t,rfl,rfl⟩ | ⟨x,t,rfl,rfl⟩
  .rcases Z5 B with ⟨j,u,rfl,rfl⟩ | ⟨y,u,rfl,rfl⟩
   .rw[Ar] at h;exact wpAny_eqBool_int h
   .rw[Hm] at h;exact SeqAt.EqAt.int_str i t y u _ _ _ _ h
  .rcases Z5 B with ⟨j,u,rfl,rfl⟩ | ⟨y,u,rfl,rfl⟩
   .rw[FD] at h;exact SeqAt.EqAt.str_int x t j u _ _ _ _ h
   .rw[Ak] at h;exact wpAny_eqBool_str h
 «strs»:=fun k x t v h=>by
  rcases Z5 h with ⟨i,u,rfl,e⟩ | ⟨y,u,rfl,e⟩
  .exact nomatch e
  .injection e with e1 _;subst e1;cases v <;> rfl
def yi (prog:Program) (w:World) (i:Int) (t:Tok):(Q2 prog w).is (.inl i) (.int i t)=true:=AF i t
def BW (prog:Program) (w:World) (x:Str) (t:Tok):(Q2 prog w).is (.inr x) (.str x t)=true:=Ev x t
inductive V where
 | non | bl (b:Bool) | int (i:Int) | str (x:Str) | byt (b:Array UInt8) | flt (b:UInt64) | ref (a:Addr) | ty (n:String)
 deriving DecidableEq
variable {xs ys:List V}{f':Int->Int->V}
def RelV:V->Value->Prop
 |.non,u=>u=Value.none
 |.bl b,u=>u=Value.bool b
 |.int i,u=>∃t,u=Value.int i t
 |.str x,u=>∃t,u=Value.str x t
 |.byt b,u=>∃t,u=Value.bytes b t
 |.flt b,u=>∃t,u=Value.float b t
 |.ref a,u=>u=Value.ref a
 |.ty n,u=>u=Value.type n
abbrev Vals:List V->List Value->Prop:=Paired RelV
theorem Vals.length (r:Vals xs us):xs.length=us.length:=Paired.length r
theorem Vals.get:∀{xs:List V}{us:vV_}{i:Nat}{x:V},Vals xs us->xs[i]? = some x->∃u,us[i]? = some u/\RelV x u
 |_,_,_,_,.nil,e=>by simp at e
 |_,_,0,_,.cons r _,e=>by simp at e;subst e;exact#[_,rfl,r]
 |_,_,i+1,x,.cons _ t,e=>by
  obtain⟨u,h1,h2⟩:=Vals.get (i:=i) (x:=x) t (by simpa using e);exact#[u,by simpa using h1,h2]
theorem Vals.set {x:V}(r:RelV x u):∀{xs:List V}{us:vV_}(i:Nat),Vals xs us->Vals (xs.set i x) (us.set i u)
 |_,_,_,.nil=>.nil
 |_,_,0,.cons _ t=>.cons r t
 |_,_,i+1,.cons q t=>.cons q (Vals.set r i t)
def Vals.append:∀{xs ys:List V}{us ws:vV_},Vals xs us->Vals ys ws->Vals (xs++ys) (us++ws):=by
 intro xs ys us ws h s;induction h with
 |nil=>exact s
 |cons r t B=>exact .cons r B
theorem Vals.take:∀{xs:List V}{us:vV_}(n:Nat),Vals xs us->Vals (xs.take n) (us.take n)
 |_,_,0,_=>.nil
 |_,_,_+1,.nil=>.nil
 |_,_,n+1,.cons r t=>.cons r (Vals.take n t)
theorem Vals.drop:∀{xs:List V}{us:vV_}(n:Nat),Vals xs us->Vals (xs.drop n) (us.drop n)
 |_,_,0,r=>r
 |_,_,_+1,.nil=>.nil
 |_,_,n+1,.cons _ t=>Vals.drop n t
def pW:Option V->Option Value->Prop
 |some v,some u=>RelV v u
 |none,none=>True
 |_,_=>False
def KV {κ:Type}:List (κ × V)->List (κ × Value)->Prop:=Paired fun (p:κ × V) (q:κ × Value)=>p.1=q.1/\RelV p.2 q.2
def kV:A8->V
 |.inl i=>.int i
 |.inr x=>.str x
inductive HO where
 | lst (xs:List V)
 | tup (xs:List V)
 | dK (kvs:List (A8 × V)) | dT (kvs:List (List A8 × V))
 | set (S:Int->Bool) (n:Nat)
 | ins (C dx:Addr) (fs:List (Str × V))
 | own (x:Addr)
 | xd (fs:List (Str × V))
 | met (f x:Addr)
 | rng (lo hi:Int)
 | frz (o:Obj) (u:HO)
 | tbl (ps:vR_)
 | ext (φ:Heap->Prop)
abbrev Hp:=Addr->Option HO
variable {H H':Hp}
def f9 (H:Hp) (a:Addr) (o:HO):Hp:=fun b=>if b=a then some o else H b
def v8 {o:HO}:f9 H a o a=some o:=by unfold f9;rw[fx rfl]
def n9 {a b:Addr}{o:HO}(h:b≠a):f9 H a o b=H b:=by unfold f9;rw[fI h]
def ve {o u:HO}:f9 (f9 H a o) a u=f9 H a u:=by
 funext b;unfold f9;split <;> rfl
def R8 {a b:Addr}{o:HO}(h:H a=some o) (h':H b=none):a≠b:=by
 intro e;subst e;rw[h] at h';cases h'
section
variable (P:Program) (w:World)
def ObjOk (H:Hp) (h:Heap) (a:Addr):HO->Prop
 |.lst xs=>xs.length<=sizeLine/\∃(its:vV_) (n:Nat),Vals xs its/\h.get? a=some { cls:=.type "list",data:=.seq its.toArray n }
 |.tup xs=>xs.length<=sizeLine/\∃its:List Value,Vals xs its/\IsTup h a its.toArray
 |.dK kvs=>kvs.length<=sizeLine/\(a == sysModules)=false/\∃vs,KV kvs vs/\h.DictOf (Q2 P w) a vs
 |.dT kvs=>kvs.length<=sizeLine/\(a == sysModules)=false/\∃xs:List (List A8 × Addr × Value),
   Paired (fun (p:List A8 × V) (q:List A8 × Addr × Value)=>p.1=q.1/\H q.2.1=some (.tup (p.1.map kV))/\RelV p.2 q.2.2) kvs xs /\
   ∃o es ep,h.get? a=some o/\o.ExactDict/\o.data = .dict es ep/\es.toList=xs.map (entryOfKey (tupleKind (Q2 P w)))/\(xs.map (·.1)).Nodup
 |.set S n=>h.SetOf (intKind P w) a S n
 |.ins C dx fs=>H dx=some (.own a)/\fs.length<=1000/\dx≠a/\h.get? a=some (PySem.W.instObj C dx) /\
   ∃mA,h.Ns1 dx mA/\(∀f,pW (fs.lookup f) (mA f))/\PySem.Within mA (fs.map (·.1))
 |.own _=>∃o,h.get? a=some o
 |.xd fs=>∃mA,h.Ns1 a mA/\∀f,pW (fs.lookup f) (mA f)
 |.rng lo hi=>∃t u v,h.get? a=some { cls:=.type "range",data:=.fields #v[.int lo t,.int hi u,.int 1 v] }
 |.frz o u=>h.get? a=some o/\ObjOk H h a u
 |.tbl ps=>h.get? a=some { cls:=.none,data:=.fields ps }
 |.met f x=>h.get? a=some (PySem.W.methodObj (.ref f) (.ref x))
 |.ext φ=>φ h/\(∃o,h.get? a=some o)/\∀h1 h2:Heap,φ h1->(∀o,h1.get? a=some o->h2.get? a=some o)->φ h2
def HOk (H:Hp) (h:Heap):Prop:=∀a o,H a=some o->ObjOk P w H h a o
end
section
variable {P:Program}{w:World}{a:Addr}{o:HO}
theorem ObjOk.lt (x:ObjOk P w H h a o):a<h.objs.size:=by
 cases o with
 |lst xs=>obtain⟨_,_,_,_,e⟩:=x;exact Ig e
 |tup xs=>obtain⟨_,_,_,p⟩:=x;exact p.lt
 |dK B=>obtain⟨_,_,_,_,o,_,_,e,_⟩:=x;exact Ig e
 |dT B=>obtain⟨_,_,_,_,o,_,_,e,_⟩:=x;exact Ig e
 |set S n=>obtain⟨o,_,_,_,e,_⟩:=x;exact Ig e
 |ins C J fs=>obtain⟨_,_,_,e,_⟩:=x;exact Ig e
 |own y=>obtain⟨_,e⟩:=x;exact Ig e
 |xd fs=>obtain⟨_,⟨_,_,_,e,_⟩,_⟩:=x;exact Ig e
 |rng lo hi=>obtain⟨_,_,_,e⟩:=x;exact Ig e
 |frz U u=>obtain⟨e,_⟩:=x;exact Ig e
 |tbl ps=>exact Ig (show h.get? a=some _ from x)
 |met f y=>exact Ig (show h.get? a=some _ from x)
 |ext φ=>obtain⟨_,⟨_,e⟩,_⟩:=x;exact Ig e
def Paired.mapP {α β:Type}{F G:α->β->Prop}:∀{l₁:List α}{l₂:List β},Paired F l₁ l₂->(∀a b,F a b->G a b)->Paired G l₁ l₂:=by
 intro l₁ l₂ h f;induction h with
 |nil=>exact .nil
 |cons r t B=>exact .cons (f _ _ r) B
def ObjOk.stay (x:ObjOk P w H h a o) (k:∀b u,(b=a\/H b=some (.own a))->h.get? b=some u->h'.get? b=some u)
  (ho:∀b,H b=some (.own a)->H' b=some (.own a)) (ht:∀b xs,H b=some (.tup xs)->H' b=some (.tup xs)):ObjOk P w H' h' a o:=by
 induction o with
 |lst xs=>obtain⟨z,its,n,r,e⟩:=x;exact#[z,its,n,r,k _ _ (.inl rfl) e]
 |tup xs=>obtain⟨z,its,r,B,e,c⟩:=x;exact#[z,its,r,B,k _ _ (.inl rfl) e,c]
 |dK Y=>obtain⟨z,y,vs,r,B,es,ep,e,c⟩:=x;exact#[z,y,vs,r,B,es,ep,k _ _ (.inl rfl) e,c]
 |dT Y=>
  obtain⟨z,y,xs,r,B,es,ep,e,c⟩:=x;exact#[z,y,xs,Paired.mapP r fun p q z=>#[z.1,ht _ _ z.2.1,z.2.2],B,es,ep,k _ _ (.inl rfl) e,c]
 |set S n=>obtain⟨B,es,ep,t,e,c⟩:=x;exact#[B,es,ep,t,k _ _ (.inl rfl) e,c]
 |ins C dx fs=>
  obtain⟨d,z,ne,e,U,⟨J,es,ep,Z,c⟩,r⟩:=x;exact#[ho _ d,z,ne,k _ _ (.inl rfl) e,U,#[J,es,ep,k _ _ (.inr d) Z,c],r]
 |own y=>obtain⟨B,e⟩:=x;exact#[B,k _ _ (.inl rfl) e]
 |xd fs=>obtain⟨U,⟨J,es,ep,e,c⟩,r⟩:=x;exact#[U,#[J,es,ep,k _ _ (.inl rfl) e,c],r]
 |rng lo hi=>obtain⟨t,u,v,e⟩:=x;exact#[t,u,v,k _ _ (.inl rfl) e]
 |frz B u ih=>obtain⟨e,q⟩:=x;exact#[k _ _ (.inl rfl) e,ih q]
 |tbl ps=>
  have e:h.get? a=some { cls:=.none,data:=.fields ps }:=x;show h'.get? a=some { cls:=.none,data:=.fields ps };exact k a _ (.inl rfl) e
 |met f y=>
  have e:h.get? a=some (PySem.W.methodObj (.ref f) (.ref y)):=x;show h'.get? a=some (PySem.W.methodObj (.ref f) (.ref y));exact k a _ (.inl rfl) e
 |ext φ=>obtain⟨p,⟨o,e⟩,st⟩:=x;exact#[st _ _ p fun o q=>k _ _ (.inl rfl) q,#[o,k _ _ (.inl rfl) e],st]
theorem HOk.lt (x:HOk P w H h) (e:H a=some o):a<h.objs.size:=(x a o e).lt
def HOk.fresh (x:HOk P w H h) (e:h.objs.size<=a):H a=none:=by
 cases q:H a with
 |none=>rfl
 |some u=>exact absurd (Iy (x.lt q) e) (JQ _)
def HOk.kept (x:HOk P w H h) (k:∀b u,h.get? b=some u->h'.get? b=some u):HOk P w H h':=fun a o e=>
 (x a o e).stay (fun b u _ q=>k b u q) (fun _ q=>q) fun _ _ q=>q
def HOk.laid (x:HOk P w H h) (k:∀b u,h.get? b=some u->h'.get? b=some u) (hp:h.objs.size<=a) (B:ObjOk P w (f9 H a o) h' a o):HOk P w (f9 H a o) h':=fun b u e=>by
 have J:=x.fresh hp;by_cases hb:b=a
 .subst hb;rw[v8] at e;cases e;exact B
 .rw[n9 hb] at e;exact(x b u e).stay (fun c v _ q=>k c v q) (fun c q=>by rw[n9 (R8 q J)];exact q) fun c xs q=>by rw[n9 (R8 q J)];exact q
end
def Rd (H:Hp) (a:Addr) (u:HO):Prop:=H a=some u\/∃o,H a=some (.frz o u)
def Rd.ok {w:World}(r:Rd H a u) (x:HOk P w H h):ObjOk P w H h a u:=by
 rcases r with r | ⟨o,r⟩
 .exact x a u r
 .obtain⟨_,q⟩:=x a _ r;exact q
def fG:Option HO->Prop
 |some (.lst _)=>True
 |some (.dK _)=>True
 |some (.dT _)=>True
 |some (.set _ _)=>True
 |some (.ins _ _ _)=>True
 |some (.ext _)=>True
 |_=>False
section
variable {P:Program}{w:World}{x e:Addr}{o':HO}
def HOk.write (ok:HOk P w H h) (W:fG (H x)) (he:e=x\/H e=some (.own x)) (k:∀b u,b≠e->h.get? b=some u->h'.get? b=some u) (Z:∃u,h'.get? e=some u)
  (new:ObjOk P w (f9 H x o') h' x o'):HOk P w (f9 H x o') h':=fun b u q=>by
 have J:∀c y,H c=some (.own y)->c≠x:=fun c y r z=>by subst z;rw[r] at W;exact W
 have U:∀c xs,H c=some (.tup xs)->c≠x:=fun c xs r z=>by subst z;rw[r] at W;exact W
 by_cases hb:b=x
 .subst hb;rw[v8] at q;cases q;exact new
 .rw[n9 hb] at q;by_cases B:b=e
  .have q':H b=some (.own x):=by
    rcases he with z | z
    .exact absurd (B.trans z) hb
    .rw[B];exact z
   rw[q] at q';cases q';obtain⟨v,hv⟩:=Z;exact#[v,by rw[B];exact hv]
  .refine(ok b u q).stay (fun c v Y r=>k c v ?_ r) (fun c r=>by rw[n9 (J c b r)];exact r) fun c xs r=>by rw[n9 (U c xs r)];exact r
   rcases Y with rfl | Y
   .exact B
   .rintro rfl;rcases he with z | z
    .exact J c b Y z
    .rw[Y] at z;cases z;exact hb rfl
end
structure Un (fs ex:vL_) (H H':Hp) (h h':Heap):Prop where
 keep:∀b o,h.get? b=some o->H b=none->b ∉ fs->b ∉ ex->h'.get? b=some o
 slot:∀b o,h.get? b=some o->H b=none->b∈fs->b ∉ ex->∃sl,h'.get? b=some { o with slots:=sl }
 free:∀b o,h.get? b=some o->H b=none->b ∉ ex->H' b=none
 there:∀b o,h.get? b=some o->b ∉ ex->∃o',h'.get? b=some o'
 tups:∀b xs,H b=some (.tup xs)->H' b=some (.tup xs)
 frzs:∀b o u,H b=some (.frz o u)->H' b=some (.frz o u)
 tbls:∀b ps,H b=some (.tbl ps)->∃more,H' b=some (.tbl (ps++more))
section
variable {fs fs' ex ex':vL_}{H1 H2:Hp}{h1 h2:Heap}{a x e:Addr}{o:HO}
def Un.any (u:Un fs ex H H1 h h1) {b:Addr}{ob:Obj}(q:h.get? b=some ob) (n:H b=none) (B:b ∉ ex):∃sl,h1.get? b=some { ob with slots:=sl }:=by
 by_cases hb:b∈fs
 .exact u.slot b ob q n hb B
 .exact#[ob.slots,u.keep b ob q n hb B]
def Un.kept (k:∀b u,h.get? b=some u->h'.get? b=some u):Un fs ex H H h h':=
 #[fun b B q _ _ _=>k b B q,fun b B q _ _ _=>#[B.slots,k b B q],fun _ _ _ n _=>n,fun b B q _=>#[B,k b B q],fun _ _ q=>q,fun _ _ _ q=>q,fun _ ps q=>#[#v[],by rw[q];simp]]
def Un.refl:Un fs ex H H h h:=Un.kept fun _ _ q=>q
def Un.laid (k:∀b u,h.get? b=some u->h'.get? b=some u) (hp:h.objs.size<=a) (B:H a=none):Un fs ex H (f9 H a o) h h' where
 keep:=fun b u q _ _ _=>k b u q
 slot:=fun b u q _ _ _=>#[u.slots,k b u q]
 free:=fun b u q n _=>by rw[n9 (Ir (Iy (Ig q) hp))];exact n
 there:=fun b u q _=>#[u,k b u q]
 tups:=fun b xs q=>by rw[n9 (R8 q B)];exact q
 frzs:=fun b u xs q=>by rw[n9 (R8 q B)];exact q
 tbls:=fun b ps q=>#[#v[],by rw[n9 (R8 q B),q];simp]
def Un.write (J:fG (H x)) (Y:e=x\/H e=some (.own x)) (k:∀b u,b≠e->h.get? b=some u->h'.get? b=some u) (U:∃u,h'.get? e=some u):Un fs ex H (f9 H x o) h h':=by
 have W:∀b,H b=none->b≠x:=fun b n z=>by subst z;rw[n] at J;exact J
 have hb:∀b,H b=none->b≠e:=fun b n z=>by
  subst z;rcases Y with r | r
  .exact W b n r
  .rw[n] at r;cases r
 have hm:∀b u,H b=some u->¬ fG (some u)->b≠x:=fun b u q nm z=>by subst z;rw[q] at J;exact nm J
 refine#[fun b u q n _ _=>k b u (hb b n) q,fun b u q n _ _=>#[u.slots,k b u (hb b n) q],fun b u q n _=>by rw[n9 (W b n)];exact n,fun b u q _=>?_,
  fun b xs q=>by rw[n9 (hm b _ q fun z=>z)];exact q,fun b u xs q=>by rw[n9 (hm b _ q fun z=>z)];exact q,fun b ps q=>#[#v[],by rw[n9 (hm b _ q fun z=>z),q];simp]]
 by_cases B:b=e
 .subst B;exact U
 .exact#[u,k b u B q]
end
def bO (h:Heap) (H:Hp):List Addr:=(List.range h.objs.size).filter fun a=>(H a).isSome
def Z6 (h:Heap) (H:Hp):Heap:=PySem.W.hideAll h (bO h H)
def Ho (h:Heap) (H:Hp):(Z6 h H).objs.size=h.objs.size:=PySem.W.hideAll_size _ _
def Fv {b:Addr}{o:Obj}(e:h.get? b=some o) (n:H b=none):(Z6 h H).get? b=some o:=
 PySem.W.hideAll_get _ e fun hm=>by
  have q:(H b).isSome=true:=(Jq.mp hm).2;rw[n] at q;simp at q
def Ha {b:Addr}{o:Obj}(e:(Z6 h H).get? b=some o):h.get? b=some o/\H b=none:=by
 have B:h.get? b=some o:=PySem.W.of_hideAll (bO h H) e;refine#[B,?_];cases q:H b with
 |none=>rfl
 |some x=>
  have hm:b∈bO h H:=Jq.mpr #[JD.mpr (Ig B),by simp[q]];have z:(Z6 h H).get? b=none:=PySem.W.hideAll_none (bO h H) hm;rw[z] at e;cases e
structure Mod (K:vF_) (mg:vG_) (base:Heap):Prop where
 kin:K.In base
 glob:base.Ns mainGlobals mg
 blt:∃mb,base.Ns builtinsNs mb/\∀x:Str,x ≠ "__name__" -> mb x=bootBuiltins x
 nolimit:base.NoLimit
structure Cx where
 prog:Program
 w:World
 K:PySem.W.Frag
 mg:Str->Option Value
 base:Heap
 A:Around
 N:List Str
 s₀:Shared
 H₀:Hp
 env:Env
 outer:List Env
 stack:List Env
 ex:List Addr
 fn:Str->Bool
 calm:Bool
 pn:List (Addr × Obj)
 xe:Value->Shared->Prop
variable {X:Cx}
def U0 (l:List Env):List Addr:=l.filterMap (·.frame)
abbrev Cx.fs (X:Cx):List Addr:=U0 X.outer
def kI (B:Scope) (x:Str):Prop:=B.names.lookup x=some .local\/B.names.lookup x=some .cell\/B.names.lookup x=some .free
def Loc (B:Scope) (x:Str):Prop:=B.names.lookup x=some .local\/B.names.lookup x=some .cell
def xJ (B:Env) (h:Heap) (m:vG_) (x:Str) (u:Value):Prop:=
 (B.kindOf x=some .local/\m x=some u)\/((B.kindOf x=some .cell\/B.kindOf x=some .free)/\∃c,B.cells.lookup x=some c/\h.IsCell c (some u))
structure Cx.Ok (X:Cx):Prop where
 mod:Mod X.K X.mg X.base
 kind:X.env.scope.kind = .function
 glob:X.env.globals=mainGlobals
 blt:X.env.builtins=builtinsNs
 above:X.s₀.heap.objs.size<=X.env.locals
 inj:∀x y c,X.env.cells.lookup x=some c->X.env.cells.lookup y=some c->x=y
 has:∀x,(X.env.kindOf x=some .cell\/X.env.kindOf x=some .free)->∃c,X.env.cells.lookup x=some c
 cab:∀x c,X.fn x=true->X.env.cells.lookup x=some c->X.s₀.heap.objs.size<=c
 hd:X.calm=true->X.A.handled=none
 frames:X.A.frames=some X.stack
 stk:X.stack=X.outer\/(X.stack=X.env::X.outer/\X.env.frame=some X.env.locals)
 exf:∀b∈X.ex,b≠X.env.locals/\∀x c,X.env.cells.lookup x=some c->c≠b
 bs:∀b o,X.base.get? b=some o->X.s₀.heap.get? b=some o/\X.H₀ b=none
 bsz:X.base.objs.size<=X.s₀.heap.objs.size
 noex:∀b o,X.base.get? b=some o->b ∉ X.ex
 exfs:∀b∈X.ex,b ∉ X.fs
 funs:X.s₀.heap.FunFrames X.base X.outer
 frf:∀b∈X.fs,X.H₀ b=none
structure Inv (X:Cx) (pins:vP_) (σ:List (Option V)) (H:Hp) (s:Shared):Prop where
 ok:X.Ok
 os:s.os=X.s₀.os
 bare:AllBare s.gens
 base:Un X.fs X.ex X.H₀ H X.s₀.heap s.heap
 loc:∃m,s.heap.Ns X.env.locals m/\∀(i:Nat) (x:Str) (v:V),X.N[i]? = some x->σ[i]? = some (some v)->kI X.env.scope x->∃u,RelV v u/\xJ X.env s.heap m x u
 cell:∀x c,X.env.cells.lookup x=some c->∃v,s.heap.IsCell c v
 free:H X.env.locals=none
 freeC:∀x c,X.env.cells.lookup x=some c->H c=none
 pin:∀p∈X.pn++pins,s.heap.get? p.1=some p.2/\H p.1=none/\p.1≠X.env.locals/\p.1 ∉ X.fs/\∀v,p.2.data ≠ .cell v
 hok:HOk X.prog X.w H s.heap
 len:σ.length=X.N.length
section
variable {σ:List (Option V)}
def Cx.Ok.nofr (B:X.Ok) {b:Addr}{o:Obj}(e:X.base.get? b=some o):b ∉ X.fs:=fun hb=>by
 have:=(B.funs.mem hb).1;rw[e] at this;cases this
theorem Inv.bs (I:Inv X pins σ H s):∀b o,X.base.get? b=some o->s.heap.get? b=some o/\H b=none:=fun b o e=>
 #[I.base.keep b o (I.ok.bs b o e).1 (I.ok.bs b o e).2 (I.ok.nofr e) (I.ok.noex b o e),I.base.free b o (I.ok.bs b o e).1 (I.ok.bs b o e).2 (I.ok.noex b o e)]
def Inv.bk (I:Inv X pins σ H s):∀b o,X.base.get? b=some o->s.heap.get? b=some o:=fun b o e=>(I.bs b o e).1
theorem Inv.mod (I:Inv X pins σ H s):Mod X.K X.mg X.base:=I.ok.mod
def Inv.kIn (I:Inv X pins σ H s):X.K.In s.heap:=I.ok.mod.kin.keeps I.bk
theorem Inv.lt (I:Inv X pins σ H s):X.env.locals<s.heap.objs.size:=let ⟨_,hn,_⟩:=I.loc;hn.lt
def Inv.sz (I:Inv X pins σ H s):X.s₀.heap.objs.size<=s.heap.objs.size:=Ij I.ok.above (LI I.lt)
def Inv.nofs (I:Inv X pins σ H s) (h:s.heap.objs.size<=a):a ∉ X.fs:=fun hb=>by
 obtain⟨_,o,B,_⟩:=I.ok.funs.mem hb;exact absurd (Iy (Ig B) (Ij I.sz h)) (JQ _)
def Inv.cne (I:Inv X pins σ H s):∀x c,X.env.cells.lookup x=some c->c≠X.env.locals:=fun x c e z=>by
 obtain⟨v,o,W,U⟩:=I.cell x c e;obtain⟨m,⟨o',es,ep,B,J,_⟩,_⟩:=I.loc;rw[z,B] at W;cases W;rw[J] at U;cases U
theorem Inv.funs (I:Inv X pins σ H s):s.heap.FunFrames X.base X.outer:=by
 have U:∀(l:List Env),(∀b∈U0 l,b∈X.fs)->X.s₀.heap.FunFrames X.base l->s.heap.FunFrames X.base l:=by
  intro l;induction l with
  |nil=>intro _ _;trivial
  |cons env r Y=>
   intro hs hl;obtain⟨hk,⟨L,o,J,Z,ho,W⟩,hr⟩:=hl;have B:L∈X.fs:=hs L (by unfold U0;rw[LJ,J];exact iR);obtain⟨sl,e⟩:=I.base.slot L o ho (I.ok.frf L B) B fun z=>I.ok.exfs L z B
   exact#[hk,#[L,_,J,Z,e,W],Y (fun b hb=>hs b (by unfold U0;rw[LJ,J];exact iU _ hb)) hr]
 exact U X.outer (fun _ hb=>hb) I.ok.funs
theorem Inv.stack (I:Inv X pins σ H s):s.heap.FunFrames X.base X.stack:=by
 rcases I.ok.stk with e | ⟨e,hf⟩
 .rw[e];exact I.funs
 .rw[e];obtain⟨m,B,_⟩:=I.loc;refine .cons (by rw[I.ok.kind];decide) hf B ?_ I.funs;exact Heap.get?_none_of_le (Ij I.ok.bsz I.ok.above)
def Inv.stkSub (I:Inv X pins σ H s):∀b∈U0 X.stack,b∈X.env.locals::X.fs:=fun b hb=>by
 rcases I.ok.stk with e | ⟨e,hf⟩
 .rw[e] at hb;exact iU _ hb
 .rw[e] at hb;unfold U0 at hb;rw[LJ,hf] at hb;exact hb
def Inv.stkFree (I:Inv X pins σ H s):∀b∈U0 X.stack,H b=none:=fun b hb=>by
 rcases iO.mp (I.stkSub b hb) with e | hb
 .rw[e];exact I.free
 .obtain⟨_,o,B,_⟩:=I.ok.funs.mem hb;exact I.base.free b o B (I.ok.frf b hb) fun z=>I.ok.exfs b z hb
def Inv.step {g':Array GenState}{t':Nat}{ch:vL_}(I:Inv X pins σ H s)
  (U:∀b∈ch,(b∈X.ex\/X.s₀.heap.objs.size<=b)/\b≠X.env.locals/\(∀x c,X.env.cells.lookup x=some c->c≠b)/\∀p∈X.pn++pins,p.1≠b)
  (keep:∀b o,b≠X.env.locals->b ∉ X.fs->b ∉ ch->s.heap.get? b=some o->H b=none->h'.get? b=some o)
  (slot:∀b o,b≠X.env.locals->b∈X.fs->b ∉ ch->s.heap.get? b=some o->H b=none->∃sl,h'.get? b=some { o with slots:=sl }) (free:∀b o,b ∉ ch->s.heap.get? b=some o->H b=none->H' b=none)
  (there:∀b o,b ∉ ch->s.heap.get? b=some o->∃o',h'.get? b=some o')
  (tups:∀b xs,H b=some (.tup xs)->H' b=some (.tup xs)) (frzs:∀b o u,H b=some (.frz o u)->H' b=some (.frz o u)) (tbls:∀b ps,H b=some (.tbl ps)->∃more,H' b=some (.tbl (ps++more)))
  (ns:∀m,s.heap.Ns X.env.locals m->h'.Ns X.env.locals m) (hok:HOk X.prog X.w H' h') (hg:AllBare g') :
  Inv X pins σ H' { s with heap:=h',gens:=g',drawn:=d',toks:=t' }:=by
 have neL:∀b o,X.s₀.heap.get? b=some o->b≠X.env.locals:=fun b o e=>Ir (Iy (Ig e) I.ok.above)
 have Z:∀b o,X.s₀.heap.get? b=some o->b ∉ X.ex->b ∉ ch:=fun b o e B hb=>by
  rcases(U b hb).1 with z | z
  .exact B z
  .exact absurd (Iy (Ig e) z) (JQ _)
 have W:∀x c,X.env.cells.lookup x=some c->∀v,s.heap.IsCell c v->h'.IsCell c v:=fun x c e v hQ__=>by
  obtain⟨o,ho,hd⟩:=hQ__;have J:c ∉ ch:=fun z=>(U c z).2.2.1 x c e rfl
  by_cases hc:c∈X.fs
  .obtain⟨sl,q⟩:=slot c o (I.cne x c e) hc J ho (I.freeC x c e);exact#[_,q,hd]
  .exact#[o,keep c o (I.cne x c e) hc J ho (I.freeC x c e),hd]
 refine#[I.ok,I.os,hg,#[fun b o e n hb B=>?_,fun b o e n hb B=>?_,fun b o e n B=>?_,fun b o e B=>?_,fun b xs e=>tups b xs (I.base.tups b xs e),fun b o xs e=>frzs b o xs (I.base.frzs b o xs e),fun b ps e=>?_],?_,fun x c e=>?_,?_,fun x c e=>?_,fun p hp=>?_,hok,I.len]
 .exact keep b o (neL b o e) hb (Z b o e B) (I.base.keep b o e n hb B) (I.base.free b o e n B)
 .obtain⟨sl,Y⟩:=I.base.slot b o e n hb B;obtain⟨sl',e2⟩:=slot b _ (neL b o e) hb (Z b o e B) Y (I.base.free b o e n B);exact#[sl',e2]
 .obtain⟨o',Y⟩:=I.base.there b o e B;exact free b o' (Z b o e B) Y (I.base.free b o e n B)
 .obtain⟨o',Y⟩:=I.base.there b o e B;exact there b o' (Z b o e B) Y
 .obtain⟨m1,Y⟩:=I.base.tbls b ps e;obtain⟨m2,e2⟩:=tbls b _ Y;exact#[m1++m2,by rw[e2,Array.append_assoc]]
 .obtain⟨m,hn,hl⟩:=I.loc;refine#[m,ns m hn,fun i x v Y e2 e3=>?_];obtain⟨u,r,l⟩:=hl i x v Y e2 e3;refine#[u,r,?_];rcases l with l | ⟨k,c,e,z⟩
  .exact .inl l
  .exact .inr #[k,c,e,W x c e _ z]
 .obtain⟨v,z⟩:=I.cell x c e;exact#[v,W x c e v z]
 .obtain⟨m,⟨o,_,_,ho,_⟩,_⟩:=I.loc;exact free _ o (fun z=>(U _ z).2.1 rfl) ho I.free
 .obtain⟨v,o,ho,hd⟩:=I.cell x c e;exact free c o (fun z=>(U c z).2.2.1 x c e rfl) ho (I.freeC x c e)
 .obtain⟨e,n,ne,nf,d⟩:=I.pin p hp;have J:p.1 ∉ ch:=fun z=>(U p.1 z).2.2.2 p hp rfl
  exact#[keep p.1 p.2 ne nf J e n,free p.1 p.2 J e n,ne,nf,d]
def Inv.un {t':Nat}(I:Inv X pins σ H s) (u:Un X.fs [] H H' s.heap h') (U:HOk X.prog X.w H' h'):Inv X pins σ H' { s with heap:=h',toks:=t' }:=by
 obtain⟨m,⟨o,es,ep,Y,r⟩,_⟩:=id I.loc;obtain⟨sl,Z⟩:=u.any Y I.free (by simp);exact I.step (g':=s.gens) (d':=s.drawn) (ch:=[]) (fun _ z=>nomatch z) (fun b o _ hb _ e n=>u.keep b o e n hb (by simp)) (fun b o _ hb _ e n=>u.slot b o e n hb (by simp)) (fun b o _ e n=>u.free b o e n (by simp)) (fun b o _ e=>u.there b o e (by simp)) u.tups u.frzs u.tbls (fun m' hm=>by
  obtain⟨o',W,J,B,r'⟩:=hm;rw[Y] at B;cases B;exact#[_,W,J,Z,r']) U I.bare
def Inv.call {t':Nat}(I:Inv X pins σ H s) (u:Un (U0 X.stack) ch H H' s.heap h') (Z:HOk X.prog X.w H' h') (hg:AllBare g')
  (U:∀b∈ch,(b∈X.ex\/X.s₀.heap.objs.size<=b)/\b≠X.env.locals/\(∀x c,X.env.cells.lookup x=some c->c≠b)/\∀p∈X.pn++pins,p.1≠b) :
  Inv X pins σ H' { s with heap:=h',gens:=g',drawn:=d',toks:=t' }:=by
 obtain⟨m,⟨o,es,ep,ho,r⟩,_⟩:=id I.loc;obtain⟨sl,W⟩:=u.any ho I.free fun z=>(U _ z).2.1 rfl
 exact I.step (ch:=ch) U (fun b o W hb B e n=>u.keep b o e n (fun z=>(iO.mp (I.stkSub b z)).elim W hb) B) (fun b o _ _ B e n=>u.any e n B) (fun b o B e n=>u.free b o e n B) (fun b o B e=>u.there b o e B) u.tups u.frzs u.tbls (fun m' hm=>by
  obtain⟨o',es',Y,J,r'⟩:=hm;rw[ho] at J;cases J;exact#[_,es',Y,W,r']) Z hg
def Inv.turned {t':Nat}{it:Addr}(I:Inv X pins σ H s) (k:∀b o,b≠it->s.heap.get? b=some o->h'.get? b=some o) (Y:H it=none) (U:it≠X.env.locals)
  (h1:it∈X.ex\/X.s₀.heap.objs.size<=it) (h2:∀x c,X.env.cells.lookup x=some c->c≠it) (W:∀p∈X.pn++pins,p.1≠it):Inv X pins σ H { s with heap:=h',toks:=t' }:=by
 have J:∀b u,H b=some u->b≠it:=fun b u e z=>by rw[z,Y] at e;cases e
 refine I.step (g':=s.gens) (d':=s.drawn) (ch:=[it]) (fun b hb=>?_) (fun b o _ _ B e _=>k b o (fun z=>B (by simp[z])) e) (fun b o _ _ B e _=>#[o.slots,k b o (fun z=>B (by simp[z])) e]) (fun _ _ _ _ n=>n)
  (fun b o B e=>#[o,k b o (fun z=>B (by simp[z])) e]) (fun _ _ e=>e) (fun _ _ _ e=>e) (fun b ps e=>#[#v[],by rw[e];simp]) (fun m hm=>?_) (fun b u e=>?_) I.bare
 .have e:b=it:=by simpa using hb
  subst e;exact#[h1,U,h2,W]
 .obtain⟨o,es,ep,Z,r⟩:=hm;exact#[o,es,ep,k _ o (xu U) Z,r]
 .refine(I.hok b u e).stay (fun c v B q=>k c v ?_ q) (fun _ q=>q) fun _ _ q=>q
  rcases B with z | z
  .rw[z];exact J b u e
  .exact J c _ z
def Inv.tok (I:Inv X pins σ H s) (t:Nat):Inv X pins σ H { s with toks:=t }:=I.un (h':=s.heap) (t':=t) Un.refl I.hok
theorem Inv.kept {t':Nat}(I:Inv X pins σ H s) (k:∀b u,s.heap.get? b=some u->h'.get? b=some u):Inv X pins σ H { s with heap:=h',toks:=t' }:=I.un (Un.kept k) (I.hok.kept k)
theorem Inv.laid {o:HO}{t':Nat}(I:Inv X pins σ H s) (k:∀b u,s.heap.get? b=some u->h'.get? b=some u) (hp:s.heap.objs.size<=a) (B:ObjOk X.prog X.w (f9 H a o) h' a o) :
  Inv X pins σ (f9 H a o) { s with heap:=h',toks:=t' }:=I.un (Un.laid k hp (I.hok.fresh hp)) (I.hok.laid k hp B)
theorem Inv.write {x e:Addr}{o:HO}{t':Nat}(I:Inv X pins σ H s) (U:fG (H x)) (W:e=x\/H e=some (.own x)) (k:∀b u,b≠e->s.heap.get? b=some u->h'.get? b=some u) (B:∃u,h'.get? e=some u)
  (J:ObjOk X.prog X.w (f9 H x o) h' x o):Inv X pins σ (f9 H x o) { s with heap:=h',toks:=t' }:=I.un (Un.write U W k B) (I.hok.write U W k B J)
def Inv.weak {W:List (Option V)}(I:Inv X pins σ H s) (hl:W.length=σ.length) (w:∀(i:Nat) v,W[i]? = some (some v)->σ[i]? = some (some v)):Inv X pins W H s:=
 #[I.ok,I.os,I.bare,I.base,let ⟨m,hn,hl'⟩:=I.loc;#[m,hn,fun i x v B U J=>hl' i x v B (w i v U) J],I.cell,I.free,I.freeC,I.pin,I.hok,hl.trans I.len]
def Inv.pins_of {B:vP_}(I:Inv X pins σ H s) (h:∀p∈B,s.heap.get? p.1=some p.2/\H p.1=none/\p.1≠X.env.locals/\p.1 ∉ X.fs/\∀v,p.2.data ≠ .cell v):Inv X B σ H s:=
 #[I.ok,I.os,I.bare,I.base,I.loc,I.cell,I.free,I.freeC,fun p hp=>(IJ.mp hp).elim (fun z=>I.pin p (List.mem_append_left _ z)) (h p),I.hok,I.len]
def oY {N:List Str}(U:N.Nodup) (a:N[i]? = some x) (b:N[j]? = some x):i=j:=by
 obtain⟨h1,B⟩:=IK.mp a;obtain⟨h2,J⟩:=IK.mp b;exact(List.getElem_inj U).mp (B.trans J.symm)
def EN {A:Around}{E:vQ_}{i:Nat}{x:Str}{v:V}{Q:Unit->Shared->Prop}(I:Inv X pins σ H s) (hN:X.N.Nodup) (hi:X.N[i]? = some x) (W:Loc X.env.scope x) (r:RelV v u)
  (h:∀s',Inv X pins (σ.set i (some v)) H s'->(∃a,Heap.SameBut a s.heap s'.heap/\(a=X.env.locals\/X.env.cells.lookup x=some a))->Q () s') (hf:X.fn x=true\/X.env.scope.names.lookup x=some .local:=by first | exact .inl rfl | exact .inr rfl | assumption):wpAny M A (storeName X.env x u) Q E s:=by
 obtain⟨m,hn,hl⟩:=id I.loc;have hcls:(X.env.scope.kind == .class||(X.env.scope.kind == .module&&X.env.locals != X.env.globals))=false:=by rw[I.ok.kind];rfl
 have hiσ:i<σ.length:=by rw[I.len];exact(IK.mp hi).1
 have cne:=I.cne;have B:∀{a:Addr}{h':Heap},(∃o,s.heap.get? a=some o/\H a=none)->Heap.SameBut a s.heap h'->HOk X.prog X.w H h':=fun {a h'} ha hs b ob e=>by
  obtain⟨_,_,Y⟩:=ha;refine(I.hok b ob e).stay (fun c w' U q=>(hs.2 c ?_).trans q) (fun _ q=>q) fun _ _ q=>q
  rintro rfl;rcases U with rfl | U
  .rw[Y] at e;cases e
  .rw[Y] at U;cases U
 rcases W with hk | hk
 .refine wpAny_storeName_local hk hn (fun h' hn' hs=>?_) hcls;obtain⟨oL,_,_,hoL,_⟩:=id hn;refine h _ #[I.ok,I.os,I.bare,#[fun b o e n hb W=>?_,fun b o e n hb W=>?_,I.base.free,fun b o e W=>?_,I.base.tups,I.base.frzs,I.base.tbls],#[_,hn',fun j y v' J Z e3=>?_],fun y c e=>?_,I.free,I.freeC,fun p hp=>?_,B #[oL,hoL,I.free] hs,by simpa using I.len] #[_,hs,.inl rfl]
  .exact(hs.2 b (Ir (Iy (Ig e) I.ok.above))).trans (I.base.keep b o e n hb W)
  .obtain⟨sl,J⟩:=I.base.slot b o e n hb W;exact#[sl,(hs.2 b (Ir (Iy (Ig e) I.ok.above))).trans J]
  .obtain⟨o',J⟩:=I.base.there b o e W;exact#[o',(hs.2 b (Ir (Iy (Ig e) I.ok.above))).trans J]
  .by_cases hj:j=i
   .subst hj;rw[hi] at J;cases J;rw[LK hiσ] at Z;cases Z;exact#[u,r,.inl #[hk,by simp]]
   .rw[Kl (xu hj)] at Z;obtain⟨u',r',q⟩:=hl j y v' J Z e3;refine#[u',r',?_];rcases q with ⟨k,e⟩ | ⟨k,c,e,z⟩
    .refine .inl #[k,?_];have:y≠x:=fun e=>hj (oY hN J (e▸hi))
     simp[this,e]
    .exact .inr #[k,c,e,z.sameBut hs (cne y c e)]
  .obtain⟨w',z⟩:=I.cell y c e;exact#[w',z.sameBut hs (cne y c e)]
  .obtain⟨e,n,ne,nf,d⟩:=I.pin p hp;exact#[(hs.2 p.1 ne).trans e,n,ne,nf,d]
 .have hfn:X.fn x=true:=by
   rcases hf with z | z
   .exact z
   .rw[z] at hk;cases hk
  obtain⟨c,U⟩:=I.ok.has x (.inl hk);obtain⟨w',z⟩:=I.cell x c U;refine wpAny_storeName_cell I.ok.kind hk U z (fun h' hc' hs=>?_);obtain⟨oc,hoc,hocd⟩:=id z;refine h { s with heap:=h' } #[I.ok,I.os,I.bare,#[fun b o e n hb W=>?_,fun b o e n hb W=>?_,I.base.free,fun b o e W=>?_,I.base.tups,I.base.frzs,I.base.tbls],#[m,hn.sameBut hs (xu (cne x c U)),fun j y v' J Z e3=>?_],fun y c' e=>?_,I.free,I.freeC,fun p hp=>?_,B #[oc,hoc,I.freeC x c U] hs,by simpa using I.len] #[c,hs,.inr U]
  .exact(hs.2 b (Ir (Iy (Ig e) (I.ok.cab x c hfn U)))).trans (I.base.keep b o e n hb W)
  .obtain⟨sl,J⟩:=I.base.slot b o e n hb W;exact#[sl,(hs.2 b (Ir (Iy (Ig e) (I.ok.cab x c hfn U)))).trans J]
  .obtain⟨o',J⟩:=I.base.there b o e W;exact#[o',(hs.2 b (Ir (Iy (Ig e) (I.ok.cab x c hfn U)))).trans J]
  .by_cases hj:j=i
   .subst hj;rw[hi] at J;cases J;rw[LK hiσ] at Z;cases Z;exact#[u,r,.inr #[.inl hk,c,U,hc']]
   .rw[Kl (xu hj)] at Z;obtain⟨u',r',q⟩:=hl j y v' J Z e3;refine#[u',r',?_];rcases q with q | ⟨k,c',e,z'⟩
    .exact .inl q
    .refine .inr #[k,c',e,z'.sameBut hs ?_];rintro rfl;exact hj (oY hN J (I.ok.inj _ _ _ e U▸hi))
  .by_cases hcc:c'=c
   .subst hcc;exact#[_,hc']
   .obtain⟨w2,z2⟩:=I.cell y c' e;exact#[w2,z2.sameBut hs hcc]
  .obtain⟨e,n,ne,nf,d⟩:=I.pin p hp;refine#[(hs.2 p.1 ?_).trans e,n,ne,nf,d];intro q;rw[q,hoc] at e;have q':oc=p.2:=Jj e;exact d w' (by rw[<-q'];exact hocd)
def gK {A:Around}{E:vQ_}{i:Nat}{x:Str}{v:V}{Q:Unit->Shared->Prop}(I:Inv X pins σ H s) (W:X.N.Nodup) (hi:X.N[i]? = some x) (B:Loc X.env.scope x) (r:RelV v u)
  (h:∀s',Inv X pins (σ.set i (some v)) H s'->Q () s') (U:X.fn x=true\/X.env.scope.names.lookup x=some .local:=by first | exact .inl rfl | exact .inr rfl | assumption):wpAny M A (storeName X.env x u) Q E s:=
 EN I W hi B r (fun s' J _=>h s' J) U
def Inv.call' {s':Shared}(I:Inv X pins σ H s) (W:s'.os=s.os) (u:Un (U0 X.stack) ch H H' s.heap s'.heap) (B:HOk X.prog X.w H' s'.heap) (U:AllBare s'.gens)
  (J:∀b∈ch,(b∈X.ex\/X.s₀.heap.objs.size<=b)/\b≠X.env.locals/\(∀x c,X.env.cells.lookup x=some c->c≠b)/\∀p∈X.pn++pins,p.1≠b):Inv X pins σ H' s':=by
 obtain⟨h',g',d',t',o'⟩:=s';have e:o'=s.os:=W;subst e;exact I.call (g':=g') (t':=t') (d':=d') u B U J
end
abbrev XK:=Value->Option Addr->Hp->Prop
abbrev St:=List (Option V)
variable {σ:St}
abbrev VK:=V->Hp->Prop
abbrev TE:=St->Hp->VK->Prop
variable {te:TE}
abbrev TT:=St->Hp->(Bool->Hp->Prop)->Prop
variable {tc:TT}
abbrev TA:=St->Hp->(List V->Hp->Prop)->Prop
variable {ta:TA}
structure Ends where
 nx:St->Hp->Prop
 rt:VK
 bk:St->Hp->Prop:=fun _ _=>False
 ct:St->Hp->Prop:=fun _ _=>False
abbrev TS:=Ends->St->Hp->Prop
variable {tb:TS}
def EP (X:Cx) (pins:vP_) (σ:St) (Q:VK) (u:Value) (s':Shared):Prop:=∃v H',Inv X pins σ H' s'/\RelV v u/\Q v H'
def TP (X:Cx) (pins:vP_) (σ:St) (Q:Bool->Hp->Prop) (b:Bool) (s':Shared):Prop:=∃H',Inv X pins σ H' s'/\Q b H'
def AP (X:Cx) (pins:vP_) (σ:St) (Q:List V->Hp->Prop) (us:vV_) (s':Shared):Prop:=∃vs H',Inv X pins σ H' s'/\Vals vs us/\Q vs H'
def SP (X:Cx) (pins:vP_) (D:Ends) (f:Flow) (s':Shared):Prop:=
 match f with
 |.next=>∃σ' H',Inv X pins σ' H' s'/\D.nx σ' H'
 |.brk=>∃σ' H',Inv X pins σ' H' s'/\D.bk σ' H'
 |.cont=>∃σ' H',Inv X pins σ' H' s'/\D.ct σ' H'
 |.ret u=>∃v σ' H',Inv X pins σ' H' s'/\RelV v u/\D.rt v H'
def PE (X:Cx) (e:Expr) (t:TE):Prop:=
 ∀(pins:vP_) (s:Shared) (σ:St) (H:Hp) (Q:VK),Inv X pins σ H s->t σ H Q->wpAny (model X.prog X.w) X.A (eval e X.env) (EP X pins σ Q) X.xe s
def PT (X:Cx) (e:Expr) (t:TT):Prop:=
 ∀(pins:vP_) (s:Shared) (σ:St) (H:Hp) (Q:Bool->Hp->Prop),Inv X pins σ H s->t σ H Q->wpAny (model X.prog X.w) X.A (isTrue e X.env (eval e X.env)) (TP X pins σ Q) X.xe s
def PW (X:Cx) (e:Expr) (t:TT):Prop:=
 ∀(whole:Sem Value) (pins:vP_) (s:Shared) (σ:St) (H:Hp) (Q:Bool->Hp->Prop),Inv X pins σ H s->t σ H Q->wpAny (model X.prog X.w) X.A (isTrue e X.env whole) (TP X pins σ Q) X.xe s
def PW.pt {t:TT}(h:PW X e t):PT X e t:=h _
def PA (X:Cx) (es:List Expr) (t:TA):Prop:=
 ∀(pos:Pos) (pins:vP_) (s:Shared) (σ:St) (H:Hp) (Q:List V->Hp->Prop),Inv X pins σ H s->t σ H Q->wpAny (model X.prog X.w) X.A (spliced (backTo pos (starEach es X.env))) (AP X pins σ Q) X.xe s
def PS (X:Cx) (st:Stmt) (t:TS):Prop:=
 ∀(pins:vP_) (s:Shared) (σ:St) (H:Hp) (D:Ends),Inv X pins σ H s->t D σ H->wpAny (model X.prog X.w) X.A (exec st X.env) (SP X pins D) X.xe s
def PSs (X:Cx) (st:List Stmt) (t:TS):Prop:=
 ∀(pins:vP_) (s:Shared) (σ:St) (H:Hp) (D:Ends),Inv X pins σ H s->t D σ H->wpAny (model X.prog X.w) X.A (execs st X.env) (SP X pins D) X.xe s
def n8 {α:Type}{t:Sem α}{Q Q':α->Shared->Prop}(h:wpAny M A t Q E s) (B:∀a s,Q a s->Q' a s):wpAny M A t Q' E s:=Jd h B fun _ _ x=>x
section
def M1 (i:Nat):TE:=fun σ H Q=>∃v,σ[i]? = some (some v)/\Q v H
def tC (v:V):TE:=fun _ H Q=>Q v H
def GB {i:Nat}{x:Str}{pos:Pos}(Z:X.N[i]? = some x) (hv:kI X.env.scope x) (U:(x == ("__debug__" : Str))=false:=by decide) (W:(x == ("__classdict__" : Str))=false:=by decide):PE X (.Name x pos) (M1 i):=by
 intro pins s σ H Q I h;obtain⟨v,e,h⟩:=h;obtain⟨m,hn,hl⟩:=I.loc;obtain⟨u,r,l⟩:=hl i x v Z e hv;have J:EP X pins σ Q u s:=#[v,H,I,r,h]
 rcases l with ⟨hk,hm⟩ | ⟨hk,c,Y,B⟩
 .exact wpAny_Name (wpAny_loadName_local I.ok.kind hk hn hm J) U
 .rcases hk with hk | hk
  .exact wpAny_Name (wpAny_loadName_cell I.ok.kind hk Y B J) U
  .exact wpAny_Name (wpAny_loadName_free I.ok.kind hk Y B J W) U
def ak {i j pos}:PE X (.Constant (.int i) j pos) (tC (.int i)):=fun _ _ _ H _ I h=>wpAny_Constant_int #[.int i,H,I.tok _,#[_,rfl],h]
def eL {b j pos}:PE X (.Constant (.bool b) j pos) (tC (.bl b)):=fun _ _ _ H _ I h=>Constant_bool #[.bl b,H,I,rfl,h]
def Gl (X:Cx) (x:Str):Prop:=X.env.kindOf x=some .globalImplicit
def pQ {E:vQ_}{pins:vP_}{s:Shared}{H:Hp}{x:Str}{pos:Pos}{Q:vQ_}(I:Inv X pins σ H s) (J:Gl X x) (hm:X.mg x=some u) (h:Q u s)
  (B:(x == ("__debug__" : Str))=false:=by decide):wpAny (model X.prog X.w) X.A (eval (.Name x pos) X.env) Q E s:=
 Calls.Name_function_global I.ok.kind J (Calls.loadGlobal_global (by rw[I.ok.glob];exact I.mod.glob.keeps I.bk) hm h) B
def aI {E:vQ_}{pins:vP_}{s:Shared}{H:Hp}{x:Str}{pos:Pos}{Q:vQ_}(I:Inv X pins σ H s) (U:Gl X x) (hm:X.mg x=none) (W:bootBuiltins x=some u) (h:Q u s)
  (J:x ≠ "__name__" := by decide) (B:(x == ("__debug__" : Str))=false:=by decide):wpAny (model X.prog X.w) X.A (eval (.Name x pos) X.env) Q E s:=by
 obtain⟨Y,h1,h2⟩:=I.mod.blt;exact Calls.Name_function_global I.ok.kind U (Calls.loadGlobal_builtin (by rw[I.ok.glob];exact I.mod.glob.keeps I.bk) hm (by rw[I.ok.blt];exact h1.keeps I.bk) ((h2 x J).trans W) h) B
def xk {x:Str}{v:V}{pos:Pos}(J:Gl X x) (hm:X.mg x=some u) (r:RelV v u) (B:(x == ("__debug__" : Str))=false:=by decide):PE X (.Name x pos) (tC v):=
 fun _ _ _ H _ I h=>pQ I J hm #[v,H,I,r,h] B
variable {a b:Expr}{ta tb:TE}{pos:Pos}
variable {tA tB':TT}
def Ff (t u:TT):TT:=fun σ H Q=>t σ H fun c H1=>if c=true then u σ H1 Q else Q false H1
def Bm (t u:TT):TT:=fun σ H Q=>t σ H fun c H1=>if c=true then Q true H1 else u σ H1 Q
def BJ (t:TT):TT:=fun σ H Q=>t σ H fun c H1=>Q (!c) H1
def Au (ha:PT X a tA):PW X (.BoolOp .And [a] pos) tA:=by
 intro B pins s σ H Q I h;refine isTrue_and (n8 (ha pins s σ H Q I h) fun c s1 e=>?_);cases c with
 |true=>exact isTrue_and_nil e
 |false=>exact e
def CW (ha:PT X a tA):PW X (.BoolOp .Or [a] pos) tA:=by
 intro B pins s σ H Q I h;refine isTrue_or (n8 (ha pins s σ H Q I h) fun c s1 e=>?_);cases c with
 |false=>exact isTrue_or_nil e
 |true=>exact e
def Cw (ha:PT X a tA) (hb:PW X (.BoolOp .And (b::rest) pos) tB'):PW X (.BoolOp .And (a::b::rest) pos) (Ff tA tB'):=by
 intro U pins s σ H Q I h;refine isTrue_and (n8 (ha pins s σ H _ I h) fun c s1 ⟨H1,B,J⟩=>?_);cases c with
 |true=>exact hb U pins s1 σ H1 Q B J
 |false=>exact#[H1,B,J]
def Hc (ha:PT X a tA) (hb:PW X (.BoolOp .Or (b::rest) pos) tB'):PW X (.BoolOp .Or (a::b::rest) pos) (Bm tA tB'):=by
 intro U pins s σ H Q I h;refine isTrue_or (n8 (ha pins s σ H _ I h) fun c s1 ⟨H1,B,J⟩=>?_);cases c with
 |true=>exact#[H1,B,J]
 |false=>exact hb U pins s1 σ H1 Q B J
def Fp (ha:PT X a tA):PT X (.UnaryOp .Not a pos) (BJ tA):=by
 intro pins s σ H Q I h;exact isTrue_not (ha pins s σ H (fun c H1=>Q (!c) H1) I h)
def zW (ta tb:TE):TE:=fun σ H Q=>ta σ H fun x H1=>∃c,x = .bl c/\if c=true then tb σ H1 Q else Q (.bl false) H1
def Az (ta tb:TE):TE:=fun σ H Q=>ta σ H fun x H1=>∃c,x = .bl c/\if c=true then Q (.bl true) H1 else tb σ H1 Q
def DV (ta:TE):TE:=fun σ H Q=>ta σ H fun x H1=>∃c,x = .bl c/\Q (.bl (!c)) H1
def zQ {op} {t:TE}(h:PE X a t):PE X (.BoolOp op [a] pos) t:=fun pins s σ H Q I B=>BoolOp_one (h pins s σ H Q I B)
def wU (ha:PE X a ta) (hb:PE X (.BoolOp .And (b::rest) pos) tb):PE X (.BoolOp .And (a::b::rest) pos) (zW ta tb):=by
 intro pins s σ H Q I h;refine BoolOp_and (n8 (ha pins s σ H _ I h) fun v s1 ⟨x,H1,J,U,B⟩=>?_);obtain⟨c,rfl,B⟩:=B;cases U;refine Kw ?_;cases c with
 |true=>exact hb pins s1 σ H1 Q J B
 |false=>exact#[.bl false,H1,J,rfl,B]
def yB (ha:PE X a ta) (hb:PE X (.BoolOp .Or (b::rest) pos) tb):PE X (.BoolOp .Or (a::b::rest) pos) (Az ta tb):=by
 intro pins s σ H Q I h;refine BoolOp_or (n8 (ha pins s σ H _ I h) fun v s1 ⟨x,H1,J,U,B⟩=>?_);obtain⟨c,rfl,B⟩:=B;cases U;refine Kw ?_;cases c with
 |false=>exact hb pins s1 σ H1 Q J B
 |true=>exact#[.bl true,H1,J,rfl,B]
def yj (ha:PE X a ta):PE X (.UnaryOp .Not a pos) (DV ta):=by
 intro pins s σ H Q I h;refine UnaryOp_ (n8 (ha pins s σ H _ I h) fun v s1 ⟨x,H1,J,U,B⟩=>?_);obtain⟨c,rfl,B⟩:=B;cases U;exact not_of (Kw #[.bl (!c),H1,J,rfl,B])
def Fb (t:TT) (ta tb:TE):TE:=fun σ H Q=>t σ H fun c H1=>if c=true then ta σ H1 Q else tb σ H1 Q
def zg (U:PT X c tA) (ha:PE X a ta) (hb:PE X b tb):PE X (.IfExp c a b pos) (Fb tA ta tb):=by
 intro pins s σ H Q I h;refine wpAny_IfExp (n8 (U pins s σ H _ I h) fun d s1 ⟨H1,B,J⟩=>?_);cases d with
 |true=>exact ha pins s1 σ H1 Q B J
 |false=>exact hb pins s1 σ H1 Q B J
end
def SqL (K:vF_) (H:Hp) (a:Addr) (xs:List V):Prop:=
 Rd H a (.lst xs) \/
  ∃(o:Obj) (its:vR_) (n:Nat),K.lookup a=some o/\o.cls = .type "list" /\ o.dict=none/\o.data = .seq its n/\its.size<=sizeLine/\Vals xs its.toList
def SqT (K:vF_) (H:Hp) (a:Addr) (xs:List V):Prop:=
 Rd H a (.tup xs) \/
  ∃(o:Obj) (its:vR_) (n:Nat),K.lookup a=some o/\o.cls = .type "tuple" /\ o.data = .seq its n/\its.size<=sizeLine/\Vals xs its.toList
def wM:Value->Option V
 |.none=>some .non
 |.bool b=>some (.bl b)
 |.int i _=>some (.int i)
 |.str x _=>some (.str x)
 |.bytes b _=>some (.byt b)
 |.float b _=>some (.flt b)
 |.ref a=>some (.ref a)
 |.type n=>some (.ty n)
 |_=>none
def RelV.abs {x:V}(r:RelV x u):wM u=some x:=by
 cases x with
 |non=>cases r;rfl
 |bl _=>cases r;rfl
 |int _=>obtain⟨t,rfl⟩:=r;rfl
 |str _=>obtain⟨t,rfl⟩:=r;rfl
 |byt _=>obtain⟨t,rfl⟩:=r;rfl
 |flt _=>obtain⟨t,rfl⟩:=r;rfl
 |ref _=>cases r;rfl
 |ty _=>cases r;rfl
def RelV.inj {x y:V}(r:RelV x u) (q:RelV y u):x=y:=Jj (r.abs.symm.trans q.abs)
theorem Vals.inj:∀{xs ys:List V}{us:vV_},Vals xs us->Vals ys us->xs=ys:=by
 intro xs ys us h;induction h generalizing ys with
 |nil=>
  intro h2;cases h2;rfl
 |cons r t B=>
  intro h2;cases h2 with
  |cons J t'=>rw[r.inj J,B t']
section
variable {a:Addr}
def SqL.of {K:vF_}(h:H a=some (.lst xs)):SqL K H a xs:=.inl (.inl h)
def SqT.of {K:vF_}(h:H a=some (.tup xs)):SqT K H a xs:=.inl (.inl h)
def Inv.list (I:Inv X pins σ H s) (h:SqL X.K H a xs):∃its:List Value,Vals xs its/\PlainL s.heap a its.toArray/\xs.length<=sizeLine:=by
 rcases h with h | ⟨o,its,n,hk,hc,hd,hs,hz,r⟩
 .obtain⟨z,its,n,r,e⟩:=h.ok I.hok;exact#[its,r,#[_,n,e,rfl,rfl,rfl],z]
 .refine#[its.toList,r,#[o,n,I.kIn a o hk,hc,hd,by simpa using hs],?_];have e:=r.length;simp only[Mx] at e;omega
def Inv.tuple (I:Inv X pins σ H s) (h:SqT X.K H a xs):∃its:List Value,Vals xs its/\IsTup s.heap a its.toArray/\xs.length<=sizeLine:=by
 rcases h with h | ⟨o,its,n,hk,hc,hs,hz,r⟩
 .obtain⟨z,its,r,p⟩:=h.ok I.hok;exact#[its,r,p,z]
 .refine#[its.toList,r,#[o,I.kIn a o hk,hc,n,by simpa using hs],?_];have e:=r.length;simp only[Mx] at e;omega
def Inv.list_inj (I:Inv X pins σ H s) (h:SqL X.K H a xs) (h':SqL X.K H a ys):xs=ys:=by
 obtain⟨its,r,⟨o,n,e,_,_,d⟩,_⟩:=I.list h;obtain⟨B,W,⟨o',Y,J,_,_,U⟩,_⟩:=I.list h';rw[e] at J;cases J;rw[d] at U;injection U with d1 _;have:its=B:=by simpa using congrArg Array.toList d1
 subst this;exact r.inj W
def Inv.tuple_inj (I:Inv X pins σ H s) (h:SqT X.K H a xs) (h':SqT X.K H a ys):xs=ys:=by
 obtain⟨its,r,⟨o,e,_,n,d⟩,_⟩:=I.tuple h;obtain⟨B,W,⟨o',J,_,Y,U⟩,_⟩:=I.tuple h';rw[e] at J;cases J;rw[d] at U;injection U with d1 _;have:its=B:=by simpa using congrArg Array.toList d1
 subst this;exact r.inj W
end
abbrev Cx.wish (X:Cx) (E:vQ_):Cx:={ X with xe:=E }
abbrev Cx.nox (X:Cx):Cx:=X.wish fun _ _=>False
theorem Cx.Ok.wish (B:X.Ok) (E:vQ_):(X.wish E).Ok:=
 #[B.mod,B.kind,B.glob,B.blt,B.above,B.inj,B.has,B.cab,B.hd,B.frames,B.stk,B.exf,B.bs,B.bsz,B.noex,B.exfs,B.funs,B.frf]
def Cx.Ok.unwish (B:(X.wish E).Ok):X.Ok:=
 #[B.mod,B.kind,B.glob,B.blt,B.above,B.inj,B.has,B.cab,B.hd,B.frames,B.stk,B.exf,B.bs,B.bsz,B.noex,B.exfs,B.funs,B.frf]
theorem Inv.wish (I:Inv X pins σ H s) (E:vQ_):Inv (X.wish E) pins σ H s:=#[I.ok.wish E,I.os,I.bare,I.base,I.loc,I.cell,I.free,I.freeC,I.pin,I.hok,I.len]
theorem Inv.unwish (I:Inv (X.wish E) pins σ H s):Inv X pins σ H s:=#[I.ok.unwish,I.os,I.bare,I.base,I.loc,I.cell,I.free,I.freeC,I.pin,I.hok,I.len]
theorem SP.unwish {D:Ends}(h:SP (X.wish E) pins D f s'):SP X pins D f s':=by
 cases f with
 |next=>obtain⟨σ',H',I,q⟩:=h;exact#[σ',H',I.unwish,q]
 |brk=>obtain⟨σ',H',I,q⟩:=h;exact#[σ',H',I.unwish,q]
 |cont=>obtain⟨σ',H',I,q⟩:=h;exact#[σ',H',I.unwish,q]
 |ret u=>obtain⟨v,σ',H',I,r,q⟩:=h;exact#[v,σ',H',I.unwish,r,q]
theorem PSs.nox {st:List Stmt}{t:TS}(h:PSs X.nox st t):PSs X st t:=fun pins s σ H D I B=>
 Jd (h pins s σ H D (I.wish _) B) (fun _ _ q=>q.unwish) fun _ _ z=>False.elim z
section
variable {st:Stmt}{rest:List Stmt}{t u:TS}{pos:Pos}
def CJ:TS:=fun D σ H=>D.nx σ H
def Bx (t u:TS):TS:=fun D σ H=>t { D with nx:=u D } σ H
def xY:PSs X [] CJ:=fun _ _ σ H _ I h=>LL #[σ,H,I,h]
def HC (h1:PS X st t) (h2:PSs X rest u):PSs X (st::rest) (Bx t u):=by
 intro pins s σ H D I h;refine wpAny_execs_cons (n8 (h1 pins s σ H { D with nx:=u D } I h) fun f s1 q=>?_);cases f with
 |next=>
  obtain⟨σ',H',B,q⟩:=q;exact h2 pins s1 σ' H' D B q
 |ret v=>exact q
 |brk=>exact q
 |cont=>exact q
def Bg (h1:PS X st t):PSs X [st] t:=by
 intro pins s σ H D I h;refine wpAny_execs_cons (n8 (h1 pins s σ H D I h) fun f s1 q=>?_);cases f with
 |next=>exact LL q
 |ret v=>exact q
 |brk=>exact q
 |cont=>exact q
def Inv.quiet (I:Inv X pins σ H s):interactive X.env=false:=by simp[interactive,I.ok.kind]
def DF (te:TE):TS:=fun D σ H=>te σ H fun _ H1=>D.nx σ H1
def CM (U:PE X e te) (hs:swapsWith e none pos.line X.env=pure false:=by rfl):PS X (.Expr e pos) (DF te):=by
 intro pins s σ H D I h;exact wpAny_Expr_any (n8 (U pins s σ H _ I h) fun v s1 ⟨x,H1,B,W,J⟩=>#[σ,H1,B,J]) I.quiet hs
def EE (te:TE):TS:=fun D σ H=>te σ H D.rt
def Hh (W:PE X e te):PS X (.Return (some e) pos) (EE te):=by
 intro pins s σ H D I h;exact wpAny_Return_some (n8 (W pins s σ H _ I h) fun v s1 ⟨x,H1,B,J,U⟩=>#[x,σ,H1,B,J,U])
def Ew (c:TT) (t u:TS):TS:=fun D σ H=>c σ H fun b H1=>if b=true then t D σ H1 else u D σ H1
def Gf {a b:List Stmt}(U:PT X c tc) (ha:PSs X a t) (hb:PSs X b u):PS X (.If c a b pos) (Ew tc t u):=by
 intro pins s σ H D I h;refine wpAny_If (n8 (U pins s σ H _ I h) fun d s1 ⟨H1,B,J⟩=>?_);cases d with
 |true=>exact ha pins s1 σ H1 D B J
 |false=>exact hb pins s1 σ H1 D B J
end
abbrev TG:=V->St->Hp->(St->Hp->Prop)->Prop
abbrev V0:=List V->St->Hp->(St->Hp->Prop)->Prop
def PG (X:Cx) (B:Expr) (t:TG):Prop:=
 ∀(pins:vP_) (s:Shared) (σ:St) (H:Hp) (v:V) (u:Value) (Q:St->Hp->Prop),Inv X pins σ H s->RelV v u->t v σ H Q ->
  wpAny (model X.prog X.w) X.A (assign B X.env u) (fun _ s'=>∃σ' H',Inv X pins σ' H' s'/\Q σ' H') X.xe s
def aM (X:Cx) (B:List Expr) (t:V0):Prop:=
 ∀(pins:vP_) (s:Shared) (σ:St) (H:Hp) (vs:List V) (us:vV_) (Q:St->Hp->Prop),Inv X pins σ H s->Vals vs us->t vs σ H Q ->
  wpAny (model X.prog X.w) X.A (assignInOrder ((assignEach B X.env).map (·.2)) us) (fun _ s'=>∃σ' H',Inv X pins σ' H' s'/\Q σ' H') X.xe s
abbrev gl:=V->V->V->Hp->(Hp->Prop)->Prop
def kw (X:Cx) (t:gl):Prop:=
 ∀(pins:vP_) (s:Shared) (σ:St) (H:Hp) (o i v:V) (ov iv u:Value) (Q:Hp->Prop),Inv X pins σ H s->RelV o ov->RelV i iv->RelV v u->t o i v H Q ->
  wpAny (model X.prog X.w) X.A (setItem ov iv u) (fun _ s'=>∃H',Inv X pins σ H' s'/\Q H') X.xe s
section
variable {pos:Pos}
def T3 (i:Nat):TG:=fun v σ H Q=>Q (σ.set i (some v)) H
def R9 {i:Nat}{x:Str}(W:X.N.Nodup) (hi:X.N[i]? = some x) (B:Loc X.env.scope x) (U:X.fn x=true\/X.env.scope.names.lookup x=some .local:=by first | exact .inl rfl | exact .inr rfl | assumption):PG X (.Name x pos) (T3 i):=by
 intro pins s σ H v u Q I r h;exact wpAny_assign_Name (gK I W hi B r (fun s' J=>#[_,H,J,h]) U)
def kF:V0:=fun B σ H Q=>B=[]/\Q σ H
def dI (t:TG) (u:V0):V0:=fun B σ H Q=>∃v r,B=v::r/\t v σ H fun σ' H'=>u r σ' H' Q
def kL:aM X [] kF:=by
 intro pins s σ H B us Q I r h;obtain⟨e,h⟩:=h;subst e;cases r;exact assignInOrder_nil #[σ,H,I,h]
def fH {e:Expr}{es:List Expr}{t:TG}(h1:PG X e t) (h2:aM X es u)
  (hs:(assignEach (e::es) X.env).map (·.2)=assign e X.env::(assignEach es X.env).map (·.2):=by rfl):aM X (e::es) (dI t u):=by
 intro pins s σ H Y us Q I r h;obtain⟨v,Z,J,h⟩:=h;subst J;cases r with
 |cons r W=>
  rw[hs];refine assignInOrder_cons (n8 (h1 pins s σ H _ _ _ I r h) fun _ s1 ⟨σ1,H1,B,U⟩=>?_);exact h2 pins s1 σ1 H1 _ _ Q B W U
def lQ (K:vF_) (n:Nat) (t:V0):TG:=fun v σ H Q=>∃a xs,v = .ref a/\SqT K H a xs/\xs.length=n/\t xs σ H Q
def lX {es:List Expr}{k:Nat}{t:V0}{n:Nat}(hc:X.calm=true) (h:aM X es t)
  (hn:(assignEach es X.env).length=n:=by rfl) (J:(assignEach es X.env).findIdx? (·.1)=none:=by rfl):PG X (.Tuple es k pos) (lQ X.K n t):=by
 intro pins s σ H v u Q I r B;obtain⟨a,xs,Z,Y,hl,B⟩:=B;subst Z;cases r;obtain⟨its,U,ht,hz⟩:=I.tuple Y;refine assign_Tuple_tuple (I.ok.hd hc) ht (by simp[hn,<-hl,U.length]) J fun h' hx=>?_
 have W:Inv X pins σ H { s with heap:=h' }:=I.kept (t':=s.toks) fun b o e=>hx b o (Ir (Ig e)) e
 exact h pins _ σ H xs _ Q W (by simpa using U) B
def Ea (to B:TE) (t:gl):TG:=fun v σ H Q=>to σ H fun o H1=>B σ H1 fun i H2=>t o i v H2 fun J=>Q σ J
def sP {o i:Expr}{to B:TE}{t:gl}(ho:PE X o to) (hi:PE X i B) (hs:kw X t)
  (ha:∀v,assign (.Subscript o i pos) X.env v=(do
   let ov <-holding [v] (eval o X.env)
   let iv <-holding [v,ov] (eval i X.env)
   standAt pos
   holding [v,ov,iv] (setItem ov iv v)
   release [v,ov,iv] []):=by intro _;rfl):PG X (.Subscript o i pos) (Ea to B t):=by
 intro pins s σ H v u Q I r h;rw[ha];refine cn (Jt (n8 (ho pins s σ H _ I h) fun ov s1 ⟨x,H1,J,Z,U⟩=>?_));refine cn (Jt (n8 (hi pins s1 σ H1 _ J U) fun iv s2 ⟨y,H2,I2,r2,W⟩=>?_));refine cn (LM (cn (Jt (n8 (hs pins s2 σ H2 x y v ov iv u _ I2 Z r2 r W) fun _ s3 ⟨H3,I3,Y⟩=>?_))));exact wpAny_release #[σ,H3,I3,Y]
def dF (te:TE) (g:TG):TS:=fun D σ H=>te σ H fun x H1=>g x σ H1 D.nx
def kT {tg e:Expr}{te:TE}(Z:PE X e te) (Y:PG X tg g) (hs:swapsWithSole [tg] e pos.line X.env=pure false:=by rfl) (W:swappedStores [tg] e X.env=pure none:=by rfl)
  (h1:(assignEach [tg] X.env).map (·.2)=[assign tg X.env]:=by rfl):PS X (.Assign [tg] e pos) (dF te g):=by
 intro pins s σ H D I h;refine wpAny_Assign_stores (n8 (Z pins s σ H _ I h) fun v s1 ⟨x,H1,U,J,B⟩=>?_) hs W;rw[h1];exact n8 (Y pins s1 σ H1 x v _ U J B) fun _ s2 q=>q
def hV {i:Nat}{x:Str}{e:Expr}{te:TE}{pos':Pos}(Y:X.N.Nodup) (hi:X.N[i]? = some x) (Z:Loc X.env.scope x) (he:PE X e te) (hs:swapsWith e (some (.Name x pos')) pos.line X.env=pure false:=by rfl) (B:X.fn x=true\/X.env.scope.names.lookup x=some .local:=by first | exact .inl rfl | exact .inr rfl | assumption) :
  PS X (.Assign [.Name x pos'] e pos) (dF te (T3 i)):=by
 intro pins s σ H D I h;refine wpAny_Assign_Name (n8 (he pins s σ H _ I h) fun v s1 ⟨y,H1,W,U,J⟩=>?_) hs;exact gK W Y hi Z U (fun s2 I2=>#[_,H1,I2,J]) B
def Gs (i j:Nat) (ta:TA):TS:=fun D σ H=>ta σ H fun B H1=>∃v w,B=[v,w]/\D.nx ((σ.set i (some v)).set j (some w)) H1
def Am {i j:Nat}{x y:Str}{a b:Expr}{ta:TA}{px py pt:Pos}{kt k2 pt2} (hc:X.calm=true) (Y:X.N.Nodup) (hi:X.N[i]? = some x) (hj:X.N[j]? = some y) (J:i≠j)
  (Z:X.env.scope.names.lookup x=some .local) (hy:X.env.scope.names.lookup y=some .local) (ha:PA X [a,b] ta)
  (hw:swappedStores [.Tuple [.Name x px,.Name y py] kt pt] (.Tuple [a,b] k2 pt2) X.env=pure (some [x,y]))
  (hs:swapsWithSole [.Tuple [.Name x px,.Name y py] kt pt] (.Tuple [a,b] k2 pt2) pos.line X.env=pure false:=by rfl) :
  PS X (.Assign [.Tuple [.Name x px,.Name y py] kt pt] (.Tuple [a,b] k2 pt2) pos) (Gs i j ta):=by
 intro pins s σ H D I h;rw[exec_Assign_arm];refine cn (LM ?_);rw[hs];refine cn (gV ?_);rw[fI #[]];refine cn (Tuple_ (n8 (ha _ pins s σ H _ I h) fun us s1 ⟨vs,H1,I1,r1,B⟩=>?_));obtain⟨v,w,e1,B⟩:=B;subst e1;obtain⟨u1,u2,rfl,rv,rw'⟩:∃u1 u2,us=[u1,u2]/\RelV v u1/\RelV w u2:=by
  cases r1 with
  |cons p q=>
   cases q with
   |cons p' q'=>
    cases q';exact#[_,_,rfl,p,p']
 refine JE ?_ (by show 2<=sizeLine;decide);have I2:Inv X pins σ H1 { s1 with heap:=s1.heap.push { cls:=.type "tuple",data:=.seq [u1,u2].toArray } }:=I1.kept (t':=s1.toks) fun b o e=>Ii _ e
 rw[hw];refine cn (gV ?_);show wpAny (model X.prog X.w) X.A (do rule "assign.swapped-stores";let items <-unpackItems (.ref s1.heap.objs.size) 2 none;assignInOrder [fun v=>bindName X.env y v,fun v=>bindName X.env x v] items.reverse;pure Flow.next) _ _ _;refine cn (Jx (cn (unpackItems_tuple (items:=#v[u1,u2]) (I.ok.hd hc) (IsTup.new s1.heap _) fun h' U=>?_)));have I3:=I2.kept (h':=h') (t':=s1.toks) fun b o e=>U b o (Ir (Ig e)) e
 show wpAny _ _ (assignInOrder [fun v=>bindName X.env y v,fun v=>bindName X.env x v] [u2,u1] >>= fun _=>pure Flow.next) _ _ _;refine cn (assignInOrder_cons (wpAny_bindName (gK I3 Y hj (.inl hy) rw' (fun s2 I4=>?_) (.inr hy))));refine assignInOrder_cons (wpAny_bindName (gK I4 Y hi (.inl Z) rv (fun s3 W=>assignInOrder_nil (gV ?_)) (.inr Z)));rw[List.set_comm _ _ (xu J)] at W;exact#[_,H1,W,B]
end
section
variable {pos:Pos}
def AS (c:TT) (tb:TS):TS:=fun D σ H=>∃W:Nat->St->Hp->Prop,(∃m,W m σ H)/\∀m σ H,W m σ H ->
 c σ H fun b H1=>if b=true then ∃N:St->Hp->Prop,(∀σ' H',N σ' H'->∃m',m'<m/\W m' σ' H')/\tb { D with nx:=N,ct:=N,bk:=D.nx } σ H1 else D.nx σ H1
def Av (hp:PassesOwn (model X.prog X.w) X.A X.env X.xe) (hc:PT X c tc) (hb:PSs X body tb):PS X (.While c body [] pos) (AS tc tb):=by
 intro pins s σ H D I h;obtain⟨W,⟨m0,w0⟩,B⟩:=h;refine wpAny_While (codeAny_whileLoop (fun n s'=>∃σ' H',Inv X pins σ' H' s'/\W n σ' H') ?_ m0 #[σ,H,I,w0]);rintro n s1 ⟨σ1,H1,I1,w1⟩;refine Km hp (n8 (hc pins s1 σ1 H1 _ I1 (B n σ1 H1 w1)) fun b s2 ⟨H2,I2,U⟩=>?_);cases b with
 |true=>
  obtain⟨N,hN,U⟩:=U;rw[fx rfl];refine Km hp (n8 (hb pins s2 σ1 H2 _ I2 U) fun f s3 Y=>?_);cases f with
  |next=>
   obtain⟨σ3,J,I3,n3⟩:=Y;obtain⟨Z,hm,w3⟩:=hN σ3 J n3;exact#[Z,hm,σ3,J,I3,w3]
  |cont=>
   obtain⟨σ3,J,I3,n3⟩:=Y;obtain⟨Z,hm,w3⟩:=hN σ3 J n3;exact#[Z,hm,σ3,J,I3,w3]
  |brk=>exact Y
  |ret v=>exact Y
 |false=>
  rw[fI Io];exact LL #[σ1,H2,I2,U]
end
structure It where
 go:Nat->Hp->Prop
 yld:Nat->Hp->V->Hp->Prop
 stop:Nat->Hp->Prop
variable {R:It->Hp->Prop}
def M7 (X:Cx) (pins:vP_) (H:Hp) (b:Addr):Prop:=
 H b=none/\b≠X.env.locals/\b ∉ X.fs/\(b∈X.ex\/X.s₀.heap.objs.size<=b)/\(∀x c,X.env.cells.lookup x=some c->c≠b)/\∀p∈X.pn++pins,p.1≠b
def Inv.fpOk {b:Addr}(I:Inv X pins σ H s) (hb:s.heap.objs.size<=b) (B:H' b=none):M7 X pins H' b:=by
 refine#[B,Jr (Iy I.lt hb),I.nofs hb,.inr (Ij I.sz hb),fun x c e z=>?_,fun p hp z=>?_]
 .obtain⟨v,q⟩:=I.cell x c e;exact absurd (Iy q.lt (by rw[z];exact hb)) (JQ _)
 .exact absurd (Iy (Ig (I.pin p hp).1) (by rw[z];exact hb)) (JQ _)
structure Turn (P:Program) (w:World) (K:vF_) (tg:Expr) (J:It) (fp:vL_) (it:Addr) (tn:Nat->Heap->Prop):Prop where
 mem:it∈fp
 obj:∀i h,tn i h->∀b∈fp,∃o,h.get? b=some o/\∀v,o.data ≠ .cell v
 keep:∀i h h',tn i h->(∀b∈fp,∀o,h.get? b=some o->h'.get? b=some o)->tn i h'
 item:∀(X:Cx),X.prog=P->X.w=w->X.K=K->X.calm=true->∀(i:Nat) (pins:vP_) (s:Shared) (σ:St) (H:Hp) (E:vQ_),Inv X pins σ H s->(∀b∈fp,M7 X pins H b)->tn i s.heap->J.go i H ->
  wpAny (model P w) X.A (pyNext (.ref it)) (fun r s1=>∃u,r=some u /\
   wpAny (model P w) X.A (letOwnedTupleGo tg (.ref it) u) (fun _ s2=>∃x H',Inv X pins σ H' s2/\RelV x u/\J.yld i H x H'/\tn (i+1) s2.heap/\∀b∈fp,H' b=none) E s1) E s
 done:∀(X:Cx),X.prog=P->X.w=w->X.K=K->X.calm=true->∀(i:Nat) (pins:vP_) (s:Shared) (σ:St) (H:Hp) (E:vQ_),Inv X pins σ H s->(∀b∈fp,M7 X pins H b)->tn i s.heap->J.stop i H ->
  wpAny (model P w) X.A (pyNext (.ref it)) (fun r s1=>r=none/\Inv X pins σ H s1) E s
 self:∀(A:Around) (i:Nat) (s:Shared) (Q:vQ_) (E:vQ_),tn i s.heap->Q (.ref it) s->wpAny (model P w) A (pyIter (.ref it)) Q E s
abbrev TI:=St->Hp->(It->Hp->Prop)->Prop
def rf (X:Cx) (pins:vP_) (σ:St) (tg:Expr) (R:It->Hp->Prop) (B:Value) (s2:Shared):Prop:=
 ∃(it:Addr) (fp:vL_) (tn:Nat->Heap->Prop) (J:It) (H':Hp),B = .ref it/\Inv X pins σ H' s2/\Turn X.prog X.w X.K tg J fp it tn/\tn 0 s2.heap/\(∀b∈fp,M7 X pins H' b)/\R J H'
def PI (X:Cx) (tg iter:Expr) (wi:TI):Prop:=
 ∀(pins:vP_) (s:Shared) (σ:St) (H:Hp) (R:It->Hp->Prop),Inv X pins σ H s->wi σ H R ->
  wpAny (model X.prog X.w) X.A (eval iter X.env) (fun v s1=>wpAny (model X.prog X.w) X.A (pyIter v) (rf X pins σ tg R) X.xe s1) X.xe s
def kD {it:Addr}{o:Obj}{n:String}{J:vR_}{Q:Unit->Shared->Prop}(Y:s.heap.get? it=some o) (Z:o.cls = .type n) (U:o.data = .fields J)
    (W:["enumerate", "zip", "dict_itemiterator", "dict_reverseitemiterator", "odict_iterator", "itertools.zip_longest", "itertools.pairwise"].contains n=false) (B:Q () s):wpAny M A (letOwnedTupleGo tg (.ref it) u) Q E s:=by
  unfold letOwnedTupleGo;cases tg <;> first
    | exact gV B
    | (cases u <;> first
        | exact gV B
        | (refine cn (wpAny_load Y ?_)
           rw[Z,U];show wpAny M A (if (["enumerate", "zip", "dict_itemiterator", "dict_reverseitemiterator", "odict_iterator", "itertools.zip_longest", "itertools.pairwise"].contains n&&J[0]? == some (rawInt _))=true then _ else _) Q E s;rw[fI (by intro h;rw[W,Bool.false_and] at h;cases h)];exact gV B))
def dZ (K:vF_) (a:Addr):It:=
 #[fun i H=>∃xs x,SqL K H a xs/\xs[i]? = some x,fun i H x H'=>H'=H/\∀xs,SqL K H a xs->xs[i]? = some x,fun i H=>∃xs,SqL K H a xs/\xs.length<=i]
def dX (K:vF_) (a:Addr):It:=
 #[fun i H=>∃xs x,SqT K H a xs/\xs[i]? = some x,fun i H x H'=>H'=H/\∀xs,SqT K H a xs->xs[i]? = some x,fun i H=>∃xs,SqT K H a xs/\xs.length<=i]
def bB (lo:Int) (n:Nat):It:=#[fun i _=>i<n,fun i H x H'=>H'=H/\x = .int (lo+i),fun i _=>n<=i]
def xj {w:World}{K:vF_}(a it:Addr):Turn P w K tg (dZ K a) [it] it (fun i h=>h.IsListIter it a i) where
 mem:=by simp
 obj:=fun i h st b hb=>by
  have e:b=it:=by simpa using hb
  subst e;obtain⟨o,e,c,d⟩:=st;exact#[o,e,fun v z=>by rw[d] at z;cases z]
 keep:=fun i h h' st k=>st.at fun o e=>k it (by simp) o e
 item:=by
  intro X hP Z hK hc i pins s σ H E I U st hg;subst hP Z hK;obtain⟨xs,x,J,hx⟩:=hg;obtain⟨its,W,p,hz⟩:=I.list J;obtain⟨u,hu,ru⟩:=W.get hx;obtain⟨f0,f1,f2,f3,f4,Y⟩:=U it (by simp);refine wpAny_pyNext_list_item st p.isList (x:=u) (by simpa using hu) fun h' B sb=>?_
  have I1:Inv X pins σ H { s with heap:=h' }:=I.turned (t':=s.toks) (fun b o hb e=>(sb.2 b hb).trans e) f0 f1 f3 f4 Y;obtain⟨o,e,c,d⟩:=id B;exact#[u,rfl,kD (s:={ s with heap:=h' }) e c d #[] #[x,H,I1,ru,#[rfl,fun ys hy=>by rw[I.list_inj hy J];exact hx],B,fun b hb=>(U b hb).1]]
 done:=by
  intro X hP Z hK hc i pins s σ H E I U st hg;subst hP Z hK;obtain⟨xs,J,hx⟩:=hg;obtain⟨its,W,p,hz⟩:=I.list J;obtain⟨f0,f1,f2,f3,f4,Y⟩:=U it (by simp);have hl:=W.length;exact wpAny_pyNext_list_end (I.ok.hd hc) st p.isList (by simp;omega) fun h' eb=>#[rfl,I.turned (t':=s.toks) (fun b o hb e=>eb b o hb e) f0 f1 f3 f4 Y]
 self:=fun _ _ _ _ _ st h=>wpAny_pyIter_listiter st h
def Gi {w:World}{K:vF_}(a it:Addr):Turn P w K tg (dX K a) [it] it (fun i h=>h.IsTupleIter it a i) where
 mem:=by simp
 obj:=fun i h st b hb=>by
  have e:b=it:=by simpa using hb
  subst e;obtain⟨o,e,c,d⟩:=st;exact#[o,e,fun v z=>by rw[d] at z;cases z]
 keep:=fun i h h' st k=>st.at fun o e=>k it (by simp) o e
 item:=by
  intro X hP Z hK hc i pins s σ H E I U st hg;subst hP Z hK;obtain⟨xs,x,J,hx⟩:=hg;obtain⟨its,W,p,hz⟩:=I.tuple J;obtain⟨u,hu,ru⟩:=W.get hx;obtain⟨f0,f1,f2,f3,f4,Y⟩:=U it (by simp);refine wpAny_pyNext_tuple_item st (show s.heap.IsTuple a its.toArray from p) (x:=u) (by simpa using hu) fun h' B sb=>?_
  have I1:Inv X pins σ H { s with heap:=h' }:=I.turned (t':=s.toks) (fun b o hb e=>(sb.2 b hb).trans e) f0 f1 f3 f4 Y;obtain⟨o,e,c,d⟩:=id B;exact#[u,rfl,kD (s:={ s with heap:=h' }) e c d #[] #[x,H,I1,ru,#[rfl,fun ys hy=>by rw[I.tuple_inj hy J];exact hx],B,fun b hb=>(U b hb).1]]
 done:=by
  intro X hP Z hK hc i pins s σ H E I U st hg;subst hP Z hK;obtain⟨xs,J,hx⟩:=hg;obtain⟨its,W,p,hz⟩:=I.tuple J;obtain⟨f0,f1,f2,f3,f4,Y⟩:=U it (by simp);have hl:=W.length;exact wpAny_pyNext_tuple_end (I.ok.hd hc) st (show s.heap.IsTuple a its.toArray from p) (by simp;omega) fun h' eb=>#[rfl,I.turned (t':=s.toks) (fun b o hb e=>eb b o hb e) f0 f1 f3 f4 Y]
 self:=fun _ _ _ _ _ st h=>wpAny_pyIter_tupleiter st h
def zf {w:World}{K:vF_}(it:Addr) (lo:Int) (n:Nat):Turn P w K tg (bB lo n) [it] it (fun i h=>IsRangeIter h it (lo+(i:Nat)*1) ((n:Int) - (i:Nat)) 1) where
 mem:=by simp
 obj:=fun i h st b hb=>by
  have e:b=it:=by simpa using hb
  subst e;exact#[_,st,fun v z=>by
   have z':Data.fields _=Data.cell v:=z;cases z']
 keep:=fun i h h' st k=>k it (by simp) _ st
 item:=by
  intro X hP Y hK hc i pins s σ H E I J st Z;subst hP Y hK;obtain⟨f0,f1,f2,f3,f4,U⟩:=J it (by simp);have W:=Walks.range (prog:=X.prog) (w:=X.w) (I.ok.hd hc) it lo 1 n;refine W.item i s _ _ Z st fun v h' tk hv B kk=>?_
  obtain⟨t,rfl⟩:=hv;have I1:Inv X pins σ H { s with heap:=h',toks:=tk }:=I.turned (fun b o hb e=>kk b o (by simpa using hb) e) f0 f1 f3 f4 U;refine#[_,rfl,kD (s:={ s with heap:=h',toks:=tk }) (n := "range_iterator") B rfl rfl #[] #[.int (lo+i),H,I1,#[t,?_],#[rfl,rfl],B,fun b hb=>(J b hb).1]];rw[Ld]
 done:=by
  intro X hP Y hK hc i pins s σ H E I J st Z;subst hP Y hK;obtain⟨f0,f1,f2,f3,f4,U⟩:=J it (by simp);exact wpAny_pyNext_range_end (I.ok.hd hc) st (by have:n<=i:=Z;omega) fun h' eb=>#[rfl,I.turned (t':=s.toks) (fun b o hb e=>eb b o hb e) f0 f1 f3 f4 U]
 self:=fun _ _ _ _ _ st h=>wpAny_pyIter_rangeiter st h
def Ad {lo hi:Int}{t u v:Tok}{J:Nat}(I:Inv X pins σ H s) (h1:-(2 ^ 62)<=lo) (h2:lo<2 ^ 62) (W:-(2 ^ 62)<=hi) (h4:hi<2 ^ 62)
  (q:R (bB lo (hi - lo).toNat) H):wpAny (model X.prog X.w) X.A (pyIter (.ref s.heap.objs.size)) (rf X pins σ tg R) E { s with heap:=s.heap.push { cls:=.type "range",data:=.fields #v[.int lo t,.int hi u,.int 1 v] },toks:=J }:=by
 refine wpAny_pyIter_range (IsRange.new ..) (small_one h1 h2 W h4) ?_;have B:Inv X pins σ H { s with heap:=s.heap.push { cls:=.type "range",data:=.fields #v[.int lo t,.int hi u,.int 1 v] },toks:=J }:=I.kept fun b o e=>Ii _ e
 refine#[(s.heap.push { cls:=.type "range",data:=.fields #v[.int lo t,.int hi u,.int 1 v] }).objs.size,[(s.heap.push { cls:=.type "range",data:=.fields #v[.int lo t,.int hi u,.int 1 v] }).objs.size],_,_,H,rfl,
  B.kept (t':=J) fun b o e=>Ii _ e,zf _ lo (hi - lo).toNat,?_,fun b hb=>?_,q]
 .have U:lo+((0:Nat):Int)*1=lo:=by simp
  have Y:(((hi - lo).toNat:Nat):Int) - ((0:Nat):Int)=Builtin.Range.rangeSize lo hi 1:=by rw[rangeSize_one];split <;> omega
  show IsRangeIter _ _ (lo+((0:Nat):Int)*1) ((((hi - lo).toNat:Nat):Int) - ((0:Nat):Int)) 1;rw[U,Y];exact ID _ rfl
 .have e:b=(s.heap.push { cls:=.type "range",data:=.fields #v[.int lo t,.int hi u,.int 1 v] }).objs.size:=by simpa using hb
  subst e;exact B.fpOk (tx _) (B.hok.fresh (tx _))
def xZ (ta:TA):TI:=fun σ H R=>ta σ H fun B H1=>∃j:Int,B=[.int j] /\ -(2 ^ 62)<=j/\j<2 ^ 62/\R (bB 0 j.toNat) H1
def rm {ta:TA}{p pos:Pos}(W:Gl X "range") (hm:X.mg "range" = none) (ha:PA X [a] ta) (hs:starEach [a] X.env=[(false,eval a X.env)]:=by rfl):PI X tg (.Call (.Name "range" p) [a] [] pos) (xZ ta):=by
 intro pins s σ H R I h;refine Call_ (aI I W hm boot_range (Kn (n8 (ha pos pins s σ H _ I h) fun us s1 ⟨vs,H1,J,Z,B⟩=>?_) hs rfl));obtain⟨j,e,B,Y,q⟩:=B;subst e;cases Z with
 |cons r U=>
  cases U;obtain⟨t,rfl⟩:=r;exact call_range_1 (Ad J ∅ ∅ B Y (by simpa using q))
def GR (wi:TI) (g:TG) (tb:TS):TS:=fun D σ H=>wi σ H fun J H1=>∃W:Nat->Nat->St->Hp->Prop,(∃m,W 0 m σ H1)/\∀i m σ H,W i m σ H ->
 (J.stop i H/\D.nx σ H)\/(J.go i H/\∃N:St->Hp->Prop,(∀σ' H',N σ' H'->∃m',m'<m/\W (i+1) m' σ' H')/\∀x H',J.yld i H x H'->g x σ H' fun σ2 H2=>tb { D with nx:=N,ct:=N,bk:=D.nx } σ2 H2)
def fD (fp:vL_) (h:Heap):List (Addr × Obj):=fp.filterMap fun b=>(h.get? b).map fun o=>(b,o)
def dE {b:Addr}{o:Obj}(hb:b∈fp) (e:h.get? b=some o):(b,o)∈fD fp h:=My.mpr #[b,hb,by rw[e];rfl]
def Bf (hp:p∈fD fp h):p.1∈fp/\h.get? p.1=some p.2:=by
 obtain⟨b,hb,e⟩:=My.mp hp;cases q:h.get? b with
 |none=>rw[q] at e;cases e
 |some o=>
  rw[q] at e;have B:(b,o)=p:=Jj e;subst B;exact#[hb,q]
def Inv.pinned (I:Inv X pins σ H s) (U:∀b∈fp,M7 X pins H b) (J:∀b∈fp,∃o,s.heap.get? b=some o/\∀v,o.data ≠ .cell v):Inv X (pins++fD fp s.heap) σ H s:=
 I.pins_of fun p hp=>(IJ.mp hp).elim (fun z=>I.pin p (Jy _ z)) fun z=>by
  obtain⟨hb,e⟩:=Bf z;obtain⟨Y,f1,W,_⟩:=U p.1 hb;obtain⟨o,B,d⟩:=J p.1 hb;rw[e] at B;cases B;exact#[e,Y,f1,W,d]
def Inv.unpinned {B:vP_}(I:Inv X (pins++B) σ H s):Inv X pins σ H s:=I.pins_of fun p hp=>I.pin p (Jy _ (List.mem_append_left _ hp))
def gW {iter:Expr}{body:List Stmt}{tb:TS}{pos:Pos}(hp:PassesOwn (model X.prog X.w) X.A X.env X.xe) (hc:X.calm=true) (hi:PI X tg iter wi) (hg:PG X tg g) (hb:PSs X body tb)
  (hs:∀x,foldedSetIterable iter X.env x=pure x:=by intro _;rfl):PS X (.For tg iter body [] pos) (GR wi g tb):=by
 intro pins s σ H D I h;refine wpAny_For (n8 (hi pins s σ H _ I h) fun v s1 h1=>n8 h1 fun itv s2 h2=>?_) hs;obtain⟨it,fp,tn,J,H2,e,I2,T,st2,f2,W,⟨m0,w0⟩,turn⟩:=h2;subst e;have Z:∀{H':Hp},(∀b∈fp,H' b=none)->∀b∈fp,M7 X pins H' b:=fun hn b hb=>#[hn b hb,(f2 b hb).2]
 refine codeAny_forLoop_any (fun n s'=>∃i σ' H',Inv X pins σ' H' s'/\tn i s'.heap/\(∀b∈fp,H' b=none)/\W i n σ' H') ?_ m0 #[0,σ,H2,I2,st2,fun b hb=>(f2 b hb).1,w0];rintro n s3 ⟨i,σ3,H3,I3,st3,fr3,w3⟩;rcases turn i n σ3 H3 w3 with ⟨stop,qn⟩ | ⟨go,N,hN,step⟩
 .refine Km hp (n8 (T.done X rfl rfl rfl hc i pins s3 σ3 H3 X.xe I3 (Z fr3) st3 stop) fun r s4 ⟨hr,I4⟩=>?_);subst hr;exact LL #[σ3,H3,I4,qn]
 .refine Km hp (n8 (T.item X rfl rfl rfl hc i pins s3 σ3 H3 X.xe I3 (Z fr3) st3 go) fun r s4 ⟨u,hr,h4⟩=>?_);subst hr;refine Km hp (n8 h4 fun _ s5 ⟨x,H5,I5,r5,y5,st5,fr5⟩=>?_);have I5':=I5.pinned (Z fr5) (T.obj _ _ st5);refine Km hp (n8 (hg _ s5 σ3 H5 x u _ I5' r5 (step x H5 y5)) fun _ s6 ⟨σ6,H6,I6,q6⟩=>?_);refine Km hp (n8 (hb _ s6 σ6 H6 _ I6 q6) fun f s7 q7=>?_);have U:∀{σ7:St}{Y:Hp},Inv X (pins++fD fp s5.heap) σ7 Y s7->N σ7 Y->∃m,m<n/\∃i σ' H',Inv X pins σ' H' s7/\tn i s7.heap/\(∀b∈fp,H' b=none)/\W i m σ' H':=fun {σ7 Y} B n7=>by
   obtain⟨m',hm,w7⟩:=hN σ7 Y n7;refine#[m',hm,i+1,σ7,Y,B.unpinned,T.keep _ _ _ st5 fun b hb o e=>(B.pin (b,o) (Jy _ (Jy _ (dE hb e)))).1,fun b hb=>?_,w7];obtain⟨o,e,d⟩:=T.obj _ _ st5 b hb;exact(B.pin (b,o) (Jy _ (Jy _ (dE hb e)))).2.1
  cases f with
  |next=>obtain⟨σ7,Y,B,n7⟩:=q7;exact U B n7
  |cont=>obtain⟨σ7,Y,B,n7⟩:=q7;exact U B n7
  |brk=>obtain⟨σ7,Y,B,q7⟩:=q7;exact#[σ7,Y,B.unpinned,q7]
  |ret v=>obtain⟨x7,σ7,Y,B,r7,q7⟩:=q7;exact#[x7,σ7,Y,B.unpinned,r7,q7]
def yG {K:vF_}{xs:List V}{g:TG}{tb:TS}{D:Ends}{H:Hp}(B:Nat->St->Hp->Prop) (Y:B 0 σ H) (hl:∀i σ H,i<=xs.length->B i σ H->SqL K H a xs)
  (hs:∀i x σ H,xs[i]? = some x->B i σ H->g x σ H fun σ2 H2=>tb { D with nx:=B (i+1),ct:=B (i+1),bk:=D.nx } σ2 H2) (U:∀σ H,B xs.length σ H->D.nx σ H) :
  ∃W:Nat->Nat->St->Hp->Prop,(∃m,W 0 m σ H)/\∀i m σ H,W i m σ H ->
   ((dZ K a).stop i H/\D.nx σ H)\/((dZ K a).go i H/\∃N:St->Hp->Prop,(∀σ' H',N σ' H'->∃m',m'<m/\W (i+1) m' σ' H')/\∀x H',(dZ K a).yld i H x H'->g x σ H' fun σ2 H2=>tb { D with nx:=N,ct:=N,bk:=D.nx } σ2 H2):=by
 refine#[fun i m σ H=>m=xs.length - i/\i<=xs.length/\B i σ H,#[xs.length,by simp,JF _,Y],?_];rintro i m σ H ⟨rfl,hi,p⟩;have q:=hl i σ H hi p;by_cases J:i<xs.length
 .refine .inr #[#[xs,xs[i],q,by simp[J]],B (i+1),fun σ' H' p'=>#[xs.length - (i+1),by omega,rfl,J,p'],fun x H' y=>?_];obtain⟨e,y⟩:=y;subst e;exact hs i x σ _ (y xs q) p
 .have e:i=xs.length:=by omega
  subst e;exact .inl #[#[xs,q,tx _],U σ H p]
def fE {K:vF_}{xs:List V}{g:TG}{tb:TS}{D:Ends}{H:Hp}(B:Nat->St->Hp->Prop) (Y:B 0 σ H) (hl:∀i σ H,i<=xs.length->B i σ H->SqT K H a xs)
  (hs:∀i x σ H,xs[i]? = some x->B i σ H->g x σ H fun σ2 H2=>tb { D with nx:=B (i+1),ct:=B (i+1),bk:=D.nx } σ2 H2) (U:∀σ H,B xs.length σ H->D.nx σ H) :
  ∃W:Nat->Nat->St->Hp->Prop,(∃m,W 0 m σ H)/\∀i m σ H,W i m σ H ->
   ((dX K a).stop i H/\D.nx σ H)\/((dX K a).go i H/\∃N:St->Hp->Prop,(∀σ' H',N σ' H'->∃m',m'<m/\W (i+1) m' σ' H')/\∀x H',(dX K a).yld i H x H'->g x σ H' fun σ2 H2=>tb { D with nx:=N,ct:=N,bk:=D.nx } σ2 H2):=by
 refine#[fun i m σ H=>m=xs.length - i/\i<=xs.length/\B i σ H,#[xs.length,by simp,JF _,Y],?_];rintro i m σ H ⟨rfl,hi,p⟩;have q:=hl i σ H hi p;by_cases J:i<xs.length
 .refine .inr #[#[xs,xs[i],q,by simp[J]],B (i+1),fun σ' H' p'=>#[xs.length - (i+1),by omega,rfl,J,p'],fun x H' y=>?_];obtain⟨e,y⟩:=y;subst e;exact hs i x σ _ (y xs q) p
 .have e:i=xs.length:=by omega
  subst e;exact .inl #[#[xs,q,tx _],U σ H p]
def HF {lo:Int}{n:Nat}{g:TG}{tb:TS}{D:Ends}{H:Hp}(J:Nat->St->Hp->Prop) (U:J 0 σ H)
  (hs:∀i σ H,i<n->J i σ H->g (.int (lo+i)) σ H fun σ2 H2=>tb { D with nx:=J (i+1),ct:=J (i+1),bk:=D.nx } σ2 H2) (Y:∀σ H,J n σ H->D.nx σ H) :
  ∃W:Nat->Nat->St->Hp->Prop,(∃m,W 0 m σ H)/\∀i m σ H,W i m σ H ->
   ((bB lo n).stop i H/\D.nx σ H)\/((bB lo n).go i H/\∃N:St->Hp->Prop,(∀σ' H',N σ' H'->∃m',m'<m/\W (i+1) m' σ' H')/\∀x H',(bB lo n).yld i H x H'->g x σ H' fun σ2 H2=>tb { D with nx:=N,ct:=N,bk:=D.nx } σ2 H2):=by
 refine#[fun i m σ H=>m=n - i/\i<=n/\J i σ H,#[n,by simp,JF _,U],?_];rintro i m σ H ⟨rfl,hi,p⟩;by_cases B:i<n
 .refine .inr #[B,J (i+1),fun σ' H' p'=>#[n - (i+1),by omega,rfl,B,p'],fun x H' y=>?_];obtain⟨e,y⟩:=y;subst e y;exact hs i σ _ B p
 .have e:i=n:=by omega
  subst e;exact .inl #[tx _,Y σ H p]
abbrev R2:=V->V->Hp->VK->Prop
def OpR (X:Cx) (f:Value->Value->Sem Value) (r:R2):Prop:=
 ∀(pins:vP_) (s:Shared) (σ:St) (H:Hp) (x y:V) (v u:Value) (Q:VK),Inv X pins σ H s->RelV x v->RelV y u->r x y H Q ->
  wpAny (model X.prog X.w) X.A (f v u) (EP X pins σ Q) X.xe s
def ii (X:Cx) (f:Value->Sem Value) (r:V->Hp->VK->Prop):Prop:=
 ∀(pins:vP_) (s:Shared) (σ:St) (H:Hp) (x:V) (v:Value) (Q:VK),Inv X pins σ H s->RelV x v->r x H Q ->
  wpAny (model X.prog X.w) X.A (f v) (EP X pins σ Q) X.xe s
def CallR (X:Cx) (f:Value) (r:List V->Hp->VK->Prop):Prop:=
 ∀(pins:vP_) (s:Shared) (σ:St) (H:Hp) (xs:List V) (us:vV_) (Q:VK),Inv X pins σ H s->Vals xs us->r xs H Q ->
  wpAny (model X.prog X.w) X.A (call f us) (EP X pins σ Q) X.xe s
def GX (X:Cx) (r:V->Hp->(Bool->Hp->Prop)->Prop):Prop:=
 ∀(pins:vP_) (s:Shared) (σ:St) (H:Hp) (x:V) (v:Value) (Q:Bool->Hp->Prop),Inv X pins σ H s->RelV x v->r x H Q ->
  wpAny (model X.prog X.w) X.A (truthy v) (TP X pins σ Q) X.xe s
def cE (r:R2) (ta tb:TE):TE:=fun σ H Q=>ta σ H fun x H1=>tb σ H1 fun y H2=>r x y H2 Q
def wX (r:V->Hp->VK->Prop) (ta:TE):TE:=fun σ H Q=>ta σ H fun x H1=>r x H1 Q
def rI (C:Int->Int->Prop) (g:Int->Int->V):R2:=fun x y H Q=>∃i j,x = .int i/\y = .int j/\C i j/\Q (g i j) H
def U3 (g:Int->Int->V):R2:=fun x y H Q=>∃i j,x = .int i/\y = .int j/\Q (g i j) H
def rU (g:Int->V):V->Hp->VK->Prop:=fun x H Q=>∃i,x = .int i/\Q (g i) H
section
variable {a b:Expr}{ta tb tc:TE}{pos:Pos}
def jG (ha:PE X a ta) (hb:PE X b tb) {R:V->V->Hp->Prop}(I:Inv X pins σ H s)
  (h:ta σ H fun x H1=>tb σ H1 fun y H2=>R x y H2) {Q:vQ_}{f:Value->Value->Sem Value}
  (B:∀v u s2 x y H2,Inv X pins σ H2 s2->RelV x v->RelV y u->R x y H2->wpAny (model X.prog X.w) X.A (f v u) Q X.xe s2) :
  wpAny (model X.prog X.w) X.A (eval a X.env) (fun v s₁=>wpAny (model X.prog X.w) X.A (eval b X.env) (fun u s₂=>wpAny (model X.prog X.w) X.A (f v u) Q X.xe s₂) X.xe s₁) X.xe s:=by
 refine n8 (ha pins s σ H _ I h) fun v s1 ⟨x,H1,Z,Y,J⟩=>?_
 refine n8 (hb pins s1 σ H1 _ Z J) fun u s2 ⟨y,H2,I2,W,U⟩=>?_
 exact B v u s2 x y H2 I2 Y W U
def fP {op:Operator}(J:OpR X (binaryOp op) r) (ha:PE X a ta) (hb:PE X b tb):PE X (.BinOp a op b pos) (cE r ta tb):=by
 intro pins s σ H Q I h;exact wpAny_BinOp (jG ha hb I h fun v u s2 x y H2 U W B q=>J pins s2 σ H2 x y v u Q U W B q)
def EJ {op:UnaryOp}(U:ii X (unaryOp op) r) (ha:PE X a ta):PE X (.UnaryOp op a pos) (wX r ta):=by
 intro pins s σ H Q I h;exact UnaryOp_ (n8 (ha pins s σ H _ I h) fun v s1 ⟨x,H1,B,J,W⟩=>U pins s1 σ H1 x v Q B J W)
def gS {C:Int->Int->Prop}{g:Int->Int->Int}
  (B:∀(i j:Int) (t u:Tok) (s:Shared) (Q:vQ_) (E:vQ_),C i j->Q (.int (g i j) s.toks) { s with toks:=s.toks+1 }->wpAny (model X.prog X.w) X.A (f (.int i t) (.int j u)) Q E s) :
  OpR X f (rI C fun i j=>.int (g i j)):=by
 intro pins s σ H x y v u Q I U J h;obtain⟨i,j,rfl,rfl,W,q⟩:=h;obtain⟨t,rfl⟩:=U;obtain⟨t',rfl⟩:=J;exact B i j t t' s _ _ W #[.int (g i j),H,I.tok _,#[_,rfl],q]
def qZ {g:Int->Int->Int}
  (B:∀(i j:Int) (t u:Tok) (s:Shared) (Q:vQ_) (E:vQ_),Q (.int (g i j) s.toks) { s with toks:=s.toks+1 }->wpAny (model X.prog X.w) X.A (f (.int i t) (.int j u)) Q E s) :
  OpR X f (U3 fun i j=>.int (g i j)):=by
 intro pins s σ H x y v u Q I U J h;obtain⟨i,j,rfl,rfl,q⟩:=h;obtain⟨t,rfl⟩:=U;obtain⟨t',rfl⟩:=J;exact B i j t t' s _ _ #[.int (g i j),H,I.tok _,#[_,rfl],q]
def kh {f:Value->Value->Sem Value}{g:Int->Int->Bool}
  (B:∀(i j:Int) (t u:Tok) (s:Shared) (Q:vQ_) (E:vQ_),Q (.bool (g i j)) s->wpAny (model X.prog X.w) X.A (f (.int i t) (.int j u)) Q E s) :
  OpR X f (U3 fun i j=>.bl (g i j)):=by
 intro pins s σ H x y v u Q I U J h;obtain⟨i,j,rfl,rfl,q⟩:=h;obtain⟨t,rfl⟩:=U;obtain⟨t',rfl⟩:=J;exact B i j t t' s _ _ #[.bl (g i j),H,I,rfl,q]
def uH (i j:Int):Prop:=0<=j/\j<=1000000/\i.natAbs<2 ^ 64
def op_add:OpR X (binaryOp .Add) (U3 fun i j=>.int (i+j)):=qZ fun _ _ _ _ _ _ _ q=>add_int q
def AX:OpR X (binaryOp .Sub) (U3 fun i j=>.int (i - j)):=qZ fun _ _ _ _ _ _ _ q=>sub_int q
def yD:OpR X (binaryOp .Mod) (rI (fun _ j=>j≠0) fun i j=>.int (i.fmod j)):=gS fun _ _ _ _ _ _ _ B q=>mod_int' B q
def wP:OpR X (binaryOp .Pow) (rI uH fun i j=>.int (i ^ j.toNat)):=gS fun _ _ _ _ _ _ _ B q=>pow_int_small B.1 B.2.1 B.2.2 q
def GA {g:Int->Int}
  (B:∀(i:Int) (t:Tok) (s:Shared) (Q:vQ_) (E:vQ_),Q (.int (g i) s.toks) { s with toks:=s.toks+1 }->wpAny (model X.prog X.w) X.A (f (.int i t)) Q E s) :
  ii X f (rU fun i=>.int (g i)):=by
 intro pins s σ H x v Q I J h;obtain⟨i,rfl,q⟩:=h;obtain⟨t,rfl⟩:=J;exact B i t s _ _ #[.int (g i),H,I.tok _,#[_,rfl],q]
def BF:ii X (unaryOp .USub) (rU fun i=>.int (-i)):=GA fun _ _ _ _ _ q=>neg_int q
end
def nQ:V->V->Bool
 |.non,.non=>true | .non,.int _=>true | .int _,.non=>true | .non,.bl _=>true | .bl _,.non=>true | .non,.str _=>true | .str _,.non=>true
 |.int _,.int _=>true | .bl _,.bl _=>true | .str _,.str _=>true | .byt _,.byt _=>true
 |.int _,.str _=>true | .str _,.int _=>true | .bl _,.str _=>true | .str _,.bl _=>true
 |_,_=>false
def kE:R2:=fun x y H Q=>nQ x y=true/\Q (.bl (decide (x=y))) H
def jC:R2:=fun x y H Q=>nQ x y=true/\Q (.bl (!decide (x=y))) H
def oq {i j:Int}:decide (V.int i=V.int j)=(i == j):=by
 rw[JG];simp
def oX {i j:Bool}:decide (V.bl i=V.bl j)=(i == j):=by
 rw[JG];simp
def ux {i j:Str}:decide (V.str i=V.str j)=(i == j):=by
 rw[JG];simp
def ql {i j:Array UInt8}:decide (V.byt i=V.byt j)=(i.toList == j.toList):=by
 rw[JG];cases i;cases j;simp
section
variable {a b:Expr}{ta tb tc:TE}{pos:Pos}
def B9 {Q:VK}{k k':Bool}(I:Inv X pins σ H s) (q:Q (.bl k) H) (e:k=k'):EP X pins σ Q (.bool k') s:=by
 subst e;exact#[.bl k,H,I,rfl,q]
def op_eq:OpR X (compareOp .Eq) kE:=by
 intro pins s σ H x y v u Q I J B h;obtain⟨hs,q⟩:=h;cases x with
 |non=>
  cases J;cases y with
  |non=>cases B;exact PySem.EqNone.eq_none_none (B9 I q (by simp))
  |bl j=>cases B;exact PySem.EqNone.eq_none_bool (B9 I q (by simp))
  |int j=>obtain⟨t',rfl⟩:=B;exact PySem.EqNone.eq_none_int (B9 I q (by simp))
  |str j=>obtain⟨t',rfl⟩:=B;exact PySem.EqNone.eq_none_str (B9 I q (by simp))
  |_=>exact absurd (show false=true from hs) Io
 |bl i=>
  cases J;cases y with
  |non=>cases B;exact PySem.EqNone.eq_bool_none (B9 I q (by simp))
  |bl j=>cases B;exact eq_bool (B9 I q oX)
  |str j=>obtain⟨t',rfl⟩:=B;exact PySem.EqMixed.eq_bool_str (B9 I q (by simp))
  |_=>exact absurd (show false=true from hs) Io
 |int i=>
  obtain⟨t,rfl⟩:=J;cases y with
  |non=>cases B;exact PySem.EqNone.eq_int_none (B9 I q (by simp))
  |int j=>obtain⟨t',rfl⟩:=B;exact eq_int (B9 I q oq)
  |str j=>obtain⟨t',rfl⟩:=B;exact PySem.EqMixed.eq_int_str (B9 I q (by simp))
  |_=>exact absurd (show false=true from hs) Io
 |str i=>
  obtain⟨t,rfl⟩:=J;cases y with
  |non=>cases B;exact PySem.EqNone.eq_str_none (B9 I q (by simp))
  |bl j=>cases B;exact PySem.EqMixed.eq_str_bool (B9 I q (by simp))
  |int j=>obtain⟨t',rfl⟩:=B;exact PySem.EqMixed.eq_str_int (B9 I q (by simp))
  |str j=>obtain⟨t',rfl⟩:=B;exact eq_str (B9 I q ux)
  |_=>exact absurd (show false=true from hs) Io
 |byt i=>
  obtain⟨t,rfl⟩:=J;cases y with
  |byt j=>obtain⟨t',rfl⟩:=B;exact PySem.W.eq_bytes (B9 I q ql)
  |_=>exact absurd (show false=true from hs) Io
 |_=>cases y <;> exact absurd (show false=true from hs) Io
def op_ne:OpR X (compareOp .NotEq) jC:=by
 intro pins s σ H x y v u Q I J B h;obtain⟨hs,q⟩:=h;cases x with
 |non=>
  cases J;cases y with
  |non=>cases B;exact PySem.EqNone.ne_none_none (B9 I q (by simp))
  |bl j=>cases B;exact PySem.EqNone.ne_none_bool (B9 I q (by simp))
  |int j=>obtain⟨t',rfl⟩:=B;exact PySem.EqNone.ne_none_int (B9 I q (by simp))
  |str j=>obtain⟨t',rfl⟩:=B;exact PySem.EqNone.ne_none_str (B9 I q (by simp))
  |_=>exact absurd (show false=true from hs) Io
 |bl i=>
  cases J;cases y with
  |non=>cases B;exact PySem.EqNone.ne_bool_none (B9 I q (by simp))
  |bl j=>cases B;exact ne_bool (B9 I q (congrArg not oX))
  |str j=>obtain⟨t',rfl⟩:=B;exact PySem.EqMixed.ne_bool_str (B9 I q (by simp))
  |_=>exact absurd (show false=true from hs) Io
 |int i=>
  obtain⟨t,rfl⟩:=J;cases y with
  |non=>cases B;exact PySem.EqNone.ne_int_none (B9 I q (by simp))
  |int j=>obtain⟨t',rfl⟩:=B;exact ne_int (B9 I q (congrArg not oq))
  |str j=>obtain⟨t',rfl⟩:=B;exact PySem.EqMixed.ne_int_str (B9 I q (by simp))
  |_=>exact absurd (show false=true from hs) Io
 |str i=>
  obtain⟨t,rfl⟩:=J;cases y with
  |non=>cases B;exact PySem.EqNone.ne_str_none (B9 I q (by simp))
  |bl j=>cases B;exact PySem.EqMixed.ne_str_bool (B9 I q (by simp))
  |int j=>obtain⟨t',rfl⟩:=B;exact PySem.EqMixed.ne_str_int (B9 I q (by simp))
  |str j=>obtain⟨t',rfl⟩:=B;exact ne_str (B9 I q (congrArg not ux))
  |_=>exact absurd (show false=true from hs) Io
 |byt i=>
  obtain⟨t,rfl⟩:=J;cases y with
  |byt j=>obtain⟨t',rfl⟩:=B;exact PySem.W.ne_bytes (B9 I q (congrArg not ql))
  |_=>exact absurd (show false=true from hs) Io
 |_=>cases y <;> exact absurd (show false=true from hs) Io
def Fu:OpR X (compareOp .Lt) (U3 fun i j=>.bl (decide (i<j))):=kh fun _ _ _ _ _ _ _ q=>lt_int q
def uR:OpR X (compareOp .Gt) (U3 fun i j=>.bl (decide (j<i))):=kh fun _ _ _ _ _ _ _ q=>gt_int q
def vD:OpR X (compareOp .GtE) (U3 fun i j=>.bl (decide (j<=i))):=kh fun _ _ _ _ _ _ _ q=>ge_int q
def OpR.or {r U:R2}(h:OpR X f r) (h':OpR X f U):OpR X f (fun x y H Q=>r x y H Q\/U x y H Q):=by
 intro pins s σ H x y v u Q I B J q;rcases q with q | q
 .exact h pins s σ H x y v u Q I B J q
 .exact h' pins s σ H x y v u Q I B J q
def dY (b:Expr) {op:CmpOp}(h:op ≠ .In:=by decide) (h2:op ≠ .NotIn:=by decide):behindInMarks op b=false:=by
 have J:(op == CmpOp.In)=false:=by cases op <;> first | rfl | exact absurd rfl h
 have B:(op == CmpOp.NotIn)=false:=by cases op <;> first | rfl | exact absurd rfl h2
 cases b <;> simp[behindInMarks,J,B]
def wt {op:CmpOp}(J:OpR X (compareOp op) r) (ha:PE X a ta) (hb:PE X b tb) (hm:behindInMarks op b=false):PE X (.Compare a [op] [b] pos) (cE r ta tb):=by
 intro pins s σ H Q I h;exact wpAny_Compare1 (jG ha hb I h fun v u s2 x y H2 U W B q=>J pins s2 σ H2 x y v u Q U W B q) hm
def Ek (t:TE):TT:=fun σ H Q=>t σ H fun x H'=>∃k,x = .bl k/\Q k H'
def Em {op:CmpOp}(ho:OpR X (compareOp op) r) (ha:PE X a ta) (hb:PE X b tb) (hm:behindInMarks op b=false):PT X (.Compare a [op] [b] pos) (Ek (cE r ta tb)):=by
 intro pins s σ H Q I h;refine wpAny_isTrue_Compare1 (n8 (ha pins s σ H _ I h) fun v s1 ⟨x,H1,B,Y,J⟩=>n8 (hb pins s1 σ H1 _ B J) fun u s2 ⟨y,H2,I2,Z,U⟩=>
  n8 (ho pins s2 σ H2 x y v u _ I2 Y Z U) fun c s3 ⟨z,H3,I3,r3,k,e,W⟩=>?_) hm
 subst e;cases r3;exact Kw #[H3,I3,W]
def oB (K:vF_) (x:V) (H:Hp) (k:Bool):Prop:=
 match x with
 |.non=>k=false
 |.bl b=>k=b
 |.int i=>k=(i != 0)
 |.str y=>y.length<=sizeLine/\k=((y.length:Int) != 0)
 |.byt y=>y.size<=sizeLine/\k=((y.size:Int) != 0)
 |.ref p=>(∃xs,SqL K H p xs/\k = !xs.isEmpty)\/(∃xs,SqT K H p xs/\k = !xs.isEmpty)\/∃kvs,H p=some (.dK kvs)/\k = !kvs.isEmpty
 |_=>False
def Cs {κ:Type}{B:List (κ × V)}{J:List (κ × Value)}(r:KV B J):(!J.isEmpty) = !B.isEmpty:=by
 cases r <;> rfl
def uQ (r:Vals xs its):(!its.toArray.isEmpty) = !xs.isEmpty:=by
 cases r <;> simp
def cc:(sizeLine:Nat)<2 ^ 63:=by rw[sizeLine_eq];decide
def BZ:GX X (fun x H Q=>∃k,oB X.K x H k/\Q k H):=by
 intro pins s σ H x v Q I Y h;obtain⟨k,e,q⟩:=h;have hl:=cc;have hs:sizeLine=16777216:=sizeLine_eq;cases x with
 |non=>
  cases Y;have B:k=false:=e;subst B;exact truthy_none #[H,I,q]
 |bl b=>
  cases Y;have B:k=b:=e;subst B;exact Kw #[H,I,q]
 |int i=>
  obtain⟨t,rfl⟩:=Y;have B:k=(i != 0):=e;subst B;exact PySem.P.truthy_int #[H,I,q]
 |str y=>
  obtain⟨t,rfl⟩:=Y;obtain⟨hy,B⟩:y.length<=sizeLine/\k=((y.length:Int) != 0):=e;subst B;exact PySem.P.truthy_str ∅ #[H,I.tok _,q]
 |byt y=>
  obtain⟨t,rfl⟩:=Y;obtain⟨hy,B⟩:y.size<=sizeLine/\k=((y.size:Int) != 0):=e;subst B;exact PySem.W.truthy_bytes ∅ #[H,I.tok _,q]
 |ref p=>
  cases Y;have B:(∃xs,SqL X.K H p xs/\k = !xs.isEmpty)\/(∃xs,SqT X.K H p xs/\k = !xs.isEmpty)\/∃J,H p=some (.dK J)/\k = !J.isEmpty:=e;rcases B with ⟨xs,Z,B⟩ | ⟨xs,Z,B⟩ | ⟨J,Z,B⟩
  .subst B;obtain⟨its,r,pl,hz⟩:=I.list Z;have U:=r.length;exact wpAny_truthy_list pl.isList (by simp only[Iz];omega) #[H,I.tok _,by rw[uQ r];exact q]
  .subst B;obtain⟨its,r,pl,hz⟩:=I.tuple Z;have U:=r.length;exact truthy_tuple pl (by simp only[Iz];omega) #[H,I.tok _,by rw[uQ r];exact q]
  .subst B;obtain⟨hz,hS,vs,r,m⟩:J.length<=sizeLine/\(p == sysModules)=false/\∃vs,KV J vs/\s.heap.DictOf (Q2 X.prog X.w) p vs:=I.hok p _ Z;have U:J.length=vs.length:=Paired.length r;exact wpAny_truthy_dict hS m ∅ #[H,I.tok _,by rw[Cs r];exact q]
 |_=>exact(show False from e).elim
def Gd (ha:PE X a ta) (W:∀whole,isTrue a X.env whole=(do let v <-whole;standAt a.pos;holding [v] (truthy v))) :
  PT X a (fun σ H Q=>ta σ H fun x H'=>∃k,oB X.K x H' k/\Q k H'):=by
 intro pins s σ H Q I h;exact isTrue_plain (n8 (ha pins s σ H _ I h) fun v s1 ⟨x,H1,B,J,U⟩=>BZ pins s1 σ H1 x v Q B J U) (W _)
def Ia:OpR X (binaryOp .Add) (fun x y H Q=>∃i j,x = .str i/\y = .str j/\i.length+j.length<=sizeLine/\Q (.str (i++j)) H):=by
 intro pins s σ H x y v u Q I J B h;obtain⟨i,j,rfl,rfl,U,q⟩:=h;obtain⟨t,rfl⟩:=J;obtain⟨t',rfl⟩:=B;exact add_str (fun t' W=>#[.str (i++j),H,I.tok _,#[_,rfl],q]) U
def Z8 {x:V}(r:Vals [x] us):∃u,us=[u]/\RelV x u:=by
 cases r with
 |cons J B=>cases B;exact#[_,rfl,J]
def yE:CallR X (.builtin "abs") (fun xs H Q=>∃i,xs=[.int i]/\Q (.int (if i<0 then -i else i)) H):=by
 intro pins s σ H xs us Q I r h;obtain⟨i,rfl,q⟩:=h;obtain⟨u,rfl,t,rfl⟩:=Z8 r;exact call_abs_int fun u B=>#[.int (if i<0 then -i else i),H,I.tok _,#[_,rfl],q]
def wG:CallR X (.type "int") (fun xs H Q=>(∃i,xs=[.int i]/\Q (.int i) H)\/∃k,xs=[.bl k]/\Q (.int (if k then 1 else 0)) H):=by
 intro pins s σ H xs us Q I r h;rcases h with ⟨i,rfl,q⟩ | ⟨k,rfl,q⟩
 .obtain⟨u,rfl,t,rfl⟩:=Z8 r;exact call_int_int #[.int i,H,I,#[_,rfl],q]
 .obtain⟨u,rfl,B⟩:=Z8 r;cases B;exact call_int_bool #[.int (if k then 1 else 0),H,I.tok _,#[_,rfl],q]
end
structure Room (k:Nat) (A:Around):Prop where
 hd:A.handled=none
 dp:A.depth+3*k+5<recursionLimit
 un:A.units+16*k+200<cLine
 gd:A.guards=some []
def Room.mono (r:Room k A) (h:j<=k):Room j A:=#[r.hd,by have:=r.dp;omega,by have:=r.un;omega,r.gd]
theorem Room.deeper (r:Room (k+1) A) (B:Env):Room k (A.deeper B):=
 #[r.hd,by have:=r.dp;show A.depth+1+3*k+5<_;omega,by have:=r.un;show A.units+3+16*k+200<_;omega,r.gd]
theorem Room.depth (r:Room k A):A.depth<recursionLimit:=by have:=r.dp;omega
def HW:TA:=fun _ H Q=>Q [] H
def CN (ta:TE) (B:TA):TA:=fun σ H Q=>ta σ H fun x H1=>B σ H1 fun xs H2=>Q (x::xs) H2
section
variable {t:TA}{pos:Pos}
def X7:PA X [] HW:=fun _ _ _ _ H Q I h=>Calls.spliced_nil #[[],H,I,.nil,h]
def U8 (ha:PE X e te) (hr:PA X es t) (hs:starEach (e::es) X.env=(false,eval e X.env)::starEach es X.env:=by rfl):PA X (e::es) (CN te t):=by
 intro pos pins s σ H Q I h;rw[hs];show wpAny _ _ (spliced ((false,eval e X.env)::backTo pos (starEach es X.env))) _ _ s;refine Calls.spliced_cons (n8 (ha pins s σ H _ I h) fun u s1 ⟨x,H1,B,W,J⟩=>?_);exact n8 (hr pos pins s1 σ H1 _ B J) fun us s2 ⟨xs,H2,Z,Y,U⟩=>#[x::xs,H2,Z,.cons W Y,U]
def FR (t:TA):TE:=fun σ H Q=>t σ H fun xs H1=>xs.length<=sizeLine/\∀p,H1 p=none->Q (.ref p) (f9 H1 p (.tup xs))
def DH (t:TA):TE:=fun σ H Q=>t σ H fun xs H1=>xs.length<=sizeLine/\∀p,H1 p=none->Q (.ref p) (f9 H1 p (.lst xs))
def AV {x1} (h:PA X es t):PE X (.Tuple es x1 pos) (FR t):=by
 intro pins s σ H Q I J;refine wpAny_Tuple_spliced (n8 (h pos pins s σ H _ I J) fun us s1 ⟨xs,H1,B,r,z,q⟩=>#[by rw[<-r.length];exact z,?_]);have U:H1 s1.heap.objs.size=none:=B.hok.fresh (tx _);refine#[.ref s1.heap.objs.size,f9 H1 s1.heap.objs.size (.tup xs),B.laid (t':=s1.toks) (fun b u e=>Ii _ e) (tx _) ?_,rfl,q _ U];exact#[z,us,r,#[_,ID _ rfl,rfl,_,rfl]]
def iy (h:PA X es t):PE X (.List es pos) (DH t):=by
 intro pins s σ H Q I J;refine wpAny_List_spliced (n8 (h pos pins s σ H _ I J) fun us s1 ⟨xs,H1,B,r,z,q⟩=>#[by rw[<-r.length];exact z,?_]);have U:H1 s1.heap.objs.size=none:=B.hok.fresh (tx _);refine#[.ref s1.heap.objs.size,f9 H1 s1.heap.objs.size (.lst xs),B.laid (t':=s1.toks) (fun b u e=>Ii _ e) (tx _) ?_,rfl,q _ U];exact#[z,us,0,r,ID _ rfl]
end
abbrev Sp:=List V->Hp->VK->XK->Prop
variable {sp:Sp}
abbrev U4:=List Env->Hp->Shared->XK->Value->Shared->Prop
variable {CX:U4}
structure Env0 (P:Program) (w:World) (K:vF_) (mg:vG_) (base:Heap) (A:Around) (outer:List Env) (s:Shared) (H:Hp):Prop where
 frames:A.frames=some outer
 mod:Mod K mg base
 bs:∀b o,base.get? b=some o->s.heap.get? b=some o/\H b=none
 bsz:base.objs.size<=s.heap.objs.size
 funs:s.heap.FunFrames base outer
 frf:∀b∈U0 outer,H b=none
 hok:HOk P w H s.heap
 bare:AllBare s.gens
def CE (B:List Env) (P:Program) (w:World) (H:Hp) (s:Shared) (Q:VK) (u:Value) (s':Shared):Prop:=
 ∃v H',s'.os=s.os/\AllBare s'.gens/\Un (U0 B) [] H H' s.heap s'.heap/\HOk P w H' s'.heap/\RelV v u/\Q v H'
def CR (CX:U4) (B:List Env) (P:Program) (w:World) (H:Hp) (s:Shared) (Q:VK) (E:XK) (r:Result) (s':Shared):Prop:=
 match r with
 |.ok (.ret u)=>CE B P w H s Q u s'
 |.ok _=>False
 |.error e=>CX B H s E e s'
structure FnOk (P:Program) (w:World) (K:vF_) (mg:vG_) (base:Heap) (CX:U4) (k:Nat) (f:Addr) (fd:FuncData) (ps:List Str) (sp:Sp):Prop where
 len:∀vs H Q E,sp vs H Q E->vs.length=ps.length
 run:∀(A:Around) (outer:List Env) (s:Shared) (H:Hp) (args:Args) (us:vV_) (vs:List V) (Q:VK) (E:XK),Room k A->Env0 P w K mg base A outer s H->BindsTo s fd args (ps.zip us)->Vals vs us->sp vs H Q E ->
  codeAny (model P w) A (.call (.ref f) args) (CR CX outer P w H s Q E) s
section
variable {s':Shared}
def Inv.env0 (I:Inv X pins σ H s):Env0 X.prog X.w X.K X.mg X.base X.A X.stack s H:=
 #[I.ok.frames,I.ok.mod,I.bs,Ij I.ok.bsz I.sz,I.stack,I.stkFree,I.hok,I.bare]
def Inv.after {Q:VK}(I:Inv X pins σ H s) (h:CE X.stack X.prog X.w H s Q u s'):EP X pins σ Q u s':=by
 obtain⟨v,H',os,B,Y,J,r,q⟩:=h;obtain⟨W,g,d,t,U⟩:=s';obtain rfl:U=s.os:=os;exact#[v,H',I.call (h':=W) (g':=g) (d':=d) (t':=t) (ch:=[]) Y J B (fun b z=>absurd z (by simp)),r,q]
end
def rC (sp:Sp) (dvs:List V) (E:XK) (t:TA):TE:=fun σ H Q=>t σ H fun B H1=>sp (B++dvs) H1 Q E
def Binds (K:vF_) (fd:FuncData) (ps:List Str) (ds:vV_):Prop:=
 ∀(s:Shared) (us:vV_),K.In s.heap->(us++ds).length=ps.length->BindsTo s fd #[us,[]] (ps.zip (us++ds))
def Binds.all {K:vF_}{ps:List Str}(h:∀us:List Value,us.length=ps.length->bindArgs fd #[us,[]]=pure (ps.zip us)):Binds K fd ps []:=fun s us _ hl=>by
 rw[JR] at hl ⊢;exact .of_eq (h us hl)
def mG (CX:U4) (X:Cx) (E:XK):Prop:=∀(pins:vP_) (σ:St) (H:Hp) (s:Shared) (e:Value) (s':Shared),Inv X pins σ H s->CX X.stack H s E e s'->X.xe e s'
section
variable {f C:Addr}{ps:List Str}{dvs:List V}{ds:vV_}{E:XK}{m:Str}{p pos apos:Pos}{o:Expr}{ta:TE}{t:TA}
def qy {Q:VK}(F:FnOk X.prog X.w X.K X.mg X.base CX k f fd ps sp) (Y:Room k X.A) (hb:Binds X.K fd ps ds) (U:Vals dvs ds) (W:mG CX X E)
  (I:Inv X pins σ H s) (r:Vals vs us) (h:sp (vs++dvs) H Q E):wpAny (model X.prog X.w) X.A (call (.ref f) us) (EP X pins σ Q) X.xe s:=by
 have J:Vals (vs++dvs) (us++ds):=r.append U;have hl:(us++ds).length=ps.length:=by rw[<-J.length];exact F.len _ _ _ _ h
 refine wpAny_call (codeAny_mono (F.run X.A X.stack s H #[us,[]] (us++ds) (vs++dvs) Q E Y I.env0 (hb s us I.kIn hl) J h) fun r s' B=>?_);cases r with
 |error e=>exact W pins σ H s e s' I B
 |ok fl=>
  cases fl with
  |ret u=>exact I.after B
  |next=>exact False.elim B
  |brk=>exact False.elim B
  |cont=>exact False.elim B
def yb (F:FnOk X.prog X.w X.K X.mg X.base CX k f fd ps sp) (hr:Room k X.A) (Z:Gl X x) (hm:X.mg x=some (.ref f)) (hk:PySem.W.keepIn X.K (.ref f)=true) (hb:Binds X.K fd ps ds) (Y:Vals dvs ds) (hx:mG CX X E)
  (ha:PA X (e::es) t) (B:(x == ("__debug__" : Str))=false:=by decide) (he:starEach (e::es) X.env=(false,eval e X.env)::starEach es X.env:=by rfl) (J:(backTo pos (starEach es X.env)).any (·.1)=false:=by rfl) :
  PE X (.Call (.Name x p) (e::es) [] pos) (rC sp dvs E t):=by
 intro pins s σ H Q I h;refine JW (pQ I Z hm ?_ B);refine PySem.W.callWith_K (h₀:=X.base) I.ok.mod.kin hk (n8 (ha pos pins s σ H _ I h) fun us s1 ⟨vs,H1,U,r,q⟩=>#[U.kIn,?_]) he J;exact qy F hr hb Y hx U r q
end
structure FnScope (N P:List Str) (sc:Scope):Prop where
 kind:sc.kind = .function
 co:sc.isCoroutine=false
 gen:sc.isGenerator=false
 nd:N.Nodup
 pre:N.take P.length=P
 par:∀x∈P,sc.names.lookup x=some .local\/sc.names.lookup x=some .cell
 nofree:∀y∈sc.names,y.2 ≠ .free
theorem tE {B:Str->Option NameKind}:∀{binds:List (Str × Value)}{m:vG_},(∀v,(x,v) ∉ binds)->bindL B binds m x=m x
 |[],_,_=>rfl
 |(n,v)::r,m,h=>by
  unfold bindL;rw[tE fun w J=>h w (iU _ J)];split
  .have:x≠n:=by rintro rfl;exact h v iR
   simp[this]
  .rfl
theorem uZ {B:Str->Option NameKind}:∀{binds:List (Str × Value)}{m:vG_},(∀v,(x,v) ∉ binds)->bindC B binds m x=m x
 |[],_,_=>rfl
 |(n,v)::r,m,h=>by
  unfold bindC;rw[uZ fun w J=>h w (iU _ J)];split
  .rfl
  .have:x≠n:=by rintro rfl;exact h v iR
   simp[this]
theorem pP {B:Str->Option NameKind}{v:Value}:∀{P:List Str}{vs:vV_}{i:Nat}{m:vG_},P.Nodup->P[i]? = some x->vs[i]? = some v->B x=some .local ->
  bindL B (P.zip vs) m x=some v
 |[],_,_,_,_,h,_,_=>by simp at h
 |_::_,[],_,_,_,_,h,_=>by simp at h
 |p::P,w::vs,0,m,nd,h1,h2,hk=>by
  simp at h1 h2;subst h1;subst h2;show bindL B ((p,w)::P.zip vs) m p=_;unfold bindL;rw[tE fun v J=>(IE.mp nd).1 (JS J).1,fx hk];simp
 |p::P,w::vs,i+1,m,nd,h1,h2,hk=>by
  show bindL B ((p,w)::P.zip vs) m x=_;unfold bindL;exact pP (i:=i) (IE.mp nd).2 (by simpa using h1) (by simpa using h2) hk
theorem uK {B:Str->Option NameKind}{v:Value}:∀{P:List Str}{vs:vV_}{i:Nat}{m:vG_},P.Nodup->P[i]? = some x->vs[i]? = some v->B x≠some .local ->
  bindC B (P.zip vs) m x=some v
 |[],_,_,_,_,h,_,_=>by simp at h
 |_::_,[],_,_,_,_,h,_=>by simp at h
 |p::P,w::vs,0,m,nd,h1,h2,hk=>by
  simp at h1 h2;subst h1;subst h2;show bindC B ((p,w)::P.zip vs) m p=_;unfold bindC;rw[uZ fun v J=>(IE.mp nd).1 (JS J).1,fI hk];simp
 |p::P,w::vs,i+1,m,nd,h1,h2,hk=>by
  show bindC B ((p,w)::P.zip vs) m x=_;unfold bindC;exact uK (i:=i) (IE.mp nd).2 (by simpa using h1) (by simpa using h2) hk
def start (N:List Str) (B:List V):St:=B.map some++List.replicate (N.length - B.length) none
def W5 (CX:U4) (P:Program) (w:World) (K:vF_) (mg:vG_) (base:Heap) (N:List Str) (qual:Str) (scope:Scope) (f:Addr) (J:Value) (A:Around) (outer:List Env) (s:Shared) (H:Hp) (E:XK):Cx where
 prog:=P
 w:=w
 K:=K
 mg:=mg
 base:=base
 A:=A.deeper (envOfC qual scope s.heap.objs.size f J)
 N:=N
 s₀:=s
 H₀:=H
 env:=envOfC qual scope s.heap.objs.size f J
 outer:=outer
 stack:=envOfC qual scope s.heap.objs.size f J::outer
 ex:=[]
 calm:=true
 fn:=fun _=>true
 pn:=[]
 xe:=fun e s'=>wpAny (model P w) (A.deeper (envOfC qual scope s.heap.objs.size f J)) (leaving (envOfC qual scope s.heap.objs.size f J) e) (fun _ B=>CX outer H s E e B) (fun U B=>CX outer H s E U B) s'
def vg {B:Scope}(h:B.names.lookup x=some .cell):∃c,(cellsFrom n B.names []).lookup x=some c:=by
 have q:=Nn B.names n [] (.inl h);exact Np.mp q
def xG {w:World}{K:vF_}{N ps:List Str}{Z:Value}{s1:Shared}{E:XK}{J:List V}
  (S:FnScope N ps scope) (hd:A.handled=none) (B:Env0 P w K mg base A outer s H) (hl:J.length=ps.length) (r:Vals J us)
  (x:InCallC s s.heap.objs.size (bindL (envOfC qual scope s.heap.objs.size f Z).kindOf (ps.zip us) fun _=>none) (cellsFrom (s.heap.objs.size+1) scope.names []) (bindC (envOfC qual scope s.heap.objs.size f Z).kindOf (ps.zip us) fun _=>none) s1) :
  Inv (W5 CX P w K mg base N qual scope f Z A outer s H E) [] (start N J) H s1:=by
 have hpl:ps.length<=N.length:=by have:=congrArg List.length S.pre;rw[Jz] at this;omega
 obtain⟨h1,tk,rfl,hk⟩:=x.done;have W:∀b:Addr,b ∉ (W5 CX P w K mg base N qual scope f Z A outer s H E).ex:=fun b z=>absurd (show b∈([]:vL_) from z) (by simp)
 refine#[#[B.mod,S.kind,rfl,rfl,tx _,fun y z c h1 h2=>?_,fun y U=>?_,fun y c _ h=>?_,fun _=>hd,Around.frames_deeper B.frames,.inr #[rfl,rfl],fun b z=>absurd z (W b),B.bs,B.bsz,fun b _ _=>W b,fun b z=>absurd z (W b),B.funs,B.frf],
  rfl,B.bare,Un.kept hk,#[_,x.toInCall.ns,fun i y v h1 h2 h3=>?_],fun y c h=>#[_,x.cell y c h],B.hok.fresh (tx _),fun y c h=>?_,fun p hp=>absurd (show p∈([]:vP_) from hp) (by simp),B.hok.kept hk,?_]
 .exact name_of_addr x.apart (Le h1) (Le h2)
 .have U:scope.names.lookup y=some .cell\/scope.names.lookup y=some .free:=U;rcases U with U | U
  .exact vg U
  .exact absurd rfl (S.nofree _ (Le U))
 .exact LI (x.above y c (Le h))
 .have hi:i<J.length:=by
   unfold start at h2;by_cases hi:i<J.length
   .exact hi
   .rw[Kx (by simpa using hi)] at h2;rw[List.getElem?_replicate] at h2;split at h2 <;> cases h2
  have ha:J[i]? = some v:=by
   unfold start at h2;rw[Lf (by simpa using hi),IT] at h2;cases e:J[i]? with
   |none=>rw[e] at h2;cases h2
   |some a=>rw[e] at h2;cases h2;rfl
  obtain⟨u,hu,rv⟩:=r.get ha;have hp:ps[i]? = some y:=by
   rw[<-S.pre,Lg ∅];exact h1
  have Y:ps.Nodup:=by rw[<-S.pre];exact S.nd.sublist (List.take_sublist _ _)
  refine#[u,rv,?_];rcases S.par y (Ju hp) with k | k
  .exact .inl #[k,pP Y hp hu k]
  .obtain⟨c,e⟩:=vg (n:=s.heap.objs.size+1) k;refine .inr #[.inl k,c,e,?_];have q:=x.cell y c e;rw[uK Y hp hu (by show scope.names.lookup y≠_;rw[k];decide)] at q;exact q
 .exact B.hok.fresh (LI (x.above y c (Le h)))
 .unfold start;show _=N.length;rw[IQ,xo,Nq];omega
def EX {CX:U4}{w:World}{K:vF_}{mg:vG_}{base:Heap}{k:Nat}{name qual:Str}{body:List Stmt}{scope:Scope}{dV kV doc pm B ct oc:Value}{an od:vA_}
  {osl:vS_}{N ps:List Str}{sp:Sp}(lk:K.lookup f=some #[oc,od,.func (PySem.W.fnOf name qual params body scope dV kV doc pm an B ct),osl]) (hcd:PySem.W.codeIn K B qual=true) (S:FnScope N ps scope)
  (len:∀vs H Q E,sp vs H Q E->vs.length=ps.length)
  (U:∀(A:Around) (outer:List Env) (s:Shared) (H:Hp) (vs:List V) (Q:VK) (E:XK),Room k (A.deeper (envOfC qual scope s.heap.objs.size f B))->sp vs H Q E ->
   ∃t,PSs (W5 CX P w K mg base N qual scope f B A outer s H E) body t/\t { nx:=fun _ H'=>Q .non H',rt:=Q } (start N vs) H) :
  FnOk P w K mg base CX (k+1) f (PySem.W.fnOf name qual params body scope dV kV doc pm an B ct) ps sp:=by
 refine#[len,fun A outer s H args us vs Q E hr e0 hb r Z=>?_];have hl:=len _ _ _ _ Z;have KX:K.In s.heap:=e0.mod.kin.keeps fun b o e=>(e0.bs b o e).1
 have lim:s.heap.NoLimit:=e0.mod.nolimit.keeps fun b o e=>(e0.bs b o e).1
 have Y:∀y∈ps.zip us,scope.names.lookup y.1=some .local\/(scope.names.lookup y.1=some .cell/\((cellsFrom (s.heap.objs.size+1) scope.names []).lookup y.1).isSome=true):=fun ⟨n,v⟩ hy=>by
  rcases S.par n (JS hy).1 with q | q
  .exact .inl q
  .exact .inr #[q,Nn _ _ _ (.inl q)]
 refine codeAny_call_function hr.depth (KX _ _ lk) rfl S.co S.gen rfl (PySem.W.codeRec_of KX hcd) (hb _ _ _ _ ?_);refine wpAny_newFunctionEnv_cells S.kind Y fun env he s1 x=>?_
 subst he;refine#[lim.keeps x.toInCall.keep,codeAny_func ?_];obtain⟨t,ht,hq⟩:=U A outer s H vs Q E (hr.deeper _) Z;have I:Inv (W5 CX P w K mg base N qual scope f B A outer s H E) [] (start N vs) H s1:=xG S hr.hd e0 hl r x;refine Jd (ht [] s1 (start N vs) H _ I hq) (fun fl s' hs=>?_) fun e s' hs=>hs
 have fin:∀{σ':St}{H':Hp}{v:V}{u:Value},Inv (W5 CX P w K mg base N qual scope f B A outer s H E) [] σ' H' s'->RelV v u->Q v H'->CE outer P w H s Q u s':=
  fun {σ' H' v u} J rv q=>#[v,H',J.os,J.bare,J.base,J.hok,rv,q]
 cases fl with
 |ret u=>
  obtain⟨v,σ',H',J,rv,q⟩:=hs;exact fin J rv q
 |next=>
  obtain⟨σ',H',J,q⟩:=hs;exact fin (v:=V.non) (u:=Value.none) J rfl q
 |brk=>
  obtain⟨_,_,_,q⟩:=hs;exact False.elim q
 |cont=>
  obtain⟨_,_,_,q⟩:=hs;exact False.elim q
section
variable {p pos:Pos}{t:TA}{id T:String}{r:List V->Hp->VK->Prop}
def dA (r:List V->Hp->VK->Prop) (t:TA):TE:=fun σ H Q=>t σ H fun B H1=>r B H1 Q
def wS (hc:CallR X (.builtin id) r) (hg:Gl X x) (hm:X.mg x=none) (hv:bootBuiltins x=some (.builtin id)) (ha:PA X (e::es) t) (hn:x ≠ "__name__" := by decide) (B:(x == ("__debug__" : Str))=false:=by decide)
  (he:starEach (e::es) X.env=(false,eval e X.env)::starEach es X.env:=by rfl) (J:(backTo pos (starEach es X.env)).any (·.1)=false:=by rfl):PE X (.Call (.Name x p) (e::es) [] pos) (dA r t):=by
 intro pins s σ H Q I h;refine JW (aI I hg hm hv ?_ hn B);exact PyProof.Rows.callWith_builtin1 (n8 (ha pos pins s σ H _ I h) fun us s1 ⟨U,H1,Z,Y,W⟩=>hc pins s1 σ H1 U us Q Z Y W) he J
def jh (hc:CallR X (.type T) r) (hg:Gl X x) (hm:X.mg x=none) (hv:bootBuiltins x=some (.type T)) (ha:PA X (e::es) t) (hn:x ≠ "__name__" := by decide) (B:(x == ("__debug__" : Str))=false:=by decide)
  (he:starEach (e::es) X.env=(false,eval e X.env)::starEach es X.env:=by rfl) (J:(backTo pos (starEach es X.env)).any (·.1)=false:=by rfl):PE X (.Call (.Name x p) (e::es) [] pos) (dA r t):=by
 intro pins s σ H Q I h;refine JW (aI I hg hm hv ?_ hn B);exact Kn (n8 (ha pos pins s σ H _ I h) fun us s1 ⟨U,H1,Z,Y,W⟩=>hc pins s1 σ H1 U us Q Z Y W) he J
end
end L2
variable {xs ys:List L2.V}{f':Int->Int->L2.V}{H H':L2.Hp}{X:L2.Cx}{σ:L2.St}{te:L2.TE}{tc:L2.TT}{ta:L2.TA}{tb:L2.TS}{R:L2.It->L2.Hp->Prop}{sp:L2.Sp}{CX:L2.U4}
namespace HT
open PySem PyProof.Rows
section
variable {w:World}
def cat_tup {t b:Addr}{U B:vV_}{Q:vQ_}(ht:IsTup s.heap t U.toArray) (hb:IsTup s.heap b B.toArray) (hv:U≠[])
  (h1:B=[]->Q (.ref t) s) (h2:B≠[]->Q (.ref s.heap.objs.size) { s with heap:=s.heap.push { cls:=.type "tuple",data:=.seq (U++B).toArray } })
  (hsz:U.length+B.length<=sizeLine):wpAny (model prog w) A (binaryOp .Add (.ref t) (.ref b)) Q E s:=by
 obtain⟨⟨cls,dd,data,sl⟩,ho,hc,n,hd⟩:=id ht;obtain⟨⟨cls2,Y,data2,W⟩,J,hc2,n2,Z⟩:=id hb;simp only at hc hd hc2 Z;subst hc hd hc2 Z;have e:U.toArray++B.toArray=(U++B).toArray:=by simp
 by_cases hw:B=[]
 .exact concat_meets #[_,ho,rfl] #[_,J,rfl] Mz seq_tuple_add MA MB (MC _ _)
   (tuple_addW1 t b U.toArray B.toArray n n2 dd Y sl W (by simpa using hv) (by simp[hw])) #[ho,J,h1 hw]
 .refine concat_meets #[_,ho,rfl] #[_,J,rfl] Mz seq_tuple_add MA MB (MC _ _)
   (tuple_addW2 t b U.toArray B.toArray n n2 dd Y sl W (by simpa using hv) (by simpa using hw) (by rw[Iz,Iz];exact hsz)) #[ho,J,?_]
  rw[e];exact h2 hw
def sIx (n d:Nat):Option Int->Nat
 |none=>d
 |some v=>if v<0 then (v+(n:Int)).toNat else min v.toNat n
def sIx_none (n d:Nat):sIx n d none=d:=rfl
def sIx_nat (n d k:Nat):sIx n d (some (k:Int))=min k n:=by
 show (if (k:Int)<0 then ((k:Int)+(n:Int)).toNat else min (k:Int).toNat n)=min k n;rw[fI ∅,JH]
def zR (n d:Nat) (J:d<=n) (o:Option Int):sIx n d o<=n:=by
 cases o with
 |none=>exact J
 |some v=>
  show (if v<0 then (v+(n:Int)).toNat else min v.toNat n)<=n;by_cases B:v<0
  .rw[fx B];omega
  .rw[fI B];exact Nat.min_le_right _ _
def wF (v:Int) (n d:Nat):(if v<0 then max (v+(n:Int)) 0 else min v (n:Int))=((sIx n d (some v):Nat):Int):=by
 show (if v<0 then max (v+(n:Int)) 0 else min v (n:Int))=(((if v<0 then (v+(n:Int)).toNat else min v.toNat n):Nat):Int);by_cases B:v<0
 .simp only[fx B];omega
 .simp only[fI B];omega
def Ec (lo hi:Option Int) (n:Nat):Builtin.Slice.sliceAdjust lo hi 1 (n:Int)=(((sIx n 0 lo:Nat):Int),((sIx n n hi:Nat):Int)):=by
 have h1:¬ ((1:Int)<0):=by omega
 unfold Builtin.Slice.sliceAdjust;simp only[h1,IG];refine Il ?_ ?_
 .cases lo with
  |none=>rfl
  |some v=>exact wF v n 0
 .cases hi with
  |none=>rfl
  |some v=>exact wF v n n
def BD (i j:Nat):Builtin.Slice.slicePlaces (i:Int) (j:Int) 1=j - i:=by
 unfold Builtin.Slice.slicePlaces;have h1:(1:Int)>0:=by omega
 simp only[h1,IC,Int.ediv_one];split <;> omega
def qT {v:Value}{o:Option Int}{Q:Option Int->Shared->Prop}(p:IsPart v o) (h:Q o s):wpAny (model prog w) A (Builtin.Slice.slicePartIndex v) Q E s:=by
 cases p with
 |none=>exact slicePart_none h
 |int i t=>exact slicePart_int h
def wz {lo hi:Option Int}{Q:Int × Int × Nat->Shared->Prop}(hs:s.heap.IsSliceOf sl vl vu .none) (Y:IsPart vl lo) (W:IsPart vu hi)
  (h:Q (((sIx n 0 lo:Nat):Int),1,sIx n n hi - sIx n 0 lo) s):wpAny (model prog w) A (Builtin.Slice.sliceApplied (.ref sl) (pure (n:Int))) Q E s:=by
 obtain⟨Z,J,U,B⟩:=id hs;unfold Builtin.Slice.sliceApplied Builtin.Slice.sliceFields;refine cn (cn (IU J B (x:=vl) rfl (cn (IU J B (x:=vu) rfl (cn (IU J B (x:=.none) rfl (gV ?_)))))));refine cn (slicePart_none ?_);show wpAny _ _ (if ((1:Int) == 0)=true then _ else _) _ _ s;rw[fI #[]];refine cn (qT Y (cn (qT W (cn (gV ?_)))));show wpAny _ _ (match Builtin.Slice.sliceAdjust lo hi 1 (n:Int) with | (lo,hi)=>pure (lo,(1:Int),Builtin.Slice.slicePlaces lo hi 1)) _ _ s;rw[Ec lo hi n];show wpAny _ _ (pure (((sIx n 0 lo:Nat):Int),(1:Int),Builtin.Slice.slicePlaces ((sIx n 0 lo:Nat):Int) ((sIx n n hi:Nat):Int) 1)) _ _ s;rw[BD];exact gV h
def Eb (xs:vR_) (i k:Nat):((List.range k).filterMap fun (m:Nat)=>xs[((i:Int)+(m:Int)*1).toNat]?).toArray=((xs.toList.drop i).take k).toArray:=by
 have e:(fun (m:Nat)=>xs[((i:Int)+(m:Int)*1).toNat]?)=fun m=>xs[i+m]?:=by
  funext m;have:((i:Int)+(m:Int)*1).toNat=i+m:=by omega
  rw[this]
 rw[e];have:=pick_run xs i k;rw[List.filterMap_map] at this;have B:((fun x=>xs[x]?)∘fun x=>i+x)=fun m=>xs[i+m]?:=rfl
 rw[B] at this;rw[this]
def getItem_tuple_cut {t sl:Addr}{items:vR_}{lo hi:Option Int}{Q:vQ_}(J:IsTup s.heap t items) (hs:s.heap.IsSliceOf sl vl vu .none) (pl:IsPart vl lo) (pu:IsPart vu hi)
  (hw:¬ (sIx items.size 0 lo=0/\sIx items.size items.size hi=items.size))
  (h:Q (.ref s.heap.objs.size) { s with heap:=s.heap.push { cls:=.type "tuple",data:=.seq ((items.toList.drop (sIx items.size 0 lo)).take (sIx items.size items.size hi - sIx items.size 0 lo)).toArray } })
  (hsz:items.size<=sizeLine):wpAny (model prog w) A (getItem (.ref t) (.ref sl)) Q E s:=by
 have B:sizeOk (.seq ((items.toList.drop (sIx items.size 0 lo)).take (sIx items.size items.size hi - sIx items.size 0 lo)).toArray):=by
  show ((items.toList.drop (sIx items.size 0 lo)).take (sIx items.size items.size hi - sIx items.size 0 lo)).toArray.size<=sizeLine;rw[Iz,Jz,IL,Mx];omega
 have hj:sIx items.size items.size hi<=items.size:=zR _ _ (tx _) hi;obtain⟨os,Y,W,hds⟩:=id hs;have Z:s.TypeIs (.ref sl) "slice" := #[os,Y,W]
 unfold getItem
 try with_reducible refine Jt ?_
 first | refine cn (gV ?_) | skip
 refine cn (wpAny_sequenceKey J.typeIs #[] ?_);refine cn (JA (name:=Str.ofString "__getitem__") J.typeIs Ky
  (Je Ky J.typeIs entry_tuple_getitem ?_ (args_tuple_getitem _ _)))
 show wpAny _ _ (Builtin.Tuple.tupleItemsOf (.ref t) >>= _) _ _ s;refine cn (tupleItemsOf_ J ?_);refine cn (Lh Z ?_);rw[fx #[]];refine cn (wz hs pl pu ?_);have U:¬ ((((sIx items.size 0 lo:Nat):Int) == 0&&(1:Int) == 1&&(sIx items.size items.size hi - sIx items.size 0 lo) == items.size)=true):=by
  intro q;rw[Iq,Iq] at q;have q1:((sIx items.size 0 lo:Nat):Int)=0:=eq_of_beq q.1.1;have q2:sIx items.size items.size hi - sIx items.size 0 lo=items.size:=eq_of_beq q.2;exact hw #[by omega,by omega]
 show wpAny _ _ (if (((sIx items.size 0 lo:Nat):Int) == 0&&(1:Int) == 1&&(sIx items.size items.size hi - sIx items.size 0 lo) == items.size)=true then _ else _) _ _ s;rw[fI U,Eb]
 first
  | exact cn (m:=Builtin.Tuple.tupleExact _) (JE (gV #[_,rfl,gV h]) B)
  | exact cn (m:=Builtin.Tuple.tupleExact _) (JE (cn (gV (gV #[_,rfl,gV h]))) B)
  | exact cn (cn (m:=Builtin.Tuple.tupleExact _) (JE (gV (gV #[_,rfl,gV h])) B))
  | exact cn (cn (m:=Builtin.Tuple.tupleExact _) (JE (gV #[_,rfl,gV h]) B))
end
end HT
namespace L2
open PySem PySem.Spec PyProof.Rows
abbrev TO:=St->Hp->(Option Int->Hp->Prop)->Prop
def PO (X:Cx) (e:Option Expr) (t:TO):Prop:=
 ∀(pins:vP_) (s:Shared) (σ:St) (H:Hp) (Q:Option Int->Hp->Prop),Inv X pins σ H s->t σ H Q ->
  wpAny (model X.prog X.w) X.A (evalPart e X.env) (fun u s'=>∃o H',Inv X pins σ H' s'/\IsPart u o/\Q o H') X.xe s
def zZ:TO:=fun _ H Q=>Q none H
def Hl (t:TE):TO:=fun σ H Q=>t σ H fun x H1=>∃i,x = .int i/\Q (some i) H1
section
variable {lo hi:Option Expr}{tl th:TO}{pos:Pos}
def nT:PO X none zZ:=by
 intro pins s σ H Q I h;rw[evalPart_none];exact gV #[none,H,I,.none,h]
def vI (h:PE X e te):PO X (some e) (Hl te):=by
 intro pins s σ H Q I U;rw[evalPart_some];refine n8 (h pins s σ H _ I U) fun u s1 ⟨x,H1,B,J,W⟩=>?_
 obtain⟨i,rfl,q⟩:=W;obtain⟨t,rfl⟩:=J;exact#[some i,H1,B,.int i t,q]
def SlR (X:Cx) (r:V->Option Int->Option Int->Hp->VK->Prop):Prop:=
 ∀(pins:vP_) (s:Shared) (σ:St) (H:Hp) (x:V) (v vl vu:Value) (lo hi:Option Int) (sl:Addr) (Q:VK),Inv X pins σ H s->RelV x v->s.heap.IsSliceOf sl vl vu .none->IsPart vl lo->IsPart vu hi->r x lo hi H Q ->
  ∃T id,typeLookup (.type T) "__getitem__" = pure (some (.builtin id))/\s.TypeIs v T/\wpAny (model X.prog X.w) X.A (getItem v (.ref sl)) (EP X pins σ Q) X.xe s
def SlR.or {r W:V->Option Int->Option Int->Hp->VK->Prop}(h:SlR X r) (h':SlR X W):SlR X (fun x lo hi H Q=>r x lo hi H Q\/W x lo hi H Q):=by
 intro pins s σ H x v Y J lo hi sl Q I U hs Z B q;rcases q with q | q
 .exact h pins s σ H x v Y J lo hi sl Q I U hs Z B q
 .exact h' pins s σ H x v Y J lo hi sl Q I U hs Z B q
def Ct (r:V->Option Int->Option Int->Hp->VK->Prop) (te:TE) (tl th:TO):TE:=fun σ H Q=>te σ H fun x H1=>tl σ H1 fun l H2=>th σ H2 fun u B=>r x l u B Q
def rJ (hr:SlR X r) (he:PE X e te) (hl:PO X lo tl) (hu:PO X hi th):PE X (.Subscript e (.Slice lo hi none p2) pos) (Ct r te tl th):=by
 intro pins s σ H Q I h;refine Subscript_ (n8 (he pins s σ H _ I h) fun v s1 ⟨x,H1,I1,r1,W⟩=>?_);refine wpAny_Slice (n8 (hl pins s1 σ H1 _ I1 W) fun J s2 ⟨l,H2,I2,Z,Y⟩=>n8 (hu pins s2 σ H2 _ I2 Y) fun B s3 ⟨u,U,I3,pu,q3⟩=>?_);rw[evalPart_none];refine gV ?_;have I4:Inv X pins σ U { s3 with heap:=s3.heap.push { cls:=.type "slice",data:=.fields #v[J,B,.none] } }:=I3.kept (t':=s3.toks) fun b ob q=>Ii _ q
 obtain⟨T,id,hT,ht,hg⟩:=hr pins { s3 with heap:=s3.heap.push { cls:=.type "slice",data:=.fields #v[J,B,.none] } } σ U x v J B l u s3.heap.objs.size Q I4 r1 (Heap.IsSliceOf.new ..) Z pu q3;show wpAny (model X.prog X.w) X.A (subscriptTail e (.Slice lo hi none p2) v (.ref s3.heap.objs.size)) (EP X pins σ Q) X.xe { s3 with heap:=s3.heap.push { cls:=.type "slice",data:=.fields #v[J,B,.none] } };exact tail_any (ops:=[.ref s3.heap.objs.size,v]) ht hT hg (by with_unfolding_all rfl)
def S8 (xs:List V) (lo hi:Option Int):List V:=(xs.drop (HT.sIx xs.length 0 lo)).take (HT.sIx xs.length xs.length hi - HT.sIx xs.length 0 lo)
def rY (xs:List V) (lo hi:Option Int):(S8 xs lo hi).length<=xs.length:=by
 unfold S8;rw[Jz,IL];omega
def Dx (K:vF_):V->Option Int->Option Int->Hp->VK->Prop:=fun x lo hi H Q=>∃a xs,x = .ref a/\SqT K H a xs /\
 ¬ (HT.sIx xs.length 0 lo=0/\HT.sIx xs.length xs.length hi=xs.length)/\∀p,H p=none->Q (.ref p) (f9 H p (.tup (S8 xs lo hi)))
def yW:SlR X (Dx X.K):=by
 intro pins s σ H x v vl vu lo hi sl Q I rx hs pl Y h;obtain⟨a,xs,rfl,Z,W,q⟩:=h;cases rx;obtain⟨its,r,U,J⟩:=I.tuple Z;have B:its.toArray.size=xs.length:=by rw[Iz];exact r.length.symm
 refine#["tuple",_,Ky.lookup,U.typeIs,?_];refine HT.getItem_tuple_cut U hs pl Y (by rw[B];exact W) ?_ (by rw[B];exact J);rw[B];refine#[.ref s.heap.objs.size,_,I.laid (t':=s.toks) (o:=.tup (S8 xs lo hi)) (fun b ob q=>Ii _ q) (tx _) ?_,rfl,q _ (I.hok.fresh (tx _))];exact#[Ij (rY xs lo hi) J,_,(r.drop (HT.sIx xs.length 0 lo)).take (HT.sIx xs.length xs.length hi - HT.sIx xs.length 0 lo),IsTup.new _ _]
def nH (K:vF_):R2:=fun x y H Q=>∃a b xs ys,x = .ref a/\y = .ref b/\SqT K H a xs/\SqT K H b ys/\xs≠[]/\xs.length+ys.length<=sizeLine /\
 (ys=[]->Q (.ref a) H)/\(ys≠[]->∀p,H p=none->Q (.ref p) (f9 H p (.tup (xs++ys))))
def Vals.nil_iff (r:Vals xs us):us=[]↔xs=[]:=by
 cases r with
 |nil=>simp
 |cons _ _=>simp
def wO:OpR X (binaryOp .Add) (nH X.K):=by
 intro pins s σ H x y v u Q I rx Y h;obtain⟨a,b,xs,ys,rfl,rfl,ha,hb,hx,W,Z,q2⟩:=h;cases rx;cases Y;obtain⟨its,J,p1,_⟩:=I.tuple ha;obtain⟨U,B,p2,_⟩:=I.tuple hb;refine HT.cat_tup p1 p2 (fun z=>hx (J.nil_iff.mp z)) (fun z=>#[.ref a,H,I,rfl,Z (B.nil_iff.mp z)]) (fun z=>?_) (by rw[<-J.length,<-B.length];exact W);refine#[.ref s.heap.objs.size,_,I.laid (t':=s.toks) (o:=.tup (xs++ys)) (fun b ob q=>Ii _ q) (tx _) ?_,rfl,q2 (fun w=>z (B.nil_iff.mpr w)) _ (I.hok.fresh (tx _))];exact#[by rw[IQ];exact W,_,J.append B,IsTup.new _ _]
end
def P5 (n:Nat) (i:Int):Option Nat:=if 0<=i then (if i<n then some i.toNat else none) else if -(n:Int)<=i then some (i+n).toNat else none
def v5 {α:Type}(xs:List α) (i:Int):Option α:=(P5 xs.length i).bind fun j=>xs[j]?
def sj {i:Int}(h:P5 n i=some j):seqIndex? i n=some j/\j<n /\ -(n:Int)<=i/\i<n:=by
 unfold P5 at h;by_cases B:0<=i
 .rw[fx B] at h;by_cases h1:i<n
  .rw[fx h1] at h;have e:i.toNat=j:=Jj h;exact#[by rw[seqIndex_of B h1,e],by omega,by omega,h1]
  .rw[fI h1] at h;cases h
 .rw[fI B] at h;by_cases h1:-(n:Int)<=i
  .rw[fx h1] at h;have e:(i+n).toNat=j:=Jj h;exact#[by rw[seqIndex_neg ∅ h1,e],by omega,h1,by omega]
  .rw[fI h1] at h;cases h
def rj {α:Type}{xs:List α}{i:Int}{v:α}(h:v5 xs i=some v):∃j,seqIndex? i xs.length=some j/\xs[j]? = some v/\j<xs.length /\ -(xs.length:Int)<=i/\i<xs.length:=by
 unfold v5 at h;cases e:P5 xs.length i with
 |none=>rw[e] at h;cases h
 |some j=>
  rw[e] at h;obtain⟨h1,h2,B,h4⟩:=sj e;exact#[j,h1,h,h2,B,h4]
def Y7 {α:Type}{xs:List α}{v:α}(h:xs[j]? = some v):v5 xs (j:Int)=some v:=by
 have B:j<xs.length:=(IK.mp h).1;have e:P5 xs.length (j:Int)=some j:=by
  unfold P5;rw[fx ∅,fx ∅];simp
 unfold v5;rw[e];exact h
def mV {α:Type}(xs:List α) (v:α):v5 (xs++[v]) (-1)=some v:=by
 have hl:(xs++[v]).length=xs.length+1:=by simp
 have e:P5 (xs++[v]).length (-1)=some xs.length:=by
  unfold P5;rw[hl,fI #[],fx ∅];congr 1;omega
 unfold v5;rw[e];show (xs++[v])[xs.length]? = some v;simp
def sR (b:Expr):Prop:=∀o i,subscripted b false o i=operate [o,i] (getItem o i)
def IxR (X:Cx) (r:R2):Prop:=
 ∀(value slice:Expr) (pins:vP_) (s:Shared) (σ:St) (H:Hp) (x y:V) (v u:Value) (Q:VK),Inv X pins σ H s->RelV x v->RelV y u->r x y H Q ->
  subscripted slice false v u=operate [v,u] (getItem v u)->wpAny (model X.prog X.w) X.A (subscriptTail value slice v u) (EP X pins σ Q) X.xe s
def Et (X:Cx) (id:String) (r:V->List V->Hp->VK->Prop):Prop:=
 ∀(pins:vP_) (s:Shared) (σ:St) (H:Hp) (x:V) (xs:List V) (v:Value) (us:vV_) (Q:VK),Inv X pins σ H s->RelV x v->Vals xs us->r x xs H Q ->
  wpAny (model X.prog X.w) X.A (call (.builtin id) (v::us)) (EP X pins σ Q) X.xe s
section
variable {a b:Expr}{ta tb:TE}{pos:Pos}
def IxR.or {r Y:R2}(h:IxR X r) (h':IxR X Y):IxR X (fun x y H Q=>r x y H Q\/Y x y H Q):=by
 intro B J pins s σ H x y v u Q I U W q hs;rcases q with q | q
 .exact h B J pins s σ H x y v u Q I U W q hs
 .exact h' B J pins s σ H x y v u Q I U W q hs
def qR (W:IxR X r) (ha:PE X a ta) (hb:PE X b tb) (hs:sR b):PE X (.Subscript a b pos) (cE r ta tb):=by
 intro pins s σ H Q I h;exact Subscript_ (jG ha hb I h fun v u s2 x y H2 J U B q=>W a b pins s2 σ H2 x y v u Q J U B q (hs _ _))
def mE (K:vF_):R2:=fun x y H Q=>∃p xs i v,x = .ref p/\y = .int i/\SqL K H p xs/\v5 xs i=some v/\Q v H
def mm (K:vF_):R2:=fun x y H Q=>∃p xs i v,x = .ref p/\y = .int i/\SqT K H p xs/\v5 xs i=some v/\Q v H
def ix_list:IxR X (mE X.K):=by
 intro Z W pins s σ H x y v u Q I rx ry h hs;obtain⟨p,xs,i,z,rfl,rfl,hq,he,q⟩:=h;cases rx;obtain⟨t,rfl⟩:=ry;obtain⟨its,r,U,hz⟩:=I.list hq;obtain⟨j,h1,h2,h3,h4,h5⟩:=rj he;obtain⟨w,ew,J⟩:=r.get h2;have hl:=r.length;have hn:=cc;have B:EP X pins σ Q w s:=#[z,H,I,J,q]
 by_cases h0:0<=i
 .have Y:i.toNat=j:=by
   rw[seqIndex_of h0 h5] at h1;exact Jj h1
  exact item_listR U.isList h0 ∅ (by rw[Y];simpa using ew) B hs
 .have Y:(i+(its.toArray.size:Int)).toNat=j:=by
   rw[seqIndex_neg ∅ h4] at h1;rw[Iz,<-hl];exact Jj h1
  exact subscriptTail_builtinR (x:=w) U.isList.typeIs slot_list_getitem.lookup
   (wpAny_getItem_list_neg (Q:=fun r s'=>r=w/\EP X pins σ Q r s') U.isList ∅ (by rw[Iz] <;> omega) ∅ (by rw[Y];simpa using ew) #[rfl,B]) hs
def Aq:IxR X (mm X.K):=by
 intro W U pins s σ H x y v u Q I rx ry h hs;obtain⟨p,xs,i,z,rfl,rfl,Z,he,q⟩:=h;cases rx;obtain⟨t,rfl⟩:=ry;obtain⟨its,r,Y,hz⟩:=I.tuple Z;obtain⟨j,h1,h2,h3,h4,h5⟩:=rj he;obtain⟨w,ew,B⟩:=r.get h2;have hl:=r.length;have hn:=cc;have J:EP X pins σ Q w s:=#[z,H,I,B,q]
 exact subscriptTail_builtinR (x:=w) Y.typeIs slot_tuple_getitem.lookup
  (getItem_tuple (j:=j) (Q:=fun r s'=>r=w/\EP X pins σ Q r s') Y ∅ ∅ (by rw[Iz,<-hl];exact h1) (by simpa using ew) #[rfl,J]) hs
def yT (its:vV_) (n j:Nat) (u:Value):Obj.mapSeq (·.setIfInBounds j u) { cls:=.type "list",data:=.seq its.toArray n }={ cls:=.type "list",data:=.seq (its.set j u).toArray n }:=by
 simp[Obj.mapSeq]
theorem Inv.lst (I:Inv X pins σ H s) (h:H p=some (.lst xs)) :
  ∃(its:vV_) (n:Nat),Vals xs its/\s.heap.get? p=some { cls:=.type "list",data:=.seq its.toArray n }/\xs.length<=sizeLine:=by
 obtain⟨z,its,n,r,e⟩:=I.hok p _ h;exact#[its,n,r,e,z]
def Inv.lstUpd {pins:vP_}{H:Hp}{s:Shared}{xs ys:List V}{its its':vV_}{n B:Nat}(I:Inv X pins σ H s) (h:H p=some (.lst xs))
  (U:s.heap.get? p=some { cls:=.type "list",data:=.seq its.toArray n }) (J:f { cls:=.type "list",data:=.seq its.toArray n }={ cls:=.type "list",data:=.seq its'.toArray B }) (r:Vals ys its') (hz:ys.length<=sizeLine) (t:Nat) :
  Inv X pins σ (f9 H p (.lst ys)) { s with heap:=s.heap.update p f,toks:=t }:=by
 have e:(s.heap.update p f).get? p=some { cls:=.type "list",data:=.seq its'.toArray B }:=by
  rw[JM f U (by rw[J] <;> rfl),J]
 refine I.write (x:=p) (e:=p) (by rw[h];trivial) (.inl rfl) (fun b u hb q=>(JT _ _ (xu hb)).trans q) #[_,e] ?_;exact#[hz,its',B,r,e]
def Cp:V->V->V->Hp->(Hp->Prop)->Prop:=fun o i v H Q=>∃p xs k j,o = .ref p/\i = .int k/\H p=some (.lst xs)/\P5 xs.length k=some j/\Q (f9 H p (.lst (xs.set j v)))
def DD:kw X Cp:=by
 intro pins s σ H o i v ov iv u Q I Z ri rv h;obtain⟨p,xs,k,j,rfl,rfl,hp,hj,q⟩:=h;cases Z;obtain⟨t,rfl⟩:=ri;obtain⟨its,n,r,B,hz⟩:=I.lst hp;obtain⟨h1,h2,U,h4⟩:=sj hj;have hl:=r.length;have hn:=cc;have J:Inv X pins σ (f9 H p (.lst (xs.set j v))) { s with heap:=s.heap.update p (Obj.mapSeq (·.setIfInBounds j u)) }:=
  I.lstUpd hp B (yT its n j u) (r.set rv j) (by rw[List.length_set];exact hz) s.toks
 by_cases Y:0<=k
 .have hk:k.toNat=j:=by
   rw[seqIndex_of Y h4] at h1;exact Jj h1
  exact PySem.W.ki_setAt B Y ∅ (by rw[Iz,<-hl];exact h4) (by rw[hk];exact#[_,J,q])
 .have hk:(k+(its.toArray.size:Int)).toNat=j:=by
   rw[seqIndex_neg ∅ U] at h1;rw[Iz,<-hl];exact Jj h1
  exact PySem.W.ki_setBack B ∅ (by rw[Iz,<-hl];exact U) ∅ (by rw[hk];exact#[_,J,q])
def EV (lo hi:Option Int) (n:Nat):(sliceBounds lo hi none n).1=((HT.sIx n 0 lo:Nat):Int)/\(sliceBounds lo hi none n).2.1=((HT.sIx n n hi:Nat):Int)/\(sliceBounds lo hi none n).2.2=1:=by
 have key:∀i:Int,(sliceBounds (some i) none none n).1=((HT.sIx n 0 (some i):Nat):Int):=fun i=>by
  simp only[sliceBounds,HT.sIx,Option.getD_none,show (1:Int)>0 by decide,IC];by_cases h:i<0
  .simp only[h,IC] <;> omega
  .simp only[h,IG] <;> omega
 refine#[?_,?_,rfl]
 .cases lo with
  |none=>simp[sliceBounds,HT.sIx]
  |some i=>exact key i
 .cases hi with
  |none=>simp[sliceBounds,HT.sIx]
  |some i=>exact key i
def Ay (its:vV_) (lo hi:Option Int):slicePick its.toArray lo hi none=((its.drop (HT.sIx its.length 0 lo)).take (HT.sIx its.length its.length hi - HT.sIx its.length 0 lo)).toArray:=by
 obtain⟨h1,h2,B⟩:=EV lo hi its.toArray.size;unfold slicePick;rw[h1,h2,B];simp only[sliceRange_one,pick_run,Iz] <;> rfl
def zr (K:vF_):V->Option Int->Option Int->Hp->VK->Prop:=fun x lo hi H Q=>∃a xs,x = .ref a/\SqL K H a xs/\∀p,H p=none->Q (.ref p) (f9 H p (.lst (S8 xs lo hi)))
def rA:SlR X (zr X.K):=by
 intro pins s σ H x v vl vu lo hi sl Q I Y hs pl U h;obtain⟨a,xs,rfl,W,q⟩:=h;cases Y;obtain⟨its,r,J,Z⟩:=I.list W;have B:=r.length;refine#["list",_,slot_list_getitem.lookup,J.isList.typeIs,?_];refine wpAny_getItem_list_slice J.isList hs pl U .none (by simp) ?_ (by rw[Iz] <;> omega);rw[Ay,<-B];refine#[.ref s.heap.objs.size,_,I.laid (t':=s.toks) (o:=.lst (S8 xs lo hi)) (fun b ob q=>Ii _ q) (tx _) ?_,rfl,q _ (I.hok.fresh (tx _))];exact#[Ij (rY xs lo hi) Z,_,0,(r.drop (HT.sIx xs.length 0 lo)).take (HT.sIx xs.length xs.length hi - HT.sIx xs.length 0 lo),ID _ rfl]
def call_len_seq:CallR X (.builtin "len") (fun xs H Q=>∃p ys,xs=[.ref p]/\(SqL X.K H p ys\/SqT X.K H p ys)/\Q (.int ys.length) H):=by
 intro pins s σ H xs us Q I r h;obtain⟨p,ys,rfl,J,q⟩:=h;obtain⟨u,rfl,Y⟩:=Z8 r;cases Y;have hn:=cc;rcases J with J | J
 .obtain⟨its,W,U,Z⟩:=I.list J;have B:=W.length;exact Calls.call_len_list U.isList (by simp only[Iz] <;> omega) #[.int ys.length,H,I.tok _,#[s.toks+1,by rw[Iz,B]],q]
 .obtain⟨its,W,U,Z⟩:=I.tuple J;have B:=W.length;exact len_tuple U (by simp only[Iz] <;> omega) #[.int ys.length,H,I.tok _,#[s.toks+1,by rw[Iz,B]],q]
def Bh:CallR X (.builtin "len") (fun xs H Q=>∃z,xs=[.str z]/\z.length<=sizeLine/\Q (.int z.length) H):=by
 intro pins s σ H xs us Q I r h;obtain⟨z,rfl,J,q⟩:=h;obtain⟨u,rfl,t,rfl⟩:=Z8 r;have B:=cc;exact len_str ∅ #[.int z.length,H,I.tok _,#[_,rfl],q]
def CallR.or {r J:List V->Hp->VK->Prop}(h:CallR X f r) (h':CallR X f J):CallR X f (fun xs H Q=>r xs H Q\/J xs H Q):=by
 intro pins s σ H xs us Q I B q;rcases q with q | q
 .exact h pins s σ H xs us Q I B q
 .exact h' pins s σ H xs us Q I B q
def vo:CallR X (.type "list") (fun xs H Q=>∃p ys,xs=[.ref p]/\(SqL X.K H p ys\/SqT X.K H p ys)/\∀l,H l=none->Q (.ref l) (f9 H l (.lst ys))):=by
 intro pins s σ H xs us Q I r h;obtain⟨p,ys,rfl,U,q⟩:=h;obtain⟨u,rfl,rx⟩:=Z8 r;cases rx;have fin:∀(its:vV_),Vals ys its->ys.length<=sizeLine->∀(h':Heap) (B:Nat),(∀b o',s.heap.get? b=some o'->h'.get? b=some o') ->
   h'.get? s.heap.objs.size=some { cls:=.type "list",dict:=none,data:=.seq its.toArray B,slots:=#v[] }->EP X pins σ Q (.ref s.heap.objs.size) { s with heap:=h' }:=fun its J Y h' B Z e=>
  #[.ref s.heap.objs.size,_,I.laid (t':=s.toks) Z (tx _) (show ObjOk X.prog X.w _ h' _ (.lst ys) from #[Y,its,B,J,e]),rfl,q _ (I.hok.fresh (tx _))]
 rcases U with U | U
 .obtain⟨its,J,pl,Y⟩:=I.list U;have W:=J.length;obtain⟨o,ho,hc,n,hd⟩:=pl.isList;exact call_list_seq p (.inl rfl) ho hc hd (fun h' B Z e=>fin its J Y h' B Z e) (by simp only[Iz] <;> omega)
 .obtain⟨its,J,pl,Y⟩:=I.tuple U;have W:=J.length;obtain⟨o,ho,hc,n,hd⟩:=pl;exact call_list_seq p (.inr rfl) ho hc hd (fun h' B Z e=>fin its J Y h' B Z e) (by simp only[Iz] <;> omega)
def ua:CallR X (.type "tuple") (fun xs H Q=>∃p ys,xs=[.ref p]/\((SqL X.K H p ys/\∀l,H l=none->Q (.ref l) (f9 H l (.tup ys)))\/(SqT X.K H p ys/\Q (.ref p) H))):=by
 intro pins s σ H xs us Q I r h;obtain⟨p,ys,rfl,h⟩:=h;obtain⟨u,rfl,rx⟩:=Z8 r;cases rx;rcases h with ⟨B,q⟩ | ⟨B,q⟩
 .obtain⟨its,J,U,Z⟩:=I.list B;have Y:=J.length;refine call_tuple_list U.isList (fun h' kp=>?_) (by simp only[Iz] <;> omega);have W:Inv X pins σ H { s with heap:=h' }:=I.kept (t':=s.toks) kp;have I2:Inv X pins σ (f9 H h'.objs.size (.tup ys)) { s with heap:=h'.push { cls:=.type "tuple",data:=.seq its.toArray } }:=
   W.laid (t':=s.toks) (fun b o e=>Ii _ e) (tx _) (show ObjOk X.prog X.w _ _ _ (.tup ys) from #[Z,its,J,IsTup.new _ _])
  exact#[.ref h'.objs.size,_,I2,rfl,q _ (W.hok.fresh (tx _))]
 .obtain⟨its,J,U,Z⟩:=I.tuple B;exact call_tuple_same U #[.ref p,H,I,rfl,q]
def tJ (K:vF_) (T:String) (x:V) (H:Hp):Prop:=match x with
 |.str _=>T = "str"
 |.int _=>T = "int"
 |.ref p=>(T = "list" /\ ∃xs,SqL K H p xs)\/(T = "tuple" /\ ∃o,K.lookup p=some o/\o.cls = .type "tuple" /\ o.dict=none) \/
   (T = "dict" /\ ((∃kvs,H p=some (.dK kvs))\/∃kvs,H p=some (.dT kvs)))\/(T = "set" /\ ∃S n,H p=some (.set S n))
 |_=>False
def Dp {x:V}{v:Value}(I:Inv X pins σ H s) (r:RelV x v) (B:tJ X.K T x H) :
  s.TypeIs v T/\∀a,v = .ref a->∃ob,s.heap.get? a=some ob/\ob.dict=none:=by
 cases x with
 |str z=>
  obtain⟨t,rfl⟩:=r;cases (show T = "str" from B);exact#[typeIs_str s z t,fun _ e=>nomatch e]
 |int i=>
  obtain⟨t,rfl⟩:=r;cases (show T = "int" from B);exact#[typeIs_int s i t,fun _ e=>nomatch e]
 |ref p=>
  cases r;rcases B with ⟨rfl,xs,Z⟩ | ⟨rfl,o,hk,hc,U⟩ | ⟨rfl,hk⟩ | ⟨rfl,S,n,hk⟩
  .obtain⟨its,_,Y,_⟩:=I.list Z;refine#[Y.isList.typeIs,fun a e=>?_];cases e;obtain⟨o,n,e,c,U,_⟩:=Y;exact#[o,e,U]
  .refine#[#[o,I.kIn p o hk,hc],fun a e=>?_];cases e;exact#[o,I.kIn _ o hk,U]
  .have z:∃o,s.heap.get? p=some o/\o.ExactDict:=by
    rcases hk with ⟨W,hk⟩ | ⟨W,hk⟩
    .obtain⟨_,_,_,_,o,_,_,e,ex,_⟩:=I.hok p _ hk;exact#[o,e,ex]
    .obtain⟨_,_,_,_,o,_,_,e,ex,_⟩:=I.hok p _ hk;exact#[o,e,ex]
   obtain⟨o,e,ex⟩:=z;refine#[#[o,e,ex.1],fun a J=>?_];cases J;exact#[o,e,ex.2.1]
  .obtain⟨o,_,_,_,e,ex,_⟩:=I.hok p _ hk;refine#[#[o,e,ex.1],fun a J=>?_];cases J;exact#[o,e,ex.2.1]
 |_=>exact False.elim B
def yN (K:vF_) (T:String) (r:V->List V->Hp->VK->Prop) (to:TE) (t:TA):TE:=fun σ H Q=>to σ H fun x H1=>tJ K T x H1/\t σ H1 fun xs H2=>r x xs H2 Q
variable {o:Expr}{to:TE}{t:TA}{name:Str}{apos cpos:Pos}{T id:String}{r:V->List V->Hp->VK->Prop}
def CQ (pa:PlainAttrs T) (W:Slot T name id) (Z:typeOf (.builtin id)=pure (.type "method_descriptor")) (hm:Et X id r) (ho:PE X o to) (ha:PA X (e::es) t)
  (J:attributeBase o name X.env (eval o X.env)=eval o X.env:=by rfl)
  (Y:((backTo cpos (starEach (e::es) X.env)).all (fun x=>!x.1)&&(backToKw cpos (keywordEach [] X.env)).all (fun x=>x.1.isSome)
   && decide ((e::es).length+([]:List Keyword).length+(if ([]:List Keyword).isEmpty then 0 else 1)<30))=true:=by rfl)
  (U:(apos.endLine == cpos.line)=true:=by rfl) (hs:starEach (e::es) X.env=(false,eval e X.env)::starEach es X.env:=by rfl) (B:(backTo cpos (starEach es X.env)).any (·.1)=false:=by rfl) :
  PE X (.Call (.Attribute o name apos) (e::es) [] cpos) (yN X.K T r to t):=by
 intro pins s σ H Q I h;refine wpAny_Call_method_late J Y U rfl (n8 (ho pins s σ H _ I h) fun v s1 ⟨x,H1,I1,r1,ty,q1⟩=>?_);obtain⟨h1,h2⟩:=Dp I1 r1 ty;refine#[T,id,pa,W,Z,h1,h2,?_];have hA:=ha cpos pins s1 σ H1 _ I1 q1;rw[hs] at hA ⊢;refine Calls.callWith_builtin (by show (false||(backTo cpos (starEach es X.env)).any (·.1))=false;rw[B] <;> rfl) (Calls.evalArgs_plain ?_);exact n8 hA fun us s2 ⟨vs,H2,I2,r2,q2⟩=>hm pins s2 σ H2 x vs v us Q I2 r1 r2 q2
end
def Bu (X:Cx) (id:String) (r:V->List V->Hp->VK->Prop):Prop:=
 ∀(pins:vP_) (s:Shared) (σ:St) (H:Hp) (x:V) (xs:List V) (v:Value) (us:vV_) (Q:VK),Inv X pins σ H s->RelV x v->Vals xs us->r x xs H Q ->
  wpAny (model X.prog X.w) X.A (call (.builtin id) (v::us)) (EP X pins σ Q) X.xe s
def Vals.one:∀{x:V}{us:vV_},Vals [x] us->∃u,us=[u]/\RelV x u:=by
 intro x us h;cases h with
 |cons r t=>
  cases t;exact#[_,rfl,r]
theorem Vals.rep (h:Vals xs us):∀k:Nat,Vals (List.replicate k xs).flatten (List.replicate k us).flatten
 |0=>.nil
 |k+1=>by
  rw[Ko,Ko,Li,Li];exact Vals.append h (Vals.rep h k)
theorem qh (its:vV_):∀(k:Nat) (acc:vV_),
  List.foldl (fun x1 x2=>x1++x2) acc.toArray (List.replicate k its.toArray)=(acc++(List.replicate k its).flatten).toArray
 |0,acc=>by simp
 |k+1,acc=>by
  have e:acc.toArray++its.toArray=(acc++its).toArray:=by simp
  have B:(acc++its)++(List.replicate k its).flatten=acc++(List.replicate (k+1) its).flatten:=by
   rw[Ko,Li,LN]
  rw[<-B,<-qh its k (acc++its),<-e,Ko,List.foldl_cons]
section
variable {b:Addr}{zs:List V}
def Inv.lset {its its':vV_}{n:Nat}{t':Nat}(I:Inv X pins σ H s) (W:H l=some (.lst xs))
  (e:s.heap.get? l=some { cls:=.type "list",data:=.seq its.toArray n }) (J:f its.toArray=its'.toArray) (U:Vals ys its') (hz:ys.length<=sizeLine) :
  Inv X pins σ (f9 H l (.lst ys)) { s with heap:=s.heap.update l (Obj.mapSeq f),toks:=t' }:=by
 have q:=PySem.IsL.update e f;rw[J] at q;refine I.write (x:=l) (e:=l) (by rw[W];exact trivial) (.inl rfl) (fun Y u hb B=>(JT s.heap (Obj.mapSeq f) (xu hb)).trans B) #[_,q] ?_;exact#[hz,its',_,U,q]
def Inv.lnew {t':Nat}(I:Inv X pins σ H s) (B:Vals ys its) (hz:ys.length<=sizeLine) :
  Inv X pins σ (f9 H s.heap.objs.size (.lst ys)) { s with heap:=s.heap.push { cls:=.type "list",data:=.seq its.toArray },toks:=t' }:=
 I.laid (fun _ _ q=>Ii _ q) (tx _) #[hz,its,0,B,ID _ rfl]
theorem Inv.fresh (I:Inv X pins σ H s):H s.heap.objs.size=none:=I.hok.fresh (tx _)
def Inv.lstM (I:Inv X pins σ H s) (B:H l=some (.lst xs)):xs.length<=sizeLine/\∃(its:vV_) (n:Nat),Vals xs its/\xs.length=its.length/\s.heap.get? l=some { cls:=.type "list",data:=.seq its.toArray n }:=by
 obtain⟨z,its,n,r,e⟩:=I.hok l _ B;exact#[z,its,n,r,r.length,e]
def xS (h:n<=sizeLine):Builtin.List.listTooLong n=false:=by
 unfold Builtin.List.listTooLong;exact Jc ∅
end
def Ci:V->List V->Hp->VK->Prop:=fun x B H Q=>∃l xs y,x = .ref l/\B=[y]/\H l=some (.lst xs)/\xs.length<sizeLine/\Q .non (f9 H l (.lst (xs++[y])))
def sL:Bu X "list.append" Ci:=by
 intro pins s σ H x Y v us Q I W U h;obtain⟨l,xs,y,rfl,rfl,B,Z,q⟩:=h;cases W;obtain⟨u,rfl,J⟩:=U.one;obtain⟨z,its,n,r,hl,e⟩:=I.lstM B;refine call_meets F.slot_list_append #[_,e,rfl] F.entry_list_append (F.args_list_append_2 _ _) (PySem.list_append l its.toArray n u (by rw[Iz];omega)) #[e,?_];refine#[.non,_,I.lset (its':=its++[u]) B e (by simp) (r.append (.cons J .nil)) ?_,rfl,q];rw[IQ,MD];omega
def jA:R2:=fun x y H Q=>∃l b xs zs,x = .ref l/\y = .ref b/\H l=some (.lst xs)/\H b=some (.lst zs)/\xs.length+zs.length<=sizeLine/\∀p,H p=none->Q (.ref p) (f9 H p (.lst (xs++zs)))
def mK:OpR X (binaryOp .Add) jA:=by
 intro pins s σ H x y v u Q I Z J h;obtain⟨l,b,xs,zs,rfl,rfl,W,U,hz,q⟩:=h;cases Z;cases J;obtain⟨z,its,n,r,hl,e⟩:=I.lstM W;obtain⟨z2,B,n2,r2,hl2,e2⟩:=I.lstM U;refine PySem.P.add_list e e2 ?_ (by rw[Iz,Iz];omega);have Y:its.toArray++B.toArray=(its++B).toArray:=by simp
 rw[Y];exact#[.ref _,_,I.lnew (t':=s.toks) (r.append r2) (by rw[IQ];omega),rfl,q _ I.fresh]
def vB:R2:=fun x y H Q=>∃l k xs,x = .ref l/\y = .int k/\H l=some (.lst xs) /\ -(2 ^ 63)<=k/\k<2 ^ 63/\xs.length*k.toNat<=sizeLine /\
 ∀p,H p=none->Q (.ref p) (f9 H p (.lst (List.replicate k.toNat xs).flatten))
def Cj {α:Type}(xs:List α) (k:Nat):(List.replicate k xs).flatten.length=k*xs.length:=by
 induction k with
 |zero=>simp
 |succ k B=>rw[Ko,Li,IQ,B,Nat.succ_mul,JU]
def rh:OpR X (binaryOp .Mult) vB:=by
 intro pins s σ H x y v u Q I rx ry h;obtain⟨l,k,xs,rfl,rfl,hH,h1,h2,hz,q⟩:=h;cases rx;obtain⟨t,rfl⟩:=ry;obtain⟨z,its,n,r,hl,e⟩:=I.lstM hH;have W:its.toArray.size*k.toNat<=sizeLine:=by rw[Iz,<-hl];exact hz
 have J:¬ its.toArray.size*k.toNat>(2 ^ 63 - 1) / 8:=by
  have:(sizeLine:Nat)<=(2 ^ 63 - 1) / 8:=by decide
  omega
 have Z:¬ (!Builtin.List.listFitsIndex k)=true:=by
  rw[fitsIndex_both h1 h2];exact Io
 have B:¬ Builtin.List.listTooLong (its.toArray.size*k.toNat)=true:=by
  rw[xS W];exact Io
 have Y:List.foldl (fun x1 x2=>x1++x2) #v[] (List.replicate (if its.toArray.isEmpty=true then 0 else k.toNat) its.toArray)=(List.replicate k.toNat its).flatten.toArray:=by
  have f0:∀m:Nat,List.foldl (fun x1 x2=>x1++x2) #v[] (List.replicate m its.toArray)=(List.replicate m its).flatten.toArray:=fun m=>by
   have:=qh its m [];rw[LO] at this;exact this
  rw[f0];cases its with
  |nil=>simp
  |cons a r'=>rw[fI (by simp)]
 refine wpAny_binaryOp_repeat_ref (T := "list") (U := "int") #[] #[_,e,rfl] (fun s'=>typeIs_int s' k t) noFill_list_mul F.fills_int_mul F.slot_int_rmul repeat_list F.slot_int_index.lookup
  (call_meets F.slot_int_rmul (typeIs_int s k t) F.entry_int_rmul (F.args_int_rmul_2 _ _) (int___rmul___int_list k t l its.toArray n)
   #[e,rfl,#[_,e,rfl],call_meets F.slot_list_mul #[_,e,rfl] F.entry_list_mul (F.args_list_mul_2 _ _) (AutoListH.list___mul___list_int_3 l its.toArray n k t Z J B) #[e,?_]])
 rw[Y];exact#[.ref _,_,I.lnew (t':=s.toks) (r.rep k.toNat) (by rw[Cj,Nat.mul_comm];exact hz),rfl,q _ I.fresh]
def Cm {w:World}{k:A8}(r:RelV (kV k) u):(Q2 P w).is k u=true:=by
 cases k with
 |inl i=>obtain⟨t,e⟩:=(show ∃t,u=Value.int i t from r);subst e;exact yi P w i t
 |inr x=>obtain⟨t,e⟩:=(show ∃t,u=Value.str x t from r);subst e;exact BW P w x t
theorem vh {w:World}:∀{ks:List A8}{us:vV_},Vals (ks.map kV) us->ItemsAre (Q2 P w) ks us
 |[],_,r=>by rw[Kz] at r;cases r;exact .nil
 |k::ks,_,r=>by
  rw[Iv] at r;cases r with
  |cons h t=>exact .cons (Cm h) (vh t)
section
variable {a:Addr}{y v:V}{u r:Value}{o:Option V}
def Inv.big (I:Inv X pins σ H s):sysModules<s.heap.objs.size:=by
 have h:mainGlobals<s.heap.objs.size:=(I.mod.glob.keeps I.bk).lt;exact Nat.lt_trans #[] h
def Dh {t':Nat}{B:HO}(I:Inv X pins σ H s) (U:fG (H a)) (hs:Heap.SameBut a s.heap h') (W:∃q,h'.get? a=some q) (J:ObjOk X.prog X.w (f9 H a B) h' a B) :
  Inv X pins σ (f9 H a B) { s with heap:=h',toks:=t' }:=
 I.write (x:=a) (e:=a) U (.inl rfl) (fun b q hb z=>(hs.2 b hb).trans z) W J
end
def oy:List (TE × TE)->St->Hp->(List (V × V)->Hp->Prop)->Prop
 |[],_,H,Q=>Q [] H
 |(tk,tv)::r,σ,H,Q=>tk σ H fun x H1=>tv σ H1 fun y H2=>oy r σ H2 fun ps B=>Q ((x,y)::ps) B
abbrev VV:List (V × V)->List (Value × Value)->Prop:=Paired fun p q=>RelV p.1 q.1/\RelV p.2 q.2
def jP (X:Cx) (pos:Pos) (J:List (Option Expr)) (B:List Expr) (U:List (TE × TE)):Prop:=
 ∀(pins:vP_) (s:Shared) (σ:St) (H:Hp) (Q:List (V × V)->Hp->Prop),Inv X pins σ H s->oy U σ H Q ->
  wpAny (model X.prog X.w) X.A (evalPairs (pairTrees J B X.env pos)) (fun W s'=>∃ps H',Inv X pins σ H' s'/\VV ps W/\Q ps H') X.xe s
def Hn {pos:Pos}:jP X pos [] [] []:=fun pins s σ H Q I h=>pairTrees_nil_walk #[[],H,I,.nil,h]
def rb {pos:Pos}{k v:Expr}{J U:TE}(hk:PE X k J) (hv:PE X v U) (hr:jP X pos ks vs trs) :
  jP X pos (some k::ks) (v::vs) ((J,U)::trs):=fun pins s σ H Q I h=>
 pairTrees_cons_walk (n8 (hk pins s σ H _ I h) fun u s1 ⟨x,H1,W,rx,Y⟩=>n8 (hv pins s1 σ H1 _ W Y) fun w2 s2 ⟨y,H2,I2,Z,q2⟩=>
  n8 (hr pins s2 σ H2 _ I2 q2) fun ws s3 ⟨ps,H3,I3,B,q3⟩=>#[(x,y)::ps,H3,I3,.cons #[rx,Z] B,q3])
end L2
namespace Att
open PySem PySem.W PySem.Calls PyProof.Rows
def FV :∀(ns:List Int) (vs:vV_),WellAll P h vs (ns.map WData.int)->IntsAre vs ns:=by
 intro ns;induction ns with
 |nil=>
  intro vs w;rw[Kz] at w;cases w;exact .nil
 |cons n ns B=>
  intro vs w;rw[Iv] at w;cases w with
  |cons a b=>
   cases a;exact .cons _ _ (B _ b)
def Gm {l:OpenLaw}(hn:l.most=some n) {B:vV_}
  (J:l.row.toRowW.claim.pre args=true) (Z:WellAll P h B args) :
  ∃a vs ns,B=[Value.ref a]/\args=[WData.list (ns.map WData.int)]/\h.get? a=some { cls:=.type "list",data:=.seq vs.toArray }/\IntsAre vs ns/\ns.length<=n:=by
 have bj:WShape.hasAll [] args [.list .int]=true:=(pre_splitW J).1;have hc:l.pre.holds [] { args:=args }=true:=(pre_splitW J).2;obtain⟨d,r,rfl,h1,h2⟩:=hasAllW_cons bj;obtain rfl:=hasAllW_nil h2;obtain⟨xs,rfl,h3⟩:=hasW_list h1;obtain⟨ns,rfl⟩:=items_int h3;have U:ns.length<=n:=by
  unfold OpenLaw.pre at hc;have h4:(WTm.not (.lt (.lit (.int (n:Int))) (.len (.arg 0)))).holds [] { args:=[.list (ns.map .int)] }=true:=by
   have h4:=(holds_andW hc).1;rw[hn] at h4;exact h4
  have Y:=condW_of h4 (w_not (w_lt w_lit (w_len_list (w_arg rfl))));rw[xo] at Y;refine LP fun q=>?_
  have q':(n:Int)<((ns.length:Nat):Int):=by omega
  first
   | (rw[IH q'] at Y;exact absurd Y #[])
   | (simp at Y;omega)
 cases Z with
 |cons w1 w2=>
  cases w2;cases w1 with
  |list ho W=>exact#[_,_,ns,rfl,rfl,ho,FV ns _ W,U]
def Ft (l:OpenLaw) (args:List WData):l.row.toRowW.claim.post args (.bool true) args=true:=
 postW_of (r:=l.row.toRowW) (X:=(true == true))
  (show WShape.has [] (.bool true) .bool=true by first | rfl | decide | simp[WShape.has,WShape.arms,WShape.armsAll])
  (show (WTm.eq .res (.lit (.bool true))).value [] { args:=args,res:=some (.bool true),after:=args }=some (.bool (true == true)) from w_eq_bool (w_res rfl) w_lit) rfl
def attach_call {l:OpenLaw}{n:Nat}{q:Program}{loose:List Str}{XP:(Str->Option Value)->Heap->Prop}{YP:World->Heap->Prop}{d:DefRec}
  (hn:l.most=some n) (Z:d.params.defaults=[])
  (call:∀(w:World) (s₀ s₁:Shared) (mg mb:vG_) (fa:Addr) (o:Obj) (pm cd doc:Value) (a:Addr) (vs:vV_) (ns:List Int),
   Ground q loose [] XP w s₀ mg mb s₁.heap->YP w s₁.heap ->
   s₁.heap.get? fa=some o->o.data = .func (docDef d.name d.params d.body d.scope pm cd doc)->s₁.heap.CodeRec cd d.name->mg d.name=some (.ref fa) ->
   s₁.heap.get? a=some { cls:=.type "list",data:=.seq vs.toArray }->IntsAre vs ns->ns.length<=n->s₁.gens = #v[] ->
   codeAny (model l.prog w) callerA (.call (.ref fa) #[[.ref a],[]]) (fun r s'=>r = .ok (.ret (.bool true))/\OldK s₁.heap s'.heap/\s'.os=s₁.os/\AllBare s'.gens) s₁) :
  WalkO q loose XP YP l.row.toRowW d [] (fun f vs=>PySem.call f vs):=by
 intro w s₀ s₁ mg mb G Y fa o pm cd doc dV kV ho hd hcd hD hmg hg args vals as U hlay hrd hwl hlo;obtain rfl:dV = .none:=Dflts.none hD Z;obtain rfl:kV = .none:=Dflts.noKw hD;obtain⟨a,vs,ns,rfl,rfl,W,B,J⟩:=Gm hn U hwl;refine enter_call (codeAny_mono (call w s₀ s₁ mg mb fa o pm cd doc a vs ns G Y ho (fd_plain hd) hcd hmg W B J hg) fun r s' hq=>?_);obtain⟨rfl,h2,h3,h4⟩:=hq;exact#[.inl #[.bool true,.bool true,[],rfl,fun _=>rfl,.bool true,Ft l _,fun _=>#[List.Pairwise.nil,fun _ hm=>(nomatch hm)]],h2,h3,h4]
end Att
namespace L2
open PySem PySem.Spec PyProof.Rows
theorem qw:∀{vs:vV_}{ns:List Int},IntsAre vs ns->Vals (ns.map V.int) vs
 |_,_,.nil=>.nil
 |_,_,.cons n t h=>.cons #[t,rfl] (qw h)
def kj (H:Hp):Prop:=∀b,H b=none\/∃o xs,H b=some (.frz o (.lst xs))
def BM {w:World}{K:vF_}{mg mb:vG_}{CX:U4}{k:Nat}{fa a:Addr}{fd:FuncData}{x:Str}{sp:Sp}{B:Shared}{Y:vV_}{ns:List Int}
  (KX:K.In B.heap) (hns:B.heap.Ns mainGlobals mg) (hb:B.heap.Ns builtinsNs mb) (hbb:∀x:Str,x ≠ "__name__" -> mb x=bootBuiltins x) (hlim:B.heap.NoLimit) (hg:B.gens = #v[])
  (ha:B.heap.get? a=some { cls:=.type "list",data:=.seq Y.toArray }) (hi:IntsAre Y ns) (hl:ns.length<=sizeLine) (hr:Room k callerA)
  (F:∀base:Heap,K.In base->base.Ns mainGlobals mg->FnOk P w K mg base CX k fa fd [x] sp) (Z:∀(s:Shared) (u:Value),BindsTo s fd #[[u],[]] [(x,u)])
  (hsp:∀H:Hp,kj H->SqL K H a (ns.map V.int)->sp [.ref a] H (fun v _=>v = .bl true) fun _ _ _=>False)
  (hCX:∀H e s',CX [] H B (fun _ _ _=>False) e s'->False) :
  codeAny (model P w) callerA (.call (.ref fa) #[[.ref a],[]]) (fun r s'=>r = .ok (.ret (.bool true))/\OldK B.heap s'.heap/\s'.os=B.os/\AllBare s'.gens) B:=by
 have rv:=qw hi;have lenV:=hi.length;have W:∀H:Hp,kj H->SqL K H a (ns.map V.int)->HOk P w H B.heap->(∀b,H b≠none->b=a)->(H a≠none->K.lookup a=none) ->
   codeAny (model P w) callerA (.call (.ref fa) #[[.ref a],[]]) (fun r s'=>r = .ok (.ret (.bool true))/\OldK B.heap s'.heap/\s'.os=B.os/\AllBare s'.gens) B:=by
  intro H hO hS hok hA hK;have J:∀{b:Addr}{o:Obj},B.heap.get? b=some o->H b=none->(Z6 B.heap H).get? b=some o:=fun e n=>Fv e n
  have noA:∀{b:Addr}{o:Obj}{es:Array DictEntry}{ep:Nat},B.heap.get? b=some o->o.data = .dict es ep->H b=none:=fun {b o es ep} e d=>by
   cases q:H b with
   |none=>rfl
   |some u=>
    have e':b=a:=hA b (by rw[q];simp);subst e';rw[ha] at e;cases e;have d':Data.seq Y.toArray _=Data.dict es ep:=d;cases d'
  have U:∀{b:Addr}{m:vG_},B.heap.Ns b m->(Z6 B.heap H).Ns b m:=fun {b m} ⟨o,es,ep,e,d,r⟩=>#[o,es,ep,J e (noA e d),d,r]
  have hKb:K.In (Z6 B.heap H):=fun b o e=>J (KX b o e) (by
   cases q:H b with
   |none=>rfl
   |some u=>
    have e':b=a:=hA b (by rw[q];simp);subst e';rw[hK (by rw[q];simp)] at e;cases e)
  have hM:Mod K mg (Z6 B.heap H):=#[hKb,U hns,#[mb,U hb,hbb],let ⟨mc,h1,h2⟩:=hlim;#[mc,U h1,h2]]
  have e0:Env0 P w K mg (Z6 B.heap H) callerA [] B H:=#[rfl,hM,fun b o e=>Ha e,LQ (Ho _ _),trivial,fun b hb=>absurd (show b∈([]:vL_) from hb) (by simp),hok,.of_eq hg]
  refine codeAny_mono ((F _ hKb (U hns)).run callerA [] B H #[[.ref a],[]] [.ref a] [.ref a] _ _ hr e0 (Z B (.ref a)) (.cons rfl .nil) (hsp H hO hS)) fun r s' h=>?_
  cases r with
  |error e=>exact(hCX H e s' h).elim
  |ok fl=>
   cases fl with
   |next=>exact False.elim h
   |brk=>exact False.elim h
   |cont=>exact False.elim h
   |ret u=>
    obtain⟨v,H',os,bare,un,hok',r',q⟩:=h;have q':v = .bl true:=q;subst q';obtain rfl:u=Value.bool true:=r';refine#[rfl,OldK.of_keep fun b o e=>?_,os,bare];cases q:H b with
    |none=>exact un.keep b o e q (by intro z;exact absurd (show b∈([]:vL_) from z) (by simp)) (by simp)
    |some u=>
     rcases hO b with z | ⟨ob,xs,z⟩
     .rw[q] at z;cases z
     .have z2:=un.frzs b ob _ z;obtain⟨e1,_⟩:=hok b _ z;obtain⟨e2,_⟩:=hok' b _ z2;rw[e] at e1;cases e1;exact e2
 cases hk:K.lookup a with
 |some o=>
  have e:=KX a o hk;rw[ha] at e;cases e;refine W (fun _=>none) (fun _=>.inl rfl) (.inr #[_,Y.toArray,_,hk,rfl,rfl,rfl,by rw[Iz,lenV];exact hl,by simpa using rv]) (fun b u z=>by have z':(none:Option HO)=some u:=z;cases z') (fun b z=>absurd rfl z) fun z=>absurd rfl z
 |none=>
  refine W (fun b=>if b=a then some (.frz { cls:=.type "list",data:=.seq Y.toArray } (.lst (ns.map V.int))) else none) (fun b=>?_) (.inl (.inr #[{ cls:=.type "list",data:=.seq Y.toArray },fx rfl])) (fun b u z=>?_) (fun b z=>?_) fun _=>hk
  .by_cases hb:b=a
   .exact .inr #[_,_,fx hb]
   .exact .inl (fI hb)
  .by_cases hb:b=a
   .have z':=(fx hb).symm.trans z;cases z';subst hb;exact#[ha,by rw[xo];exact hl,Y,_,rv,ha]
   .have z':=(fI hb).symm.trans z;cases z'
  .by_cases hb:b=a
   .exact hb
   .exact absurd (fI hb) z
def walk_of {l:PySem.W.OpenLaw}{d:DefRec}{K:Params->PySem.W.Frag}{CX:World->U4}{sp:World->Sp}
  (hn:l.most=some n) (hn2:n<=sizeLine) (hdf:d.params.defaults=[]) (hr:Room k callerA)
  (hY:∀(w:World) (h:Heap),YP w h->(K w.params).In h)
  (F:∀(w:World) (mg:vG_) (fa:Addr) (h:Heap),(K w.params).In h->h.Ns mainGlobals mg->mg d.name=some (.ref fa) ->
   ∃fd:FuncData,(∀(s:Shared) (u:Value),BindsTo s fd #[[u],[]] [(x,u)]) /\
    ∀base:Heap,(K w.params).In base->base.Ns mainGlobals mg->FnOk l.prog w (K w.params) mg base (CX w) k fa fd [x] (sp w))
  (Z:∀(w:World) (H:Hp) (a:Addr) (ns:List Int),ns.length<=n->kj H->SqL (K w.params) H a (ns.map V.int)->sp w [.ref a] H (fun v _=>v = .bl true) fun _ _ _=>False)
  (hCX:∀(w:World) (H:Hp) (s:Shared) (e:Value) (s':Shared),CX w [] H s (fun _ _ _=>False) e s'->False) :
  PySem.W.WalkO q loose XP YP l.row.toRowW d [] (fun f vs=>PySem.call f vs):=by
 refine Att.attach_call hn hdf fun w s₀ s₁ mg mb fa o pm cd doc a vs ns G Y ho hd hcd hmg U J B hg=>?_
 have KX:=hY w _ Y;obtain⟨fd,hb,hF⟩:=F w mg fa _ KX G.T.g hmg;exact BM KX G.T.g G.T.b G.T.builtins G.T.nolimit hg U J (Ij B hn2) hr hF hb (fun H hO hS=>Z w H a ns B hO hS) fun H e s'=>hCX w H s₁ e s'
def X4 (s:Stmt):Arguments:=match s with
 |.FunctionDef _ a _ _ _ _ _ _ _ _=>a
 |_=>{ posonlyargs:=[],args:=[],vararg:=none,kwonlyargs:=[],kw_defaults:=[],kwarg:=none,defaults:=[] }
def Q1 (s:Stmt):List Stmt:=match s with
 |.FunctionDef _ _ b _ _ _ _ _ _ _=>b
 |_=>[]
def D5 (s:Stmt):Scope:=match s with
 |.FunctionDef _ _ _ _ _ _ sc _ _ _=>sc
 |_=>{ kind:=.function,names:=[],isGenerator:=false,isCoroutine:=false }
abbrev T8:U4:=fun _ _ _ _ _ _=>False
abbrev E0:XK:=fun _ _ _=>False
def og :mG T8 X E0:=fun _ _ _ _ _ _ _ h=>h.elim
structure Fun (K:vF_) (x qual:Str) (st:Stmt) (f:Addr) (fd:FuncData):Prop where
 ex:∃(oc:Value) (od:vA_) (kV doc pm:Value) (an:vA_) (cdv ct:Value) (osl:vS_),
  fd=PySem.W.fnOf x qual (X4 st) (Q1 st) (D5 st) .none kV doc pm an cdv ct/\K.lookup f=some #[oc,od,.func fd,osl]/\PySem.W.codeIn K cdv qual=true
 kp:PySem.W.keepIn K (.ref f)=true
section
variable {P:Program}{w:World}{K:vF_}
def Fun.ok {x qual:Str}{st:Stmt}{fd:FuncData}{N ps:List Str}{k:Nat}{sp:Sp}(F:Fun K x qual st f fd) (S:FnScope N ps (D5 st)) (U:∀vs H Q E,sp vs H Q E->vs.length=ps.length)
  (B:∀(cdv:Value) (A:Around) (outer:List Env) (s:Shared) (H:Hp) (vs:List V) (Q:VK) (E:XK),Room k (A.deeper (envOfC qual (D5 st) s.heap.objs.size f cdv))->sp vs H Q E ->
   ∃t,PSs (W5 T8 P w K mg base N qual (D5 st) f cdv A outer s H E).nox (Q1 st) t/\t { nx:=fun _ H'=>Q .non H',rt:=Q } (start N vs) H):FnOk P w K mg base T8 (k+1) f fd ps sp:=by
 obtain⟨oc,od,kV,doc,pm,an,cdv,ct,osl,rfl,Y,W⟩:=F.ex;refine EX Y W S U fun A outer s H vs Q E Z J=>?_
 obtain⟨t,h,q⟩:=B cdv A outer s H vs Q E Z J;exact#[t,h.nox,q]
def Fun.binds {st:Stmt}{ps:List Str}(F:Fun K x qual st f fd)
  (h:∀(kV doc pm:Value) (an:vA_) (cdv ct:Value) (us:vV_),us.length=ps.length->bindArgs (PySem.W.fnOf x qual (X4 st) (Q1 st) (D5 st) .none kV doc pm an cdv ct) #[us,[]]=pure (ps.zip us)):Binds K fd ps []:=by
 obtain⟨Y,U,kV,doc,pm,an,cdv,ct,osl,rfl,J,B⟩:=F.ex;exact .all (h kV doc pm an cdv ct)
def Gb {st:Stmt}{od Z:vA_}{kV J U B Y:Value}(l:K.lookup f=some #[oc,od,.func (PySem.W.fnOf x qual (X4 st) (Q1 st) (D5 st) .none kV J U Z B Y),osl])
  (c:PySem.W.codeIn K B qual=true) (k:PySem.W.keepIn K (.ref f)=true):Fun K x qual st f (PySem.W.fnOf x qual (X4 st) (Q1 st) (D5 st) .none kV J U Z B Y):=#[#[oc,od,kV,J,U,Z,B,Y,osl,rfl,l,c],k]
end
def pv (i:Nat) {x:Str}{pos:Pos}(W:X.N[i]? = some x:=by rfl) (U:kI X.env.scope x:=by first | exact Or.inl rfl | exact Or.inr (Or.inl rfl) | exact Or.inr (Or.inr rfl)) (J:(x == ("__debug__" : Str))=false:=by decide)
  (B:(x == ("__classdict__" : Str))=false:=by decide):PE X (.Name x pos) (M1 i):=GB W U J B
def FA {A B:Prop}(h:B):if false=true then A else B:=by
 rw[fI Io];exact h
def xv {A B:Prop}(h:A):if true=true then A else B:=by
 rw[fx rfl];exact h
def t9 (X:Cx) (N':List Str) (scope:Scope) (cl:List (Str × Addr)) (C:Addr) (B:Shared) (H0:Hp) (ex:vL_):Cx:=
 { X with N:=N',env:=compEnvC scope cl C X.env,s₀:=B,H₀:=H0,outer:=X.stack,stack:=X.stack,ex:=ex,fn:=fun _=>false,pn:=[],xe:=fun _ _=>False }
def cI (X:Cx) (ifs:List Expr) (t:TT):Prop:=
 ∀(pins:vP_) (s:Shared) (σ:St) (H:Hp) (Q:Bool->Hp->Prop),Inv X pins σ H s->t σ H Q ->
  wpAny (model X.prog X.w) X.A (forIn ifs true fun c r=>if r=true then do let ok <-isTrue c X.env (eval c X.env);pure (ForInStep.yield ok) else pure (ForInStep.yield r)) (TP X pins σ Q) X.xe s
def yf:TT:=fun _ H Q=>Q true H
def Dn :cI X [] yf:=fun pins s σ H Q I h=>wpAny_tests_nil #[H,I,h]
def Bb {t:TT}(h:PT X c t):cI X [c] t:=fun pins s σ H Q I q=>wpAny_tests_one (h pins s σ H Q I q)
def F6 (n:Nat) (idx:List Nat) (σ:St):St:=List.replicate n none++idx.map fun i=>(σ[i]?).join
def bU (n:Nat) (idx:List Nat) (wi:TI) (g:TG) (tc:TT) (te:TE):TE:=fun σ H Q=>wi σ H fun J H1=>∀D,H1 D=none ->
 ∃W:Nat->Nat->Hp->Prop,(∃m,W 0 m (f9 H1 D (.lst [])))/\∀i m H,W i m H ->
  (J.stop i H/\Q (.ref D) H)\/(J.go i H/\∀x H',J.yld i H x H'->g x (F6 n idx σ) H' fun σ2 H2=>(σ2.length=(F6 n idx σ).length/\∀(j:Nat) (v:V),(F6 n idx σ)[j]? = some (some v)->σ2[j]? = some (some v))/\tc σ2 H2 fun b U=>
   if b=true then te σ2 U fun v B=>∃ys,B D=some (.lst ys)/\ys.length<sizeLine/\∃m',m'<m/\W (i+1) m' (f9 B D (.lst (ys++[v]))) else ∃m',m'<m/\W (i+1) m' U)
structure CompOk (X:Cx) (scope:Scope) (cl:List (Str × Addr)) (N':List Str) (n:Nat) (idx:List Nat):Prop where
 clos:closureFor scope X.env=pure cl
 sub:∀x c,cl.lookup x=some c->X.env.cells.lookup x=some c
 cell:∀y∈scope.names,y.2 ≠ .cell
 kind:scope.kind = .function
 names:∀y∈scope.names,y.2 = .local->scope.names.lookup y.1=some .local
 has:∀x,((relabel scope X.env).names.lookup x=some .cell\/(relabel scope X.env).names.lookup x=some .free)->∃c,cl.lookup x=some c
 len:N'.length=n+idx.length
 cap:∀(j i:Nat) (y:Str),idx[j]? = some i->N'[n+j]? = some y->X.N[i]? = some y/\(X.env.scope.names.lookup y=some .cell\/X.env.scope.names.lookup y=some .free)/\((relabel scope X.env).names.lookup y=some .cell\/(relabel scope X.env).names.lookup y=some .free)
section
variable {pos:Pos}{wi:TI}{g:TG}
def GJ (σ:St):(F6 n idx σ).length=n+idx.length:=by simp[F6]
def HH {v:V}(h:(F6 n idx σ)[j]? = some (some v)):∃k i,j=n+k/\idx[k]? = some i/\σ[i]? = some (some v):=by
 unfold F6 at h;by_cases B:j<n
 .rw[Lf (by simpa using B)] at h;simp[B] at h
 .rw[Kx (by simpa using LP B)] at h;simp only[Nq,IT] at h;refine#[j - n,?_];cases e:idx[j - n]? with
  |none=>rw[e] at h;simp at h
  |some i=>
   rw[e] at h;simp only[ME,Jf] at h;exact#[i,by omega,rfl,by simpa using Option.join_eq_some_iff.mp h]
def zT (k:CompOk X scope cl N' n idx) {pins:vP_}{s2:Shared}{fp:vL_}{h4:Heap}{t4:Nat}{m:vG_}(I:Inv X pins σ H2 s2) (f:∀b∈fp,M7 X pins H2 b) (fo:∀b∈fp,b<s2.heap.objs.size)
  (hC:s2.heap.objs.size+1<=C) (ns:h4.Ns C m) (J:∀b o,s2.heap.get? b=some o->h4.get? b=some o) (hD:h4.get? s2.heap.objs.size=some { cls:=.type "list",data:=.seq ([]:vV_).toArray }) :
  Inv (t9 X N' scope cl C s2 H2 fp) [] (F6 n idx σ) (f9 H2 s2.heap.objs.size (.lst [])) { s2 with heap:=h4,toks:=t4 }:=by
 have fresh:H2 s2.heap.objs.size=none:=I.hok.fresh (tx _);have fC:H2 C=none:=I.hok.fresh ∅;have B:∀x c,(t9 X N' scope cl C s2 H2 fp).env.cells.lookup x=some c->X.env.cells.lookup x=some c:=fun x c e=>k.sub x c e
 have W:∀x c,X.env.cells.lookup x=some c->c<s2.heap.objs.size:=fun x c e=>by
  obtain⟨v,q⟩:=I.cell x c e;exact q.lt
 have ok:(t9 X N' scope cl C s2 H2 fp).Ok:={
  mod:=I.ok.mod
  kind:=k.kind
  glob:=I.ok.glob
  blt:=I.ok.blt
  above:=by show s2.heap.objs.size<=C;omega
  inj:=fun x y c Y e2=>I.ok.inj x y c (B x c Y) (B y c e2)
  has:=fun x h=>k.has x h
  cab:=fun x c h _=>by cases h
  hd:=I.ok.hd
  frames:=I.ok.frames
  stk:=.inl rfl
  exf:=fun b hb=>#[Ir (Iy (fo b hb) (by show s2.heap.objs.size<=C;omega)),fun x c e z=>(f b hb).2.2.2.2.1 x c (B x c e) z]
  bs:=fun b o e=>I.bs b o e
  bsz:=Ij I.ok.bsz I.sz
  noex:=fun b o e hb=>by
   rcases(f b hb).2.2.2.1 with z | z
   .exact I.ok.noex b o e z
   .exact absurd (Iy (Ig e) (Ij I.ok.bsz z)) (JQ _)
  exfs:=fun b hb z=>by
   rcases iO.mp (I.stkSub b z) with y | y
   .exact(f b hb).2.1 y
   .exact(f b hb).2.2.1 y
  funs:=I.stack
  frf:=I.stkFree }
 refine#[ok,rfl,I.bare,Un.laid J (tx _) fresh,#[m,ns,fun j y v Y e2 e3=>?_],fun x c e=>?_,?_,fun x c e=>?_,fun p hp=>(by cases hp),I.hok.laid J (tx _) #[JF _,[],_,.nil,hD],?_]
 .obtain⟨kk,i,rfl,hk,hv⟩:=HH e2;obtain⟨hN,ok,U⟩:=k.cap kk i y hk Y;obtain⟨c,hc⟩:=k.has y U;obtain⟨m0,_,hl⟩:=I.loc;have hc':=k.sub y c hc;obtain⟨u,r,l⟩:=hl i y v hN hv (by rcases ok with z | z;exact .inr (.inl z);exact .inr (.inr z));refine#[u,r,.inr #[U,c,hc,?_]];rcases l with ⟨z,_⟩ | ⟨_,c',e',q⟩
  .have z':X.env.scope.names.lookup y=some .local:=z;rcases ok with w | w <;> · rw[w] at z';cases z'
  .rw[hc'] at e';cases e';obtain⟨o,Z,hd⟩:=q;exact#[o,J _ o Z,hd]
 .obtain⟨v,q⟩:=I.cell x c (B x c e);obtain⟨o,Z,hd⟩:=q;exact#[v,o,J c o Z,hd]
 .show f9 H2 s2.heap.objs.size (.lst []) C=none;rw[n9 (Jr hC)];exact fC
 .have:=W x c (B x c e);rw[n9 (Ir this)];exact I.freeC x c (B x c e)
 .rw[GJ,<-k.len];rfl
def wT {w:World}{R:Result->Shared->Prop}{pos:Pos}{it acc:Value}{B:Env}(I:Nat->Shared->Prop)
  (J:∀n s,I n s->wpAny (model prog w) A (pyNext it) (fun r s1=>match r with
   |none=>R (.ok .next) s1
   |some v=>wpAny (model prog w) A (letOwnedTupleGo target it v) (fun _ s1'=>wpAny (model prog w) A (assign target B v) (fun _ s2=>
     wpAny (model prog w) A (forIn ifs true fun c r=>if r=true then do let ok <-isTrue c B (eval c B);pure (ForInStep.yield ok) else pure (ForInStep.yield r)) (fun ok s3=>
      if ok=true then wpAny (model prog w) A (eval elt B) (fun x s4=>
       wpAny (model prog w) A (call (.builtin "list.append") [acc,x]) (fun _ s5=>∃m,m<n/\I m s5) (notedBy (model prog w) A B fun e s'=>R (.error e) s') s4) (notedBy (model prog w) A B fun e s'=>R (.error e) s') s3
      else ∃m,m<n/\I m s3) (notedBy (model prog w) A B fun e s'=>R (.error e) s') s2) (notedBy (model prog w) A B fun e s'=>R (.error e) s') s1') (notedBy (model prog w) A B fun e s'=>R (.error e) s') s1) (notedBy (model prog w) A B fun e s'=>R (.error e) s') s)
  (n:Nat) (h:I n s) :
  codeAny (model prog w) A (.compLoop (.ListComp elt [#[target,iter,ifs,0]] scope pos) 0 it acc B) R s:=by
 refine codeAny_loop rfl I (fun n s hI=>?_) n h;show wpAny _ A ((compTurn (.ListComp elt [#[target,iter,ifs,0]] scope pos) 0 it acc B).onRaise (fun x=>do noteFrame x B;theTreesLotGoes x)) _ _ s;refine wpAny_noted ?_;rw[compTurn_list];refine cn (LM (cn (Jd (J n s hI) (fun r s₁ W=>?_) fun _ _ h'=>h')));cases r with
 |none=>exact gV W
 |some v=>
  refine cn (Jd W (fun _ s1' U=>?_) fun _ _ h'=>h');refine cn (Jd U (fun _ s₂ h₂=>cn (Jd h₂ (fun ok s₃ Y=>?_) fun _ _ h'=>h')) fun _ _ h'=>h');cases ok with
  |false=>exact gV #[rfl,Y]
  |true=>
   exact cn (cn (Jd Y (fun x s₄ Z=>cn (Jd Z (fun _ s₅ h₅=>gV (gV #[rfl,h₅])) fun _ _ h'=>h')) fun _ _ h'=>h'))
end
section
variable {pos:Pos}{wi:TI}{g:TG}
def qm {use:Option (Value->Sem Unit)}{Q':vQ_}(hc:X.calm=true) (k:CompOk X scope cl N' n idx) (hi:PI X tg iter wi)
  (hg:∀C s0 H0 ex,PG (t9 X N' scope cl C s0 H0 ex) tg g) (ht:∀C s0 H0 ex,cI (t9 X N' scope cl C s0 H0 ex) ifs tc) (he:∀C s0 H0 ex,PE (t9 X N' scope cl C s0 H0 ex) elt te)
  (hs:∀x,foldedSetIterable iter X.env x=pure x) {Q:VK}(I0:Inv X pins σ H s) (h:bU n idx wi g tc te σ H Q)
  (last:∀(C D:Addr) (s':Shared) (H':Hp) (m:vG_),Inv X pins σ H' s'->M7 X pins H' C->s'.heap.Ns C m->Q (.ref D) H'->compPost (model X.prog X.w) X.A X.xe use Q' (.ref D) C (.ok .next) s') :
  wpAny (model X.prog X.w) X.A (comprehension (.ListComp elt [#[tg,iter,ifs,0]] scope pos) scope X.env pos2 (newList []) false (eval iter X.env) use) Q' X.xe s:=by
 refine wpAny_comprehension_free (use:=use) rfl hs k.clos k.kind k.names (n8 (hi pins s σ H _ I0 h) fun v s1 h1=>n8 h1 fun itv s2 h2=>?_);obtain⟨it,fp,tn,J,H2,e,I2,T,st2,f2,hW⟩:=h2;subst e;have fo2:∀b∈fp,b<s2.heap.objs.size:=fun b hb=>by
  obtain⟨o,e,_⟩:=T.obj _ _ st2 b hb;exact Ig e
 obtain⟨W,⟨m0,w0⟩,turn⟩:=hW s2.heap.objs.size (I2.hok.fresh (tx _));refine JE (wpAny_newFunctionEnv k.cell (by intro y hy;simp at hy) (fun h4 hns4 Y=>?_) k.kind)
 dsimp only at hns4 Y ⊢
 generalize hH3:s2.heap.push { cls:=.type "list",dict:=none,data:=.seq ([]:vV_).toArray }=h3 at hns4 Y ⊢;have Z:h3.objs.size=s2.heap.objs.size+1:=by rw[<-hH3,KA]
 have k34:∀b o,b≠h3.objs.size->h3.get? b=some o->h4.get? b=some o:=fun b o nb e=>Y.extBut b o nb (Ii _ e)
 have keep:∀b o,s2.heap.get? b=some o->h4.get? b=some o:=fun b o e=>k34 b o (Ir (by rw[Z];exact Nat.lt_succ_of_lt (Ig e))) (by rw[<-hH3];exact Ii _ e)
 have hD:h4.get? s2.heap.objs.size=some { cls:=.type "list",data:=.seq ([]:vV_).toArray }:=k34 _ _ (Ir (by rw[Z];exact Nat.lt_succ_self _)) (by rw[<-hH3];exact ID _ rfl);have I4:=zT k I2 f2 fo2 (LQ Z.symm) hns4 keep hD (t4:=s2.toks+([]:List (Str × Value)).length);have stat:∀{H':Hp},(∀b∈fp,H' b=none)->∀b∈fp,M7 (t9 X N' scope cl h3.objs.size s2 H2 fp) [] H' b:=fun hn b hb=>
  #[hn b hb,Ir (by rw[Z];exact Nat.lt_succ_of_lt (fo2 b hb)),fun z=>(iO.mp (I2.stkSub b z)).elim (f2 b hb).2.1 (f2 b hb).2.2.1,.inl hb,fun x c e=>(f2 b hb).2.2.2.2.1 x c (k.sub x c e),fun p hp=>(by cases hp)]
 have fr4:∀b∈fp,f9 H2 s2.heap.objs.size (.lst []) b=none:=fun b hb=>by rw[n9 (Ir (fo2 b hb))];exact(f2 b hb).1
 have fin:∀(s':Shared) (H':Hp),Inv (t9 X N' scope cl h3.objs.size s2 H2 fp) [] (F6 n idx σ) H' s'->Q (.ref s2.heap.objs.size) H' ->
   compPost (model X.prog X.w) X.A X.xe use Q' (.ref s2.heap.objs.size) h3.objs.size (.ok .next) s':=fun s' H' I' q=>by
  obtain⟨m',hn',_⟩:=I'.loc;have B:=I'.base;refine last _ _ s' H' m' ?_ (I2.fpOk (by rw[Z];exact Nat.le_succ _) I'.free) hn' q;refine I2.call' (s':=s') (ch:=fp) (show s'.os=s2.os from I'.os) #[fun b o e nn hb hx=>B.keep b o e nn hb hx,fun b o e nn hb hx=>B.slot b o e nn hb hx,B.free,fun b o e hx=>B.there b o e hx,B.tups,B.frzs,B.tbls] I'.hok I'.bare fun b hb=>?_
  obtain⟨p1,p2,p3,p4,p5,p6⟩:=f2 b hb;exact#[p4,p2,p5,p6]
 have loop:∀s4:Shared,s4={ s2 with heap:=h4,toks:=s2.toks+([]:List (Str × Value)).length } ->
   codeAny (model X.prog X.w) X.A (.compLoop (.ListComp elt [#[tg,iter,ifs,0]] scope pos) 0 (.ref it) (.ref s2.heap.objs.size) (compEnvC scope cl h3.objs.size X.env)) (compPost (model X.prog X.w) X.A X.xe use Q' (.ref s2.heap.objs.size) h3.objs.size) s4:=by
  rintro s4 rfl;refine wT (fun m s'=>∃i H',Inv (t9 X N' scope cl h3.objs.size s2 H2 fp) [] (F6 n idx σ) H' s'/\tn i s'.heap/\(∀b∈fp,H' b=none)/\W i m H') ?_ m0 #[0,_,I4,T.keep _ _ _ st2 (fun b _ o e=>keep b o e),fr4,w0];rintro m s3 ⟨i,H3,I3,st3,fr3,w3⟩;rcases turn i m H3 w3 with ⟨stop,q⟩ | ⟨go,step⟩
  .refine Jd (T.done (t9 X N' scope cl h3.objs.size s2 H2 fp) rfl rfl rfl hc i [] s3 _ H3 (fun _ _=>False) I3 (stat fr3) st3 stop) (fun r s5 ⟨hr,I5⟩=>?_) fun _ _ z=>z.elim
   subst hr;exact fin s5 H3 I5 q
  .refine Jd (T.item (t9 X N' scope cl h3.objs.size s2 H2 fp) rfl rfl rfl hc i [] s3 _ H3 (fun _ _=>False) I3 (stat fr3) st3 go) (fun r s5 ⟨u,hr,h5⟩=>?_) fun _ _ z=>z.elim
   subst hr;refine Jd h5 (fun _ s6 ⟨x,H6,I6,r6,y6,st6,fr6⟩=>?_) fun _ _ z=>z.elim
   have I6':=I6.pinned (stat fr6) (T.obj _ _ st6);have U:∀{σ7:St}{H7:Hp}{s7:Shared},Inv (t9 X N' scope cl h3.objs.size s2 H2 fp) ([]++fD fp s6.heap) σ7 H7 s7->σ7.length=(F6 n idx σ).length->(∀(j:Nat) v,(F6 n idx σ)[j]? = some (some v)->σ7[j]? = some (some v))->(∃m',m'<m/\W (i+1) m' H7) ->
     ∃m',m'<m/\∃i H',Inv (t9 X N' scope cl h3.objs.size s2 H2 fp) [] (F6 n idx σ) H' s7/\tn i s7.heap/\(∀b∈fp,H' b=none)/\W i m' H':=fun {σ7 H7 s7} I7 hl hw ⟨m',hm,w7⟩=>by
    refine#[m',hm,i+1,H7,(I7.unpinned).weak hl.symm hw,T.keep _ _ _ st6 fun b hb o e=>(I7.pin (b,o) (Jy _ (Jy _ (dE hb e)))).1,fun b hb=>?_,w7];obtain⟨o,e,d⟩:=T.obj _ _ st6 b hb;exact(I7.pin (b,o) (Jy _ (Jy _ (dE hb e)))).2.1
   refine Jd (hg _ _ _ _ _ s6 _ H6 x u _ I6' r6 (step x H6 y6)) (fun _ s7 ⟨σ7,H7,I7,⟨hl,hw⟩,q7⟩=>?_) fun _ _ z=>z.elim
   refine Jd (ht _ _ _ _ _ s7 σ7 H7 _ I7 q7) (fun ok s8 ⟨H8,I8,q8⟩=>?_) fun _ _ z=>z.elim
   cases ok with
   |false=>
    rw[fI Io] at q8 ⊢;exact U I8 hl hw q8
   |true=>
    rw[fx rfl] at q8 ⊢;refine Jd (he _ _ _ _ _ s8 σ7 H8 _ I8 q8) (fun v9 s9 ⟨x9,H9,I9,r9,ys,e9,l9,q9⟩=>?_) fun _ _ z=>z.elim
    refine Jd (sL (X:=t9 X N' scope cl h3.objs.size s2 H2 fp) _ s9 σ7 H9 (.ref s2.heap.objs.size) [x9] (.ref s2.heap.objs.size) [v9] (fun _ H'=>H'=f9 H9 s2.heap.objs.size (.lst (ys++[x9]))) I9 rfl (.cons r9 .nil) #[s2.heap.objs.size,ys,x9,rfl,rfl,e9,l9,rfl]) (fun _ s10 ⟨_,H10,I10,_,e10⟩=>?_) fun _ _ z=>z.elim
    subst e10;exact U I10 hl hw q9
 exact codeAny_compStart_list (loop _ rfl) (T.self _ 0 _ _ _ (T.keep _ _ _ st2 (fun b _ o e=>keep b o e)) (loop _ rfl))
def rR (hc:X.calm=true) (k:CompOk X scope cl N' n idx) (hi:PI X tg iter wi)
  (U:∀C s0 H0 ex,PG (t9 X N' scope cl C s0 H0 ex) tg g) (ht:∀C s0 H0 ex,cI (t9 X N' scope cl C s0 H0 ex) ifs tc) (he:∀C s0 H0 ex,PE (t9 X N' scope cl C s0 H0 ex) elt te)
  (hs:∀x,foldedSetIterable iter X.env x=pure x:=by intro _;rfl):PE X (.ListComp elt [#[tg,iter,ifs,0]] scope pos) (bU n idx wi g tc te):=by
 intro pins s σ H Q I0 h;rw[eval_ListComp];refine qm (use:=none) (Q':=EP X pins σ Q) hc k hi U ht he hs I0 h ?_;intro C W s' H' m IX B Z q;exact#[m,Z,fun h' J=>#[.ref W,H',IX.turned (t':=s'.toks) (it:=C) (h':=h') (fun b o Y e=>(J.2 b Y).trans e) B.1 B.2.1 B.2.2.2.1 B.2.2.2.2.1 B.2.2.2.2.2,rfl,q]]
def oM {i:Nat}{y:Str}{py B:Pos}(hN:X.N.Nodup) (Y:X.N[i]? = some y) (hx:Loc X.env.scope y) (hc:X.calm=true) (k:CompOk X scope cl N' n idx) (hi:PI X tg iter wi)
  (hg:∀C s0 H0 ex,PG (t9 X N' scope cl C s0 H0 ex) tg g) (ht:∀C s0 H0 ex,cI (t9 X N' scope cl C s0 H0 ex) ifs tc) (he:∀C s0 H0 ex,PE (t9 X N' scope cl C s0 H0 ex) elt te)
  (hs:∀x,foldedSetIterable iter X.env x=pure x:=by intro _;rfl) (hsw:swapsWith (.ListComp elt [#[tg,iter,ifs,0]] scope pos) (some (.Name y py)) B.line X.env=pure true:=by rfl)
  (hf:X.fn y=true\/X.env.scope.names.lookup y=some .local:=by first | exact .inl rfl | exact .inr rfl | assumption) :
  PS X (.Assign [.Name y py] (.ListComp elt [#[tg,iter,ifs,0]] scope pos) B) (dF (bU n idx wi g tc te) (T3 i)):=by
 intro pins s σ H D I h;rw[exec_Assign_Name_used _ _ _ _ hsw];refine cn (LM (cn ?_));show wpAny _ X.A (do let _ <-comprehension (.ListComp elt [#[tg,iter,ifs,0]] scope pos) scope X.env _ (newList []) false (eval iter X.env) (some (assign (.Name y py) X.env))) _ _ s;refine cn (Jd (qm (use:=some (assign (.Name y py) X.env)) (Q':=fun _ s'=>SP X pins D .next s') hc k hi hg ht he hs I h ?_) (fun _ s' hq=>gV (gV hq)) fun _ _ e=>e);intro C W s' H' m IX J hn q;show wpAny _ X.A (assign (.Name y py) X.env (.ref W)) _ _ _;obtain⟨o,es,ep,ho,hd,hr⟩:=hn;have IP:=IX.pinned (fp:=[C]) (fun b hb=>by rw[IA.mp hb];exact J) (fun b hb=>by rw[IA.mp hb];exact#[o,ho,fun v z=>by rw[hd] at z;cases z]);refine Jd (R9 hN Y hx hf _ s' σ H' (.ref W) (.ref W) D.nx IP rfl q) (fun _ U ⟨σ2,H2,I2,q2⟩=>?_) fun _ _ e=>e
 have pn:=I2.pin (C,o) (Jy _ (Jy _ (dE (IA.mpr rfl) ho)));refine#[m,#[o,es,ep,pn.1,hd,hr],fun h' Z=>#[σ2,H2,?_,q2]];have It:=I2.unpinned.turned (t':=U.toks) (it:=C) (h':=h') (fun b o nb e=>(Z.2 b nb).trans e) pn.2.1 J.2.1 J.2.2.2.1 J.2.2.2.2.1 J.2.2.2.2.2;exact It
end
end L2
namespace DL
open PySem PySem.Spec L2
def v6 {α β γ:Type}{o:Option (α × β)}{f:α × β->Option γ}{r:γ}(h:o.bind f=some r) (k:∀x y,o=some (x,y)->f (x,y)=some r->G):G:=by
 obtain⟨⟨x,y⟩,a,b⟩:=Kp.mp h;exact k x y a b
def G7 {α γ:Type}{o:Option α}{f:α->Option γ}{r:γ}(h:o.bind f=some r) (k:∀x,o=some x->f x=some r->G):G:=by
 obtain⟨x,a,b⟩:=Kp.mp h;exact k x a b
def mapP {α β γ:Type}{o:Option (α × β)}{f:α × β->γ}{r:γ}(h:o.map f=some r) (k:∀x y,o=some (x,y)->f (x,y)=r->G):G:=by
 obtain⟨⟨x,y⟩,a,b⟩:=MF.mp h;exact k x y a b
def J9 {α γ:Type}{o:Option α}{f:α->γ}{r:γ}(h:o.map f=some r) (k:∀x,o=some x->f x=r->G):G:=by
 obtain⟨x,a,b⟩:=MF.mp h;exact k x a b
inductive D where
 | non | bl (b:Bool) | int (i:Int) | str (x:Str) | tup (ds:List D) | lst (ds:List D)
 | feed | scr (ns:List Int) | fn (x:Str) | exc (c:Str) (ds:List D)
variable {d:D}
abbrev vD_:=List D
variable {ds:vD_}
mutual
def D.py:D->PyData
 |.non=>.none
 |.bl b=>.bool b
 |.int i=>.int i
 |.str x=>.str x
 |.tup ds=>.tuple (D.pys ds)
 |.lst ds=>.list (D.pys ds)
 |.feed=>.none
 |.scr _=>.none
 |.fn _=>.none
 |.exc _ _=>.none
def D.pys:List D->List PyData
 |[]=>[]
 |d::r=>D.py d::D.pys r
end
mutual
def D.plain:D->Bool
 |.non=>true
 |.bl _=>true
 |.int _=>true
 |.str _=>true
 |.tup ds=>D.plains ds
 |.lst ds=>D.plains ds
 |.feed=>false
 |.scr _=>false
 |.fn _=>false
 |.exc _ _=>false
def D.plains:List D->Bool
 |[]=>true
 |d::r=>D.plain d&&D.plains r
end
structure FS where
 cells:List Int
 pos:Int
 left:Int
 turn:Int
 kind:Nat
abbrev vO_:=Option FS
variable {fs':vO_}
def K9 (c:Addr) (f:FS):List V:=if f.kind=1 then [V.ref c,V.int f.pos,V.int f.left] else [V.ref c,V.int f.pos,V.int f.left,V.int f.turn]
def de (c:Addr) (f:FS):HO:=if f.kind=0 then .dK [(Sum.inr ("cells" : Str),V.ref c),(Sum.inr ("at" : Str),V.int f.pos),(Sum.inr ("left" : Str),V.int f.left),(Sum.inr ("turn" : Str),V.int f.turn)] else .lst (K9 c f)
def iP {c:Addr}{f:FS}(h:¬ f.kind=0):de c f = .lst (K9 c f):=fI h
def En {c:Addr}(h:de c f = .tup xs):False:=by unfold de at h;split at h <;> cases h
def Di {c:Addr}{o:Obj}(h:de c f = .frz o u):False:=by unfold de at h;split at h <;> cases h
def FeedR (N:vB_) (H:Hp):Option Addr->Option FS->Prop
 |none,none=>True
 |some a,some f=>f.cells.length<=63/\∃c,H a=some (de c f)/\¬ N c/\H c=some (.lst (f.cells.map V.int))
 |_,_=>False
def SqF (K:vF_) (H:Hp) (a:Addr) (xs:List V):Prop:=
 (∃o,H a=some (.frz o (.lst xs))) \/
  ∃(o:Obj) (its:vR_) (n:Nat),K.lookup a=some o/\o.cls = .type "list" /\ o.dict=none/\o.data = .seq its n/\its.size<=sizeLine/\Vals xs its.toList
def SqF.sq {K:vF_}(h:SqF K H a xs):SqL K H a xs:=by
 rcases h with ⟨o,h⟩ | h
 .exact .inl (.inr #[o,h])
 .exact .inr h
def fnm:List Str:=["word", "at"]
def ExO (H:Hp) (a C:Addr) (xs:List V):Prop:=∃o,H a=some (.frz o (.own a))/\o.cls = .ref C/\(∃vs,o.data = .fields vs)/\xs.length<=2/\(xs=[]\/∃dx od,o.dict=some dx/\H dx=some (.frz od (.xd (fnm.zip xs))))
mutual
def Rep (K:vF_) (N:vB_) (fa:vA_) (H:Hp):D->V->Prop
 |.non,v=>v = .non
 |.bl b,v=>v = .bl b
 |.int i,v=>v = .int i
 |.str x,v=>v = .str x/\x.length<=sizeLine
 |.tup ds,v=>∃a xs,v = .ref a/\SqT K H a xs/\Reps K N fa H ds xs
 |.lst ds,v=>∃a xs,v = .ref a/\¬ N a/\H a=some (.lst xs)/\Reps K N fa H ds xs
 |.feed,v=>∃a,fa=some a/\v = .ref a
 |.scr ns,v=>ns.length<=63/\∃a,v = .ref a/\SqF K H a (ns.map V.int)
 |.fn x,v=>∃a,v = .ref a/\PySem.W.nsIn K mainGlobals x=some (some (.ref a))
 |.exc c ds,v=>∃a C xs,v = .ref a/\PySem.W.nsIn K mainGlobals c=some (some (.ref C))/\ExO H a C xs/\Reps K N fa H ds xs
def Reps (K:vF_) (N:vB_) (fa:vA_) (H:Hp):List D->List V->Prop
 |[],xs=>xs=[]
 |d::r,xs=>∃x ys,xs=x::ys/\Rep K N fa H d x/\Reps K N fa H r ys
end
def RepB (K:vF_) (N:vB_) (fa:vA_) (H:Hp):D->V->Prop
 |.lst ds,v=>∃a xs,v = .ref a/\fa≠some a/\H a=some (.lst xs)/\Reps K N fa H ds xs
 |d,v=>Rep K N fa H d v
def Y6 (K:vF_) (N:vB_) (fa:vA_) (H:Hp):List D->List V->Prop
 |[],xs=>xs=[]
 |d::r,xs=>∃x ys,xs=x::ys/\RepB K N fa H d x/\Y6 K N fa H r ys
def vt (K:vF_) (H:Hp) (a:Addr):Sum (List V) (Obj × HO)->Prop
 |.inl xs=>SqF K H a xs
 |.inr p=>H a=some (.frz p.1 p.2)
structure Car (K:vF_) (N:vB_) (fa:vA_) (H:Hp) (N':vB_) (fa':vA_) (H':Hp):Prop where
 ls:∀b xs,¬ N b->H b=some (.lst xs)->H' b=some (.lst xs)/\¬ N' b
 tp:∀b xs,SqT K H b xs->SqT K H' b xs
 fz:∀b xs,vt K H b xs->vt K H' b xs
 fe:∀a,fa=some a->fa'=some a
section
variable {K:vF_}{N':vB_}
def ExO.go (c:Car K N fa H N' fa' H') (h:ExO H a C xs):ExO H' a C xs:=by
 obtain⟨o,e,q,r,l,z⟩:=h;refine#[o,c.fz a (.inr (o,_)) e,q,r,l,z.imp id ?_];rintro⟨B,J,y,w⟩;exact#[B,J,y,c.fz B (.inr (J,_)) w]
mutual
theorem Rep.go (c:Car K N fa H N' fa' H'):∀(d:D) (v:V),Rep K N fa H d v->Rep K N' fa' H' d v
 |.non,v,h=>by simpa only[Rep] using h
 |.bl b,v,h=>by simpa only[Rep] using h
 |.int i,v,h=>by simpa only[Rep] using h
 |.str x,v,h=>by simpa only[Rep] using h
 |.tup ds,v,h=>by
  simp only[Rep] at h ⊢;obtain⟨a,xs,e,q,r⟩:=h;exact#[a,xs,e,c.tp a xs q,Reps.go c ds xs r]
 |.lst ds,v,h=>by
  simp only[Rep] at h ⊢;obtain⟨a,xs,e,n,q,r⟩:=h;obtain⟨J,B⟩:=c.ls a xs n q;exact#[a,xs,e,B,J,Reps.go c ds xs r]
 |.feed,v,h=>by
  simp only[Rep] at h ⊢;obtain⟨a,e,q⟩:=h;exact#[a,c.fe a e,q]
 |.scr ns,v,h=>by
  simp only[Rep] at h ⊢;obtain⟨l,a,e,q⟩:=h;exact#[l,a,e,c.fz a (.inl _) q]
 |.fn x,v,h=>by simpa only[Rep] using h
 |.exc x ds,v,h=>by
  simp only[Rep] at h ⊢;obtain⟨a,C,xs,e,n,q,r⟩:=h;exact#[a,C,xs,e,n,q.go c,Reps.go c ds xs r]
theorem Reps.go (c:Car K N fa H N' fa' H'):∀(ds:vD_) (xs:List V),Reps K N fa H ds xs->Reps K N' fa' H' ds xs
 |[],xs,h=>by simpa only[Reps] using h
 |d::r,xs,h=>by
  simp only[Reps] at h ⊢;obtain⟨x,ys,e,h1,h2⟩:=h;exact#[x,ys,e,Rep.go c d x h1,Reps.go c r ys h2]
end
def Rep.b (B:∀a,fa=some a->N a) {v:V}(h:Rep K N fa H d v):RepB K N fa H d v:=by
 cases d with
 |lst ds=>
  simp only[Rep] at h;obtain⟨a,xs,e,n,q,r⟩:=h;exact#[a,xs,e,fun z=>n (B a z),q,r]
 |_=>simpa only[RepB] using h
def U5 (K:vF_) (N:vB_) (fa:vA_) (H:Hp):D->V->Prop
 |.lst ds,v=>∃a xs,v = .ref a/\H a=some (.lst xs)/\Reps K N fa H ds xs
 |d,v=>Rep K N fa H d v
def Rep.o {v:V}(h:Rep K N fa H d v):U5 K N fa H d v:=by
 cases d with
 |lst ds=>
  simp only[Rep] at h;obtain⟨a,xs,e,_,q,r⟩:=h;exact#[a,xs,e,q,r]
 |_=>simpa only[U5] using h
def RepB.o {v:V}(h:RepB K N fa H d v):U5 K N fa H d v:=by
 cases d with
 |lst ds=>
  obtain⟨a,xs,e,_,q,r⟩:=h;exact#[a,xs,e,q,r]
 |_=>simpa only[U5,RepB] using h
theorem Reps.length:∀{ds:vD_}{xs:List V},Reps K N fa H ds xs->xs.length=ds.length
 |[],xs,h=>by simp only[Reps] at h;subst h;rfl
 |d::r,xs,h=>by
  simp only[Reps] at h;obtain⟨x,ys,e,h1,h2⟩:=h;subst e;simp[Reps.length h2]
theorem Reps.get:∀{ds:vD_}{xs:List V}{i:Nat}{d:D},Reps K N fa H ds xs->ds[i]? = some d->∃x,xs[i]? = some x/\Rep K N fa H d x
 |[],xs,i,d,h,e=>by simp at e
 |d::r,xs,0,d',h,e=>by
  simp only[Reps] at h;obtain⟨x,ys,B,h1,h2⟩:=h;simp at e;subst B;subst e;exact#[x,rfl,h1]
 |d::r,xs,i+1,d',h,e=>by
  simp only[Reps] at h;obtain⟨x,ys,B,h1,h2⟩:=h;subst B;obtain⟨y,U,J⟩:=Reps.get h2 (by simpa using e);exact#[y,by simpa using U,J]
def Reps.get':∀{ds:vD_}{xs:List V}{i:Nat}{x:V},Reps K N fa H ds xs->xs[i]? = some x->∃d,ds[i]? = some d/\Rep K N fa H d x:=fun {ds xs i x} h e=>by
 have hl:=h.length;have hi:i<xs.length:=(IK.mp e).1;obtain⟨y,B,J⟩:=Reps.get h (Jg (show i<ds.length by omega));rw[e] at B;cases B;exact#[_,Jg (show i<ds.length by omega),J]
theorem Reps.append:∀{ds es:vD_}{xs ys:List V},Reps K N fa H ds xs->Reps K N fa H es ys->Reps K N fa H (ds++es) (xs++ys)
 |[],es,xs,ys,h,q=>by simp only[Reps] at h;subst h;simpa using q
 |d::r,es,xs,ys,h,q=>by
  simp only[Reps] at h;obtain⟨x,zs,B,h1,h2⟩:=h;subst B;simp only[MG,Reps];exact#[x,_,rfl,h1,Reps.append h2 q]
def Reps.one {x:V}(h:Rep K N fa H d x):Reps K N fa H [d] [x]:=by
 simp only[Reps];exact#[x,[],rfl,h,rfl]
def Reps.nil:Reps K N fa H [] []:=by simp only[Reps]
theorem Reps.take:∀{ds:vD_}{xs:List V}(n:Nat),Reps K N fa H ds xs->Reps K N fa H (ds.take n) (xs.take n)
 |_,_,0,_=>by simp only[List.take_zero,Reps]
 |[],xs,n+1,h=>by simp only[Reps] at h;subst h;simp only[List.take_nil,Reps]
 |d::r,xs,n+1,h=>by
  simp only[Reps] at h;obtain⟨x,zs,B,h1,h2⟩:=h;subst B;simp only[List.take_succ_cons,Reps];exact#[x,_,rfl,h1,Reps.take n h2]
theorem Reps.drop:∀{ds:vD_}{xs:List V}(n:Nat),Reps K N fa H ds xs->Reps K N fa H (ds.drop n) (xs.drop n)
 |_,_,0,h=>by simpa using h
 |[],xs,n+1,h=>by simp only[Reps] at h;subst h;simp only[List.drop_nil,Reps]
 |d::r,xs,n+1,h=>by
  simp only[Reps] at h;obtain⟨x,zs,B,h1,h2⟩:=h;subst B;simpa using Reps.drop n h2
theorem Reps.ints:∀{ns:List Int},Reps K N fa H (ns.map D.int) (ns.map V.int)
 |[]=>by simp only[Kz,Reps]
 |n::r=>by
  simp only[Iv,Reps,Rep];exact#[_,_,rfl,rfl,Reps.ints]
end
inductive Sl where
 | no | v (d:D) | own (ds:vD_) | dct (ds:vD_)
variable {sl:List Sl}{mk:List Sl->D->Option (List Sl)}
structure DS where
 sl:List Sl
 fs:Option FS
variable {s1 s2 s':DS}
def NN (F:vB_) (fa:vA_) (O:vL_):Addr->Prop:=fun b=>F b\/b∈O\/fa=some b
mutual
def bj:D->Int
 |.int i=>hashInt i
 |.tup ds=>reduceHash (Builtin.Tuple.tupleHashOf (aD ds))
 |_=>0
def aD:List D->List Int
 |[]=>[]
 |d::r=>bj d::aD r
end
def ba:List D->List V->List DictEntry->Prop
 |[],xs,es=>xs=[]/\es=[]
 |d::ds,xs,es=>∃r ys e fs,xs = .ref r::ys/\es=e::fs/\e.hash=bj d/\e.key = .ref r/\ba ds ys fs
def E8 (a:Addr) (ds:vD_) (xs:List V):HO:=.ext fun h=>(a == sysModules)=false/\∃o es ep,h.get? a=some o/\o.ExactDict/\o.data = .dict es ep/\ba ds xs es.toList
def SlR (K:vF_) (N:vB_) (fa:vA_) (H:Hp):List Sl->List (Option V)->List Addr->Prop
 |[],σ,O=>σ=[]/\O=[]
 |.no::r,σ,O=>∃v τ,σ=v::τ/\SlR K N fa H r τ O
 |.v d::r,σ,O=>∃u τ,σ=some u::τ/\Rep K N fa H d u/\SlR K N fa H r τ O
 |.own ds::r,σ,O=>∃a xs τ P,σ=some (.ref a)::τ/\O=a::P/\H a=some (.lst xs)/\Reps K N fa H ds xs/\SlR K N fa H r τ P
 |.dct ds::r,σ,O=>∃a xs τ P,σ=some (.ref a)::τ/\O=a::P/\H a=some (E8 a ds xs)/\Reps K N fa H ds xs/\SlR K N fa H r τ P
structure Stp (fa:vA_) (O:vL_) (H:Hp) (fa':vA_) (O':vL_) (H':Hp):Prop where
 sub:∀b∈O',b∈O\/H b=none
 fe:fa'=fa\/(fa=none/\∀a,fa'=some a->H a=none)
 same:∀b u,H b=some u->b ∉ O->fa≠some b->H' b=some u
 mon:∀b,H' b=none->H b=none
structure StE (fa:vA_) (O:vL_) (H:Hp) (fa':vA_) (O':vL_) (H':Hp):Prop where
 sub:∀b∈O',b∈O
 fe:fa'=fa\/(fa=none/\∀a,fa'=some a->H a=none)
 same:∀b u,H b=some u->fa≠some b->H' b=some u
 mon:∀b,H' b=none->H b=none
structure DI (K:vF_) (F:vB_) (H0:Hp) (fa0:vA_) (σ:St) (H:Hp) (fa:vA_) (O:vL_) (s:DS):Prop where
 nd:O.Nodup
 sl:SlR K (NN F fa O) fa H s.sl σ O
 fr:∀b∈O,H0 b=none
 st:Stp fa0 [] H0 fa [] H
 tr:∀b,F b->H0 b≠none
 ff:∀a,fa0=some a->F a
 fd:FeedR (NN F fa O) H fa s.fs
 nf:∀a,fa=some a->a ∉ O
section
variable {fa'':vA_}{O' O'':vL_}{H'':Hp}
def StE.stp (h:StE fa O H fa' O' H'):Stp fa O H fa' O' H':=#[fun b hb=>.inl (h.sub b hb),h.fe,fun b u e _ n=>h.same b u e n,h.mon]
def StE.refl:StE fa O H fa O H:=#[fun _ h=>h,.inl rfl,fun _ _ e _=>e,fun _ h=>h]
theorem Stp.refl:Stp fa O H fa O H:=StE.refl.stp
theorem StE.trans (a:StE fa O H fa' O' H') (b:StE fa' O' H' fa'' O'' H''):StE fa O H fa'' O'' H'':=by
 refine#[fun c B=>a.sub c (b.sub c B),?_,fun c u e n=>?_,fun c h=>a.mon c (b.mon c h)]
 .rcases a.fe with e | ⟨e,h⟩
  .rcases b.fe with e' | ⟨e',h'⟩
   .exact .inl (e'.trans e)
   .exact .inr #[e▸e',fun c z=>a.mon c (h' c z)]
  .rcases b.fe with e' | ⟨e',h'⟩
   .exact .inr #[e,fun c z=>h c (e'▸z)]
   .exact .inr #[e,fun c z=>a.mon c (h' c z)]
 .refine b.same c u (a.same c u e n) fun z=>?_
  rcases a.fe with q | ⟨q,h⟩
  .rw[q] at z;exact n z
  .rw[h c z] at e;cases e
theorem Stp.trans (a:Stp fa O H fa' O' H') (b:Stp fa' O' H' fa'' O'' H''):Stp fa O H fa'' O'' H'':=by
 refine#[fun c B=>?_,?_,fun c u e B n=>?_,fun c h=>a.mon c (b.mon c h)]
 .rcases b.sub c B with q | q
  .exact a.sub c q
  .exact .inr (a.mon c q)
 .rcases a.fe with e | ⟨e,h⟩
  .rcases b.fe with e' | ⟨e',h'⟩
   .exact .inl (e'.trans e)
   .exact .inr #[e▸e',fun c z=>a.mon c (h' c z)]
  .rcases b.fe with e' | ⟨e',h'⟩
   .exact .inr #[e,fun c z=>h c (e'▸z)]
   .exact .inr #[e,fun c z=>a.mon c (h' c z)]
 .refine b.same c u (a.same c u e B n) (fun z=>?_) fun z=>?_
  .rcases a.sub c z with q | q
   .exact B q
   .rw[q] at e;cases e
  .rcases a.fe with q | ⟨q,h⟩
   .rw[q] at z;exact n z
   .rw[h c z] at e;cases e
def Stp.fa_keep (a:Stp fa O H fa' O' H') {x:Addr}(h:fa=some x):fa'=some x:=by
 rcases a.fe with e | ⟨e,_⟩
 .rw[e,h]
 .rw[h] at e;cases e
variable {K:vF_}{F:vB_}{H0:Hp}{fa0:vA_}{s:DS}
def FeedR.no_frz {fs:vO_}{o:Obj}(h:FeedR N H fa fs) (e:fa=some a) (q:H a=some (.frz o u)):False:=by
 subst e;cases fs with
 |none=>exact h
 |some f=>
  obtain⟨_,c,h1,_⟩:=h;rw[h1] at q;exact Di (Jj q)
def FeedR.no_tup {fs:vO_}(h:FeedR N H fa fs) (e:fa=some a) (z:Rd H a (.tup xs)):False:=by
 rcases z with z | ⟨o,z⟩
 .subst e;cases fs with
  |none=>exact h
  |some f=>
   obtain⟨_,c,h1,_⟩:=h;rw[h1] at z;exact En (Jj z)
 .exact h.no_frz e z
def FeedR.tracked {fs:vO_}(h:FeedR N H fa fs) (e:fa=some a):H a≠none:=by
 subst e;cases fs with
 |none=>exact h.elim
 |some f=>
  obtain⟨_,c,h1,_⟩:=h;rw[h1];simp
def SqT.stp' (a:Stp fa O H fa' O' H') (U:∀x,fa=some x->∀xs,¬ Rd H x (.tup xs)) (hO:∀x∈O,∀xs,¬ Rd H x (.tup xs)) {b:Addr}(h:SqT K H b xs):SqT K H' b xs:=by
 rcases h with h | h
 .refine .inl ?_;have B:b ∉ O:=fun z=>hO b z xs h
  have J:fa≠some b:=fun z=>U b z xs h
  rcases h with h | ⟨o,h⟩
  .exact .inl (a.same _ _ h B J)
  .exact .inr #[o,a.same _ _ h B J]
 .exact .inr h
def pz:HO->Prop
 |.lst _=>True
 |.ext _=>True
 |_=>False
theorem SlR.owned:∀{sl:List Sl}{N:vB_}{σ:List (Option V)}{O:vL_},SlR K N fa H sl σ O->∀b∈O,∃o,H b=some o/\pz o
 |[],N,σ,O,h,b,hb=>by simp only[SlR] at h;rw[h.2] at hb;cases hb
 |.no::r,N,σ,O,h,b,hb=>by
  simp only[SlR] at h;obtain⟨v,τ,_,h⟩:=h;exact SlR.owned h b hb
 |.v d::r,N,σ,O,h,b,hb=>by
  simp only[SlR] at h;obtain⟨v,τ,_,_,h⟩:=h;exact SlR.owned h b hb
 |.own ds::r,N,σ,O,h,b,hb=>by
  simp only[SlR] at h;obtain⟨a,xs,τ,P,_,rfl,e,_,h⟩:=h;rcases iO.mp hb with z | z
  .subst z;exact#[_,e,True.intro]
  .exact SlR.owned h b z
 |.dct ds::r,N,σ,O,h,b,hb=>by
  simp only[SlR] at h;obtain⟨a,xs,τ,P,_,rfl,e,_,h⟩:=h;rcases iO.mp hb with z | z
  .subst z;exact#[_,e,True.intro]
  .exact SlR.owned h b z
theorem DI.owned (I:DI K F H0 fa0 σ H fa O s) {b:Addr}(hb:b∈O):∃o,H b=some o:=
 let ⟨o,e,_⟩:=SlR.owned I.sl b hb
 #[o,e]
def DI.ownN (I:DI K F H0 fa0 σ H fa O s) {b:Addr}{o:HO}(hb:b∈O) (h:H b=some o):pz o:=by
 obtain⟨o',e,q⟩:=SlR.owned I.sl b hb;cases e.symm.trans h;exact q
def DI.trF (I:DI K F H0 fa0 σ H fa O s) {b:Addr}(hb:F b):H b≠none:=fun z=>I.tr b hb (I.st.mon b z)
def DI.nn_tracked (I:DI K F H0 fa0 σ H fa O s) {b:Addr}(h:NN F fa O b):H b≠none:=by
 rcases h with h | h | h
 .exact I.trF h
 .obtain⟨xs,e⟩:=I.owned h;rw[e];simp
 .exact I.fd.tracked h
def DI.nf_step (I:DI K F H0 fa0 σ H fa O s) (h:fa'=fa\/(fa=none/\∀a,fa'=some a->H a=none)):∀a,fa'=some a->a ∉ O:=fun a e m=>by
 rcases h with z | ⟨z,y⟩
 .rw[z] at e;exact I.nf a e m
 .obtain⟨xs,q⟩:=I.owned m;rw[y a e] at q;cases q
def DI.car (I:DI K F H0 fa0 σ H fa O s) (a:Stp fa O H fa' O' H'):Car K (NN F fa O) fa H (NN F fa' O') fa' H':=by
 refine#[fun b xs n q=>?_,fun b xs q=>?_,fun b xs q=>?_,fun x e=>a.fa_keep e]
 .have U:b ∉ O:=fun z=>n (.inr (.inl z))
  have W:fa≠some b:=fun z=>n (.inr (.inr z))
  have J:H b≠none:=by rw[q];simp
  refine#[a.same _ _ q U W,fun z=>?_]
  .rcases z with z | z | z
   .exact n (.inl z)
   .rcases a.sub b z with y | y
    .exact U y
    .exact J y
   .rcases a.fe with e | ⟨e,h⟩
    .rw[e] at z;exact W z
    .exact J (h b z)
 .refine SqT.stp' a (fun x e ys z=>?_) (fun x B ys=>?_) q
  .exact I.fd.no_tup e z
  .rintro(z | ⟨o,z⟩)
   .exact I.ownN B z
   .exact I.ownN B z
 .have Y:∀o u,H b=some (.frz o u)->H' b=some (.frz o u):=fun o u q=>by
   refine a.same _ _ q (fun z=>?_) fun z=>?_
   .exact I.ownN z q
   .exact I.fd.no_frz z q
  cases xs with
  |inl xs=>exact q.imp (fun ⟨o,q⟩=>#[o,Y _ _ q]) id
  |inr p=>exact Y _ _ q
end
structure Gh where
 F:Addr->Prop
 H0:Hp
 fa0:Option Addr
 xq:L2.St->XK
variable {g:Gh}
abbrev GI (K:vF_) (g:Gh):=DI K g.F g.H0 g.fa0
section
variable {K:vF_}{N':vB_}{σ:L2.St}{O':vL_}{s:DS}
theorem SlR.go (c:Car K N fa H N' fa' H'):∀{sl:List Sl}{σ:List (Option V)}{O:vL_},(∀a o,a∈O->H a=some o->H' a=some o)->SlR K N fa H sl σ O->SlR K N' fa' H' sl σ O
 |[],σ,O,_,h=>by simpa only[SlR] using h
 |.no::r,σ,O,ho,h=>by
  simp only[SlR] at h ⊢;obtain⟨v,τ,e,h⟩:=h;exact#[v,τ,e,SlR.go c ho h]
 |.v d::r,σ,O,ho,h=>by
  simp only[SlR] at h ⊢;obtain⟨u,τ,e,q,h⟩:=h;exact#[u,τ,e,Rep.go c d u q,SlR.go c ho h]
 |.own ds::r,σ,O,ho,h=>by
  simp only[SlR] at h ⊢;obtain⟨a,xs,τ,P,e,rfl,ha,q,h⟩:=h;exact#[a,xs,τ,P,e,rfl,ho a _ (iR ..) ha,Reps.go c ds xs q,SlR.go c (fun b ys hb=>ho b ys (iU _ hb)) h]
 |.dct ds::r,σ,O,ho,h=>by
  simp only[SlR] at h ⊢;obtain⟨a,xs,τ,P,e,rfl,ha,q,h⟩:=h;exact#[a,xs,τ,P,e,rfl,ho a _ (iR ..) ha,Reps.go c ds xs q,SlR.go c (fun b ys hb=>ho b ys (iU _ hb)) h]
theorem SlR.val:∀{sl:List Sl}{σ:List (Option V)}{O:vL_}{i:Nat}{d:D},SlR K N fa H sl σ O->sl[i]? = some (.v d)->∃u,σ[i]? = some (some u)/\Rep K N fa H d u
 |[],σ,O,i,d,h,e=>by simp at e
 |.no::r,σ,O,i,d,h,e=>by
  simp only[SlR] at h;obtain⟨v,τ,rfl,h⟩:=h;cases i with
  |zero=>simp at e
  |succ i=>simpa using SlR.val h (by simpa using e)
 |.v d'::r,σ,O,i,d,h,e=>by
  simp only[SlR] at h;obtain⟨u,τ,rfl,q,h⟩:=h;cases i with
  |zero=>simp at e;subst e;exact#[u,rfl,q]
  |succ i=>simpa using SlR.val h (by simpa using e)
 |.own ds::r,σ,O,i,d,h,e=>by
  simp only[SlR] at h;obtain⟨a,xs,τ,P,rfl,rfl,ha,q,h⟩:=h;cases i with
  |zero=>simp at e
  |succ i=>simpa using SlR.val h (by simpa using e)
 |.dct ds::r,σ,O,i,d,h,e=>by
  simp only[SlR] at h;obtain⟨a,xs,τ,P,rfl,rfl,ha,q,h⟩:=h;cases i with
  |zero=>simp at e
  |succ i=>simpa using SlR.val h (by simpa using e)
theorem SlR.own:∀{sl:List Sl}{σ:List (Option V)}{O:vL_}{i:Nat}{ds:vD_},SlR K N fa H sl σ O->sl[i]? = some (.own ds)->∃a xs,σ[i]? = some (some (.ref a))/\a∈O/\H a=some (.lst xs)/\Reps K N fa H ds xs
 |[],σ,O,i,d,h,e=>by simp at e
 |.no::r,σ,O,i,d,h,e=>by
  simp only[SlR] at h;obtain⟨v,τ,rfl,h⟩:=h;cases i with
  |zero=>simp at e
  |succ i=>simpa using SlR.own h (by simpa using e)
 |.v d'::r,σ,O,i,d,h,e=>by
  simp only[SlR] at h;obtain⟨u,τ,rfl,q,h⟩:=h;cases i with
  |zero=>simp at e
  |succ i=>simpa using SlR.own h (by simpa using e)
 |.own ds::r,σ,O,i,d,h,e=>by
  simp only[SlR] at h;obtain⟨a,xs,τ,P,rfl,rfl,ha,q,h⟩:=h;cases i with
  |zero=>simp at e;subst e;exact#[a,xs,rfl,iR ..,ha,q]
  |succ i=>
   obtain⟨b,ys,B,m,U,J⟩:=SlR.own h (by simpa using e);exact#[b,ys,by simpa using B,iU _ m,U,J]
 |.dct ds::r,σ,O,i,d,h,e=>by
  simp only[SlR] at h;obtain⟨a,xs,τ,P,rfl,rfl,ha,q,h⟩:=h;cases i with
  |zero=>simp at e
  |succ i=>
   obtain⟨b,ys,B,m,U,J⟩:=SlR.own h (by simpa using e);exact#[b,ys,by simpa using B,iU _ m,U,J]
theorem SlR.dct:∀{sl:List Sl}{σ:List (Option V)}{O:vL_}{i:Nat}{ds:vD_},SlR K N fa H sl σ O->sl[i]? = some (.dct ds)->∃a xs,σ[i]? = some (some (.ref a))/\a∈O/\H a=some (E8 a ds xs)/\Reps K N fa H ds xs
 |[],σ,O,i,d,h,e=>by simp at e
 |.no::r,σ,O,i,d,h,e=>by
  simp only[SlR] at h;obtain⟨v,τ,rfl,h⟩:=h;cases i with
  |zero=>simp at e
  |succ i=>simpa using SlR.dct h (by simpa using e)
 |.v d'::r,σ,O,i,d,h,e=>by
  simp only[SlR] at h;obtain⟨u,τ,rfl,q,h⟩:=h;cases i with
  |zero=>simp at e
  |succ i=>simpa using SlR.dct h (by simpa using e)
 |.own ds::r,σ,O,i,d,h,e=>by
  simp only[SlR] at h;obtain⟨a,xs,τ,P,rfl,rfl,ha,q,h⟩:=h;cases i with
  |zero=>simp at e
  |succ i=>
   obtain⟨b,ys,B,m,U,J⟩:=SlR.dct h (by simpa using e);exact#[b,ys,by simpa using B,iU _ m,U,J]
 |.dct ds::r,σ,O,i,d,h,e=>by
  simp only[SlR] at h;obtain⟨a,xs,τ,P,rfl,rfl,ha,q,h⟩:=h;cases i with
  |zero=>simp at e;subst e;exact#[a,xs,rfl,iR ..,ha,q]
  |succ i=>
   obtain⟨b,ys,B,m,U,J⟩:=SlR.dct h (by simpa using e);exact#[b,ys,by simpa using B,iU _ m,U,J]
theorem SlR.put:∀{sl:List Sl}{σ:List (Option V)}{O:vL_}(i:Nat) {d:D}{u:V},SlR K N fa H sl σ O->Rep K N fa H d u ->
  ∃P,P.Sublist O/\SlR K N fa H (sl.set i (.v d)) (σ.set i (some u)) P/\(O.Nodup->∀a,sl[i]?.isSome=true->(∃ds,sl[i]? = some (.own ds))->σ[i]? = some (some (.ref a))->a ∉ P)
 |[],σ,O,i,d,u,h,q=>by
  simp only[SlR] at h;refine#[O,MH _,?_,fun _ a z=>by simp at z];rw[h.1,h.2];simp[SlR]
 |.no::r,σ,O,i,d,u,h,q=>by
  simp only[SlR] at h;obtain⟨v,τ,rfl,h⟩:=h;cases i with
  |zero=>exact#[O,MH _,by simp only[LR,SlR];exact#[u,τ,rfl,q,h],fun _ a _ z=>by obtain⟨ds,z⟩:=z;simp at z]
  |succ i=>
   obtain⟨P,hs,h1,h2⟩:=SlR.put i h q;exact#[P,hs,by simp only[JB,SlR];exact#[v,_,rfl,h1],by simpa using h2]
 |.v d'::r,σ,O,i,d,u,h,q=>by
  simp only[SlR] at h;obtain⟨v,τ,rfl,qv,h⟩:=h;cases i with
  |zero=>exact#[O,MH _,by simp only[LR,SlR];exact#[u,τ,rfl,q,h],fun _ a _ z=>by obtain⟨ds,z⟩:=z;simp at z]
  |succ i=>
   obtain⟨P,hs,h1,h2⟩:=SlR.put i h q;exact#[P,hs,by simp only[JB,SlR];exact#[v,_,rfl,qv,h1],by simpa using h2]
 |.own ds::r,σ,O,i,d,u,h,q=>by
  simp only[SlR] at h;obtain⟨a,xs,τ,P,rfl,rfl,ha,qv,h⟩:=h;cases i with
  |zero=>
   refine#[P,Nr ..,by simp only[LR,SlR];exact#[u,τ,rfl,q,h],fun Y b _ _ e=>?_];simp at e;subst e;exact(IE.mp Y).1
  |succ i=>
   obtain⟨W,hs,h1,h2⟩:=SlR.put i h q;refine#[a::W,hs.cons_cons a,by simp only[JB,SlR];exact#[a,xs,_,W,rfl,rfl,ha,qv,h1],fun Y b e1 J U=>?_];have B:=IE.mp Y;have n1:=h2 B.2 b (by simpa using e1) (by simpa using J) (by simpa using U);intro z;rcases iO.mp z with z | z
   .subst z;obtain⟨dz,J⟩:=J;obtain⟨b',_,Z,m,_⟩:=SlR.own h (i:=i) (by simpa using J);rw[Nu] at U;rw[U] at Z;cases Z;exact B.1 m
   .exact n1 z
 |.dct ds::r,σ,O,i,d,u,h,q=>by
  simp only[SlR] at h;obtain⟨a,xs,τ,P,rfl,rfl,ha,qv,h⟩:=h;cases i with
  |zero=>exact#[P,Nr ..,by simp only[LR,SlR];exact#[u,τ,rfl,q,h],fun _ a _ z=>by obtain⟨ds,z⟩:=z;simp at z]
  |succ i=>
   obtain⟨W,hs,h1,h2⟩:=SlR.put i h q;refine#[a::W,hs.cons_cons a,by simp only[JB,SlR];exact#[a,xs,_,W,rfl,rfl,ha,qv,h1],fun Y b e1 J U=>?_];have B:=IE.mp Y;have n1:=h2 B.2 b (by simpa using e1) (by simpa using J) (by simpa using U);intro z;rcases iO.mp z with z | z
   .subst z;obtain⟨dz,J⟩:=J;obtain⟨b',_,Z,m,_⟩:=SlR.own h (i:=i) (by simpa using J);rw[Nu] at U;rw[U] at Z;cases Z;exact B.1 m
   .exact n1 z
theorem SlR.putG:∀{sl:List Sl}{σ:List (Option V)}{O:vL_}(i:Nat) {p:Addr}{w:Sl},SlR K N fa H sl σ O->i<sl.length->p ∉ O->O.Nodup->(∀r τ P,SlR K N fa H r τ P->SlR K N fa H (w::r) (some (.ref p)::τ) (p::P)) ->
  ∃P,(∀b∈P,b=p\/b∈O)/\P.Nodup/\SlR K N fa H (sl.set i w) (σ.set i (some (.ref p))) P
 |[],σ,O,i,p,w,h,hi,hp,nd,q=>by simp at hi
 |.no::r,σ,O,i,p,w,h,hi,hp,nd,q=>by
  simp only[SlR] at h;obtain⟨v,τ,rfl,h⟩:=h;cases i with
  |zero=>exact#[p::O,fun b hb=>iO.mp hb,IE.mpr #[hp,nd],q _ _ _ h]
  |succ i=>
   obtain⟨P,h1,h2,J⟩:=SlR.putG i h (by simpa using hi) hp nd q;exact#[P,h1,h2,by simp only[JB,SlR];exact#[v,_,rfl,J]]
 |.v d'::r,σ,O,i,p,w,h,hi,hp,nd,q=>by
  simp only[SlR] at h;obtain⟨v,τ,rfl,W,h⟩:=h;cases i with
  |zero=>exact#[p::O,fun b hb=>iO.mp hb,IE.mpr #[hp,nd],q _ _ _ h]
  |succ i=>
   obtain⟨P,h1,h2,J⟩:=SlR.putG i h (by simpa using hi) hp nd q;exact#[P,h1,h2,by simp only[JB,SlR];exact#[v,_,rfl,W,J]]
 |.own ds'::r,σ,O,i,p,w,h,hi,hp,nd,q=>by
  simp only[SlR] at h;obtain⟨a,ys,τ,P,rfl,rfl,ha,W,h⟩:=h;have B:=IE.mp nd;cases i with
  |zero=>
   refine#[p::P,fun b hb=>(iO.mp hb).imp id fun z=>iU _ z,IE.mpr #[fun z=>hp (iU _ z),B.2],?_];exact q _ _ _ h
  |succ i=>
   obtain⟨U,h1,h2,J⟩:=SlR.putG i h (by simpa using hi) (fun z=>hp (iU _ z)) B.2 q;refine#[a::U,fun b hb=>?_,IE.mpr #[fun z=>?_,h2],by simp only[JB,SlR];exact#[a,ys,_,U,rfl,rfl,ha,W,J]]
   .rcases iO.mp hb with z | z
    .exact .inr (by rw[z];exact iR ..)
    .exact(h1 b z).imp id fun y=>iU _ y
   .rcases h1 a z with y | y
    .exact hp (by rw[y];exact iR ..)
    .exact B.1 y
 |.dct ds'::r,σ,O,i,p,w,h,hi,hp,nd,q=>by
  simp only[SlR] at h;obtain⟨a,ys,τ,P,rfl,rfl,ha,W,h⟩:=h;have B:=IE.mp nd;cases i with
  |zero=>
   refine#[p::P,fun b hb=>(iO.mp hb).imp id fun z=>iU _ z,IE.mpr #[fun z=>hp (iU _ z),B.2],?_];exact q _ _ _ h
  |succ i=>
   obtain⟨U,h1,h2,J⟩:=SlR.putG i h (by simpa using hi) (fun z=>hp (iU _ z)) B.2 q;refine#[a::U,fun b hb=>?_,IE.mpr #[fun z=>?_,h2],by simp only[JB,SlR];exact#[a,ys,_,U,rfl,rfl,ha,W,J]]
   .rcases iO.mp hb with z | z
    .exact .inr (by rw[z];exact iR ..)
    .exact(h1 b z).imp id fun y=>iU _ y
   .rcases h1 a z with y | y
    .exact hp (by rw[y];exact iR ..)
    .exact B.1 y
def SlR.putN {σ:List (Option V)}(i:Nat) (h:SlR K N fa H sl σ O) (hi:i<sl.length) (hp:p ∉ O) (B:O.Nodup) (e:H p=some (.lst xs)) (q:Reps K N fa H ds xs) :
  ∃P,(∀b∈P,b=p\/b∈O)/\P.Nodup/\SlR K N fa H (sl.set i (.own ds)) (σ.set i (some (.ref p))) P:=SlR.putG i h hi hp B fun r τ P h=>by simp only[SlR];exact#[p,xs,τ,P,rfl,rfl,e,q,h]
def SlR.refO {w:Sl}(h:SlR K N fa H sl σ O) (e:sl[i]? = some w) (U:∃ds,w = .own ds\/w = .dct ds) (J:σ[i]? = some (some (.ref a))):a∈O:=by
 obtain⟨ds,rfl | rfl⟩:=U
 .obtain⟨b,_,B,m,_⟩:=SlR.own h e;cases J.symm.trans B;exact m
 .obtain⟨b,_,B,m,_⟩:=SlR.dct h e;cases J.symm.trans B;exact m
theorem SlR.rewG:∀{sl:List Sl}{σ:List (Option V)}{O:vL_}{i:Nat}{w0 w:Sl}{a:Addr},SlR K N fa H sl σ O->O.Nodup->(∀b∈O,N b)->sl[i]? = some w0->(∃ds,w0 = .own ds\/w0 = .dct ds)->σ[i]? = some (some (.ref a)) ->
  Car K N fa H N fa H'->(∀b u,b≠a->H b=some u->H' b=some u)->(∀r τ P,SlR K N fa H' r τ P->SlR K N fa H' (w::r) (some (.ref a)::τ) (a::P))->SlR K N fa H' (sl.set i w) σ O
 |[],σ,O,i,w0,w,a,h,nd,hN,e1,e3,e2,c,k,q=>by simp at e1
 |.no::r,σ,O,i,w0,w,a,h,nd,hN,e1,e3,e2,c,k,q=>by
  simp only[SlR] at h;obtain⟨v,τ,rfl,h⟩:=h;cases i with
  |zero=>simp at e1;subst e1;obtain⟨ds,z | z⟩:=e3 <;> cases z
  |succ i=>simp only[JB,SlR];exact#[v,τ,rfl,SlR.rewG h nd hN (by simpa using e1) e3 (by simpa using e2) c k q]
 |.v d'::r,σ,O,i,w0,w,a,h,nd,hN,e1,e3,e2,c,k,q=>by
  simp only[SlR] at h;obtain⟨v,τ,rfl,U,h⟩:=h;cases i with
  |zero=>simp at e1;subst e1;obtain⟨ds,z | z⟩:=e3 <;> cases z
  |succ i=>simp only[JB,SlR];exact#[v,τ,rfl,Rep.go c _ _ U,SlR.rewG h nd hN (by simpa using e1) e3 (by simpa using e2) c k q]
 |.own ds'::r,σ,O,i,w0,w,a,h,nd,hN,e1,e3,e2,c,k,q=>by
  simp only[SlR] at h;obtain⟨b,zs,τ,P,rfl,rfl,ha,U,h⟩:=h;have B:=IE.mp nd;cases i with
  |zero=>
   simp at e2;subst e2;exact q _ _ _ (SlR.go c (fun x xs J z=>k x _ (fun y=>B.1 (y▸J)) z) h)
  |succ i=>
   have W:b≠a:=fun z=>B.1 (z▸SlR.refO h (i:=i) (by simpa using e1) e3 (by simpa using e2))
   simp only[JB,SlR];exact#[b,zs,τ,P,rfl,rfl,k b _ W ha,Reps.go c _ _ U,SlR.rewG h B.2 (fun x J=>hN x (iU _ J)) (by simpa using e1) e3 (by simpa using e2) c k q]
 |.dct ds'::r,σ,O,i,w0,w,a,h,nd,hN,e1,e3,e2,c,k,q=>by
  simp only[SlR] at h;obtain⟨b,zs,τ,P,rfl,rfl,ha,U,h⟩:=h;have B:=IE.mp nd;cases i with
  |zero=>
   simp at e2;subst e2;exact q _ _ _ (SlR.go c (fun x xs J z=>k x _ (fun y=>B.1 (y▸J)) z) h)
  |succ i=>
   have W:b≠a:=fun z=>B.1 (z▸SlR.refO h (i:=i) (by simpa using e1) e3 (by simpa using e2))
   simp only[JB,SlR];exact#[b,zs,τ,P,rfl,rfl,k b _ W ha,Reps.go c _ _ U,SlR.rewG h B.2 (fun x J=>hN x (iU _ J)) (by simpa using e1) e3 (by simpa using e2) c k q]
def SlR.rew {es:vD_}(h:SlR K N fa H sl σ O) (Y:O.Nodup) (W:∀b∈O,N b) (J:sl[i]? = some (.own ds)) (U:σ[i]? = some (some (.ref a))) (B:H' a=some (.lst ys))
  (c:Car K N fa H N fa H') (k:∀b u,b≠a->H b=some u->H' b=some u) (q:Reps K N fa H' es ys):SlR K N fa H' (sl.set i (.own es)) σ O:=SlR.rewG h Y W J #[ds,.inl rfl] U c k fun r τ P h=>by simp only[SlR];exact#[a,ys,τ,P,rfl,rfl,B,q,h]
theorem RepB.stp {v:V}(I:GI K g σ H fa O s) (a:StE fa O H fa' O' H') (h:RepB K (NN g.F fa O) fa H d v):RepB K (NN g.F fa' O') fa' H' d v:=by
 have c:=I.car a.stp;cases d with
 |lst ds=>
  obtain⟨x,xs,e,B,q,r⟩:=h;refine#[x,xs,e,fun z=>?_,a.same _ _ q B,Reps.go c ds xs r];rcases a.fe with y | ⟨_,y⟩
  .rw[y] at z;exact B z
  .rw[y x z] at q;cases q
 |_=>
  simp only[RepB] at h ⊢;exact Rep.go c _ _ h
def Rep.stp {v:V}(I:GI K g σ H fa O s) (a:Stp fa O H fa' O' H') (h:Rep K (NN g.F fa O) fa H d v):Rep K (NN g.F fa' O') fa' H' d v:=Rep.go (I.car a) d v h
def Reps.stp (I:GI K g σ H fa O s) (a:Stp fa O H fa' O' H') (h:Reps K (NN g.F fa O) fa H ds xs):Reps K (NN g.F fa' O') fa' H' ds xs:=Reps.go (I.car a) ds xs h
def B8 {o:HO}(h:H p=none):StE fa O H fa O (f9 H p o):=
 #[fun _ h=>h,.inl rfl,fun b u e _=>by rw[n9 (R8 e h)];exact e,fun b z=>by
  by_cases hb:b=p
  .subst hb;exact h
  .rw[n9 hb] at z;exact z]
def FeedR.car {fs:vO_}(c:Car K N fa H N' fa H') (h:∀a,fa=some a->H' a=H a) (f:FeedR N H fa fs):FeedR N' H' fa fs:=by
 cases fa with
 |none=>cases fs <;> simpa only[FeedR] using f
 |some a=>
  cases fs with
  |none=>simpa only[FeedR] using f
  |some x=>
   simp only[FeedR] at f ⊢;obtain⟨l,b,h1,h2,B⟩:=f;obtain⟨q,n⟩:=c.ls b _ h2 B;exact#[l,b,by rw[h a rfl];exact h1,n,q]
def FeedR.same_new {fs:vO_}{o:HO}(f:FeedR N H fa fs) (h:H p=none):∀a,fa=some a->f9 H p o a=H a:=fun a e=>n9 fun z=>f.tracked e (z▸h)
def DI.new {o:HO}(I:GI K g σ H fa O s) (h:H p=none):GI K g σ (f9 H p o) fa O s:=by
 have a:StE fa O H fa O (f9 H p o):=B8 h;refine#[I.nd,SlR.go (I.car a.stp) (fun b xs hb e=>?_) I.sl,I.fr,I.st.trans ((B8 (O:=[]) h).stp),I.tr,I.ff,I.fd.car (I.car a.stp) (I.fd.same_new h),I.nf];rw[n9 (R8 e h)];exact e
end
abbrev DE:=DS->Option (D × DS)
variable {fe:DE}
abbrev DT:=DS->Option (Bool × DS)
variable {fc:DT}
abbrev DA:=DS->Option (List D × DS)
variable {f fi:DA}
inductive Fl where
 | next | brk | cont | ret (d:D) | thr (c:Str) (ds:vD_)
variable {r:Fl × DS}
abbrev DM:=DS->Option (Fl × DS)
structure NewL (K:vF_) (g:Gh) (σ:L2.St) (H:Hp) (fa:vA_) (O:vL_) (s:DS) (p:Addr) (xs:List V) (ds:vD_):Prop where
 gi:GI K g σ H fa O s
 ls:H p=some (.lst xs)
 sl:SlR K (fun b=>NN g.F fa O b\/b=p) fa H s.sl σ O
 fd:FeedR (fun b=>NN g.F fa O b\/b=p) H fa s.fs
 rs:Reps K (fun b=>NN g.F fa O b\/b=p) fa H ds xs
 nf:fa≠some p
section
variable (K:vF_) (g:Gh)
def liftE (f:DE):TE:=fun σ H Q=>∃fa O s d s',GI K g σ H fa O s/\f s=some (d,s') /\
 ∀v H' fa' O',StE fa O H fa' O' H'->GI K g σ H' fa' O' s'->Rep K (NN g.F fa' O') fa' H' d v->Q v H'
def liftB (f:DE):TE:=fun σ H Q=>∃fa O s d s',GI K g σ H fa O s/\f s=some (d,s') /\
 ∀v H' fa' O',StE fa O H fa' O' H'->GI K g σ H' fa' O' s'->RepB K (NN g.F fa' O') fa' H' d v->Q v H'
def liftF (f:DA):TE:=fun σ H Q=>∃fa O s ds s',GI K g σ H fa O s/\f s=some (ds,s') /\
 ∀p xs H' fa' O',StE fa O H fa' O' H'->NewL K g σ H' fa' O' s' p xs ds->H p=none->Q (.ref p) H'
def liftT (f:DT):TT:=fun σ H Q=>∃fa O s d s',GI K g σ H fa O s/\f s=some (d,s') /\
 ∀H' fa' O',StE fa O H fa' O' H'->GI K g σ H' fa' O' s'->Q d H'
def liftA (f:DA):TA:=fun σ H Q=>∃fa O s ds s',GI K g σ H fa O s/\f s=some (ds,s') /\
 ∀vs H' fa' O',StE fa O H fa' O' H'->GI K g σ H' fa' O' s'->Reps K (NN g.F fa' O') fa' H' ds vs->Q vs H'
def liftBA (f:DA):TA:=fun σ H Q=>∃fa O s ds s',GI K g σ H fa O s/\f s=some (ds,s') /\
 ∀vs H' fa' O',StE fa O H fa' O' H'->GI K g σ H' fa' O' s'->Y6 K (NN g.F fa' O') fa' H' ds vs->Q vs H'
def FlK (E:Ends) (fa:vA_) (O:vL_) (H:Hp) (fl:Fl) (s':DS):Prop:=
 match fl with
 |.next=>∀σ' H' fa' O',Stp fa O H fa' O' H'->GI K g σ' H' fa' O' s'->E.nx σ' H'
 |.brk=>∀σ' H' fa' O',Stp fa O H fa' O' H'->GI K g σ' H' fa' O' s'->E.bk σ' H'
 |.cont=>∀σ' H' fa' O',Stp fa O H fa' O' H'->GI K g σ' H' fa' O' s'->E.ct σ' H'
 |.ret d=>∀σ' v H' fa' O',Stp fa O H fa' O' H'->GI K g σ' H' fa' O' s'->Rep K (NN g.F fa' O') fa' H' d v->E.rt v H'
 |.thr c ds=>∀σ' C dx od xs H' fa' O',Stp fa O H fa' O' H'->GI K g σ' H' fa' O' s'->PySem.W.nsIn K mainGlobals c=some (some (.ref C))->H' dx=some (.frz od (.xd (fnm.zip xs)))->Reps K (NN g.F fa' O') fa' H' ds xs->g.xq σ' (.ref C) (some dx) H'
def liftS (f:DM):TS:=fun E σ H=>∃fa O s fl s',GI K g σ H fa O s/\f s=some (fl,s')/\FlK K g E fa O H fl s'
end
section
variable {K:vF_}{σ:L2.St}
def liftE.elim {f:DE}{Q:VK}(h:liftE K g f σ H Q) (k:∀fa O s d s',GI K g σ H fa O s->f s=some (d,s')->(∀v H' fa' O',StE fa O H fa' O' H'->GI K g σ H' fa' O' s'->Rep K (NN g.F fa' O') fa' H' d v->Q v H')->G):G:=by
 obtain⟨fa,O,s,d,s',a,b,c⟩:=h;exact k fa O s d s' a b c
def liftB.elim {f:DE}{Q:VK}(h:liftB K g f σ H Q) (k:∀fa O s d s',GI K g σ H fa O s->f s=some (d,s')->(∀v H' fa' O',StE fa O H fa' O' H'->GI K g σ H' fa' O' s'->RepB K (NN g.F fa' O') fa' H' d v->Q v H')->G):G:=by
 obtain⟨fa,O,s,d,s',a,b,c⟩:=h;exact k fa O s d s' a b c
def liftF.elim {Q:VK}(h:liftF K g f σ H Q) (k:∀fa O s d s',GI K g σ H fa O s->f s=some (d,s')->(∀p xs H' fa' O',StE fa O H fa' O' H'->NewL K g σ H' fa' O' s' p xs d->H p=none->Q (.ref p) H')->G):G:=by
 obtain⟨fa,O,s,d,s',a,b,c⟩:=h;exact k fa O s d s' a b c
def liftT.elim {f:DT}{Q:Bool->Hp->Prop}(h:liftT K g f σ H Q) (k:∀fa O s d s',GI K g σ H fa O s->f s=some (d,s')->(∀H' fa' O',StE fa O H fa' O' H'->GI K g σ H' fa' O' s'->Q d H')->G):G:=by
 obtain⟨fa,O,s,d,s',a,b,c⟩:=h;exact k fa O s d s' a b c
def liftA.elim {Q:List V->Hp->Prop}(h:liftA K g f σ H Q) (k:∀fa O s d s',GI K g σ H fa O s->f s=some (d,s')->(∀vs H' fa' O',StE fa O H fa' O' H'->GI K g σ H' fa' O' s'->Reps K (NN g.F fa' O') fa' H' d vs->Q vs H')->G):G:=by
 obtain⟨fa,O,s,d,s',a,b,c⟩:=h;exact k fa O s d s' a b c
def liftBA.elim {Q:List V->Hp->Prop}(h:liftBA K g f σ H Q) (k:∀fa O s d s',GI K g σ H fa O s->f s=some (d,s')->(∀vs H' fa' O',StE fa O H fa' O' H'->GI K g σ H' fa' O' s'->Y6 K (NN g.F fa' O') fa' H' d vs->Q vs H')->G):G:=by
 obtain⟨fa,O,s,d,s',a,b,c⟩:=h;exact k fa O s d s' a b c
def liftS.elim {f:DM}{E:Ends}(h:liftS K g f E σ H) (k:∀fa O s d s',GI K g σ H fa O s->f s=some (d,s')->(FlK K g E fa O H d s')->G):G:=by
 obtain⟨fa,O,s,d,s',a,b,c⟩:=h;exact k fa O s d s' a b c
end
structure EO (X:Cx) (g:Gh) (e:Expr) (f:DE):Prop where
 pe:PE X e (liftE X.K g f)
structure BO (X:Cx) (g:Gh) (e:Expr) (f:DE):Prop where
 pe:PE X e (liftB X.K g f)
structure FO (X:Cx) (g:Gh) (e:Expr) (f:DA):Prop where
 pe:PE X e (liftF X.K g f)
structure TO (X:Cx) (g:Gh) (e:Expr) (f:DT):Prop where
 pe:PT X e (liftT X.K g f)
structure WO (X:Cx) (g:Gh) (e:Expr) (f:DT):Prop where
 pe:PW X e (liftT X.K g f)
structure AO (X:Cx) (g:Gh) (es:List Expr) (f:DA):Prop where
 pe:PA X es (liftA X.K g f)
structure BAO (X:Cx) (g:Gh) (es:List Expr) (f:DA):Prop where
 pe:PA X es (liftBA X.K g f)
structure SO (X:Cx) (g:Gh) (st:Stmt) (f:DM):Prop where
 pe:PS X st (liftS X.K g f)
structure SSO (X:Cx) (g:Gh) (st:List Stmt) (f:DM):Prop where
 pe:PSs X st (liftS X.K g f)
section
variable {f:DE}
def lF {t t':TE}(h:PE X e t) (w:∀σ H Q,t' σ H Q->t σ H Q):PE X e t':=fun pins s σ H Q I q=>h pins s σ H Q I (w σ H Q q)
def Ck {t t':TT}(h:PT X e t) (w:∀σ H Q,t' σ H Q->t σ H Q):PT X e t':=fun pins s σ H Q I q=>h pins s σ H Q I (w σ H Q q)
def AC {t t':TT}(h:PW X e t) (w:∀σ H Q,t' σ H Q->t σ H Q):PW X e t':=fun B pins s σ H Q I q=>h B pins s σ H Q I (w σ H Q q)
def oi {t t':TA}(h:PA X es t) (w:∀σ H Q,t' σ H Q->t σ H Q):PA X es t':=fun pos pins s σ H Q I q=>h pos pins s σ H Q I (w σ H Q q)
def GY {st:Stmt}{t t':TS}(h:PS X st t) (w:∀E σ H,t' E σ H->t E σ H):PS X st t':=fun pins s σ H E I q=>h pins s σ H E I (w E σ H q)
def Cu {st:List Stmt}{t t':TS}(h:PSs X st t) (w:∀E σ H,t' E σ H->t E σ H):PSs X st t':=fun pins s σ H E I q=>h pins s σ H E I (w E σ H q)
theorem EO.w {f:DE}{t:TE}(h:PE X e t) (w:∀σ H Q,liftE X.K g f σ H Q->t σ H Q):EO X g e f:=#[lF h w]
theorem BO.w {f:DE}{t:TE}(h:PE X e t) (w:∀σ H Q,liftB X.K g f σ H Q->t σ H Q):BO X g e f:=#[lF h w]
theorem FO.w {f:DA}{t:TE}(h:PE X e t) (w:∀σ H Q,liftF X.K g f σ H Q->t σ H Q):FO X g e f:=#[lF h w]
theorem TO.w {f:DT}{t:TT}(h:PT X e t) (w:∀σ H Q,liftT X.K g f σ H Q->t σ H Q):TO X g e f:=#[Ck h w]
theorem WO.w {f:DT}{t:TT}(h:PW X e t) (w:∀σ H Q,liftT X.K g f σ H Q->t σ H Q):WO X g e f:=#[AC h w]
theorem AO.w {f:DA}{t:TA}(h:PA X es t) (w:∀σ H Q,liftA X.K g f σ H Q->t σ H Q):AO X g es f:=#[oi h w]
theorem BAO.w {f:DA}{t:TA}(h:PA X es t) (w:∀σ H Q,liftBA X.K g f σ H Q->t σ H Q):BAO X g es f:=#[oi h w]
theorem SO.w {st:Stmt}{f:DM}{t:TS}(h:PS X st t) (w:∀E σ H,liftS X.K g f E σ H->t E σ H):SO X g st f:=#[GY h w]
theorem SSO.w {st:List Stmt}{f:DM}{t:TS}(h:PSs X st t) (w:∀E σ H,liftS X.K g f E σ H->t E σ H):SSO X g st f:=#[Cu h w]
theorem EO.b (h:EO X g e f):BO X g e f:=BO.w h.pe fun σ H Q ⟨fa,O,s,d,s',I,e,k⟩=>#[fa,O,s,d,s',I,e,fun v H' fa' O' a B r=>k v H' fa' O' a B (r.b fun _ z=>.inr (.inr z))]
noncomputable def p9 (f:DA):DE:=fun s=>(f s).map fun p=>(.lst p.1,p.2)
def gn {K:vF_}{O':vL_}{s:DS}(I:GI K g σ H fa O s) (a:StE fa O H fa' O' H') (J:GI K g σ H' fa' O' s') (e:H p=none) (B:fa'≠some p):¬ NN g.F fa' O' p:=by
 rintro(z | z | z)
 .exact I.trF z e
 .obtain⟨ys,q⟩:=I.owned (a.sub p z);rw[e] at q;cases q
 .exact B z
def FO.v {f:DA}(h:FO X g e f):EO X g e (p9 f):=EO.w h.pe fun σ H Q J=>by
 refine J.elim fun fa O s d s' I e k=>?_
 simp only[p9] at e;cases q:f s with
 |none=>rw[q] at e;cases e
 |some p=>
  obtain⟨ds,s1⟩:=p;rw[q] at e;simp only[ME,Jf,Iw] at e;obtain⟨B,U⟩:=e;subst B;subst U;refine#[fa,O,s,ds,s1,I,q,fun p xs H' fa' O' a L B=>k _ H' fa' O' a L.gi ?_];simp only[Rep];exact#[p,xs,rfl,gn I a L.gi B L.nf,L.ls,Reps.go #[fun b ys n q=>#[q,fun z=>n (.inl z)],fun _ _ q=>q,fun _ _ q=>q,fun _ q=>q] ds xs L.rs]
end
def fq {K:vF_}{s:DS}{o:HO}(I:GI K g σ H fa O s) (hp:H p=none):Car K (NN g.F fa O) fa H (fun b=>NN g.F fa O b\/b=p) fa (f9 H p o):=by
 have c:=I.car (B8 (fa:=fa) (O:=O) (o:=o) hp).stp;refine#[fun b xs n q=>?_,c.tp,c.fz,c.fe];obtain⟨J,B⟩:=c.ls b xs n q;refine#[J,?_];rintro(z | z)
 .exact B z
 .subst z;rw[hp] at q;cases q
def X9 {K:vF_}{s:DS}(I:GI K g σ H fa O s) (hp:H p=none) (r:Reps K (NN g.F fa O) fa H ds xs):NewL K g σ (f9 H p (.lst xs)) fa O s p xs ds:=
 #[I.new hp,v8,SlR.go (fq I hp) (fun b ys _ e=>by rw[n9 (R8 e hp)];exact e) I.sl,I.fd.car (fq I hp) (I.fd.same_new hp),Reps.go (fq I hp) ds xs r,fun z=>I.fd.tracked z hp]
def dC (d:D):DE:=fun s=>some (d,s)
def dV (i:Nat):DE:=fun s=>match s.sl[i]? with
 |some (.v d)=>some (d,s)
 |some (.own ds)=>some (.lst ds,{ s with sl:=s.sl.set i (.v (.lst ds)) })
 |_=>none
def dL (i:Nat):DE:=fun s=>match s.sl[i]? with
 |some (.v d)=>some (d,s)
 |some (.own ds)=>some (.lst ds,s)
 |_=>none
def xc {pos:Pos}(h:PE X (.Name x pos) (M1 i)):BO X g (.Name x pos) (dL i):=BO.w h fun σ H Q J=>by
 refine J.elim fun fa O s d s' I e k=>?_
 simp only[dL] at e;cases q:s.sl[i]? with
 |none=>rw[q] at e;cases e
 |some z=>
  rw[q] at e;cases z with
  |no=>cases e
  |dct _=>cases e
  |v W=>
   cases e;obtain⟨u,B,r⟩:=SlR.val I.sl q;exact#[u,B,k u H fa O StE.refl I (r.b fun _ z=>.inr (.inr z))]
  |own ds=>
   cases e;obtain⟨a,xs,B,m,U,r⟩:=SlR.own I.sl q;exact#[_,B,k _ H fa O StE.refl I #[a,xs,rfl,fun z=>I.nf a z m,U,r]]
def N4 {pos:Pos}(h:PE X (.Name x pos) (M1 i)):EO X g (.Name x pos) (dV i):=EO.w h fun σ H Q hQ=>by
 refine hQ.elim fun fa O s d s' I e k=>?_
 simp only[dV] at e;cases q:s.sl[i]? with
 |none=>rw[q] at e;cases e
 |some z=>
  rw[q] at e;cases z with
  |no=>cases e
  |dct _=>cases e
  |v d'=>
   cases e;obtain⟨u,J,r⟩:=SlR.val I.sl q;exact#[u,J,k u H fa O StE.refl I r]
  |own ds=>
   cases e;obtain⟨a,xs,J,m,e2,r⟩:=SlR.own I.sl q;have i':i<s.sl.length:=(IK.mp q).1
   let N1:Addr->Prop:=fun b=>NN g.F fa O b/\b≠a
   have U:Car X.K (NN g.F fa O) fa H N1 fa H:=#[fun b ys n z=>#[z,fun y=>n y.1],fun _ _ z=>z,fun _ _ z=>z,fun _ z=>z]
   have S1:=SlR.go U (fun _ _ _ z=>z) I.sl;have Y:Rep X.K N1 fa H (.lst ds) (.ref a):=by
    simp only[Rep];exact#[a,xs,rfl,fun z=>z.2 rfl,e2,Reps.go U ds xs r]
   obtain⟨P,hs,S2,hn⟩:=SlR.put i S1 Y;have na:a ∉ P:=hn I.nd a (by rw[q];rfl) #[ds,q] J;have eσ:σ.set i (some (V.ref a))=σ:=by
    apply MI;intro j;by_cases Z:j=i
    .subst Z;rw[J,LK (IK.mp J).1]
    .rw[Kl (xu Z)]
   rw[eσ] at S2;have B:∀b∈P,b∈O:=fun b hb=>hs.subset hb
   have a1:StE fa O H fa P H:=#[B,.inl rfl,fun _ _ z _=>z,fun _ z=>z]
   have W:Car X.K N1 fa H (NN g.F fa P) fa H:=#[fun b ys n z=>#[z,fun y=>n #[by
     rcases y with y | y | y
     .exact .inl y
     .exact .inr (.inl (B b y))
     .exact .inr (.inr y),fun w=>by
     subst w;rcases y with y | y | y
     .exact I.tr b y (I.fr b m)
     .exact na y
     .exact I.nf b y m]],fun _ _ z=>z,fun _ _ z=>z,fun _ z=>z]
   refine#[_,J,k _ H fa P a1 #[hs.nodup I.nd,SlR.go W (fun _ _ _ z=>z) S2,fun b hb=>I.fr b (B b hb),I.st,I.tr,I.ff,(I.fd.car U fun _ _=>rfl).car W fun _ _=>rfl,fun b z y=>I.nf b z (B b y)] (Rep.go W _ _ Y)]
def um {v:V}(h:PE X e (tC v)) (r:∀K N fa H,Rep K N fa H d v):EO X g e (dC d):=EO.w h fun σ H Q B=>by
 refine B.elim fun fa O s W s' I q k=>?_
 simp only[dC,Jf,Iw] at q;obtain⟨J,U⟩:=q;subst J;subst U;exact k v H fa O StE.refl I (r _ _ _ _)
def jR {i j pos}:EO X g (.Constant (.int i) j pos) (dC (.int i)):=um ak fun _ _ _ _=>by simp only[Rep]
def aG {i j pos}:EO X g (.Constant (.bool i) j pos) (dC (.bl i)):=um eL fun _ _ _ _=>by simp only[Rep]
def J5 (K:vF_) (r:R2) (p:D->D->Option D):Prop:=
 ∀(g:Gh) (σ:L2.St) (H:Hp) (fa:vA_) (O:vL_) (s:DS) (x y:V) (d1 d2 d:D) (Q:VK),GI K g σ H fa O s->RepB K (NN g.F fa O) fa H d1 x->RepB K (NN g.F fa O) fa H d2 y->p d1 d2=some d ->
  (∀v H',StE fa O H fa O H'->GI K g σ H' fa O s->Rep K (NN g.F fa O) fa H' d v->Q v H')->r x y H Q
def qc (K:vF_) (r:V->Hp->VK->Prop) (p:D->Option D):Prop:=
 ∀(g:Gh) (σ:L2.St) (H:Hp) (fa:vA_) (O:vL_) (s:DS) (x:V) (d1 d:D) (Q:VK),GI K g σ H fa O s->RepB K (NN g.F fa O) fa H d1 x->p d1=some d ->
  (∀v H',StE fa O H fa O H'->GI K g σ H' fa O s->Rep K (NN g.F fa O) fa H' d v->Q v H')->r x H Q
def mU (K:vF_) (r:R2) (p:D->D->Option (List D)):Prop:=
 ∀(g:Gh) (σ:L2.St) (H:Hp) (fa:vA_) (O:vL_) (s:DS) (x y:V) (d1 d2:D) (ds:vD_) (Q:VK),GI K g σ H fa O s->RepB K (NN g.F fa O) fa H d1 x->RepB K (NN g.F fa O) fa H d2 y->p d1 d2=some ds ->
  (∀q xs H',StE fa O H fa O H'->NewL K g σ H' fa O s q xs ds->H q=none->Q (.ref q) H')->r x y H Q
def Z4 (K:vF_) (r:List V->Hp->VK->Prop) (p:List D->Option D):Prop:=
 ∀(g:Gh) (σ:L2.St) (H:Hp) (fa:vA_) (O:vL_) (s:DS) (xs:List V) (ds:vD_) (d:D) (Q:VK),GI K g σ H fa O s->Y6 K (NN g.F fa O) fa H ds xs->p ds=some d ->
  (∀v H',StE fa O H fa O H'->GI K g σ H' fa O s->Rep K (NN g.F fa O) fa H' d v->Q v H')->r xs H Q
def iM (K:vF_) (r:List V->Hp->VK->Prop) (p:List D->Option (List D)):Prop:=
 ∀(g:Gh) (σ:L2.St) (H:Hp) (fa:vA_) (O:vL_) (s:DS) (xs:List V) (ds es:vD_) (Q:VK),GI K g σ H fa O s->Y6 K (NN g.F fa O) fa H ds xs->p ds=some es ->
  (∀q ys H',StE fa O H fa O H'->NewL K g σ H' fa O s q ys es->H q=none->Q (.ref q) H')->r xs H Q
noncomputable def a7 (p:D->D->Option D) (a b:DE):DE:=fun s=>(a s).bind fun x=>(b x.2).bind fun y=>(p x.1 y.1).map fun d=>(d,y.2)
def dW (p:D->D->Option (List D)) (a b:DE):DA:=fun s=>(a s).bind fun x=>(b x.2).bind fun y=>(p x.1 y.1).map fun d=>(d,y.2)
noncomputable def u6 (p:D->Option D) (a:DE):DE:=fun s=>(a s).bind fun x=>(p x.1).map fun d=>(d,x.2)
def wd {α:Type}{p:D->D->Option α}{a b:DE}{s:DS}{d:α}(h:((a s).bind fun x=>(b x.2).bind fun y=>(p x.1 y.1).map fun d=>(d,y.2))=some (d,s')):∃x s1 y,a s=some (x,s1)/\b s1=some (y,s')/\p x y=some d:=by
 refine v6 h fun x s1 h1 h=>?_
 refine v6 h fun y s2 h2 h=>?_
 refine J9 h fun W B h=>?_
 simp only[Iw] at h;obtain⟨J,U⟩:=h;subst J;subst U;exact#[x,s1,y,h1,h2,B]
section
variable {a b:Expr}{fa fb:DE}{pos:Pos}{r:R2}{p:D->D->Option D}
def gZ {r:R2}{p:D->D->Option D}(hr:J5 X.K r p) (σ:L2.St) (H:Hp) (Q:VK) (h:liftE X.K g (a7 p fa fb) σ H Q):cE r (liftB X.K g fa) (liftB X.K g fb) σ H Q:=by
 obtain⟨Z,O,s,d,s',I,e,k⟩:=h;obtain⟨x,s1,y,h1,h2,h3⟩:=wd e;refine#[Z,O,s,x,s1,I,h1,fun v H1 f1 O1 Y B r1=>#[f1,O1,s1,y,s',B,h2,fun u H2 W J U I2 r2=>?_]];exact hr g σ H2 W J s' v u x y d Q I2 (RepB.stp B U r1) r2 h3 fun z H3 a3 I3 r3=>k z H3 W J (Y.trans (U.trans a3)) I3 r3
def Ch {r:R2}{p:D->D->Option (List D)}(hr:mU X.K r p) (σ:L2.St) (H:Hp) (Q:VK) (h:liftF X.K g (dW p fa fb) σ H Q):cE r (liftB X.K g fa) (liftB X.K g fb) σ H Q:=by
 obtain⟨f0,O,s,d,s',I,e,k⟩:=h;obtain⟨x,s1,y,h1,h2,h3⟩:=wd e;refine#[f0,O,s,x,s1,I,h1,fun v H1 f1 O1 W J r1=>#[f1,O1,s1,y,s',J,h2,fun u H2 Y U B I2 r2=>?_]];exact hr g σ H2 Y U s' v u x y d Q I2 (RepB.stp J B r1) r2 h3 fun q xs H3 a3 L Z=>k q xs H3 Y U (W.trans (B.trans a3)) L (W.mon _ (B.mon _ Z))
def Bn {op:Operator}(B:OpR X (binaryOp op) r) (J:J5 X.K r p) (ha:BO X g a fa) (hb:BO X g b fb):EO X g (.BinOp a op b pos) (a7 p fa fb):=EO.w (fP B ha.pe hb.pe) (gZ J)
def yY {op:Operator}{p:D->D->Option (List D)}(B:OpR X (binaryOp op) r) (J:mU X.K r p) (ha:BO X g a fa) (hb:BO X g b fb):FO X g (.BinOp a op b pos) (dW p fa fb):=FO.w (fP B ha.pe hb.pe) (Ch J)
def eZ {op:CmpOp}(B:OpR X (compareOp op) r) (J:J5 X.K r p) (ha:BO X g a fa) (hb:BO X g b fb) (hm:behindInMarks op b=false):EO X g (.Compare a [op] [b] pos) (a7 p fa fb):=EO.w (wt B ha.pe hb.pe hm) (gZ J)
def Gv {r:R2}(B:IxR X r) (J:J5 X.K r p) (ha:BO X g a fa) (hb:BO X g b fb) (hs:sR b):EO X g (.Subscript a b pos) (a7 p fa fb):=EO.w (qR B ha.pe hb.pe hs) (gZ J)
def Ba {op:UnaryOp}{r:V->Hp->VK->Prop}{p:D->Option D}(ho:ii X (unaryOp op) r) (hr:qc X.K r p) (ha:BO X g a fa):EO X g (.UnaryOp op a pos) (u6 p fa):=EO.w (EJ ho ha.pe) fun σ H Q J=>by
 refine J.elim fun Y O s d s' I e k=>?_
 refine v6 e fun x s1 h1 h=>?_
 refine J9 h fun d' Z h=>?_
 simp only[Iw] at h;obtain⟨U,e2⟩:=h;subst U;subst e2;exact#[Y,O,s,x,s1,I,h1,fun v H1 f1 O1 W B r1=>hr g σ H1 f1 O1 s1 v x d' Q B r1 Z fun z H3 a3 I3 r3=>k z H3 f1 O1 (W.trans a3) I3 r3]
noncomputable def dB (f:DE):DT:=fun s=>(f s).bind fun x=>match x.1 with | .bl b=>some (b,x.2) | _=>none
def iG {f:DE}{s:DS}{b:Bool}(h:dB f s=some (b,s')):f s=some (.bl b,s'):=by
 refine v6 h fun x s1 h1 h=>?_
 cases x with
 |bl c=>simp only[Jf,Iw] at h;rw[h1,h.1,h.2]
 |_=>cases h
def jX {op:CmpOp}(B:OpR X (compareOp op) r) (W:J5 X.K r p) (ha:BO X g a fa) (hb:BO X g b fb) (hm:behindInMarks op b=false):TO X g (.Compare a [op] [b] pos) (dB (a7 p fa fb)):=
 TO.w (Em B ha.pe hb.pe hm) fun σ H Q ⟨U,O,s,d,s',I,e,k⟩=>gZ W σ H _ #[U,O,s,.bl d,s',I,iG e,fun v H' f1 O1 a J r=>by
  simp only[Rep] at r;exact#[d,r,k H' f1 O1 a J]]
def C7:D->Option Bool
 |.non=>some false
 |.bl b=>some b
 |.int i=>some (i != 0)
 |.str x=>some ((x.length:Int) != 0)
 |.tup ds=>some (!ds.isEmpty)
 |.lst ds=>some (!ds.isEmpty)
 |_=>none
noncomputable def o7 (f:DE):DT:=fun s=>(f s).bind fun x=>(C7 x.1).map fun b=>(b,x.2)
def nO {α β:Type}{xs:List α}{ys:List β}(h:xs.length=ys.length):xs.isEmpty=ys.isEmpty:=by cases xs <;> cases ys <;> simp_all
def sM {e:Expr}{f:DE}(h:BO X g e f) (he:∀whole,isTrue e X.env whole=(do let v <-whole;standAt e.pos;holding [v] (truthy v)):=by intro _;rfl):TO X g e (o7 f):=
 TO.w (Gd h.pe he) fun σ H Q Y=>by
  refine Y.elim fun Z O s d s' I e k=>?_
  obtain⟨⟨x,s1⟩,h1,h.pe⟩:=Kp.mp e;obtain⟨d',B,h.pe⟩:=MF.mp h.pe;simp only[Iw] at h.pe;obtain⟨W,U⟩:=h.pe;subst W;subst U;refine#[Z,O,s,x,s1,I,h1,fun v H' f1 O1 a J r=>#[d',?_,k H' f1 O1 a J]];cases x with
  |non=>simp only[RepB,Rep] at r;subst r;cases B;rfl
  |bl b=>simp only[RepB,Rep] at r;subst r;cases B;rfl
  |int i=>simp only[RepB,Rep] at r;subst r;cases B;rfl
  |str x=>simp only[RepB,Rep] at r;obtain⟨r,l⟩:=r;subst r;cases B;exact#[l,rfl]
  |tup ds=>
   simp only[RepB,Rep] at r;obtain⟨c,xs,r,q,w⟩:=r;subst r;cases B;exact .inr (.inl #[xs,q,by rw[nO w.length]])
  |lst ds=>
   obtain⟨c,xs,r,_,q,w⟩:=r;subst r;cases B;exact .inl #[xs,SqL.of q,by rw[nO w.length]]
  |feed=>cases B
  |scr _=>cases B
  |fn _=>cases B
  |exc _ _=>cases B
noncomputable def u4 (a b:DT):DT:=fun s=>(a s).bind fun x=>if x.1=true then b x.2 else some (false,x.2)
noncomputable def C2 (a b:DT):DT:=fun s=>(a s).bind fun x=>if x.1=true then some (true,x.2) else b x.2
def v4 (a:DT):DT:=fun s=>(a s).map fun x=>(!x.1,x.2)
noncomputable def D0 (a b:DE):DE:=fun s=>(dB a s).bind fun x=>if x.1=true then b x.2 else some (.bl false,x.2)
def D3 (a b:DE):DE:=fun s=>(dB a s).bind fun x=>if x.1=true then some (.bl true,x.2) else b x.2
def C6 (a:DE):DE:=fun s=>(dB a s).map fun x=>(.bl (!x.1),x.2)
variable {ta tb:DT}
def vM (h:TO X g a ta):WO X g (.BoolOp .And [a] pos) ta:=#[Au h.pe]
def yV (h:TO X g a ta):WO X g (.BoolOp .Or [a] pos) ta:=#[CW h.pe]
def nv (ha:TO X g a ta) (hb:WO X g (.BoolOp .And (b::rest) pos) tb):WO X g (.BoolOp .And (a::b::rest) pos) (u4 ta tb):=WO.w (Cw ha.pe hb.pe) fun σ H Q W=>by
 refine W.elim fun Z O s d s' I e k=>?_
 refine v6 e fun x s1 h1 h=>?_
 refine#[Z,O,s,x,s1,I,h1,fun H1 f1 O1 J B=>?_];cases x with
 |true=>rw[fx rfl] at h ⊢;exact#[f1,O1,s1,d,s',B,h,fun H2 f2 U a2 I2=>k H2 f2 U (J.trans a2) I2]
 |false=>
  rw[fI Io] at h ⊢;simp only[Jf,Iw] at h;obtain⟨Y,e2⟩:=h;subst Y;subst e2;exact k H1 f1 O1 J B
def pZ (ha:TO X g a ta) (hb:WO X g (.BoolOp .Or (b::rest) pos) tb):WO X g (.BoolOp .Or (a::b::rest) pos) (C2 ta tb):=WO.w (Hc ha.pe hb.pe) fun σ H Q W=>by
 refine W.elim fun Z O s d s' I e k=>?_
 refine v6 e fun x s1 h1 h=>?_
 refine#[Z,O,s,x,s1,I,h1,fun H1 f1 O1 J B=>?_];cases x with
 |false=>rw[fI Io] at h ⊢;exact#[f1,O1,s1,d,s',B,h,fun H2 f2 U a2 I2=>k H2 f2 U (J.trans a2) I2]
 |true=>
  rw[fx rfl] at h ⊢;simp only[Jf,Iw] at h;obtain⟨Y,e2⟩:=h;subst Y;subst e2;exact k H1 f1 O1 J B
def WO.t {f:DT}(h:WO X g e f):TO X g e f:=#[h.pe.pt]
def HQ (ha:TO X g a ta):TO X g (.UnaryOp .Not a pos) (v4 ta):=TO.w (Fp ha.pe) fun σ H Q J=>by
 refine J.elim fun Y O s d s' I e k=>?_
 refine mapP e fun x s1 h1 h=>?_
 simp only[Iw] at h;obtain⟨U,Z⟩:=h;subst U;subst Z;exact#[Y,O,s,x,s1,I,h1,fun H1 f1 O1 W B=>k H1 f1 O1 W B]
def Hi {op} {f:DE}(h:EO X g a f):EO X g (.BoolOp op [a] pos) f:=#[zQ h.pe]
def zS (ha:EO X g a fa) (hb:EO X g (.BoolOp .And (b::rest) pos) fb):EO X g (.BoolOp .And (a::b::rest) pos) (D0 fa fb):=EO.w (wU ha.pe hb.pe) fun σ H Q W=>by
 refine W.elim fun Z O s d s' I e k=>?_
 refine v6 e fun x s1 h1 h=>?_
 refine#[Z,O,s,_,s1,I,iG h1,fun v H1 f1 O1 J B r=>#[x,by simpa only[Rep] using r,?_]];cases x with
 |true=>rw[fx rfl] at h ⊢;exact#[f1,O1,s1,d,s',B,h,fun v H2 f2 U a2 I2=>k v H2 f2 U (J.trans a2) I2]
 |false=>
  rw[fI Io] at h ⊢;simp only[Jf,Iw] at h;obtain⟨Y,e2⟩:=h;subst Y;subst e2;exact k _ H1 f1 O1 J B (by simp only[Rep])
def BI (ha:EO X g a fa) (hb:EO X g (.BoolOp .Or (b::rest) pos) fb):EO X g (.BoolOp .Or (a::b::rest) pos) (D3 fa fb):=EO.w (yB ha.pe hb.pe) fun σ H Q W=>by
 refine W.elim fun Z O s d s' I e k=>?_
 refine v6 e fun x s1 h1 h=>?_
 refine#[Z,O,s,_,s1,I,iG h1,fun v H1 f1 O1 J B r=>#[x,by simpa only[Rep] using r,?_]];cases x with
 |false=>rw[fI Io] at h ⊢;exact#[f1,O1,s1,d,s',B,h,fun v H2 f2 U a2 I2=>k v H2 f2 U (J.trans a2) I2]
 |true=>
  rw[fx rfl] at h ⊢;simp only[Jf,Iw] at h;obtain⟨Y,e2⟩:=h;subst Y;subst e2;exact k _ H1 f1 O1 J B (by simp only[Rep])
def DJ (ha:EO X g a fa):EO X g (.UnaryOp .Not a pos) (C6 fa):=EO.w (yj ha.pe) fun σ H Q J=>by
 refine J.elim fun Y O s d s' I e k=>?_
 refine mapP e fun x s1 h1 h=>?_
 simp only[Iw] at h;obtain⟨U,Z⟩:=h;subst U;subst Z;exact#[Y,O,s,_,s1,I,iG h1,fun v H1 f1 O1 W B r=>#[x,by simpa only[Rep] using r,k _ H1 f1 O1 W B (by simp only[Rep])]]
noncomputable def C3 (c:DT) (a b:DE):DE:=fun s=>(c s).bind fun x=>if x.1=true then a x.2 else b x.2
def xw (hc:TO X g c fc) (ha:EO X g a fa) (hb:EO X g b fb):EO X g (.IfExp c a b pos) (C3 fc fa fb):=EO.w (zg hc.pe ha.pe hb.pe) fun σ H Q hQ=>by
 refine hQ.elim fun f0 O s d s' I e k=>?_
 refine v6 e fun x s1 h1 h=>?_
 refine#[f0,O,s,x,s1,I,h1,fun H1 f1 O1 Z Y=>?_];cases x with
 |false=>rw[fI Io] at h ⊢;exact#[f1,O1,s1,d,s',Y,h,fun v H2 W B J U=>k v H2 W B (Z.trans J) U]
 |true=>rw[fx rfl] at h ⊢;exact#[f1,O1,s1,d,s',Y,h,fun v H2 W B J U=>k v H2 W B (Z.trans J) U]
def b9:DA:=fun s=>some ([],s)
def a0 (a:DE) (r:DA):DA:=fun s=>(a s).bind fun x=>(r x.2).map fun y=>(x.1::y.1,y.2)
def dR {a:DE}{r:DA}{s:DS}(h:a0 a r s=some (ds,s')):∃d s1 es,a s=some (d,s1)/\r s1=some (es,s')/\ds=d::es:=by
 refine v6 h fun x s1 h1 h=>?_
 refine mapP h fun y s2 h2 h=>?_
 simp only[Iw] at h;exact#[x,s1,y,h1,by rw[h2,h.2],h.1.symm]
variable {fr:DA}
def bR:AO X g [] b9:=AO.w X7 fun σ H Q B=>by
 refine B.elim fun U O s d s' I e k=>?_
 simp only[b9,Jf,Iw] at e;obtain⟨J,W⟩:=e;subst J;subst W;exact k [] H U O StE.refl I (by simp only[Reps])
def lT (ha:EO X g a fa) (hr:AO X g es fr) (hs:starEach (a::es) X.env=(false,eval a X.env)::starEach es X.env:=by rfl):AO X g (a::es) (a0 fa fr):=AO.w (U8 ha.pe hr.pe hs) fun σ H Q Y=>by
 refine Y.elim fun f0 O s ds s' I e k=>?_
 obtain⟨d,s1,es,h1,h2,h3⟩:=dR e;subst h3;refine#[f0,O,s,d,s1,I,h1,fun v H1 f1 O1 Z B r1=>#[f1,O1,s1,es,s',B,h2,fun J H2 f2 W U I2 r2=>?_]];refine k (v::J) H2 f2 W (Z.trans U) I2 ?_;simp only[Reps];exact#[v,J,rfl,Rep.stp B U.stp r1,r2]
def jd:BAO X g [] b9:=BAO.w X7 fun σ H Q B=>by
 refine B.elim fun U O s d s' I e k=>?_
 simp only[b9,Jf,Iw] at e;obtain⟨J,W⟩:=e;subst J;subst W;exact k [] H U O StE.refl I (by simp only[Y6])
def Hs (ha:BO X g a fa) (hr:BAO X g es fr) (hs:starEach (a::es) X.env=(false,eval a X.env)::starEach es X.env:=by rfl):BAO X g (a::es) (a0 fa fr):=BAO.w (U8 ha.pe hr.pe hs) fun σ H Q Y=>by
 refine Y.elim fun f0 O s ds s' I e k=>?_
 obtain⟨d,s1,es,h1,h2,h3⟩:=dR e;subst h3;refine#[f0,O,s,d,s1,I,h1,fun v H1 f1 O1 Z B r1=>#[f1,O1,s1,es,s',B,h2,fun J H2 f2 W U I2 r2=>?_]];exact k (v::J) H2 f2 W (Z.trans U) I2 #[v,J,rfl,RepB.stp B U r1,r2]
noncomputable def i9 (f:DA):DE:=fun s=>(f s).bind fun x=>if x.1.length<=sizeLine then some (.tup x.1,x.2) else none
noncomputable def u7 (f:DA):DA:=fun s=>(f s).bind fun x=>if x.1.length<=sizeLine then some (x.1,x.2) else none
def Hr {x1} (h:AO X g es fr):EO X g (.Tuple es x1 pos) (i9 fr):=EO.w (AV h.pe) fun σ H Q Z=>by
 refine Z.elim fun f0 O s d s' I e k=>?_
 obtain⟨⟨ds,s1⟩,h1,h.pe⟩:=Kp.mp e;by_cases hl:ds.length<=sizeLine
 .rw[fx hl] at h.pe;simp only[Jf,Iw] at h.pe;obtain⟨Y,e2⟩:=h.pe;subst Y;subst e2;refine#[f0,O,s,ds,s1,I,h1,fun J H1 f1 O1 a1 B U=>#[by rw[U.length];exact hl,fun p hp=>?_]];have W:StE f1 O1 H1 f1 O1 (f9 H1 p (.tup J)):=B8 hp;refine k _ _ f1 O1 (a1.trans W) (B.new hp) ?_;simp only[Rep];exact#[p,J,rfl,SqT.of v8,Reps.stp B W.stp U]
 .rw[fI hl] at h.pe;cases h.pe
def HM (h:AO X g es fr):FO X g (.List es pos) (u7 fr):=FO.w (iy h.pe) fun σ H Q Z=>by
 refine Z.elim fun f0 O s d s' I e k=>?_
 obtain⟨⟨ds,s1⟩,h1,h.pe⟩:=Kp.mp e;by_cases hl:ds.length<=sizeLine
 .rw[fx hl] at h.pe;simp only[Jf,Iw] at h.pe;obtain⟨Y,e2⟩:=h.pe;subst Y;subst e2;refine#[f0,O,s,ds,s1,I,h1,fun B H1 f1 O1 J W U=>#[by rw[U.length];exact hl,fun p hp=>?_]];have a2:StE f1 O1 H1 f1 O1 (f9 H1 p (.lst B)):=B8 hp;exact k p B _ f1 O1 (J.trans a2) (X9 W hp U) (J.mon _ hp)
 .rw[fI hl] at h.pe;cases h.pe
end
section
variable {K:vF_}{σ:L2.St}{O':vL_}{s:DS}
def NN.mono {F:vB_}{P:vL_}(h:∀b∈P,b∈O) {b:Addr}(z:NN F fa P b):NN F fa O b:=by
 rcases z with z | z | z
 .exact .inl z
 .exact .inr (.inl (h b z))
 .exact .inr (.inr z)
def jE {F:vB_}(h:∀b,NN F fa O b->N b):Car K N fa H (NN F fa O) fa H:=#[fun b xs n q=>#[q,fun z=>n (h b z)],fun _ _ q=>q,fun _ _ q=>q,fun _ q=>q]
theorem DI.put (I:GI K g σ H fa O s) (i:Nat) {v:V}(r:Rep K (NN g.F fa O) fa H d v):∃P,(∀b∈P,b∈O)/\GI K g (σ.set i (some v)) H fa P { s with sl:=s.sl.set i (.v d) }:=by
 obtain⟨P,hs,S,_⟩:=SlR.put i I.sl r;have B:∀b∈P,b∈O:=fun b hb=>hs.subset hb
 have c:Car K (NN g.F fa O) fa H (NN g.F fa P) fa H:=jE fun b=>NN.mono B
 exact#[P,B,hs.nodup I.nd,SlR.go c (fun _ _ _ z=>z) S,fun b hb=>I.fr b (B b hb),I.st,I.tr,I.ff,I.fd.car c fun _ _=>rfl,fun b z y=>I.nf b z (B b y)]
def iE {P:vL_}(h:∀b∈P,b∈O):StE fa O H fa P H:=#[h,.inl rfl,fun _ _ e _=>e,fun _ e=>e]
def NewL.put (L:NewL K g σ H fa O s p xs ds) (i:Nat) (hi:i<s.sl.length) (B:g.H0 p=none) (hp:p ∉ O):∃P,(∀b∈P,b=p\/b∈O)/\GI K g (σ.set i (some (.ref p))) H fa P { s with sl:=s.sl.set i (.own ds) }:=by
 obtain⟨P,h1,h2,S⟩:=SlR.putN i L.sl hi hp L.gi.nd L.ls L.rs;have c:Car K (fun b=>NN g.F fa O b\/b=p) fa H (NN g.F fa P) fa H:=jE fun b z=>by
  rcases z with z | z | z
  .exact .inl (.inl z)
  .rcases h1 b z with y | y
   .exact .inr y
   .exact .inl (.inr (.inl y))
  .exact .inl (.inr (.inr z))
 refine#[P,h1,h2,SlR.go c (fun _ _ _ z=>z) S,fun b hb=>?_,L.gi.st,L.gi.tr,L.gi.ff,L.fd.car c fun _ _=>rfl,fun b z hb=>?_]
 .rcases h1 b hb with y | y
  .rw[y];exact B
  .exact L.gi.fr b y
 .rcases h1 b hb with y | y
  .rw[y] at z;exact L.nf z
  .exact L.gi.nf b z y
theorem DI.rew (I:GI K g σ H fa O s) {es:vD_}(U:s.sl[i]? = some (.own ds)) (J:σ[i]? = some (some (.ref a))) (m:a∈O) (W:H a=some (.lst xs)) (r:Reps K (NN g.F fa O) fa H es ys) :
  GI K g σ (f9 H a (.lst ys)) fa O { s with sl:=s.sl.set i (.own es) }/\Stp fa O H fa O (f9 H a (.lst ys)):=by
 have B:Stp fa O H fa O (f9 H a (.lst ys)):=#[fun b hb=>.inl hb,.inl rfl,fun b u e n _=>by
  rw[n9 (show b≠a from fun z=>n (by rw[z];exact m))];exact e,fun b z=>by
  by_cases hb:b=a
  .subst hb;rw[v8] at z;cases z
  .rw[n9 hb] at z;exact z]
 have c:=I.car B;have k:∀b u,b≠a->H b=some u->f9 H a (.lst ys) b=some u:=fun b u n e=>by rw[n9 n];exact e
 refine#[#[I.nd,SlR.rew I.sl I.nd (fun b hb=>.inr (.inl hb)) U J v8 c k (Reps.go c es ys r),I.fr,?_,I.tr,I.ff,I.fd.car c fun b hb=>?_,I.nf],B]
 .refine#[fun b hb=>(by cases hb),I.st.fe,fun b u e n f=>?_,fun b z=>I.st.mon b (B.mon b z)];refine k b u (fun z=>?_) (I.st.same b u e n f);rw[z,I.fr a m] at e;cases e
 .refine n9 fun z=>?_
  subst z;exact I.nf _ hb m
end
def FlK.shift {K:vF_}{E:Ends}{O':vL_}{s:DS}(a:Stp fa O H fa' O' H') (h:FlK K g E fa O H fl s):FlK K g E fa' O' H' fl s:=by
 cases fl with
 |next=>exact fun σ' H2 U B W J=>h σ' H2 U B (a.trans W) J
 |brk=>exact fun σ' H2 U B W J=>h σ' H2 U B (a.trans W) J
 |cont=>exact fun σ' H2 U B W J=>h σ' H2 U B (a.trans W) J
 |ret d=>exact fun σ' v H2 U B W J=>h σ' v H2 U B (a.trans W) J
 |thr c ds=>exact fun σ' C Y Z xs H2 U B W J=>h σ' C Y Z xs H2 U B (a.trans W) J
def p7:DM:=fun s=>some (.next,s)
def B2 (b:DM) (x:Fl × DS):Option (Fl × DS):=match x.1 with
 |.next=>b x.2
 |.brk=>some (.brk,x.2)
 |.cont=>some (.cont,x.2)
 |.ret d=>some (.ret d,x.2)
 |.thr c ds=>some (.thr c ds,x.2)
noncomputable def f6 (a b:DM):DM:=fun s=>(a s).bind (B2 b)
section
variable {st:Stmt}{rest:List Stmt}{pos:Pos}{a b:DM}{f:DE}
def cR:SSO X g [] p7:=SSO.w xY fun E σ H B=>by
 refine B.elim fun fa O s fl s' I e k=>?_
 cases e;exact k σ H fa O Stp.refl I
def G9 (h:SO X g st a):SSO X g [st] a:=#[Bg h.pe]
def v3 (h:SO X g st a) (W:SSO X g rest b):SSO X g (st::rest) (f6 a b):=SSO.w (HC h.pe W.pe) fun E σ H J=>by
 refine J.elim fun fa O s fl s' I e k=>?_
 refine v6 e fun f1 s1 h1 h2=>?_
 refine#[fa,O,s,f1,s1,I,h1,?_];cases f1 with
 |next=>exact fun σ' H' f1 O1 U B=>#[f1,O1,s1,fl,s',B,h2,k.shift U]
 |brk=>cases h2;exact k
 |cont=>cases h2;exact k
 |ret d=>cases h2;exact k
 |thr c ds=>cases h2;exact k
noncomputable def j5 (f:DE):DM:=fun s=>(f s).map fun x=>(.ret x.1,x.2)
def O5 (W:EO X g e f):SO X g (.Return (some e) pos) (j5 f):=SO.w (Hh W.pe) fun E σ H J=>by
 refine J.elim fun fa O s fl s' I q k=>?_
 refine mapP q fun d s1 h1 h2=>?_
 cases h2;exact#[fa,O,s,d,s1,I,h1,fun v H' f1 O1 U B r=>k σ v H' f1 O1 U.stp B r]
noncomputable def o0 (c:DT) (a b:DM):DM:=fun s=>(c s).bind fun x=>if x.1=true then a x.2 else b x.2
def bN (W:TO X g c fc) (ha:SSO X g la a) (hb:SSO X g lb b):SO X g (.If c la lb pos) (o0 fc a b):=SO.w (Gf W.pe ha.pe hb.pe) fun E σ H U=>by
 refine U.elim fun fa O s fl s' I e k=>?_
 refine v6 e fun x s1 h1 h=>?_
 refine#[fa,O,s,x,s1,I,h1,fun H1 f1 O1 J B=>?_];cases x with
 |false=>rw[fI Io] at h ⊢;exact#[f1,O1,s1,fl,s',B,h,k.shift J.stp]
 |true=>rw[fx rfl] at h ⊢;exact#[f1,O1,s1,fl,s',B,h,k.shift J.stp]
def liftG (K:vF_) (g:Gh) (t:D->DS->Option DS):TG:=fun v σ H Q=>∃fa O s d s',GI K g σ H fa O s/\Rep K (NN g.F fa O) fa H d v/\t d s=some s'/\∀σ' H' fa' O',Stp fa O H fa' O' H'->GI K g σ' H' fa' O' s'->Q σ' H'
def liftGs (K:vF_) (g:Gh) (t:List D->DS->Option DS):V0:=fun B σ H Q=>∃fa O s ds s',GI K g σ H fa O s/\Reps K (NN g.F fa O) fa H ds B/\t ds s=some s'/\∀σ' H' fa' O',Stp fa O H fa' O' H'->GI K g σ' H' fa' O' s'->Q σ' H'
section
variable {K:vF_}{σ:L2.St}{Q:L2.St->Hp->Prop}
def liftG.elim {t:D->DS->Option DS}{v:V}(h:liftG K g t v σ H Q) (k:∀fa O s d s',GI K g σ H fa O s->Rep K (NN g.F fa O) fa H d v->t d s=some s'->(∀σ' H' fa' O',Stp fa O H fa' O' H'->GI K g σ' H' fa' O' s'->Q σ' H')->G):G:=by
 obtain⟨fa,O,s,d,s',a,r,b,c⟩:=h;exact k fa O s d s' a r b c
def liftGs.elim {t:List D->DS->Option DS}{v:List V}(h:liftGs K g t v σ H Q) (k:∀fa O s d s',GI K g σ H fa O s->Reps K (NN g.F fa O) fa H d v->t d s=some s'->(∀σ' H' fa' O',Stp fa O H fa' O' H'->GI K g σ' H' fa' O' s'->Q σ' H')->G):G:=by
 obtain⟨fa,O,s,d,s',a,r,b,c⟩:=h;exact k fa O s d s' a r b c
end
structure GO (X:Cx) (g:Gh) (e:Expr) (t:D->DS->Option DS):Prop where
 pe:PG X e (liftG X.K g t)
structure GsO (X:Cx) (g:Gh) (es:List Expr) (t:List D->DS->Option DS):Prop where
 pe:aM X es (liftGs X.K g t)
def e7 (i:Nat) (d:D):DS->Option DS:=fun s=>some { s with sl:=s.sl.set i (.v d) }
def HA {t t':TG}(h:PG X e t) (w:∀v σ H Q,t' v σ H Q->t v σ H Q):PG X e t':=fun pins s σ H v u Q I r q=>h pins s σ H v u Q I r (w v σ H Q q)
def Gn {t t':V0}(h:aM X es t) (w:∀v σ H Q,t' v σ H Q->t v σ H Q):aM X es t':=fun pins s σ H v u Q I r q=>h pins s σ H v u Q I r (w v σ H Q q)
theorem GO.w {f:D->DS->Option DS}{t:TG}(h:PG X e t) (w:∀v σ H Q,liftG X.K g f v σ H Q->t v σ H Q):GO X g e f:=#[HA h w]
theorem GsO.w {f:List D->DS->Option DS}{t:V0}(h:aM X es t) (w:∀v σ H Q,liftGs X.K g f v σ H Q->t v σ H Q):GsO X g es f:=#[Gn h w]
def Hx (h:PG X (.Name x pos) (T3 i)):GO X g (.Name x pos) (e7 i):=GO.w h fun v σ H Q J=>by
 refine J.elim fun fa O s d s' I r e k=>?_
 cases e;obtain⟨P,B,U⟩:=I.put i r;exact k _ H fa P (iE B).stp U
def A1:List D->DS->Option DS
 |[],s=>some s
 |_::_,_=>none
def t6 (t:D->DS->Option DS) (u:List D->DS->Option DS):List D->DS->Option DS
 |[],_=>none
 |d::r,s=>(t d s).bind (u r)
def BT:GsO X g [] A1:=GsO.w kL fun v σ H Q B=>by
 refine B.elim fun fa O s ds s' I r e k=>?_
 cases ds with
 |nil=>cases e;simp only[Reps] at r;exact#[r,k σ H fa O Stp.refl I]
 |cons d J=>cases e
def Dq {es:List Expr}{t:D->DS->Option DS}(h:GO X g e t) (hr:GsO X g es u) (hs:(assignEach (e::es) X.env).map (·.2)=assign e X.env::(assignEach es X.env).map (·.2):=by rfl):GsO X g (e::es) (t6 t u):=
 GsO.w (fH h.pe hr.pe hs) fun v σ H Q Y=>by
  refine Y.elim fun fa O s ds s' I r e k=>?_
  cases ds with
  |nil=>cases e
  |cons d r'=>
   refine G7 e fun s1 h1 h2=>?_
   simp only[Reps] at r;obtain⟨x,ys,rfl,rx,W⟩:=r;exact#[x,ys,rfl,fa,O,s,d,s1,I,rx,h1,fun σ1 H1 f1 O1 B J=>#[f1,O1,s1,r',s',J,Reps.stp I B W,h2,fun σ2 H2 f2 U Z I2=>k σ2 H2 f2 U (B.trans Z) I2]]
def w8 (n:Nat) (u:List D->DS->Option DS) (d:D) (s:DS):Option DS:=match d with
 |.tup ds=>if ds.length=n then u ds s else none
 |_=>none
def xm {es:List Expr}{k:Nat}{n:Nat}(W:X.calm=true) (h:GsO X g es u) (U:(assignEach es X.env).length=n:=by rfl) (B:(assignEach es X.env).findIdx? (·.1)=none:=by rfl):GO X g (.Tuple es k pos) (w8 n u):=
 GO.w (lX W h.pe U B) fun v σ H Q J=>by
  refine J.elim fun fa O s d s' I r e k=>?_
  cases d with
  |tup ds=>
   simp only[w8] at e;by_cases hl:ds.length=n
   .rw[fx hl] at e;simp only[Rep] at r;obtain⟨a,xs,rfl,q,w⟩:=r;exact#[a,xs,rfl,q,by rw[w.length];exact hl,fa,O,s,ds,s',I,w,e,k]
   .rw[fI hl] at e;cases e
  |_=>cases e
noncomputable def i8 (f:DE) (t:D->DS->Option DS):DM:=fun s=>(f s).bind fun x=>(t x.1 x.2).map fun s'=>(.next,s')
def tV {f:DE}{t:D->DS->Option DS}(E:Ends) (σ:L2.St) (H:Hp) (h:liftS X.K g (i8 f t) E σ H):dF (liftE X.K g f) (liftG X.K g t) E σ H:=by
 obtain⟨fa,O,s,fl,s',I,q,k⟩:=h;refine v6 q fun d s1 h1 h2=>?_
 refine J9 h2 fun s2 Y h4=>?_
 cases h4;exact#[fa,O,s,d,s1,I,h1,fun v H1 f1 O1 U B r=>#[f1,O1,s1,d,_,B,r,Y,fun σ2 H2 f2 J W Z=>k σ2 H2 f2 J (U.stp.trans W) Z]]
def Aw {tg:Expr}{t:D->DS->Option DS}(U:EO X g e f) (J:GO X g tg t) (hs:swapsWithSole [tg] e pos.line X.env=pure false:=by rfl) (B:swappedStores [tg] e X.env=pure none:=by rfl)
  (h1:(assignEach [tg] X.env).map (·.2)=[assign tg X.env]:=by rfl):SO X g (.Assign [tg] e pos) (i8 f t):=SO.w (kT U.pe J.pe hs B h1) tV
def uU {i:Nat}{x:Str}{pos':Pos}(Z:X.N.Nodup) (hi:X.N[i]? = some x) (hx:Loc X.env.scope x) (he:EO X g e f) (hs:swapsWith e (some (.Name x pos')) pos.line X.env=pure false:=by rfl) (U:X.fn x=true\/X.env.scope.names.lookup x=some .local:=by first | exact .inl rfl | exact .inr rfl | assumption) :
  SO X g (.Assign [.Name x pos'] e pos) (i8 f (e7 i)):=SO.w (hV Z hi hx he.pe hs U) fun E σ H h=>by
 obtain⟨fa,O,s,d,s1,I,h1,k⟩:=tV E σ H h;refine#[fa,O,s,d,s1,I,h1,fun v H1 f1 O1 W J r=>?_];obtain⟨f2,O2,s2,d2,s3,I2,r2,e2,Y⟩:=k v H1 f1 O1 W J r;cases e2;obtain⟨P,B,I'⟩:=I2.put i r2;exact Y _ H1 f2 P (iE B).stp I'
noncomputable def G6 (i:Nat) (f:DA):DM:=fun s=>(f s).bind fun x=>if i<x.2.sl.length then some (.next,{ x.2 with sl:=x.2.sl.set i (.own x.1) }) else none
def ya {i:Nat}{x:Str}{f:DA}{pos':Pos}(W:X.N.Nodup) (hi:X.N[i]? = some x) (Y:Loc X.env.scope x) (Z:FO X g e f) (hs:swapsWith e (some (.Name x pos')) pos.line X.env=pure false:=by rfl) (J:X.fn x=true\/X.env.scope.names.lookup x=some .local:=by first | exact .inl rfl | exact .inr rfl | assumption) :
  SO X g (.Assign [.Name x pos'] e pos) (G6 i f):=SO.w (hV W hi Y Z.pe hs J) fun E σ H hQ=>by
 refine hQ.elim fun fa O s fl s' I q k=>?_
 refine v6 q fun ds s1 h1 h2=>?_
 by_cases hl:i<s1.sl.length
 .simp only[] at h2;rw[fx hl] at h2;cases h2;refine#[fa,O,s,ds,s1,I,h1,fun p xs H1 f1 O1 B L hp=>?_];have np:p ∉ O1:=fun z=>by
   obtain⟨ys,e⟩:=I.owned (B.sub p z);rw[hp] at e;cases e
  obtain⟨P,sub,U⟩:=L.put i hl (I.st.mon p hp) np;refine k _ H1 f1 P #[fun b hb=>?_,B.fe,fun b u e _ n=>B.same b u e n,B.mon] U;rcases sub b hb with y | y
  .exact .inr (by rw[y];exact hp)
  .exact .inl (B.sub b y)
 .simp only[] at h2;rw[fI hl] at h2;cases h2
noncomputable def K7 (i:Nat) (f:DE):DM:=fun s=>match s.sl[i]? with
 |some (.own _)=>(f s).bind fun x=>match x.2.sl[i]? with
  |some (.own ds)=>if ds.length<sizeLine then some (.next,{ x.2 with sl:=x.2.sl.set i (.own (ds++[x.1])) }) else none
  |_=>none
 |_=>none
def yC {i:Nat}{x:Str}{p1 p2 Z p4:Pos}(hv:PE X (.Name x p1) (M1 i)) (he:EO X g e f) (J:attributeBase (.Name x p1) ("append" : Str) X.env (eval (.Name x p1) X.env)=eval (.Name x p1) X.env:=by rfl)
  (hfew:((backTo Z (starEach [e] X.env)).all (fun x=>!x.1)&&(backToKw Z (keywordEach [] X.env)).all (fun x=>x.1.isSome)
   && decide ([e].length+([]:List Keyword).length+(if ([]:List Keyword).isEmpty then 0 else 1)<30))=true:=by rfl)
  (W:(p2.endLine == Z.line)=true:=by rfl) (hs:starEach [e] X.env=(false,eval e X.env)::starEach [] X.env:=by rfl) (B:(backTo Z (starEach [] X.env)).any (·.1)=false:=by rfl)
  (hsw:swapsWith (.Call (.Attribute (.Name x p1) ("append" : Str) p2) [e] [] Z) none p4.line X.env=pure false:=by rfl) :
  SO X g (.Expr (.Call (.Attribute (.Name x p1) ("append" : Str) p2) [e] [] Z) p4) (K7 i f):=
 SO.w (CM (CQ PySem.F.plainAttrs_list PySem.F.slot_list_append PySem.F.type_list_append sL hv (U8 he.pe X7 hs) J hfew W hs B) hsw) fun E σ H hQ=>by
  refine hQ.elim fun fa O s fl s' I q k=>?_
  cases Y:s.sl[i]? with
  |none=>simp only[K7,Y] at q;cases q
  |some z=>
  cases z with
  |no=>simp only[K7,Y] at q;cases q
  |dct _=>simp only[K7,Y] at q;cases q
  |v _=>simp only[K7,Y] at q;cases q
  |own ds0=>
  simp only[K7,Y] at q;obtain⟨a,xs0,e1,m,e2,_⟩:=SlR.own I.sl Y;refine v6 q fun d s1 h1 h2=>?_
  cases U:s1.sl[i]? with
  |none=>simp only[U] at h2;cases h2
  |some z=>
   cases z with
   |no=>simp only[U] at h2;cases h2
   |dct _=>simp only[U] at h2;cases h2
   |v _=>simp only[U] at h2;cases h2
   |own ds=>
    simp only[U] at h2;by_cases hl:ds.length<sizeLine
    .rw[fx hl] at h2;cases h2;refine#[_,e1,.inl #[rfl,xs0,SqL.of e2],fa,O,s,d,s1,I,h1,fun v H1 f1 O1 a1 I1 r=>?_];obtain⟨b,xs,e3,m1,e4,r1⟩:=SlR.own I1.sl U;rw[e1] at e3;cases e3;obtain⟨I2,a2⟩:=I1.rew U e1 m1 e4 (Reps.append r1 (Reps.one r));exact#[a,xs,v,rfl,rfl,e4,by rw[r1.length];exact hl,k σ _ f1 O1 (a1.stp.trans a2) I2]
    .rw[fI hl] at h2;cases h2
end
noncomputable def A2 (t:D->DS->Option DS) (b:DM):List D->DS->Option (Fl × DS)
 |[],s=>some (.next,s)
 |d::r,s=>(t d s).bind fun s1=>(b s1).bind fun x=>match x.1 with
  |.next=>A2 t b r x.2
  |.cont=>A2 t b r x.2
  |.brk=>some (.next,x.2)
  |.ret v=>some (.ret v,x.2)
  |.thr c ds=>some (.thr c ds,x.2)
def U1 (K:vF_) (g:Gh) (f1:vA_) (O1:vL_) (H1:Hp) (t:D->DS->Option DS) (b:DM) (ds:vD_) (fl:Fl) (sf:DS) (i:Nat):L2.St->Hp->Prop:=fun σ' H'=>
 ∃fa' O' s',Stp f1 O1 H1 fa' O' H'/\GI K g σ' H' fa' O' s'/\A2 t b (ds.drop i) s'=some (fl,sf)
section
variable {K:vF_}{f1:vA_}{O1:vL_}{H1:Hp}{t:D->DS->Option DS}{b:DM}{fl:Fl}{sf:DS}{E:Ends}{σ':L2.St}
def we {α:Type}{l:List α}{d:α}(h:l[i]? = some d):l.drop i=d::l.drop (i+1):=by
 obtain⟨hi,e⟩:=IK.mp h;rw[List.drop_eq_getElem_cons hi,e]
def dP (hk:FlK K g E f1 O1 H1 fl sf) {x:V}(hd:ds[i]? = some d) (hr:∀fa' O',Stp f1 O1 H1 fa' O' H'->Rep K (NN g.F fa' O') fa' H' d x) (h:U1 K g f1 O1 H1 t b ds fl sf i σ' H') :
  liftG K g t x σ' H' fun σ2 H2=>liftS K g b { E with nx:=U1 K g f1 O1 H1 t b ds fl sf (i+1),ct:=U1 K g f1 O1 H1 t b ds fl sf (i+1),bk:=E.nx } σ2 H2:=by
 obtain⟨fa',O',s',st,I,e⟩:=h;rw[we hd,A2] at e;refine G7 e fun s1 h1 h2=>?_
 refine v6 h2 fun fb s2 h3 h4=>?_
 refine#[fa',O',s',d,s1,I,hr fa' O' st,h1,fun σ2 H2 f2 O2 Z I2=>#[f2,O2,s1,fb,s2,I2,h3,?_]];cases fb with
 |next=>exact fun σ3 Y U B J W=>#[U,B,s2,st.trans (Z.trans J),W,h4]
 |cont=>exact fun σ3 Y U B J W=>#[U,B,s2,st.trans (Z.trans J),W,h4]
 |brk=>cases h4;exact fun σ3 Y U B J W=>hk σ3 Y U B (st.trans (Z.trans J)) W
 |ret v=>cases h4;exact fun σ3 v Y U B J W r=>hk σ3 v Y U B (st.trans (Z.trans J)) W r
 |thr c es=>cases h4;exact fun σ3 C dx od xs Y U B J W=>hk σ3 C dx od xs Y U B (st.trans (Z.trans J)) W
def eI (hk:FlK K g E f1 O1 H1 fl sf) (B:ds.length<=n) (h:U1 K g f1 O1 H1 t b ds fl sf n σ' H'):E.nx σ' H':=by
 obtain⟨fa',O',s',st,I,e⟩:=h;rw[Nv B,A2] at e;cases e;exact hk σ' H' fa' O' st I
end
noncomputable def M6 (f:DE) (t:D->DS->Option DS) (b:DM):DM:=fun s=>(f s).bind fun x=>match x.1 with
 |.lst ds=>A2 t b ds x.2
 |.tup ds=>A2 t b ds x.2
 |_=>none
section
variable {f:DE}{t:D->DS->Option DS}{b:DM}{pos:Pos}
def Gc (K:vF_) (tl:TE):TI:=fun σ H R=>tl σ H fun x H1=>∃a,x = .ref a/\(((∃xs,SqL K H1 a xs)/\R (dZ K a) H1)\/((∃xs,SqT K H1 a xs)/\R (dX K a) H1))
def sN {l:Expr}(hl:PE X l tl):PI X tg l (Gc X.K tl):=by
 intro pins s σ H R I h;refine n8 (hl pins s σ H _ I h) fun v s1 ⟨x,H1,B,Y,W⟩=>?_
 obtain⟨a,e,q⟩:=W;subst e;cases Y;rcases q with ⟨⟨xs,J⟩,q⟩ | ⟨⟨xs,J⟩,q⟩
 .obtain⟨its,U,p,Z⟩:=B.list J;refine wpAny_pyIter_list p.isList ?_;refine#[s1.heap.objs.size,[s1.heap.objs.size],_,_,H1,rfl,B.kept (t':=s1.toks) fun b o e=>Ii _ e,xj a _,#[_,ID _ rfl,rfl,rfl],fun b hb=>?_,q];have e:b=s1.heap.objs.size:=by simpa using hb
  subst e;exact B.fpOk (tx _) (B.hok.fresh (tx _))
 .obtain⟨its,U,p,Z⟩:=B.tuple J;refine wpAny_pyIter_tuple (show s1.heap.IsTuple a its.toArray from p) ?_;refine#[s1.heap.objs.size,[s1.heap.objs.size],_,_,H1,rfl,B.kept (t':=s1.toks) fun b o e=>Ii _ e,Gi a _,#[_,ID _ rfl,rfl,rfl],fun b hb=>?_,q];have e:b=s1.heap.objs.size:=by simpa using hb
  subst e;exact B.fpOk (tx _) (B.hok.fresh (tx _))
def bo (hp:PassesOwn (model X.prog X.w) X.A X.env X.xe) (hc:X.calm=true) (he:EO X g iter f) (hg:GO X g tg t) (hb:SSO X g body b) (hs:∀x,foldedSetIterable iter X.env x=pure x:=by intro _;rfl) :
  SO X g (.For tg iter body [] pos) (M6 f t b):=SO.w (gW hp hc (sN he.pe) hg.pe hb.pe hs) fun E σ H hQ=>by
 refine hQ.elim fun fa O s fl sf I q k=>?_
 refine v6 q fun d s1 h1 h2=>?_
 refine#[fa,O,s,d,s1,I,h1,fun v H1 f1 O1 Z B r=>?_];have J:=k.shift Z.stp;cases d with
 |lst ds=>
  simp only[Rep] at r;obtain⟨a,xs,rfl,na,q,w⟩:=r;refine#[a,rfl,.inl #[#[xs,SqL.of q],yG (xs:=xs) (U1 X.K g f1 O1 H1 t b ds fl sf) #[f1,O1,s1,Stp.refl,B,h2] ?_ ?_ ?_]]
  .rintro i σ' H' _ ⟨fa',O',s',st,I',e⟩;exact SqL.of ((B.car st).ls a xs na q).1
  .intro i x σ' H' Y h;obtain⟨d,U,W⟩:=Reps.get' w Y;exact dP J U (fun fa' O' st=>Rep.stp B st W) h
  .intro σ' H' h;exact eI J (LQ w.length.symm) h
 |tup ds=>
  simp only[Rep] at r;obtain⟨a,xs,rfl,q,w⟩:=r;refine#[a,rfl,.inr #[#[xs,q],fE (xs:=xs) (U1 X.K g f1 O1 H1 t b ds fl sf) #[f1,O1,s1,Stp.refl,B,h2] ?_ ?_ ?_]]
  .rintro i σ' H' _ ⟨fa',O',s',st,I',e⟩;exact(B.car st).tp a xs q
  .intro i x σ' H' Y h;obtain⟨d,U,W⟩:=Reps.get' w Y;exact dP J U (fun fa' O' st=>Rep.stp B st W) h
  .intro σ' H' h;exact eI J (LQ w.length.symm) h
 |_=>cases h2
def B7 (lo:Int) (n:Nat):List D:=(List.range n).map fun (i:Nat)=>D.int (lo+(i:Int))
def mQ {lo:Int}(h:i<n):(B7 lo n)[i]? = some (.int (lo+(i:Int))):=by simp[B7,h]
def cT (lo:Int) (n:Nat):(B7 lo n).length=n:=by simp[B7]
def T7:List D->Option (List D)
 |[.int j]=>if -(2 ^ 62)<=j/\j<2 ^ 62 then some (B7 0 j.toNat) else none
 |[.int i,.int j]=>if -(2 ^ 62)<=i/\i<2 ^ 62 /\ -(2 ^ 62)<=j/\j<2 ^ 62 then some (B7 i (j - i).toNat) else none
 |_=>none
noncomputable def aZ (f:DA) (t:D->DS->Option DS) (b:DM):DM:=fun s=>(f s).bind fun x=>(T7 x.1).bind fun ds=>A2 t b ds x.2
def vJ {es:vD_}(h:T7 ds=some es) (l:ds=[a]):∃j:Int,a = .int j /\ -(2 ^ 62)<=j/\j<2 ^ 62/\es=B7 0 j.toNat:=by
 subst l;cases a with
 |int j=>
  have h:(if -(2 ^ 62)<=j/\j<2 ^ 62 then some (B7 0 j.toNat) else none)=some es:=h;by_cases B:-(2 ^ 62)<=j/\j<2 ^ 62
  .rw[fx B] at h;cases h;exact#[j,rfl,B.1,B.2,rfl]
  .rw[fI B] at h;cases h
 |_=>cases h
def vc {fa:DE}(hp:PassesOwn (model X.prog X.w) X.A X.env X.xe) (hc:X.calm=true) (J:Gl X "range") (hm:X.mg "range" = none) (ha:EO X g a fa) (hg:GO X g tg t) (hb:SSO X g body b)
  (B:starEach [a] X.env=[(false,eval a X.env)]:=by rfl) (hs:∀x,foldedSetIterable (.Call (.Name "range" p) [a] [] cpos) X.env x=pure x:=by intro _;rfl) :
  SO X g (.For tg (.Call (.Name "range" p) [a] [] cpos) body [] pos) (aZ (a0 fa b9) t b):=
 SO.w (gW hp hc (rm J hm (lT ha bR B).pe B) hg.pe hb.pe hs) fun E σ H hQ=>by
  refine hQ.elim fun fa O s fl sf I q k=>?_
  refine v6 q fun ds s1 h1 h2=>?_
  refine G7 h2 fun es h3 h4=>?_
  obtain⟨d,s2,rs,e1,e2,W⟩:=dR h1;cases e2;obtain⟨j,rfl,j1,Y,rfl⟩:=vJ h3 W;refine#[fa,O,s,ds,s1,I,h1,fun vs H1 f1 O1 Z I1 r=>?_];have U:=k.shift Z.stp;rw[W] at r;simp only[Reps,Rep] at r;obtain⟨x,ys,rfl,rfl,rfl⟩:=r;refine#[j,rfl,j1,Y,HF (lo:=0) (n:=j.toNat) (U1 X.K g f1 O1 H1 t b (B7 0 j.toNat) fl sf) #[f1,O1,s1,Stp.refl,I1,h4] ?_ ?_]
  .intro i σ' H' hi h;exact dP U (mQ hi) (fun fa' O' st=>by simp only[Rep]) h
  .intro σ' H' h;exact eI U (by rw[cT];exact tx _) h
def L3 (c:DT) (b:DM):Nat->DS->Option (Fl × DS)
 |0,_=>none
 |n+1,s=>(c s).bind fun x=>if x.1=true then (b x.2).bind fun y=>match y.1 with
   |.next=>L3 c b n y.2
   |.cont=>L3 c b n y.2
   |.brk=>some (.next,y.2)
   |.ret v=>some (.ret v,y.2)
   |.thr c ds=>some (.thr c ds,y.2)
  else some (.next,x.2)
open Classical in
def O0 (c:DT) (b:DM):DM:=fun s=>if h:∃n r,L3 c b n s=some r then L3 c b h.choose s else none
theorem lg {c:DT}{b:DM}:∀(n:Nat) {s:DS}{r:Fl × DS},L3 c b n s=some r->L3 c b (n+1) s=some r
 |0,s,r,h=>by cases h
 |n+1,s,r,h=>by
  rw[L3] at h ⊢;refine v6 h fun x s1 h1 h2=>?_
  refine Kp.mpr #[(x,s1),h1,?_];cases x with
  |false=>exact h2
  |true=>
   simp only[IC] at h2 ⊢;refine v6 h2 fun y s2 B h4=>?_
   refine Kp.mpr #[(y,s2),B,?_];cases y with
   |next=>exact lg n h4
   |cont=>exact lg n h4
   |brk=>exact h4
   |ret v=>exact h4
   |thr c ds=>exact h4
def tX {c:DT}{b:DM}{m:Nat}(B:n<=m) {s:DS}(h:L3 c b n s=some r):L3 c b m s=some r:=by
 induction B with
 |refl=>exact h
 |step _ J=>exact lg _ J
def pR {c:DT}{b:DM}{s:DS}(h:L3 c b n s=some r):O0 c b s=some r:=by
 have B:∃n r,L3 c b n s=some r:=#[n,r,h]
 unfold O0;rw[dif_pos B];obtain⟨W,h'⟩:=B.choose_spec;have U:=tX (Nat.le_max_left n B.choose) h;have J:=tX (Nat.le_max_right n B.choose) h';rw[U] at J;rw[h',J]
def vX {c:DT}{b:DM}{s:DS}(h:O0 c b s=some r):∃n,L3 c b n s=some r:=by
 unfold O0 at h;by_cases B:∃n r,L3 c b n s=some r
 .rw[dif_pos B] at h;exact#[_,h]
 .rw[dif_neg B] at h;cases h
def kH {c:DT}{b:DM}{s:DS}(h1:c s=some (true,s1)) (h2:b s1=some (.next,s2)) (B:O0 c b s2=some r):O0 c b s=some r:=by
 obtain⟨n,h⟩:=vX B;refine pR (n:=n+1) ?_;rw[L3,h1];simp only[td,IC,h2];exact h
def gm {c:DT}{b:DM}{s:DS}(h1:c s=some (false,s1)):O0 c b s=some (.next,s1):=by
 refine pR (n:=1) ?_;rw[L3,h1];simp
def ur (hp:PassesOwn (model X.prog X.w) X.A X.env X.xe) (hc:TO X g c fc) (hb:SSO X g body b):SO X g (.While c body [] pos) (O0 fc b):=SO.w (Av hp hc.pe hb.pe) fun E σ H hQ=>by
 refine hQ.elim fun fa O s fl sf I q k=>?_
 obtain⟨n,h⟩:=vX q;refine#[fun m σ' H'=>∃fa' O' s',Stp fa O H fa' O' H'/\GI X.K g σ' H' fa' O' s'/\L3 fc b m s'=some (fl,sf),#[n,fa,O,s,Stp.refl,I,h],?_];rintro m σ1 H1 ⟨f1,O1,s1,a1,I1,h1⟩;cases m with
 |zero=>cases h1
 |succ m=>
  rw[L3] at h1;refine v6 h1 fun x s2 h2 h3=>?_
  refine#[f1,O1,s1,x,s2,I1,h2,fun H2 f2 O2 a2 I2=>?_];cases x with
  |false=>rw[fI Io] at h3 ⊢;cases h3;exact k σ1 H2 f2 O2 (a1.trans a2.stp) I2
  |true=>
   rw[fx rfl] at h3 ⊢;refine v6 h3 fun y s3 h4 h5=>?_
   refine#[fun σ' H'=>∃fa' O' s',Stp fa O H fa' O' H'/\GI X.K g σ' H' fa' O' s'/\L3 fc b m s'=some (fl,sf),fun σ' H' z=>#[m,Nat.lt_succ_self m,z],f2,O2,s2,y,s3,I2,h4,?_];have B:=a1.trans a2.stp;cases y with
   |next=>exact fun σ3 Z U J Y W=>#[U,J,s3,B.trans Y,W,h5]
   |cont=>exact fun σ3 Z U J Y W=>#[U,J,s3,B.trans Y,W,h5]
   |brk=>cases h5;exact fun σ3 Z U J Y W=>k σ3 Z U J (B.trans Y) W
   |ret v=>cases h5;exact fun σ3 v Z U J Y W r=>k σ3 v Z U J (B.trans Y) W r
   |thr c es=>cases h5;exact fun σ3 C dx od xs Z U J Y W=>k σ3 C dx od xs Z U J (B.trans Y) W
end
abbrev a9:=List D->Option FS->Option (D × Option FS)
variable {m m00 m01:a9}{tab:List (PySem.Str × a9)}
def cM (K:vF_) (n:Nat) (m:a9):Sp:=fun B H Q _=>∃(F:vB_) (fa:vA_) (ds:vD_) (fs:vO_) (d:D) (fs':vO_),
 (∀b,F b->H b≠none)/\(∀a,fa=some a->F a)/\Reps K F fa H ds B/\FeedR F H fa fs/\m ds fs=some (d,fs')/\ds.length=n /\
  ∀v H' fa',Stp fa [] H fa' [] H'->FeedR (fun b=>F b\/fa'=some b) H' fa' fs'->Rep K (fun b=>F b\/fa'=some b) fa' H' d v->Q v H'
abbrev eJ (P:Program) (w:World) (K:vF_) (mg:vG_) (base:Heap) (k:Nat) (f:Addr) (fd:FuncData) (ps:List Str) (m:a9):Prop:=FnOk P w K mg base T8 k f fd ps (cM K ps.length m)
noncomputable def t7 (n:Nat) (b:DM):a9:=fun ds fs=>(b #[ds.map .v++List.replicate (n - ds.length) .no,fs]).bind fun x=>match x.1 with
 |.ret d=>some (d,x.2.fs)
 |.next=>some (.non,x.2.fs)
 |_=>none
theorem sI {K:vF_}:∀n:Nat,SlR K N fa H (List.replicate n .no) (List.replicate n none) []
 |0=>by simp[SlR]
 |n+1=>by
  simp only[Ko,SlR];exact#[_,_,rfl,sI n]
theorem rS {K:vF_}:∀{ds:vD_}{vs:List V},Reps K N fa H ds vs->SlR K N fa H (ds.map .v++List.replicate n .no) (vs.map some++List.replicate n none) []
 |[],vs,h=>by simp only[Reps] at h;subst h;simpa using sI n
 |d::r,vs,h=>by
  simp only[Reps] at h;obtain⟨x,ys,rfl,h1,h2⟩:=h;simp only[Iv,MG,SlR];exact#[x,_,rfl,h1,rS h2]
section
variable {P:Program}{w:World}{K:vF_}
def nR {st:Stmt}{f:Addr}{N ps:List Str}{b:DM}(F:Fun K x qual st f fd) (S:FnScope N ps (D5 st))
  (J:∀(cdv:Value) (A:Around) (outer:List Env) (s:Shared) (H:Hp) (E:XK) (g:Gh),Room k (A.deeper (PyProof.Rows.envOfC qual (D5 st) s.heap.objs.size f cdv))->SSO (W5 T8 P w K mg base N qual (D5 st) f cdv A outer s H E).nox g (Q1 st) b) :
  eJ P w K mg base (k+1) f fd ps (t7 N.length b):=by
 refine F.ok S (fun U H Q E h=>?_) (fun cdv A outer s H U Q E hr h=>?_)
 .obtain⟨F,fa,ds,fs,d,fs',_,_,r,_,_,hl,_⟩:=h;rw[r.length];exact hl
 obtain⟨F,fa,ds,fs,d,fs',tr,ff,r,fd,e,hl,q⟩:=h;refine#[_,(J cdv A outer s H E #[F,H,fa,fun _=>E0] hr).pe,?_];refine v6 e fun fl s' h1 h2=>?_
 have hN:∀b,NN F fa [] b->F b:=fun b z=>by
  rcases z with z | z | z
  .exact z
  .cases z
  .exact ff b z
 have c:Car K F fa H (NN F fa []) fa H:=#[fun b xs n q=>#[q,fun z=>n (hN b z)],fun _ _ q=>q,fun _ _ q=>q,fun _ q=>q]
 have el:(L2.start N U)=U.map some++List.replicate (N.length - ds.length) none:=by rw[L2.start,r.length]
 have I:GI K #[F,H,fa,fun _=>E0] (L2.start N U) H fa [] #[ds.map .v++List.replicate (N.length - ds.length) .no,fs]:=by
  refine#[LS,?_,fun b hb=>(by cases hb),Stp.refl,tr,ff,fd.car c fun _ _=>rfl,fun _ _ z=>(by cases z)];rw[el];exact rS (Reps.go c ds U r)
 have W:∀{fa':vA_}{O':vL_}{H':Hp}{σ':L2.St}{v:V}{dd:D},Stp fa [] H fa' O' H'->GI K #[F,H,fa,fun _=>E0] σ' H' fa' O' s'->Rep K (NN F fa' O') fa' H' dd v->dd=d->s'.fs=fs'->Q v H':=by
  intro fa' O' H' σ' v dd B Y Z e1 e2;subst e1;subst e2;have c1:Car K (NN F fa' O') fa' H' (fun b=>F b\/fa'=some b) fa' H':=#[fun b xs n q=>#[q,fun z=>n (by
   rcases z with z | z
   .exact .inl z
   .exact .inr (.inr z))],fun _ _ q=>q,fun _ _ q=>q,fun _ q=>q]
  exact q v H' fa' #[fun b hb=>(by cases hb),B.fe,B.same,B.mon] (Y.fd.car c1 fun _ _=>rfl) (Rep.go c1 _ _ Z)
 refine#[fa,[],_,fl,s',I,h1,?_];cases fl with
 |next=>
  simp only[Jf,Iw] at h2;exact fun σ' H' fa' O' B Y=>W B Y (v:=.non) (dd:=.non) (by simp only[Rep]) h2.1 h2.2
 |ret dd=>
  simp only[Jf,Iw] at h2;exact fun σ' v H' fa' O' B Y Z=>W B Y Z h2.1 h2.2
 |brk=>cases h2
 |cont=>cases h2
 |thr _ _=>cases h2
end
noncomputable def d8 (m:a9) (f:DA):DE:=fun s=>(f s).bind fun x=>(m x.1 x.2.fs).map fun y=>(y.1,{ x.2 with fs:=y.2 })
section
variable {f:Addr}{ps:List Str}{p pos:Pos}{t:DA}
def oZ (hn:∀s ds s',t s=some (ds,s')->ds.length=n) (σ:L2.St) (H:Hp) (Q:VK) (h:liftE X.K g (d8 m t) σ H Q):rC (cM X.K n m) [] E0 (liftA X.K g t) σ H Q:=by
 obtain⟨fa,O,s,d,s',I,q,k⟩:=h;refine v6 q fun ds s1 h1 h2=>?_
 refine mapP h2 fun d1 Y h3 h4=>?_
 simp only[Iw] at h4;obtain⟨e1,e2⟩:=h4;subst e1;subst e2;refine#[fa,O,s,ds,s1,I,h1,fun vs H1 f1 O1 a1 B r=>?_];show cM X.K n m (vs++[]) H1 Q E0;rw[JR];refine#[NN g.F f1 O1,f1,ds,s1.fs,d1,Y,fun b hb=>B.nn_tracked hb,fun a ha=>.inr (.inr ha),r,B.fd,h3,hn s ds s1 h1,fun v H2 J U Z r2=>?_];have W:StE f1 O1 H1 J O1 H2:=#[fun b hb=>hb,U.fe,fun b u e n=>U.same b u e (by simp) n,U.mon]
 have c:=B.car W.stp;have c2:Car X.K (fun b=>NN g.F f1 O1 b\/J=some b) J H2 (NN g.F J O1) J H2:=#[fun b xs n q=>#[q,fun z=>n (by
   rcases z with z | z | z
   .exact .inl (.inl z)
   .exact .inl (.inr (.inl z))
   .exact .inr z)],fun _ _ q=>q,fun _ _ q=>q,fun _ q=>q]
 refine k v H2 J O1 (a1.trans W) #[B.nd,SlR.go c (fun b xs hb e=>?_) B.sl,B.fr,B.st.trans #[fun b hb=>(by cases hb),U.fe,fun b u e n z=>U.same b u e n z,U.mon],B.tr,B.ff,Z.car c2 fun _ _=>rfl,B.nf_step W.fe] (Rep.go c2 _ _ r2);exact W.same b _ e fun z=>B.nf b z hb
def Bo (F:eJ X.prog X.w X.K X.mg X.base k f fd ps m) (hr:Room k X.A) (Y:Gl X x) (hm:X.mg x=some (.ref f)) (hk:PySem.W.keepIn X.K (.ref f)=true) (hb:Binds X.K fd ps [])
  (ha:AO X g (e::es) t) (U:∀s ds s',t s=some (ds,s')->ds.length=ps.length) (B:(x == ("__debug__" : Str))=false:=by decide) (Z:starEach (e::es) X.env=(false,eval e X.env)::starEach es X.env:=by rfl) (J:(backTo pos (starEach es X.env)).any (·.1)=false:=by rfl) :
  EO X g (.Call (.Name x p) (e::es) [] pos) (d8 m t):=EO.w (yb F hr Y hm hk hb .nil og ha.pe B Z J) (oZ U)
def eK:∀s ds s',b9 s=some (ds,s')->ds.length=0:=fun s ds s' h=>by cases h;rfl
def Y9 {r:DA}(h:∀s ds s',r s=some (ds,s')->ds.length=n):∀s ds s',a0 a r s=some (ds,s')->ds.length=n+1:=fun s ds s' q=>by
 obtain⟨d,s1,es,h1,h2,B⟩:=dR q;subst B;simp[h _ _ _ h2]
end
def kG (K:vF_) (N:vB_) (fa:vA_) (H1:Hp) (J:It) (ds:vD_):Prop:=∀N' fa' H',Car K N fa H1 N' fa' H'->(∀b u,H1 b=some u->fa≠some b->H' b=some u)->∀i:Nat,
 (∀d,ds[i]? = some d->J.go i H'/\∀x H'',J.yld i H' x H''->H''=H'/\Rep K N' fa' H' d x)/\(ds.length<=i->J.stop i H')
def liftI (K:vF_) (g:Gh) (f:DA):TI:=fun σ H R=>∃fa O s ds s',GI K g σ H fa O s/\f s=some (ds,s')/\ds.length<=sizeLine /\
 ∀J H' fa' O',StE fa O H fa' O' H'->GI K g σ H' fa' O' s'->kG K (NN g.F fa' O') fa' H' J ds->R J H'
section
variable {K:vF_}{σ:L2.St}
def liftI.elim (h:liftI K g f σ H R) (k:∀fa O s ds s',GI K g σ H fa O s->f s=some (ds,s')->ds.length<=sizeLine->(∀J H' fa' O',StE fa O H fa' O' H'->GI K g σ H' fa' O' s'->kG K (NN g.F fa' O') fa' H' J ds->R J H')->G):G:=by
 obtain⟨fa,O,s,d,s',a,r,b,c⟩:=h;exact k fa O s d s' a r b c
end
structure IO (X:Cx) (g:Gh) (tg iter:Expr) (f:DA):Prop where
 pe:PI X tg iter (liftI X.K g f)
def E7 (f:DE):DA:=fun s=>(f s).bind fun x=>match x.1 with
 |.lst ds=>some (ds,x.2)
 |.tup ds=>some (ds,x.2)
 |_=>none
def cQ (f:DA):DA:=fun s=>(f s).bind fun x=>(T7 x.1).map fun ds=>(ds,x.2)
section
variable {f:DE}
def xQ {t t':TI}(h:PI X tg iter t) (w:∀σ H R,t' σ H R->t σ H R):PI X tg iter t':=fun pins s σ H R I q=>h pins s σ H R I (w σ H R q)
theorem IO.w {f:DA}{t:TI}(h:PI X tg iter t) (w:∀σ H R,liftI X.K g f σ H R->t σ H R):IO X g tg iter f:=#[xQ h w]
def T9 (h:EO X g iter f):IO X g tg iter (E7 f):=IO.w (sN h.pe) fun σ H R hQ=>by
 refine hQ.elim fun fa O s ds s' I e hz k=>?_
 refine v6 e fun d s1 h1 h2=>?_
 refine#[fa,O,s,d,s1,I,h1,fun v H1 f1 O1 a1 I1 r=>?_];cases d with
 |lst es=>
  cases h2;simp only[Rep] at r;obtain⟨a,xs,rfl,na,q,w⟩:=r;refine#[a,rfl,.inl #[#[xs,SqL.of q],k _ H1 f1 O1 a1 I1 fun N' fa' H' c _ i=>#[fun d U=>?_,fun hl=>?_]]]
  .obtain⟨x,J,Y⟩:=Reps.get w U;have B:=(c.ls a xs na q).1;refine#[#[xs,x,SqL.of B,J],fun y H'' Z=>?_];obtain⟨W,e2⟩:=Z;have:=e2 xs (SqL.of B);rw[J] at this;cases this;exact#[W,Rep.go c d x Y]
  .exact#[xs,SqL.of (c.ls a xs na q).1,by rw[w.length];exact hl]
 |tup es=>
  cases h2;simp only[Rep] at r;obtain⟨a,xs,rfl,q,w⟩:=r;refine#[a,rfl,.inr #[#[xs,q],k _ H1 f1 O1 a1 I1 fun N' fa' H' c _ i=>#[fun d U=>?_,fun hl=>?_]]]
  .obtain⟨x,J,Y⟩:=Reps.get w U;have B:=c.tp a xs q;refine#[#[xs,x,B,J],fun y H'' Z=>?_];obtain⟨W,e2⟩:=Z;have:=e2 xs B;rw[J] at this;cases this;exact#[W,Rep.go c d x Y]
  .exact#[xs,c.tp a xs q,by rw[w.length];exact hl]
 |_=>cases h2
def Cq {K:vF_}{H1:Hp}(lo:Int) (n:Nat):kG K N fa H1 (bB lo n) (B7 lo n):=fun N' fa' H' c _ i=>#[fun d B=>by
 have hi:i<n:=by have:=(IK.mp B).1;rwa [cT] at this
 rw[mQ hi] at B;cases B;refine#[hi,fun x H'' U=>?_];obtain⟨J,W⟩:=U;subst W;exact#[J,by simp only[Rep]],fun hl=>by rw[cT] at hl;exact hl]
def yo {fa:DE}(J:Gl X "range") (hm:X.mg "range" = none) (ha:EO X g a fa) (B:starEach [a] X.env=[(false,eval a X.env)]:=by rfl) :
  IO X g tg (.Call (.Name "range" p) [a] [] cpos) (cQ (a0 fa b9)):=IO.w (rm J hm (lT ha bR B).pe B) fun σ H R hQ=>by
 refine hQ.elim fun fa O s es s' I q hz k=>?_
 refine v6 q fun ds s1 h1 h2=>?_
 refine J9 h2 fun es' Z h4=>?_
 cases h4;obtain⟨d,s2,rs,e1,e2,U⟩:=dR h1;cases e2;obtain⟨j,rfl,j1,W,rfl⟩:=vJ Z U;refine#[fa,O,s,ds,_,I,h1,fun vs H1 f1 O1 Y I1 r=>?_];rw[U] at r;simp only[Reps,Rep] at r;obtain⟨x,ys,rfl,rfl,rfl⟩:=r;exact#[j,rfl,j1,W,k _ H1 f1 O1 Y I1 (Cq 0 j.toNat)]
end
def cP (sl:List Sl) (i:Nat):Sl:=match sl[i]? with
 |some (Sl.v d)=>Sl.v d
 |_=>Sl.no
def K2 (idx:List Nat) (sl:List Sl):List Sl:=idx.map (cP sl)
noncomputable def A3 (mk:D->Option (List Sl)) (fc:DT) (fe:DE):List D->Option FS->Option (List D × Option FS)
 |[],fs=>some ([],fs)
 |d::r,fs=>(mk d).bind fun sl=>(fc #[sl,fs]).bind fun c=>if c.1=true then (fe c.2).bind fun y=>(A3 mk fc fe r y.2.fs).map fun z=>(y.1::z.1,z.2) else A3 mk fc fe r c.2.fs
noncomputable def F9 (idx:List Nat) (fi:DA) (fc:DT) (fe:DE):DA:=fun s=>(fi s).bind fun x=>if x.1.length<=sizeLine then (A3 (fun d=>some (.v d::K2 idx x.2.sl)) fc fe x.1 x.2.fs).map fun y=>(y.1,{ x.2 with fs:=y.2 }) else none
def FF (g:Gh) (fa:vA_) (O:vL_) (p:Addr):Addr->Prop:=fun b=>NN g.F fa O b\/b=p
structure CI (K:vF_) (g:Gh) (f1:vA_) (O1:vL_) (Hd:Hp) (p:Addr) (fa:vA_) (H:Hp) (ys:List V) (res:vD_) (fs:vO_):Prop where
 st:Stp f1 [p] Hd fa [p] H
 ls:H p=some (.lst ys)
 rs:Reps K (FF g fa O1 p) fa H res ys
 fd:FeedR (FF g fa O1 p) H fa fs
 nf:fa≠some p
section
variable {K:vF_}{f1:vA_}{O1:vL_}{Hd:Hp}{p:Addr}{res:vD_}{fs:vO_}
def CI.nofa (c:CI K g f1 O1 Hd p fa H ys res fs):fa≠some p:=c.nf
def Hb (J:∀xs,fa≠none->∀a,fa=some a->¬ Rd H a (.tup xs)) (B:∀a,fa=some a->∀o u,¬ H a=some (.frz o u)) (a:StE fa [] H fa' [] H'):Car K (FF g fa O1 p) fa H (FF g fa' O1 p) fa' H':=by
 refine#[fun b xs n q=>#[a.same b _ q fun z=>n (.inl (.inr (.inr z))),fun z=>?_],fun b xs q=>?_,fun b xs q=>?_,fun x e=>a.stp.fa_keep e]
 .rcases z with (z | z | z) | z
  .exact n (.inl (.inl z))
  .exact n (.inl (.inr (.inl z)))
  .rcases a.fe with e | ⟨e,h⟩
   .exact n (.inl (.inr (.inr (e▸z))))
   .rw[h b z] at q;cases q
  .exact n (.inr z)
 .refine SqT.stp' a.stp (fun x e ys=>J ys (by rw[e];simp) x e) (fun x U=>by cases U) q
 .cases xs with
  |inl xs=>exact q.imp (fun ⟨o,q⟩=>#[o,a.same _ _ q fun z=>B b z _ _ q]) id
  |inr p=>exact a.same _ _ q fun z=>B b z _ _ q
def wV (h:FeedR N H fa fs):∀xs,fa≠none->∀a,fa=some a->¬ Rd H a (.tup xs):=fun xs _ a e z=>h.no_tup e z
def CI.step (c:CI K g f1 O1 Hd p fa H ys res fs) (a:StE fa [] H fa' [] H') {g':Gh}(J:∀b,FF g fa' O1 p b->NN g'.F fa' [] b) (I:GI K g' σ H' fa' [] s'):CI K g f1 O1 Hd p fa' H' ys res s'.fs:=by
 have B:Car K (FF g fa O1 p) fa H (FF g fa' O1 p) fa' H':=Hb (wV c.fd) (fun x e o u=>c.fd.no_frz e) a;refine#[c.st.trans #[fun b hb=>.inl hb,a.fe,fun b u e _ n=>a.same b u e n,a.mon],a.same p _ c.ls c.nofa,Reps.go B _ _ c.rs,I.fd.car (K:=K) #[fun b xs n q=>#[q,fun z=>n (J b z)],fun _ _ q=>q,fun _ _ q=>q,fun _ q=>q] fun _ _=>rfl,fun z=>?_];rcases a.fe with y | ⟨_,y⟩
 .rw[y] at z;exact c.nf z
 .have:=c.ls;rw[y p z] at this;cases this
def CI.app (c:CI K g f1 O1 Hd p fa H ys res fs) {v:V}(W:∀b,FF g fa O1 p b->N b) (r:Rep K N fa H d v):CI K g f1 O1 Hd p fa (f9 H p (.lst (ys++[v]))) (ys++[v]) (res++[d]) fs:=by
 have B:Car K (FF g fa O1 p) fa H (FF g fa O1 p) fa (f9 H p (.lst (ys++[v]))):=by
  refine#[fun b xs n q=>#[by rw[n9 (fun z=>n (.inr z))];exact q,n],fun b xs q=>?_,fun b xs q=>?_,fun _ q=>q]
  .rcases q with (q | ⟨o,q⟩) | q
   .exact .inl (.inl (by rw[n9 (fun z=>by rw[z,c.ls] at q;cases q)];exact q))
   .exact .inl (.inr #[o,by rw[n9 (fun z=>by rw[z,c.ls] at q;cases q)];exact q])
   .exact .inr q
  .have J:∀o u,H b=some (.frz o u)->f9 H p (.lst (ys++[v])) b=some (.frz o u):=fun o u q=>by rw[n9 (fun z=>by rw[z,c.ls] at q;cases q)];exact q
   cases xs with
   |inl xs=>exact q.imp (fun ⟨o,q⟩=>#[o,J _ _ q]) id
   |inr p=>exact J _ _ q
 have U:Car K N fa H (FF g fa O1 p) fa H:=#[fun b xs n q=>#[q,fun z=>n (W b z)],fun _ _ q=>q,fun _ _ q=>q,fun _ q=>q]
 refine#[c.st.trans #[fun b hb=>.inl hb,.inl rfl,fun b u e n _=>by rw[n9 (fun z=>n (by simp[z]))];exact e,fun b z=>?_],v8,?_,c.fd.car B fun a e=>n9 fun z=>c.nofa (z▸e),c.nf]
 .by_cases hb:b=p
  .subst hb;rw[v8] at z;cases z
  .rw[n9 hb] at z;exact z
 .exact Reps.append (Reps.go B _ _ c.rs) (Reps.one (Rep.go B _ _ (Rep.go U _ _ r)))
end
section
variable {pos:Pos}
def aw (X:Cx) (g:Gh) (ifs:List Expr) (f:DT):Prop:=cI X ifs (liftT X.K g f)
def A5:DT:=fun s=>some (true,s)
def W2:aw X g [] A5:=fun pins s σ H Q I ⟨fa,O,B,d,s',G,e,k⟩=>Dn pins s σ H Q I (by cases e;exact k H fa O StE.refl G)
def pU {f:DT}(h:TO X g c f):aw X g [c] f:=Bb h.pe
theorem rn {K:vF_}(h:SlR K N fa H sl σ O):∀idx:List Nat,SlR K N fa H (K2 idx sl) (idx.map fun i=>(σ[i]?).join) []
 |[]=>by simp[K2,SlR]
 |i::r=>by
  have B:=rn h r;have J:∀e:sl[i]? = none\/(∃z,sl[i]? = some z/\∀d,z ≠ .v d),cP sl i = .no:=fun e=>by
   unfold cP;rcases e with e | ⟨z,e,n⟩
   .rw[e]
   .rw[e];cases z with
    |v d=>exact absurd rfl (n d)
    |no=>rfl
    |own ds=>rfl
    |dct ds=>rfl
  show SlR K N fa H (cP sl i::K2 r sl) ((σ[i]?).join::r.map fun i=>(σ[i]?).join) [];cases e:sl[i]? with
  |none=>
   rw[J (.inl e)];simp only[SlR];exact#[_,_,rfl,B]
  |some z=>
   cases z with
   |no=>
    rw[J (.inr #[_,e,fun d z=>by cases z])];simp only[SlR];exact#[_,_,rfl,B]
   |own ds=>
    rw[J (.inr #[_,e,fun d z=>by cases z])];simp only[SlR];exact#[_,_,rfl,B]
   |dct ds=>
    rw[J (.inr #[_,e,fun d z=>by cases z])];simp only[SlR];exact#[_,_,rfl,B]
   |v d=>
    obtain⟨u,W,q⟩:=SlR.val h e;have U:cP sl i = .v d:=by unfold cP;rw[e]
    rw[U];simp only[SlR];exact#[u,_,by rw[W];rfl,q,B]
def FZ (mk:List Sl->D->Option (List Sl)) (fi:DA) (fc:DT) (fe:DE):DA:=fun s=>(fi s).bind fun x=>if x.1.length<=sizeLine then (A3 (mk x.2.sl) fc fe x.1 x.2.fs).map fun y=>(y.1,{ x.2 with fs:=y.2 }) else none
def ot {G:TG}(hG:∀(N:vB_) (fa:vA_) (sl:List Sl) (d:D) (sl0:List Sl) (x:V) (σ:L2.St) (H:Hp) (Q:L2.St->Hp->Prop),mk sl d=some sl0->Rep X.K N fa H d x->SlR X.K N fa H (K2 idx sl) (idx.map fun i=>(σ[i]?).join) [] ->
  (∀σ':L2.St,(σ'.length=(F6 n idx σ).length/\∀(j:Nat) (v:V),(F6 n idx σ)[j]? = some (some v)->σ'[j]? = some (some v))->SlR X.K N fa H sl0 σ' []->Q σ' H)->G x (F6 n idx σ) H Q):∀σ H Q,liftF X.K g (FZ mk fi fc fe) σ H Q->bU n idx (liftI X.K g fi) G (fun σ H Q=>∃g',liftT X.K g' fc σ H Q) (fun σ H Q=>∃g',liftE X.K g' fe σ H Q) σ H Q:=by
 intro σ H Q ⟨fa,O,s,res,s',I,e,kk⟩;refine v6 e fun ds s1 h1 h2=>?_
 by_cases hz:ds.length<=sizeLine
 .simp only[fx hz] at h2;refine mapP h2 fun out fsf h3 h4=>?_
  simp only[Iw] at h4;obtain⟨e1,e2⟩:=h4;subst e1;subst e2;refine#[fa,O,s,ds,s1,I,h1,hz,fun J H1 f1 O1 a1 B J1 p hp=>?_];have W:∀{fa':vA_}{H':Hp},Stp f1 [p] (f9 H1 p (.lst [])) fa' [p] H'->StE f1 O1 H1 fa' O1 H':=fun {fa' H'} a=>by
   refine#[fun _ h=>h,?_,fun b u e n=>?_,fun b z=>(B8 (fa:=f1) (O:=O1) hp).mon b (a.mon b z)]
   .rcases a.fe with e | ⟨e,h⟩
    .exact .inl e
    .exact .inr #[e,fun x z=>(B8 (fa:=f1) (O:=O1) hp).mon x (h x z)]
   .have nb:b≠p:=R8 e hp;exact a.same b u (by rw[n9 nb];exact e) (by simp[nb]) n
  have carP:∀{fa':vA_}{H':Hp},Stp f1 [p] (f9 H1 p (.lst [])) fa' [p] H'->Car X.K (NN g.F f1 O1) f1 H1 (FF g fa' O1 p) fa' H':=fun {fa' H'} a=>by
   have c:=B.car (W a).stp;refine#[fun b xs n q=>?_,c.tp,c.fz,c.fe];obtain⟨q',n'⟩:=c.ls b xs n q;refine#[q',?_];rintro(z | z)
   .exact n' z
   .subst z;rw[hp] at q;cases q
  refine#[fun i m H'=>m=ds.length - i/\i<=ds.length/\∃fa' ys U rest fs',CI X.K g f1 O1 (f9 H1 p (.lst [])) p fa' H' ys U fs'/\A3 (mk s1.sl) fc fe (ds.drop i) fs'=some (rest,fsf)/\U++rest=out/\ys.length<=i,?_,?_]
  .refine#[ds.length,by simp,JF _,f1,[],[],out,s1.fs,#[Stp.refl,v8,Reps.nil,?_,fun z=>B.fd.tracked z hp],by simpa using h3,rfl,tx _];exact B.fd.car (fq B hp) (B.fd.same_new hp)
  .rintro i m H' ⟨rfl,hil,fa',ys,U,rest,fs',c,hd,ho,hy⟩;have Z:=carP c.st;obtain⟨jgo,jstop⟩:=J1 _ _ _ Z (fun b u e n=>(W c.st).same b u e n) i;by_cases hlt:i<ds.length
   .have hdi:ds[i]? = some ds[i]:=Jg hlt;obtain⟨go,yl⟩:=jgo _ hdi;refine .inr #[go,fun x H'' hx=>?_];obtain⟨e1,rx⟩:=yl x H'' hx;subst e1;rw[we hdi,A3] at hd;refine G7 hd fun sl0 hm hd=>?_
    refine v6 hd fun b sb h5 h6=>?_
    have hNN:∀b,NN (FF g fa' O1 p) fa' [] b->FF g fa' O1 p b:=fun b z=>by
     rcases z with z | z | z
     .exact z
     .cases z
     .exact .inl (.inr (.inr z))
    have cN:Car X.K (FF g fa' O1 p) fa' H'' (NN (FF g fa' O1 p) fa' []) fa' H'':=#[fun b xs n q=>#[q,fun z=>n (hNN b z)],fun _ _ q=>q,fun _ _ q=>q,fun _ q=>q]
    have bO:∀b,FF g fa' O1 p b->H'' b≠none:=fun b z=>by
     rcases z with (z | z | z) | z
     .exact fun w=>B.trF z ((W c.st).mon b w)
     .obtain⟨xs,e⟩:=B.owned z;exact fun w=>by have:=(W c.st).mon b w;rw[e] at this;cases this
     .exact c.fd.tracked z
     .rw[z,c.ls];simp
    refine hG (NN (FF g fa' O1 p) fa' []) fa' s1.sl ds[i] sl0 x σ H'' _ hm (Rep.go cN _ _ rx) (SlR.go cN (fun a xs ha=>by cases ha) (rn (SlR.go Z (fun a xs ha e=>(W c.st).same a _ e fun z=>B.nf a z ha) B.sl) idx)) fun σ1 hσ hsl=>#[hσ,?_]
    have G0:GI X.K #[FF g fa' O1 p,H'',fa',fun _=>E0] σ1 H'' fa' [] #[sl0,fs']:=#[LS,hsl,fun b hb=>(by cases hb),Stp.refl,bO,fun a ha=>.inl (.inr (.inr ha)),c.fd.car cN fun _ _=>rfl,fun _ _ z=>(by cases z)]
    refine#[#[FF g fa' O1 p,H'',fa',fun _=>E0],fa',[],_,b,sb,G0,h5,fun H3 f3 O3 a3 I3=>?_];have eO:O3=[]:=Nw.mpr fun z hz=>by have:=a3.sub z hz;cases this
    subst eO;have hF3:∀b,FF g f3 O1 p b->NN (FF g fa' O1 p) f3 [] b:=fun b z=>by
     rcases z with (z | z | z) | z
     .exact .inl (.inl (.inl z))
     .exact .inl (.inl (.inr (.inl z)))
     .exact .inr (.inr z)
     .exact .inl (.inr z)
    have c3:=c.step a3 hF3 I3;cases b with
    |false=>
     rw[fI Io] at h6;refine FA ?_;exact#[ds.length - (i+1),by omega,rfl,hlt,f3,ys,U,rest,sb.fs,c3,h6,ho,Nat.le_succ_of_le hy]
    |true=>
     rw[fx rfl] at h6;refine xv ?_;refine v6 h6 fun dd sd h7 h8=>?_
     refine mapP h8 fun rest2 fs2 h9 h10=>?_
     simp only[Iw] at h10;refine#[#[FF g fa' O1 p,H'',fa',fun _=>E0],f3,[],sb,dd,sd,I3,h7,fun v H4 f4 O4 a4 I4 r4=>?_];have eO:O4=[]:=Nw.mpr fun z hz=>by have:=a4.sub z hz;cases this
     subst eO;have hF4:∀b,FF g f4 O1 p b->NN (FF g fa' O1 p) f4 [] b:=fun b z=>by
      rcases z with (z | z | z) | z
      .exact .inl (.inl (.inl z))
      .exact .inl (.inl (.inr (.inl z)))
      .exact .inr (.inr z)
      .exact .inl (.inr z)
     have c4:=c3.step a4 hF4 I4;refine#[ys,c4.ls,by omega,ds.length - (i+1),by omega,rfl,hlt,f4,ys++[v],U++[dd],rest2,sd.fs,c4.app hF4 r4,by rw[h9,h10.2],?_,by simp;omega];rw[<-ho,<-h10.1];simp
   .refine .inl #[jstop (LP hlt),?_];rw[Nv (LP hlt),A3] at hd;simp only[Jf,Iw] at hd;obtain⟨hd1,hd2⟩:=hd;subst hd1;subst hd2;rw[JR] at ho;subst ho;have aE:=W c.st;have car1:=B.car aE.stp;have Y:∀a xs,a∈O1->H1 a=some xs->H' a=some xs:=fun a xs ha e=>aE.same a _ e fun z=>B.nf a z ha
    refine kk p ys H' fa' O1 (a1.trans aE) #[#[B.nd,SlR.go car1 Y B.sl,B.fr,B.st.trans #[fun b hb=>(by cases hb),aE.fe,fun b u e _ n=>aE.same b u e n,aE.mon],B.tr,B.ff,?_,B.nf_step aE.fe],c.ls,SlR.go Z Y B.sl,c.fd,c.rs,c.nf] (a1.mon p hp);exact c.fd.car (K:=X.K) #[fun b xs n q=>#[q,fun z=>n (.inl z)],fun _ _ q=>q,fun _ _ q=>q,fun _ q=>q] fun _ _=>rfl
 .simp only[fI hz] at h2;cases h2
def qG (k:CompOk X scope cl N' 1 idx):∀σ H Q,liftF X.K g (F9 idx fi fc fe) σ H Q->bU 1 idx (liftI X.K g fi) (T3 0) (fun σ H Q=>∃g',liftT X.K g' fc σ H Q) (fun σ H Q=>∃g',liftE X.K g' fe σ H Q) σ H Q:=
 ot (mk:=fun sl d=>some (.v d::K2 idx sl)) fun N fa sl d J x σ H Q hm U W Z=>by
  cases hm;refine Z _ #[by simp,fun j v B=>?_] ?_
  .cases j with
   |zero=>simp[F6] at B
   |succ j=>rw[Kl (by simp)];exact B
  .have Y:(F6 1 idx σ).set 0 (some x)=some x::idx.map fun i=>(σ[i]?).join:=by simp[F6]
   rw[Y];simp only[SlR];exact#[x,_,rfl,U,W]
def fL (J:X.calm=true) (k:CompOk X scope cl N' 1 idx) (hi:IO X g tg iter fi) (B:∀C s0 H0 ex,PG (t9 X N' scope cl C s0 H0 ex) tg (T3 0))
  (U:∀C s0 H0 ex g',aw (t9 X N' scope cl C s0 H0 ex) g' ifs fc) (W:∀C s0 H0 ex g',EO (t9 X N' scope cl C s0 H0 ex) g' elt fe) (hs:∀x,foldedSetIterable iter X.env x=pure x:=by intro _;rfl) :
  FO X g (.ListComp elt [#[tg,iter,ifs,0]] scope pos) (F9 idx fi fc fe):=by
 exact FO.w (rR (tc:=fun σ H Q=>∃g',liftT X.K g' fc σ H Q) (te:=fun σ H Q=>∃g',liftE X.K g' fe σ H Q) J k hi.pe B (fun C s0 H0 ex pins s σ H Q I ⟨g',h⟩=>U C s0 H0 ex g' pins s σ H Q I h) (fun C s0 H0 ex pins s σ H Q I ⟨g',h⟩=>(W C s0 H0 ex g').pe pins s σ H Q I h) hs) (qG k)
end
end DL
variable {d:DL.D}{ds:DL.vD_}{fs':DL.vO_}{sl:List DL.Sl}{mk:List DL.Sl->DL.D->Option (List DL.Sl)}{s1 s2 s':DL.DS}{g:DL.Gh}{fe:DL.DE}{fc:DL.DT}{f fi:DL.DA}{r:DL.Fl × DL.DS}{m m00 m01:DL.a9}{tab:List (PySem.Str × DL.a9)}
namespace HT2
open PySem PyProof.Rows
def cat_tup0 {w:World}{t b:Addr}{ws:vV_}{Q:vQ_}(ht:IsTup s.heap t ([]:vV_).toArray) (hb:IsTup s.heap b ws.toArray)
  (h:Q (.ref b) s):wpAny (model prog w) A (binaryOp .Add (.ref t) (.ref b)) Q E s:=by
 obtain⟨⟨cls,dd,data,sl⟩,ho,hc,n,hd⟩:=id ht;obtain⟨⟨cls2,Y,Z,W⟩,J,U,n2,B⟩:=id hb;simp only at hc hd U B;subst hc hd U B;exact concat_meets #[_,ho,rfl] #[_,J,rfl] Mz seq_tuple_add MA MB (MC _ _)
  (tuple_addW0 t b _ ws.toArray n n2 dd Y sl W (by simp)) #[ho,J,h]
end HT2
namespace DL
open PySem PySem.Spec L2
def C8 (i:Int):Bool:=decide (i.natAbs.log2<1000000)
def vd {i:Int}(h:C8 i=true):Builtin.Int.intBits i<=2 ^ 20:=by
 have h1:i.natAbs.log2<1000000:=JC h;unfold Builtin.Int.intBits;split
 .exact JF _
 .have e:(2:Nat) ^ 20=1048576:=by decide
  rw[e];omega
def L8 (j:Int):Bool:=decide (j≠0)&&decide (j.natAbs.log2<9000)
def op_mulB:OpR X (binaryOp .Mult) (rI (fun i j=>C8 i=true/\C8 j=true) fun i j=>.int (i*j)):=gS fun _ _ _ _ _ _ _ B q=>PyProof.Rows.mul_int q (IntMulOk.of_bits (vd B.1) (vd B.2))
def Gr:OpR X (binaryOp .FloorDiv) (rI (fun _ j=>L8 j=true) fun i j=>.int (i.fdiv j)):=gS fun i j _ _ _ _ _ J q=>by
 have B:L8 j=true:=J;unfold L8 at B;rw[Iq] at B;exact PyProof.Rows.floordiv_int (JC B.1) q (.inl (PyProof.noPylong_of_log2 (JC B.2)))
def wC (K:vF_):R2:=fun x y H Q=>∃a b ys,x = .ref a/\y = .ref b/\SqT K H a []/\SqT K H b ys/\Q (.ref b) H
def op_catT0:OpR X (binaryOp .Add) (wC X.K):=by
 intro pins s σ H x y v u Q I Y U h;obtain⟨a,b,ys,rfl,rfl,ha,hb,q⟩:=h;cases Y;cases U;obtain⟨its,W,Z,_⟩:=I.tuple ha;obtain⟨J,r2,B,_⟩:=I.tuple hb;cases W;exact HT2.cat_tup0 Z B #[.ref b,H,I,rfl,q]
def uG (K:vF_):R2:=fun x y H Q=>(U3 (fun i j=>.int (i+j)) x y H Q\/(∃i j,x = .str i/\y = .str j/\i.length+j.length<=sizeLine/\Q (.str (i++j)) H))\/((wC K x y H Q\/nH K x y H Q)\/jA x y H Q)
def Fo:OpR X (binaryOp .Add) (uG X.K):=(op_add.or Ia).or ((op_catT0.or wO).or mK)
def qq:R2:=fun x y H Q=>rI (fun i j=>C8 i=true/\C8 j=true) (fun i j=>.int (i*j)) x y H Q\/vB x y H Q
def xL:OpR X (binaryOp .Mult) qq:=op_mulB.or rh
def k9:D->D->Option D
 |.int i,.int j=>some (.int (i+j))
 |.str x,.str y=>if x.length+y.length<=sizeLine then some (.str (x++y)) else none
 |.tup xs,.tup ys=>if xs.length+ys.length<=sizeLine then some (.tup (xs++ys)) else none
 |.lst xs,.lst ys=>if xs.length+ys.length<=sizeLine then some (.lst (xs++ys)) else none
 |_,_=>none
def u5:D->D->Option D
 |.int i,.int j=>some (.int (i - j))
 |_,_=>none
def j9:D->D->Option D
 |.int i,.int j=>if C8 i&&C8 j then some (.int (i*j)) else none
 |.lst xs,.int k=>if -(2 ^ 63)<=k/\k<2 ^ 63/\xs.length*k.toNat<=sizeLine then some (.lst (List.replicate k.toNat xs).flatten) else none
 |_,_=>none
def G8:D->D->Option D
 |.int i,.int j=>if L8 j then some (.int (i.fdiv j)) else none
 |_,_=>none
def C1:D->D->Option D
 |.int i,.int j=>if j≠0 then some (.int (i.fmod j)) else none
 |_,_=>none
def aW:D->D->Option D
 |.int i,.int j=>if 0<=j/\j<=1000000/\i.natAbs<2 ^ 64 then some (.int (i ^ j.toNat)) else none
 |_,_=>none
def u8:D->Option D
 |.int i=>some (.int (-i))
 |_=>none
def p8 (p:Int->Int->Bool):D->D->Option D
 |.int i,.int j=>some (.bl (p i j))
 |_,_=>none
def tK {K:vF_}(r:Reps K N fa H ds xs):xs=[]↔ds=[]:=by
 have:=r.length;cases xs <;> cases ds <;> simp_all
theorem Reps.flat {K:vF_}(r:Reps K N fa H ds xs):∀k:Nat,Reps K N fa H (List.replicate k ds).flatten (List.replicate k xs).flatten
 |0=>by simp[Reps]
 |k+1=>by
  simp only[Ko,Li];exact Reps.append r (Reps.flat r k)
section
variable {K:vF_}
def Ca:J5 K (uG K) k9:=by
 intro g σ H fa O s x y d1 d2 d Q I U W e k;cases d1 with
 |int i=>
  cases d2 with
  |int j=>
   cases e;simp only[RepB,Rep] at U W;exact .inl (.inl #[i,j,U,W,k _ H StE.refl I (by simp only[Rep])])
  |_=>cases e
 |str a=>
  cases d2 with
  |str b=>
   have e:(if a.length+b.length<=sizeLine then some (D.str (a++b)) else none)=some d:=e;by_cases h:a.length+b.length<=sizeLine
   .rw[fx h] at e;cases e;simp only[RepB,Rep] at U W;refine .inl (.inr #[a,b,U.1,W.1,h,k _ H StE.refl I ?_]);simp only[Rep];exact#[trivial,by rw[strLen_append];exact h]
   .rw[fI h] at e;cases e
  |_=>cases e
 |tup as=>
  cases d2 with
  |tup Y=>
   have e:(if as.length+Y.length<=sizeLine then some (D.tup (as++Y)) else none)=some d:=e;by_cases h:as.length+Y.length<=sizeLine
   .rw[fx h] at e;cases e;simp only[RepB,Rep] at U W;obtain⟨a,xs,rfl,qa,J⟩:=U;obtain⟨b,ys,rfl,qb,B⟩:=W;by_cases hx:xs=[]
    .have ha:=(tK J).mp hx;subst hx;subst ha;refine .inr (.inl (.inl #[a,b,ys,rfl,rfl,qa,qb,k _ H StE.refl I ?_]));simp only[Rep,LO];exact#[b,ys,rfl,qb,B]
    .refine .inr (.inl (.inr #[a,b,xs,ys,rfl,rfl,qa,qb,hx,by rw[J.length,B.length];exact h,fun hy=>?_,fun hy p hp=>?_]))
     .have hb:=(tK B).mp hy;subst hy;subst hb;refine k _ H StE.refl I ?_;simp only[Rep,JR];exact#[a,xs,rfl,qa,J]
     .have Z:StE fa O H fa O (f9 H p (.tup (xs++ys))):=B8 hp;refine k _ _ Z (I.new hp) ?_;simp only[Rep];exact#[p,_,rfl,SqT.of v8,Reps.stp I Z.stp (Reps.append J B)]
   .rw[fI h] at e;cases e
  |_=>cases e
 |lst as=>
  cases d2 with
  |lst Y=>
   have e:(if as.length+Y.length<=sizeLine then some (D.lst (as++Y)) else none)=some d:=e;by_cases h:as.length+Y.length<=sizeLine
   .rw[fx h] at e;cases e;obtain⟨a,xs,rfl,_,qa,J⟩:=U;obtain⟨b,ys,rfl,_,qb,B⟩:=W;refine .inr (.inr #[a,b,xs,ys,rfl,rfl,qa,qb,by rw[J.length,B.length];exact h,fun p hp=>?_]);have Z:StE fa O H fa O (f9 H p (.lst (xs++ys))):=B8 hp;have L:=X9 I hp (Reps.append J B);refine k _ _ Z L.gi ?_;simp only[Rep];exact#[p,_,rfl,gn I Z L.gi hp L.nf,v8,Reps.stp I Z.stp (Reps.append J B)]
   .rw[fI h] at e;cases e
  |_=>cases e
 |_=>cases e
def jq:D->D->Option (List D)
 |.lst xs,.lst ys=>if xs.length+ys.length<=sizeLine then some (xs++ys) else none
 |_,_=>none
def EG:mU K jA jq:=by
 intro g σ H fa O s x y Z d2 ds Q I W Y e k;cases Z with
 |lst as=>
  cases d2 with
  |lst bs=>
   simp only[jq] at e;by_cases h:as.length+bs.length<=sizeLine
   .rw[fx h] at e;cases e;obtain⟨a,xs,rfl,_,qa,B⟩:=W;obtain⟨b,ys,rfl,_,U,J⟩:=Y;refine#[a,b,xs,ys,rfl,rfl,qa,U,by rw[B.length,J.length];exact h,fun p hp=>?_];exact k p _ _ (B8 hp) (X9 I hp (Reps.append B J)) hp
   .rw[fI h] at e;cases e
  |_=>cases e
 |_=>cases e
def lZ {C:Int->Int->Prop}{f:Int->Int->D}{p:D->D->Option D}(hp:∀d1 d2 d,p d1 d2=some d->∃i j,d1 = .int i/\d2 = .int j/\C i j/\d=f i j) (U:∀N fa H i j,Rep K N fa H (f i j) (f' i j)):J5 K (rI C f') p:=by
 intro g σ H fa O s x y d1 d2 d Q I B J e k;obtain⟨i,j,rfl,rfl,c,rfl⟩:=hp d1 d2 d e;simp only[RepB,Rep] at B J;exact#[i,j,B,J,c,k _ H StE.refl I (U _ _ _ _ _)]
def se {f:Int->Int->D}{p:D->D->Option D}(hp:∀d1 d2 d,p d1 d2=some d->∃i j,d1 = .int i/\d2 = .int j/\d=f i j) (U:∀N fa H i j,Rep K N fa H (f i j) (f' i j)):J5 K (U3 f') p:=by
 intro g σ H fa O s x y d1 d2 d Q I B J e k;obtain⟨i,j,rfl,rfl,rfl⟩:=hp d1 d2 d e;simp only[RepB,Rep] at B J;exact#[i,j,B,J,k _ H StE.refl I (U _ _ _ _ _)]
def mo (F:Int->Int->Option D):D->D->Option D
 |.int i,.int j=>F i j
 |_,_=>none
def rM {F:Int->Int->Option D}(e:mo F d1 d2=some d):∃i j,d1 = .int i/\d2 = .int j/\F i j=some d:=by
 cases d1 with
 |int i=>
  cases d2 with
  |int j=>exact#[i,j,rfl,rfl,e]
  |_=>cases e
 |_=>cases e
def jS {C:Int->Int->Prop}[∀i j,Decidable (C i j)] {f:Int->Int->D}(e:mo (fun i j=>if C i j then some (f i j) else none) d1 d2=some d):∃i j,d1 = .int i/\d2 = .int j/\C i j/\d=f i j:=by
 obtain⟨i,j,h1,h2,B⟩:=rM e;by_cases h:C i j
 .have B:(if C i j then some (f i j) else none)=some d:=B;rw[fx h] at B;exact#[i,j,h1,h2,h,(Jj B).symm]
 .have B:(if C i j then some (f i j) else none)=some d:=B;rw[fI h] at B;cases B
def oN {f:Int->Int->D}(e:mo (fun i j=>some (f i j)) d1 d2=some d):∃i j,d1 = .int i/\d2 = .int j/\d=f i j:=by
 obtain⟨i,j,h1,h2,B⟩:=rM e;exact#[i,j,h1,h2,(Jj B).symm]
def zy:J5 K (U3 fun i j=>.int (i - j)) u5:=se (f:=fun i j=>.int (i - j)) (fun J B d e=>oN (f:=fun i j=>.int (i - j)) e) fun _ _ _ _ _=>by simp only[Rep]
def mZ (p:Int->Int->Bool):J5 K (U3 fun i j=>.bl (p i j)) (p8 p):=se (f:=fun i j=>.bl (p i j)) (fun J B d e=>oN (f:=fun i j=>.bl (p i j)) e) fun _ _ _ _ _=>by simp only[Rep]
def HS:J5 K qq j9:=by
 intro g σ H fa O s x y Z Y d Q I U B e k;cases Z with
 |int i=>
  cases Y with
  |int j=>
   have e:(if C8 i&&C8 j then some (D.int (i*j)) else none)=some d:=e;by_cases h:(C8 i&&C8 j)=true
   .rw[fx h] at e;cases e;rw[Iq] at h;simp only[RepB,Rep] at U B;exact .inl #[i,j,U,B,h,k _ H StE.refl I (by simp only[Rep])]
   .rw[fI h] at e;cases e
  |_=>cases e
 |lst as=>
  cases Y with
  |int j=>
   simp only[j9] at e;by_cases h:-(2 ^ 63)<=j/\j<2 ^ 63/\as.length*j.toNat<=sizeLine
   .rw[fx h] at e;cases e;obtain⟨a,xs,rfl,_,qa,J⟩:=U;simp only[RepB,Rep] at B;subst B;refine .inr #[a,j,xs,rfl,rfl,qa,h.1,h.2.1,by rw[J.length];exact h.2.2,fun p hp=>?_];have W:StE fa O H fa O (f9 H p (.lst (List.replicate j.toNat xs).flatten)):=B8 hp;have L:=X9 I hp (J.flat j.toNat);refine k _ _ W L.gi ?_;simp only[Rep];exact#[p,_,rfl,gn I W L.gi hp L.nf,v8,Reps.stp I W.stp (J.flat j.toNat)]
   .rw[fI h] at e;cases e
  |_=>cases e
 |_=>cases e
def xN:J5 K (rI (fun _ j=>L8 j=true) fun i j=>.int (i.fdiv j)) G8:=lZ (f:=fun i j=>.int (i.fdiv j)) (fun B J d e=>jS (C:=fun _ j=>L8 j=true) (f:=fun i j=>.int (i.fdiv j)) e) fun _ _ _ _ _=>by simp only[Rep]
def AI:J5 K (rI (fun _ j=>j≠0) fun i j=>.int (i.fmod j)) C1:=lZ (f:=fun i j=>.int (i.fmod j)) (fun B J d e=>jS (C:=fun _ j=>j≠0) (f:=fun i j=>.int (i.fmod j)) e) fun _ _ _ _ _=>by simp only[Rep]
def Df:J5 K (rI uH fun i j=>.int (i ^ j.toNat)) aW:=lZ (f:=fun i j=>.int (i ^ j.toNat)) (fun J B d e=>jS (C:=fun i j=>0<=j/\j<=1000000/\i.natAbs<2 ^ 64) (f:=fun i j=>.int (i ^ j.toNat)) e) fun _ _ _ _ _=>by simp only[Rep]
def Dc:qc K (rU fun i=>.int (-i)) u8:=by
 intro g σ H fa O s x J d Q I B e k;cases J with
 |int i=>cases e;simp only[RepB,Rep] at B;exact#[i,B,k _ H StE.refl I (by simp only[Rep])]
 |_=>cases e
end
section
variable {σ:L2.St}
mutual
theorem V8 (I:Inv X pins σ H s):∀(d:D) (v:V) (u:Value),U5 X.K N fa H d v->RelV v u->d.plain=true->∃as,Reads s.heap u d.py as
 |.non,v,u,r,ru,_=>by
  simp only[U5,Rep] at r;subst r;cases ru;simp only[D.py];exact#[[],.none]
 |.bl b,v,u,r,ru,_=>by
  simp only[U5,Rep] at r;subst r;cases ru;simp only[D.py];exact#[[],.bool b]
 |.int i,v,u,r,ru,_=>by
  simp only[U5,Rep] at r;subst r;obtain⟨t,rfl⟩:=ru;simp only[D.py];exact#[[],.int i t]
 |.str x,v,u,r,ru,_=>by
  simp only[U5,Rep] at r;obtain⟨r,_⟩:=r;subst r;obtain⟨t,rfl⟩:=ru;simp only[D.py];exact#[[],.str x t]
 |.tup ds,v,u,r,ru,hp=>by
  simp only[U5,Rep] at r;obtain⟨a,xs,rfl,q,w⟩:=r;cases ru;obtain⟨its,B,⟨o,h1,h2,n,U⟩,_⟩:=I.tuple q;obtain⟨as,J⟩:=ie I ds xs its w B (by simpa only[D.plain] using hp);simp only[D.py];exact#[as,.tuple h1 h2 U (by simpa using J)]
 |.lst ds,v,u,r,ru,hp=>by
  obtain⟨a,xs,rfl,q,w⟩:=r;cases ru;obtain⟨its,B,⟨o,n,h1,h2,U,h4⟩,_⟩:=I.list (SqL.of q);obtain⟨as,J⟩:=ie I ds xs its w B (by simpa only[D.plain] using hp);simp only[D.py];exact#[_,.list h1 h2 h4 (by simpa using J)]
 |.feed,v,u,r,ru,hp=>by simp only[D.plain] at hp;cases hp
 |.scr _,v,u,r,ru,hp=>by simp only[D.plain] at hp;cases hp
 |.fn _,v,u,r,ru,hp=>by simp only[D.plain] at hp;cases hp
 |.exc _ _,v,u,r,ru,hp=>by simp only[D.plain] at hp;cases hp
theorem ie (I:Inv X pins σ H s):∀(ds:vD_) (xs:List V) (us:vV_),Reps X.K N fa H ds xs->Vals xs us->D.plains ds=true->∃as,ReadsAll s.heap us (D.pys ds) as
 |[],xs,us,r,ru,_=>by
  simp only[Reps] at r;subst r;cases ru;simp only[D.pys];exact#[[],.nil]
 |d::ds,xs,us,r,ru,hp=>by
  simp only[Reps] at r;obtain⟨x,ys,rfl,J,B⟩:=r;cases ru with
  |cons q U=>
   simp only[D.plains,Iq] at hp;obtain⟨as,h1⟩:=V8 I d x _ J.o q hp.1;obtain⟨W,h2⟩:=ie I ds ys _ B U hp.2;simp only[D.pys];exact#[_,.cons h1 h2]
end
end
def u3 (d:D):Bool:=d.plain&&SeqAt.shaped d.py
def E6 (B J:D):Option D:=match B,J with
 |.str x,.str y=>some (.bl (decide (x=y)))
 |B,J=>if u3 B&&u3 J then some (.bl (PyData.eqv B.py J.py)) else none
def J6 (B J:D):Option D:=match B,J with
 |.str x,.str y=>some (.bl (!decide (x=y)))
 |B,J=>if u3 B&&u3 J then some (.bl (!PyData.eqv B.py J.py)) else none
def cK (K:vF_) (f:Bool->Bool):R2:=fun x y H Q=>∃N fa d1 d2,RepB K N fa H d1 x/\RepB K N fa H d2 y/\u3 d1=true/\u3 d2=true/\Q (.bl (f (PyData.eqv d1.py d2.py))) H
section
variable {K:vF_}
def yc (Z:X.A.units+64<cLine):OpR X (compareOp .Eq) (cK X.K id):=by
 intro pins s σ H x y v u Q I rx U h;obtain⟨N,fa,d1,d2,W,Y,B,J,q⟩:=h;unfold u3 at B J;rw[Iq] at B J;obtain⟨as,h1⟩:=V8 I d1 x v W.o rx B.1;obtain⟨bs,h2⟩:=V8 I d2 y u Y.o U J.1;exact Nx h1 h2 B.2 J.2 Z #[.bl _,H,I,rfl,q]
def zC (Z:X.A.units+64<cLine):OpR X (compareOp .NotEq) (cK X.K not):=by
 intro pins s σ H x y v u Q I rx U h;obtain⟨N,fa,d1,d2,W,Y,B,J,q⟩:=h;unfold u3 at B J;rw[Iq] at B J;obtain⟨as,h1⟩:=V8 I d1 x v W.o rx B.1;obtain⟨bs,h2⟩:=V8 I d2 y u Y.o U J.1;exact PyProof.Rows.ne_dataH h1 h2 B.2 J.2 Z #[.bl _,H,I,rfl,q]
def Cf (B:X.A.units+64<cLine):OpR X (compareOp .Eq) (fun x y H Q=>kE x y H Q\/cK X.K id x y H Q):=op_eq.or (yc B)
def Fx (B:X.A.units+64<cLine):OpR X (compareOp .NotEq) (fun x y H Q=>jC x y H Q\/cK X.K not x y H Q):=op_ne.or (zC B)
def HZ {B J:D}(h:E6 B J=some d):(∃x y,B = .str x/\J = .str y/\d = .bl (decide (x=y)))\/(u3 B=true/\u3 J=true/\d = .bl (PyData.eqv B.py J.py)):=by
 unfold E6 at h;split at h
 .cases h;exact .inl #[_,_,rfl,rfl,rfl]
 .split at h
  .rename_i q;rw[Iq] at q;cases h;exact .inr #[q.1,q.2,rfl]
  .cases h
def Ao {B J:D}(h:J6 B J=some d):(∃x y,B = .str x/\J = .str y/\d = .bl (!decide (x=y)))\/(u3 B=true/\u3 J=true/\d = .bl (!PyData.eqv B.py J.py)):=by
 unfold J6 at h;split at h
 .cases h;exact .inl #[_,_,rfl,rfl,rfl]
 .split at h
  .rename_i q;rw[Iq] at q;cases h;exact .inr #[q.1,q.2,rfl]
  .cases h
def pM (x y:Str):decide (V.str x=V.str y)=decide (x=y):=by
 by_cases h:x=y
 .subst h;simp
 .rw[Jc h,Jc fun z=>h (V.str.inj z)]
def Ah:J5 K (fun x y H Q=>kE x y H Q\/cK K id x y H Q) E6:=by
 intro g σ H fa O s x y U W d Q I B J e k;rcases HZ e with ⟨a,b,rfl,rfl,rfl⟩ | ⟨h1,h2,rfl⟩
 .simp only[RepB,Rep] at B J;obtain⟨rfl,_⟩:=B;obtain⟨rfl,_⟩:=J;exact .inl #[rfl,k _ H StE.refl I (by simp only[Rep,pM])]
 .exact .inr #[_,_,U,W,B,J,h1,h2,k _ H StE.refl I (by simp only[Rep,id])]
def Bi:J5 K (fun x y H Q=>jC x y H Q\/cK K not x y H Q) J6:=by
 intro g σ H fa O s x y U W d Q I B J e k;rcases Ao e with ⟨a,b,rfl,rfl,rfl⟩ | ⟨h1,h2,rfl⟩
 .simp only[RepB,Rep] at B J;obtain⟨rfl,_⟩:=B;obtain⟨rfl,_⟩:=J;exact .inl #[rfl,k _ H StE.refl I (by simp only[Rep,pM])]
 .exact .inr #[_,_,U,W,B,J,h1,h2,k _ H StE.refl I (by simp only[Rep])]
def d5:D->D->Option D
 |.tup ds,.int i=>v5 ds i
 |.lst ds,.int i=>v5 ds i
 |_,_=>none
abbrev Od(i:Int):DE:=dC (.int i)
abbrev Oe(i:Nat)(j:Int):DE:=a7 d5 (dL i) (Od j)
def oG {i:Int}(r:Reps K N fa H ds xs) (h:v5 ds i=some d):∃v,v5 xs i=some v/\Rep K N fa H d v:=by
 unfold v5 at h ⊢;rw[r.length];cases e:P5 ds.length i with
 |none=>rw[e] at h;cases h
 |some j=>
  rw[e] at h;simp only[td] at h ⊢;exact Reps.get r h
def GV:J5 K (fun x y H Q=>mE K x y H Q\/mm K x y H Q) d5:=by
 intro g σ H fa O s x y Z Y d Q I U B e k;cases Z with
 |tup ds=>
  cases Y with
  |int i=>
   simp only[RepB,Rep] at U B;obtain⟨a,xs,rfl,q,w⟩:=U;obtain⟨v,W,J⟩:=oG w (show v5 ds i=some d from e);exact .inr #[a,xs,i,v,rfl,B,q,W,k v H StE.refl I J]
  |_=>cases e
 |lst ds=>
  cases Y with
  |int i=>
   obtain⟨a,xs,rfl,_,q,w⟩:=U;simp only[RepB,Rep] at B;obtain⟨v,W,J⟩:=oG w (show v5 ds i=some d from e);exact .inl #[a,xs,i,v,rfl,B,SqL.of q,W,k v H StE.refl I J]
  |_=>cases e
 |_=>cases e
def yL:IxR X (fun x y H Q=>mE X.K x y H Q\/mm X.K x y H Q):=ix_list.or Aq
end
noncomputable def l7 (p:List D->Option D) (f:DA):DE:=fun s=>(f s).bind fun x=>(p x.1).map fun d=>(d,x.2)
def V4 (p:List D->Option (List D)) (f:DA):DA:=fun s=>(f s).bind fun x=>(p x.1).map fun d=>(d,x.2)
section
variable {p pos:Pos}{t:DA}{id T:String}{r:List V->Hp->VK->Prop}{pr:List D->Option D}{pf:List D->Option (List D)}
def pI (hr:Z4 X.K r pr) (σ:L2.St) (H:Hp) (Q:VK) (h:liftE X.K g (l7 pr t) σ H Q):dA r (liftBA X.K g t) σ H Q:=by
 obtain⟨Y,O,s,d,s',I,e,k⟩:=h;refine v6 e fun ds s1 h1 h=>?_
 refine J9 h fun d' Z h=>?_
 simp only[Iw] at h;obtain⟨U,e2⟩:=h;subst U;subst e2;exact#[Y,O,s,ds,s1,I,h1,fun J H1 f1 O1 W B r1=>hr g σ H1 f1 O1 s1 J ds d' Q B r1 Z fun z H3 a3 I3 r3=>k z H3 f1 O1 (W.trans a3) I3 r3]
def uj (hr:iM X.K r pf) (σ:L2.St) (H:Hp) (Q:VK) (h:liftF X.K g (V4 pf t) σ H Q):dA r (liftBA X.K g t) σ H Q:=by
 obtain⟨Y,O,s,d,s',I,e,k⟩:=h;refine v6 e fun ds s1 h1 h=>?_
 refine J9 h fun d' h3 h=>?_
 simp only[Iw] at h;obtain⟨W,e2⟩:=h;subst W;subst e2;exact#[Y,O,s,ds,s1,I,h1,fun U H1 f1 O1 B J r1=>hr g σ H1 f1 O1 s1 U ds d' Q J r1 h3 fun q ys H3 a3 L Z=>k q ys H3 f1 O1 (B.trans a3) L (B.mon _ Z)]
def mf (W:CallR X (.builtin id) r) (hr:Z4 X.K r pr) (Y:Gl X x) (hm:X.mg x=none) (Z:bootBuiltins x=some (.builtin id)) (ha:BAO X g (e::es) t) (U:x ≠ "__name__" := by decide) (B:(x == ("__debug__" : Str))=false:=by decide)
  (he:starEach (e::es) X.env=(false,eval e X.env)::starEach es X.env:=by rfl) (J:(backTo pos (starEach es X.env)).any (·.1)=false:=by rfl):EO X g (.Call (.Name x p) (e::es) [] pos) (l7 pr t):=
 EO.w (wS W Y hm Z ha.pe U B he J) (pI hr)
def wx (W:CallR X (.type T) r) (hr:Z4 X.K r pr) (Y:Gl X x) (hm:X.mg x=none) (Z:bootBuiltins x=some (.type T)) (ha:BAO X g (e::es) t) (U:x ≠ "__name__" := by decide) (B:(x == ("__debug__" : Str))=false:=by decide)
  (he:starEach (e::es) X.env=(false,eval e X.env)::starEach es X.env:=by rfl) (J:(backTo pos (starEach es X.env)).any (·.1)=false:=by rfl):EO X g (.Call (.Name x p) (e::es) [] pos) (l7 pr t):=
 EO.w (jh W Y hm Z ha.pe U B he J) (pI hr)
def Bz (W:CallR X (.type T) r) (hr:iM X.K r pf) (Y:Gl X x) (hm:X.mg x=none) (Z:bootBuiltins x=some (.type T)) (ha:BAO X g (e::es) t) (U:x ≠ "__name__" := by decide) (B:(x == ("__debug__" : Str))=false:=by decide)
  (he:starEach (e::es) X.env=(false,eval e X.env)::starEach es X.env:=by rfl) (J:(backTo pos (starEach es X.env)).any (·.1)=false:=by rfl):FO X g (.Call (.Name x p) (e::es) [] pos) (V4 pf t):=
 FO.w (jh W Y hm Z ha.pe U B he J) (uj hr)
end
def nt {K:vF_}(r:Y6 K N fa H [d] xs):∃x,xs=[x]/\RepB K N fa H d x:=by
 obtain⟨x,ys,rfl,J,B⟩:=r;simp only[Y6] at B;subst B;exact#[x,rfl,J]
def one {α:Type}(p:D->Option α):List D->Option α
 |[d]=>p d
 |_=>none
def uN {α:Type}{p:D->Option α}{a:α}(h:one p ds=some a):∃d,ds=[d]/\p d=some a:=by
 cases ds with
 |nil=>cases h
 |cons d r=>
  cases r with
  |nil=>exact#[d,rfl,h]
  |cons _ _=>cases h
def o6:D->Option D
 |.tup ds=>some (.int (ds.length:Nat))
 |.lst ds=>some (.int (ds.length:Nat))
 |.str x=>some (.int (x.length:Nat))
 |_=>none
def W3:D->Option D
 |.int i=>some (.int (if i<0 then -i else i))
 |_=>none
def dH:D->Option D
 |.tup ds=>some (.tup ds)
 |.lst ds=>some (.tup ds)
 |_=>none
def oF:D->Option (List D)
 |.tup ds=>some ds
 |.lst ds=>some ds
 |_=>none
section
variable {K:vF_}
def sW:CallR X (.builtin "len") (fun xs H Q=>(∃p ys,xs=[.ref p]/\(SqL X.K H p ys\/SqT X.K H p ys)/\Q (.int ys.length) H)\/(∃z,xs=[.str z]/\z.length<=sizeLine/\Q (.int z.length) H)):=call_len_seq.or Bh
def fX {r:List V->Hp->VK->Prop}{p:D->Option D}(h:∀(g:Gh) (σ:L2.St) (H:Hp) (fa:vA_) (O:vL_) (s:DS) (x:V) (d1 d:D) (Q:VK),GI K g σ H fa O s->RepB K (NN g.F fa O) fa H d1 x->p d1=some d ->
  (∀v H',StE fa O H fa O H'->GI K g σ H' fa O s->Rep K (NN g.F fa O) fa H' d v->Q v H')->r [x] H Q):Z4 K r (one p):=by
 intro g σ H fa O s xs ds d Q I J e k;obtain⟨d1,rfl,B⟩:=uN e;obtain⟨x,rfl,U⟩:=nt J;exact h g σ H fa O s x d1 d Q I U B k
def tQ:Z4 K (fun xs H Q=>(∃p ys,xs=[.ref p]/\(SqL K H p ys\/SqT K H p ys)/\Q (.int ys.length) H)\/(∃z,xs=[.str z]/\z.length<=sizeLine/\Q (.int z.length) H)) (one o6):=fX fun g σ H fa O s x B d Q I r e k=>by
 cases B with
 |tup es=>
  cases e;simp only[RepB,Rep] at r;obtain⟨a,ys,rfl,q,w⟩:=r;exact .inl #[a,ys,rfl,.inr q,k _ H StE.refl I (by rw[w.length];simp only[Rep])]
 |lst es=>
  cases e;obtain⟨a,ys,rfl,_,q,w⟩:=r;exact .inl #[a,ys,rfl,.inl (SqL.of q),k _ H StE.refl I (by rw[w.length];simp only[Rep])]
 |str z=>
  cases e;simp only[RepB,Rep] at r;obtain⟨rfl,l⟩:=r;exact .inr #[z,rfl,l,k _ H StE.refl I (by simp only[Rep])]
 |_=>cases e
def FK:Z4 K (fun xs H Q=>∃i,xs=[.int i]/\Q (.int (if i<0 then -i else i)) H) (one W3):=fX fun g σ H fa O s x B d Q I r e k=>by
 cases B with
 |int i=>
  cases e;simp only[RepB,Rep] at r;subst r;exact#[i,rfl,k _ H StE.refl I (by simp only[Rep])]
 |_=>cases e
def nM:Z4 K (fun xs H Q=>∃p ys,xs=[.ref p]/\((SqL K H p ys/\∀l,H l=none->Q (.ref l) (f9 H l (.tup ys)))\/(SqT K H p ys/\Q (.ref p) H))) (one dH):=fX fun g σ H fa O s x J d Q I r e k=>by
 cases J with
 |tup es=>
  cases e;simp only[RepB,Rep] at r;obtain⟨a,ys,rfl,q,w⟩:=r;exact#[a,ys,rfl,.inr #[q,k _ H StE.refl I (by simp only[Rep];exact#[a,ys,rfl,q,w])]]
 |lst es=>
  cases e;obtain⟨a,ys,rfl,_,q,w⟩:=r;refine#[a,ys,rfl,.inl #[SqL.of q,fun p hp=>?_]];have B:StE fa O H fa O (f9 H p (.tup ys)):=B8 hp;refine k _ _ B (I.new hp) ?_;simp only[Rep];exact#[p,ys,rfl,SqT.of v8,Reps.stp I B.stp w]
 |_=>cases e
def yy:iM K (fun xs H Q=>∃p ys,xs=[.ref p]/\(SqL K H p ys\/SqT K H p ys)/\∀l,H l=none->Q (.ref l) (f9 H l (.lst ys))) (one oF):=by
 intro g σ H fa O s xs ds es Q I U e k;obtain⟨W,rfl,B⟩:=uN e;obtain⟨x,rfl,r⟩:=nt U;cases W with
 |tup J=>
  cases B;simp only[RepB,Rep] at r;obtain⟨a,ys,rfl,q,w⟩:=r;exact#[a,ys,rfl,.inr q,fun p hp=>k p ys _ (B8 hp) (X9 I hp w) hp]
 |lst J=>
  cases B;obtain⟨a,ys,rfl,_,q,w⟩:=r;exact#[a,ys,rfl,.inl (SqL.of q),fun p hp=>k p ys _ (B8 hp) (X9 I hp w) hp]
 |_=>cases B
end
end DL
namespace DL
open PySem PySem.Spec L2
def FS.get (key:Str) (f:FS):Option D:=
 if f.kind=0 then if key = "cells" then some (.lst (f.cells.map .int)) else if key = "at" then some (.int f.pos) else if key = "left" then some (.int f.left) else if key = "turn" then some (.int f.turn) else none else none
def FS.put (key:Str) (n:Int) (f:FS):Option FS:=
 if f.kind=0 then if key = "at" then some { f with pos:=n } else if key = "left" then some { f with left:=n } else if key = "turn" then some { f with turn:=n } else none else none
def Ic (i:Nat) (key:Str):DE:=fun s=>match s.sl[i]? with
 |some (.v .feed)=>s.fs.bind fun f=>(f.get key).map fun d=>(d,s)
 |_=>none
def Ib (i:Nat) (key:Str) (fe:DE):DM:=fun s=>(fe s).bind fun x=>match x.2.sl[i]?,x.1 with
 |some (.v .feed),.int n=>x.2.fs.bind fun f=>(f.put key n).map fun f'=>(.next,{ x.2 with fs:=some f' })
 |_,_=>none
section
variable {key:Str}{pos:Pos}
def zU (xs:List V) (h:xs.length<=63):S8 xs none (some 63)=xs:=by
 unfold S8;have J:HT.sIx xs.length 0 none=0:=rfl;have B:HT.sIx xs.length xs.length (some 63)=xs.length:=by
  have:=HT.sIx_nat xs.length xs.length 63;rw[show ((63:Nat):Int)=63 from rfl] at this;rw[this];omega
 rw[J,B,Lj,Kq,List.take_length]
end
def FS.tget (n:Int) (f:FS):Option D:=
 if f.kind=0 then none else if n=0 then some (.lst (f.cells.map .int)) else if n=1 then some (.int f.pos) else if n=2 then some (.int f.left) else if n=3/\f.kind≠1 then some (.int f.turn) else none
def FS.tput (n v:Int) (f:FS):Option FS:=
 if f.kind=0 then none else if n=1 then some { f with pos:=v } else if n=2 then some { f with left:=v } else if n=3/\f.kind≠1 then some { f with turn:=v } else none
def C0 (i:Nat) (n:Int):DE:=fun s=>match s.sl[i]? with
 |some (.v .feed)=>s.fs.bind fun f=>(f.tget n).map fun d=>(d,s)
 |_=>none
def Q9 (i:Nat) (n:Int) (fe:DE):DM:=fun s=>(fe s).bind fun x=>match x.2.sl[i]?,x.1 with
 |some (.v .feed),.int v=>x.2.fs.bind fun f=>(f.tput n v).map fun f'=>(.next,{ x.2 with fs:=some f' })
 |_,_=>none
def FS.tget_val {n:Int}{f:FS}(h:f.tget n=some d) (c:Addr):∃v,v5 (K9 c f) n=some v/\((v = .ref c/\d = .lst (f.cells.map .int))\/∃i,v = .int i/\d = .int i)/\f.kind≠0:=by
 unfold FS.tget at h;split at h
 .cases h
 rename_i hk;unfold K9;split at h
 .rename_i e;subst e;cases h;refine#[.ref c,?_,.inl #[rfl,rfl],hk];split <;> rfl
 split at h
 .rename_i e;subst e;cases h;refine#[.int f.pos,?_,.inr #[_,rfl,rfl],hk];split <;> rfl
 split at h
 .rename_i e;subst e;cases h;refine#[.int f.left,?_,.inr #[_,rfl,rfl],hk];split <;> rfl
 split at h
 .rename_i e;obtain⟨e,B⟩:=e;subst e;cases h;refine#[.int f.turn,?_,.inr #[_,rfl,rfl],hk];rw[fI B];rfl
 .cases h
def FS.tput_val {n v:Int}{f f':FS}(h:f.tput n v=some f') (c:Addr):∃j,P5 (K9 c f).length n=some j/\(K9 c f).set j (.int v)=K9 c f'/\f'.cells=f.cells/\f.kind≠0/\f'.kind≠0:=by
 unfold FS.tput at h;split at h
 .cases h
 rename_i hk;split at h
 .rename_i e;subst e;cases h;refine#[1,?_,?_,rfl,hk,hk]
  .unfold K9;split <;> rfl
  .by_cases z:f.kind=1
   .simp[K9,z]
   .simp[K9,z]
 split at h
 .rename_i e;subst e;cases h;refine#[2,?_,?_,rfl,hk,hk]
  .unfold K9;split <;> rfl
  .by_cases z:f.kind=1
   .simp[K9,z]
   .simp[K9,z]
 split at h
 .rename_i e;obtain⟨e,B⟩:=e;subst e;cases h;refine#[3,?_,?_,rfl,hk,hk]
  .unfold K9;rw[fI B];rfl
  .simp[K9,B]
 .cases h
section
variable {n:Int}{pos:Pos}
def FQ (hv:PE X (.Name x p1) (M1 i)):EO X g (.Subscript (.Name x p1) (.Constant (.int n) j p2) pos) (C0 i n):=
 EO.w (qR ix_list hv ak (fun _ _=>rfl)) fun σ H Q hQ=>by
  refine hQ.elim fun fa O s d s' I e k=>?_
  unfold C0 at e;cases q:s.sl[i]? with
  |none=>rw[q] at e;cases e
  |some z=>
   rw[q] at e;cases z with
   |no=>cases e
   |dct _=>cases e
   |own _=>cases e
   |v dz=>
    cases dz with
    |feed=>
     refine G7 e fun f h1 h2=>?_
     refine J9 h2 fun d' h3 h4=>?_
     cases h4;obtain⟨u,U,r⟩:=SlR.val I.sl q;simp only[Rep] at r;obtain⟨a,ha,rfl⟩:=r;have fd:=I.fd;rw[h1,ha] at fd;obtain⟨_,c,J,W,Y⟩:=fd;obtain⟨v,B,Z,hk⟩:=FS.tget_val h3 c;rw[iP hk] at J;refine#[_,U,a,_,n,v,rfl,rfl,SqL.of J,B,k v H fa O StE.refl I ?_];rcases Z with ⟨rfl,rfl⟩ | ⟨n,rfl,rfl⟩
     .simp only[Rep];exact#[c,_,rfl,by rw[ha];exact W,Y,Reps.ints]
     .simp only[Rep]
    |_=>cases e
def EH {e:Expr}{fe:DE}(hv:PE X (.Name x p1) (M1 i)) (he:EO X g e fe) (hs:swapsWithSole [.Subscript (.Name x p1) (.Constant (.int n) j p2) pos'] e pos.line X.env=pure false:=by rfl) (hw:swappedStores [.Subscript (.Name x p1) (.Constant (.int n) j p2) pos'] e X.env=pure none:=by rfl) :
  SO X g (.Assign [.Subscript (.Name x p1) (.Constant (.int n) j p2) pos'] e pos) (Q9 i n fe):=
 SO.w (kT he.pe (sP hv ak DD) hs hw) fun E σ H hQ=>by
  refine hQ.elim fun fa O s fl s' I q k=>?_
  refine v6 q fun d s1 h1 h2=>?_
  simp only[] at h2;cases q1:s1.sl[i]? with
  |none=>rw[q1] at h2;cases h2
  |some z=>
   rw[q1] at h2;cases z with
   |no=>cases h2
   |dct _=>cases h2
   |own _=>cases h2
   |v dz=>
    cases dz with
    |feed=>
     cases d with
     |int w=>
      simp only[] at h2;refine G7 h2 fun f h3 h4=>?_
      refine J9 h4 fun f' h5 h6=>?_
      cases h6;refine#[fa,O,s,.int w,s1,I,h1,fun v H1 f1 O1 a1 B r=>?_];simp only[Rep] at r;subst r;obtain⟨u,e1,ru⟩:=SlR.val B.sl q1;simp only[Rep] at ru;obtain⟨a,ha,rfl⟩:=ru;have fd:=B.fd;rw[h3,ha] at fd;obtain⟨U,c,hc,nc,lc⟩:=fd;obtain⟨m,hix,W,J,hk,hk'⟩:=FS.tput_val h5 c;rw[iP hk] at hc;refine#[_,e1,a,_,n,m,rfl,rfl,hc,hix,?_];rw[W];have Y:StE f1 O1 H1 f1 O1 (f9 H1 a (.lst (K9 c f'))):=#[fun _ h=>h,.inl rfl,fun b w e Z=>by rw[n9 (fun z=>Z (by rw[z];exact ha))];exact e,fun b z=>by
       by_cases hb:b=a
       .subst hb;rw[v8] at z;cases z
       .rw[n9 hb] at z;exact z]
      have cr:=B.car Y.stp;refine k σ _ f1 O1 (a1.stp.trans Y.stp) #[B.nd,SlR.go cr (fun b xs hb e=>Y.same b _ e fun z=>B.nf b z hb) B.sl,B.fr,?_,B.tr,B.ff,?_,B.nf]
      .refine#[fun b hb=>(by cases hb),B.st.fe,fun b w e _ Z=>?_,fun b z=>B.st.mon b (Y.mon b z)];refine Y.same b w (B.st.same b w e (by simp) Z) fun z=>?_
       rcases B.st.fe with y | ⟨y,y2⟩
       .rw[y] at z;exact Z z
       .rw[y2 b z] at e;cases e
      .rw[ha];refine#[by rw[J];exact U,c,by rw[iP hk',v8],nc,?_];rw[n9 (fun z=>nc (.inr (.inr (by rw[z])))),J];exact lc
     |_=>cases h2
    |_=>cases h2
end
structure Cal (P:Program) (w:World) (K:vF_) (mg:vG_) (base:Heap) (k:Nat) (x:Str) (ps:List Str) (m:a9):Prop where
 ex:∃(f:Addr) (fd:FuncData),eJ P w K mg base k f fd ps m/\mg x=some (.ref f)/\PySem.W.keepIn K (.ref f)=true/\Binds K fd ps []
structure Blt (mg:vG_):Prop where
 len:mg "len" = none
 range:mg "range" = none
 abs:mg "abs" = none
 tuple:mg "tuple" = none
 list:mg "list" = none
 int:mg "int" = none
 bool:mg "bool" = none
 str:mg "str" = none
 repr:mg "repr" = none
 all:mg "all" = none
 isinstance:mg "isinstance" = none
 zip:mg "zip" = none
 enumerate:mg "enumerate" = none
 min:mg "min" = none
 max:mg "max" = none
 reversed:mg "reversed" = none
 any:mg "any" = none
 sum:mg "sum" = none
 sorted:mg "sorted" = none
section
variable {ps:List Str}{p pos:Pos}{t:DA}
def je (C:Cal X.prog X.w X.K X.mg X.base k x ps m) (k':Nat) (hr:Room k' X.A) (hk:k<=k') (W:Gl X x)
  (ha:AO X g (e::es) t) (Y:∀s ds s',t s=some (ds,s')->ds.length=ps.length) (B:(x == ("__debug__" : Str))=false:=by decide) (Z:starEach (e::es) X.env=(false,eval e X.env)::starEach es X.env:=by rfl) (U:(backTo pos (starEach es X.env)).any (·.1)=false:=by rfl) :
  EO X g (.Call (.Name x p) (e::es) [] pos) (d8 m t):=by
 obtain⟨f,fd,F,hm,J,hb⟩:=C.ex;exact Bo F (hr.mono hk) W hm J hb ha Y B Z U
end
def Dr {w:World}{K:vF_}{st:Stmt}{f:Addr}{N ps:List Str}{b:DM}(F:Fun K x x st f fd) (hm:mg x=some (.ref f)) (hb:Binds K fd ps []) (S:FnScope N ps (D5 st))
  (B:∀(cdv:Value) (A:Around) (outer:List Env) (s:Shared) (H:Hp) (E:XK) (g:Gh),Room k (A.deeper (PyProof.Rows.envOfC x (D5 st) s.heap.objs.size f cdv))->SSO (W5 T8 P w K mg base N x (D5 st) f cdv A outer s H E).nox g (Q1 st) b) :
  Cal P w K mg base (k+1) x ps (t7 N.length b):=#[f,fd,nR F S B,hm,F.kp,hb]
def T1 (B:Room k A):A.units+64<cLine:=by have:=B.un;omega
def pD:bootBuiltins ("len" : Str)=some (.builtin "len"):=by decide +kernel
def Br:bootBuiltins ("abs" : Str)=some (.builtin "abs"):=by decide +kernel
def pC:bootBuiltins ("tuple" : Str)=some (.type "tuple"):=by decide +kernel
def jH:bootBuiltins ("list" : Str)=some (.type "list"):=by decide +kernel
def nk:bootBuiltins ("int" : Str)=some (.type "int"):=by decide +kernel
theorem gG {κ:Type}[BEq κ] [LawfulBEq κ] {β:Type}:∀{l:List (κ × β)}{x:κ}{v:β},l.lookup x=some v->(x,v)∈l
 |[],_,_,h=>by simp at h
 |(a,b)::r,x,v,h=>by
  rw[List.lookup_cons] at h;cases e:x == a with
  |true=>
   rw[e] at h;cases h;rw[eq_of_beq e];exact iR ..
  |false=>
   rw[e] at h;exact iU _ (gG h)
def hasAll (B:List (Str × NameKind)) (cl:List (Str × Addr)):Bool:=B.all fun p=>!(p.2 == .cell||p.2 == .free)||(cl.lookup p.1).isSome
def qA {B:List (Str × NameKind)}(h:hasAll B cl=true):∀x,(B.lookup x=some .cell\/B.lookup x=some .free)->∃c,cl.lookup x=some c:=fun x U=>by
 have key:∀J,B.lookup x=some J->(J == NameKind.cell||J == NameKind.free)=true->∃c,cl.lookup x=some c:=fun J e q=>by
  have m:=gG e;have z:=JI.mp h _ m;simp only[q,Lk,Bool.false_or] at z;exact Np.mp z
 rcases U with e | e
 .exact key _ e rfl
 .exact key _ e rfl
inductive CapL (X:Cx) (scope:Scope):List Nat->List Str->Prop where
 | nil:CapL X scope [] []
 | cons {i:Nat}{y:Str}{r:List Nat}{ys:List Str}(h1:X.N[i]? = some y) (h2:X.env.scope.names.lookup y=some .cell\/X.env.scope.names.lookup y=some .free)
   (h3:(relabel scope X.env).names.lookup y=some .cell\/(relabel scope X.env).names.lookup y=some .free) (t:CapL X scope r ys):CapL X scope (i::r) (y::ys)
def CapL.len :∀{idx:List Nat}{ys:List Str},CapL X scope idx ys->ys.length=idx.length
:= by
 intro idx ys h;induction h with
 |nil=>rfl
 |cons _ _ _ t ih=>rw[Iu,Iu,ih]
def CapL.at :∀{idx:List Nat}{ys:List Str},CapL X scope idx ys->∀(j i:Nat) (y:Str),idx[j]? = some i->ys[j]? = some y ->
  X.N[i]? = some y/\(X.env.scope.names.lookup y=some .cell\/X.env.scope.names.lookup y=some .free)/\((relabel scope X.env).names.lookup y=some .cell\/(relabel scope X.env).names.lookup y=some .free)
:= by
 intro idx ys h;induction h with
 |nil=>intro j i y h;cases h
 |cons h1 h2 h3 t ih=>
  intro j i y e1 e2;cases j with
  |zero=>
   cases e1;cases e2;exact#[h1,h2,h3]
  |succ j=>exact ih j i y e1 e2
inductive SubL (cells:List (Str × Addr)):List (Str × Addr)->Prop where
 | nil:SubL cells []
 | cons {x:Str}{c:Addr}{r:List (Str × Addr)}(h:cells.lookup x=some c) (t:SubL cells r):SubL cells ((x,c)::r)
def SubL.mem {B:List (Str × Addr)}:∀{cl:List (Str × Addr)},SubL B cl->∀x c,(x,c)∈cl->B.lookup x=some c
:= by
 intro cl h;induction h with
 |nil=>intro x c h;cases h
 |cons e t ih=>
  intro x c h;rcases iO.mp h with z | z
  .cases z;exact e
  .exact ih x c z
def bw (J:closureFor scope X.env=pure cl) (W:SubL X.env.cells cl) (cell:∀y∈scope.names,y.2 ≠ .cell) (kind:scope.kind = .function)
  (names:∀y∈scope.names,y.2 = .local->scope.names.lookup y.1=some .local) (U:hasAll (relabel scope X.env).names cl=true) (B:CapL X scope idx caps):CompOk X scope cl (x::caps) 1 idx:=
 #[J,fun y c e=>W.mem y c (gG e),cell,kind,names,qA U,by rw[Iu,B.len,JU],fun j i y Z Y=>B.at j i y Z (by rw[JU] at Y;simpa using Y)]
def A6 (i j:Nat) (f:DA):DM:=fun s=>(f s).bind fun x=>match x.1 with
 |[a,b]=>some (.next,{ x.2 with sl:=(x.2.sl.set i (.v a)).set j (.v b) })
 |_=>none
def Ga {i j:Nat}{x y:Str}{a b:Expr}{f:DA}{px py pt pos:Pos}{kt k2 pt2} (hc:X.calm=true) (hN:X.N.Nodup) (hi:X.N[i]? = some x) (hj:X.N[j]? = some y) (J:i≠j)
  (hx:X.env.scope.names.lookup x=some .local) (hy:X.env.scope.names.lookup y=some .local) (ha:AO X g [a,b] f)
  (hw:swappedStores [.Tuple [.Name x px,.Name y py] kt pt] (.Tuple [a,b] k2 pt2) X.env=pure (some [x,y]))
  (hs:swapsWithSole [.Tuple [.Name x px,.Name y py] kt pt] (.Tuple [a,b] k2 pt2) pos.line X.env=pure false:=by rfl) :
  SO X g (.Assign [.Tuple [.Name x px,.Name y py] kt pt] (.Tuple [a,b] k2 pt2) pos) (A6 i j f):=SO.w (Am hc hN hi hj J hx hy ha.pe hw hs) fun E σ H hQ=>by
 refine hQ.elim fun fa O s fl s' I q k=>?_
 refine v6 q fun ds s1 h1 h2=>?_
 refine#[fa,O,s,ds,s1,I,h1,fun vs H1 f1 O1 a1 W r=>?_]
 match ds,h2,r with
 |[d1,d2],h2,r=>
  simp only[Jf,Iw] at h2;obtain⟨Z,e2⟩:=h2;subst Z;subst e2;simp only[Reps] at r;obtain⟨v,ys,rfl,rv,u,zs,rfl,ru,rfl⟩:=r;refine#[v,u,rfl,?_];obtain⟨P,U,I2⟩:=W.put i rv;have Y:StE f1 O1 H1 f1 P H1:=iE U;obtain⟨P3,B,I3⟩:=I2.put j (Rep.stp W Y.stp ru);exact k _ H1 f1 P3 (a1.stp.trans (Y.stp.trans (iE B).stp)) I3
def walkD {l:PySem.W.OpenLaw}{d:DefRec}{K:Params->PySem.W.Frag}(Y:l.most=some 63) (J:d.params.defaults=[]) (Z:Room k callerA)
  (U:∀(w:World) (h:Heap),YP w h->(K w.params).In h)
  (F:∀(w:World) (mg:vG_) (fa:Addr) (h:Heap),(K w.params).In h->h.Ns mainGlobals mg->mg d.name=some (.ref fa) ->
   ∃fd:FuncData,(∀(s:Shared) (u:Value),BindsTo s fd #[[u],[]] [("_law_script",u)])/\∀base:Heap,(K w.params).In base->base.Ns mainGlobals mg->FnOk l.prog w (K w.params) mg base T8 k fa fd ["_law_script"] (cM (K w.params) 1 m))
  (B:∀ns:List Int,ns.length<=63->∃fs',m [.scr ns] none=some (.bl true,fs')) :
  PySem.W.WalkO q loose XP YP l.row.toRowW d [] (fun f vs=>PySem.call f vs):=
 L2.walk_of (n:=63) (k:=k) (x := "_law_script") (CX:=fun _=>T8) (sp:=fun w=>cM (K w.params) 1 m) Y #[] J Z U F (fun w H a ns hl hO hS=>by
  obtain⟨fs',e⟩:=B ns hl;refine#[fun _=>False,none,[.scr ns],none,.bl true,fs',fun b z=>z.elim,fun a z=>(by cases z),?_,trivial,e,rfl,fun v H' fa' _ _ r=>by simpa only[Rep] using r];simp only[Reps,Rep];refine#[_,_,rfl,#[hl,a,rfl,?_],rfl];rcases hS with (z | ⟨o,z⟩) | z
  .rcases hO a with y | ⟨o,xs,y⟩ <;> · rw[z] at y;cases y
  .exact .inl #[o,z]
  .exact .inr z) fun _ _ _ _ _ z=>z
section
variable {a b:Expr}{fa fb fc:DE}{pos:Pos}
abbrev DO:=DS->Option (Option Int × DS)
def liftO (K:vF_) (g:Gh) (f:DO):L2.TO:=fun σ H Q=>∃fa O s d s',GI K g σ H fa O s/\f s=some (d,s')/\∀H' fa' O',StE fa O H fa' O' H'->GI K g σ H' fa' O' s'->Q d H'
def liftO.elim {K:vF_}{σ:L2.St}{f:DO}{Q:Option Int->Hp->Prop}(h:liftO K g f σ H Q) (k:∀fa O s d s',GI K g σ H fa O s->f s=some (d,s')->(∀H' fa' O',StE fa O H fa' O' H'->GI K g σ H' fa' O' s'->Q d H')->G):G:=by
 obtain⟨fa,O,s,d,s',a,b,c⟩:=h;exact k fa O s d s' a b c
structure OO (X:Cx) (g:Gh) (e:Option Expr) (f:DO):Prop where
 pe:PO X e (liftO X.K g f)
def R5:DO:=fun s=>some (none,s)
def R0 (f:DE):DO:=fun s=>(f s).bind fun x=>match x.1 with | .int i=>some (some i,x.2) | _=>none
def BL {e:Option Expr}{t t':L2.TO}(h:PO X e t) (w:∀σ H Q,t' σ H Q->t σ H Q):PO X e t':=fun pins s σ H Q I q=>h pins s σ H Q I (w σ H Q q)
theorem OO.w {e:Option Expr}{f:DO}{t:L2.TO}(h:PO X e t) (w:∀σ H Q,liftO X.K g f σ H Q->t σ H Q):OO X g e f:=#[BL h w]
def xT:OO X g none R5:=OO.w nT fun σ H Q B=>by
 refine B.elim fun J O s d s' I e k=>?_
 cases e;exact k H J O StE.refl I
def zN (h:BO X g a fa):OO X g (some a) (R0 fa):=OO.w (vI h.pe) fun σ H Q J=>by
 refine J.elim fun Y O s d s' I e k=>?_
 refine v6 e fun x s1 h1 e=>?_
 cases x with
 |int i=>
  simp only[Jf,Iw] at e;obtain⟨U,e2⟩:=e;subst U;subst e2;exact#[Y,O,s,.int i,s1,I,h1,fun v H1 f1 O1 W B Z=>#[i,by simpa only[RepB,Rep] using Z,k H1 f1 O1 W B]]
 |_=>cases e
def F7 (xs:vD_) (lo hi:Option Int):List D:=(xs.drop (HT.sIx xs.length 0 lo)).take (HT.sIx xs.length xs.length hi - HT.sIx xs.length 0 lo)
def lO {K:vF_}{fa:vA_}(r:Reps K N fa H ds xs) (lo hi:Option Int):Reps K N fa H (F7 ds lo hi) (S8 xs lo hi):=by
 unfold F7 S8;rw[r.length];exact(r.drop _).take _
end
end DL
namespace HT2
open PySem PyProof.Rows HT
section
variable {w:World}
def getItem_tuple_whole {t sl:Addr}{lo hi:Option Int}{Q:vQ_}(J:IsTup s.heap t items) (hs:s.heap.IsSliceOf sl vl vu .none) (pl:IsPart vl lo) (pu:IsPart vu hi)
  (Z:sIx items.size 0 lo=0/\sIx items.size items.size hi=items.size) (h:Q (.ref t) s):wpAny (model prog w) A (getItem (.ref t) (.ref sl)) Q E s:=by
 obtain⟨os,W,U,hds⟩:=id hs;have Y:s.TypeIs (.ref sl) "slice" := #[os,W,U]
 unfold getItem
 try with_reducible refine Jt ?_
 first | refine cn (gV ?_) | skip
 refine cn (wpAny_sequenceKey J.typeIs #[] ?_);refine cn (JA (name:=Str.ofString "__getitem__") J.typeIs Ky
  (Je Ky J.typeIs entry_tuple_getitem ?_ (args_tuple_getitem _ _)))
 show wpAny _ _ (Builtin.Tuple.tupleItemsOf (.ref t) >>= _) _ _ s;refine cn (tupleItemsOf_ J ?_);refine cn (Lh Y ?_);rw[fx #[]];refine cn (wz hs pl pu ?_);have B:(((sIx items.size 0 lo:Nat):Int) == 0&&(1:Int) == 1&&(sIx items.size items.size hi - sIx items.size 0 lo) == items.size)=true:=by
  rw[Z.1,Z.2];simp
 show wpAny _ _ (if (((sIx items.size 0 lo:Nat):Int) == 0&&(1:Int) == 1&&(sIx items.size items.size hi - sIx items.size 0 lo) == items.size)=true then _ else _) _ _ s;rw[fx B];refine cn (m:=Builtin.Tuple.tupleIsExact _) (cn (Lh J.typeIs (gV ?_)));rw[fx #[]]
 first
  | exact cn (Jx (cn (gV (gV #[_,rfl,gV h]))))
  | exact cn (Jx (gV #[_,rfl,gV h]))
  | exact cn (Jx (cn (gV #[_,rfl,gV h])))
end
end HT2
namespace DL
open PySem PySem.Spec L2
section
variable {a:Expr}{fa:DE}{pos:Pos}
def xV (K:vF_):V->Option Int->Option Int->Hp->VK->Prop:=fun x lo hi H Q=>∃a xs,x = .ref a/\SqT K H a xs/\(HT.sIx xs.length 0 lo=0/\HT.sIx xs.length xs.length hi=xs.length)/\Q (.ref a) H
def xt:L2.SlR X (xV X.K):=by
 intro pins s σ H x v vl vu lo hi sl Q I Z hs pl W h;obtain⟨a,xs,rfl,Y,U,q⟩:=h;cases Z;obtain⟨its,r,J,hz⟩:=I.tuple Y;have B:its.toArray.size=xs.length:=by rw[Iz];exact r.length.symm
 refine#["tuple",_,Ky.lookup,J.typeIs,?_];exact HT2.getItem_tuple_whole J hs pl W (by rw[B];exact U) #[.ref a,H,I,rfl,q]
def zP {xs:vD_}{lo hi:Option Int}(h:HT.sIx xs.length 0 lo=0/\HT.sIx xs.length xs.length hi=xs.length):F7 xs lo hi=xs:=by
 unfold F7;rw[h.1,h.2,Lj,Kq,List.take_length]
noncomputable def L9 (f:DE) (lo hi:DO):DE:=fun s=>(f s).bind fun x=>(lo x.2).bind fun l=>(hi l.2).bind fun h=>match x.1 with
 |.tup ds=>some (.tup (F7 ds l.1 h.1),h.2)
 |.lst ds=>some (.lst (F7 ds l.1 h.1),h.2)
 |_=>none
def Gj {x r:D}{F:List D->List D}{t z:DS}(e:(match x with
 |.tup ds=>some (D.tup (F ds),t)
 |.lst ds=>some (D.lst (F ds),t)
 |_=>none)=some (r,z)):t=z/\((∃ds,x = .lst ds/\r = .lst (F ds))\/∃ds,x = .tup ds/\r = .tup (F ds)):=by
 cases x with
 |tup ds=>cases e;exact#[rfl,.inr #[ds,rfl,rfl]]
 |lst ds=>cases e;exact#[rfl,.inl #[ds,rfl,rfl]]
 |_=>cases e
def Fh {lo hi:Option Expr}{fl fh:DO}(ha:BO X g a fa) (hl:OO X g lo fl) (hh:OO X g hi fh):EO X g (.Subscript a (.Slice lo hi none p2) pos) (L9 fa fl fh):=
 EO.w (rJ (L2.SlR.or (L2.SlR.or yW xt) rA) ha.pe hl.pe hh.pe) fun σ H Q hQ=>by
  refine hQ.elim fun f0 O s d s' I e k=>?_
  refine v6 e fun x s1 h1 e=>?_
  refine v6 e fun l s2 h2 e=>?_
  refine v6 e fun h s3 h3 e=>?_
  obtain⟨rfl,c⟩:=Gj (F:=fun ds=>F7 ds l h) e;refine#[f0,O,s,x,s1,I,h1,fun v H1 f1 O1 a1 I1 r1=>#[f1,O1,s1,l,s2,I1,h2,fun H2 f2 O2 a2 I2=>#[f2,O2,s2,h,s3,I2,h3,fun Y J B a3 W=>?_]]];have r3:=RepB.stp I2 a3 (RepB.stp I1 a2 r1);rcases c with ⟨ds,rfl,rfl⟩ | ⟨ds,rfl,rfl⟩
  .obtain⟨c,xs,rfl,_,q,w⟩:=r3;refine .inr #[c,xs,rfl,SqL.of q,fun p hp=>?_];have U:StE J B Y J B (f9 Y p (.lst (S8 xs l h))):=B8 hp;have L:=X9 W hp (lO w l h);refine k _ _ J B (a1.trans (a2.trans (a3.trans U))) L.gi ?_;simp only[Rep];exact#[p,_,rfl,gn W U L.gi hp L.nf,v8,Reps.stp W U.stp (lO w l h)]
  .simp only[RepB,Rep] at r3;obtain⟨c,xs,rfl,q,w⟩:=r3;by_cases Z:HT.sIx xs.length 0 l=0/\HT.sIx xs.length xs.length h=xs.length
   .refine .inl (.inr #[c,xs,rfl,q,Z,k _ Y J B (a1.trans (a2.trans a3)) W ?_]);rw[w.length] at Z;rw[zP Z];simp only[Rep];exact#[c,xs,rfl,q,w]
   .refine .inl (.inl #[c,xs,rfl,q,Z,fun p hp=>?_]);have U:StE J B Y J B (f9 Y p (.tup (S8 xs l h))):=B8 hp;refine k _ _ J B (a1.trans (a2.trans (a3.trans U))) (W.new hp) ?_;simp only[Rep];exact#[p,_,rfl,SqT.of v8,Reps.stp W U.stp (lO w l h)]
end
end DL
namespace DL
open PySem PySem.Spec L2 PyProof.Rows
def wI {w:World}{K:vF_}{f:Addr}{ps:List Str}:eJ P w K mg base k f fd ps (fun _ _=>none):=by
 refine#[fun U H Q E h=>?_,fun A B s H J us U Q E _ _ _ _ h=>?_] <;> (obtain⟨F,fa,ds,fs,d,fs',_,_,_,_,e,_⟩:=h;cases e)
end DL
namespace DL
open PySem PySem.Spec L2
def lD:Expr->Bool
 |.Starred _ _=>false
 |_=>true
def qK {B:Env}(h:lD a=true):starEach (a::es) B=(false,eval a B)::starEach es B:=by
 cases a <;> first | rfl | (cases h)
section
variable {a:Expr}{fa:DE}{fr:DA}
def ac (ha:EO X g a fa) (B:AO X g es fr) (hs:lD a=true:=by rfl):AO X g (a::es) (a0 fa fr):=lT ha B (qK hs)
def bc (ha:BO X g a fa) (B:BAO X g es fr) (hs:lD a=true:=by rfl):BAO X g (a::es) (a0 fa fr):=Hs ha B (qK hs)
end
end DL
namespace DL
open PySem PySem.Spec L2 PyProof.Rows
def Q5 (x:D) (ds:vD_):Bool:=(D.pys ds).any fun y=>PyData.eqv y x.py
def Y0 (f:Bool->Bool) (x c:D):Option D:=match c with
 |.lst ds=>if u3 x&&u3 (.lst ds) then some (.bl (f (Q5 x ds))) else none
 |.tup ds=>if u3 x&&u3 (.tup ds) then some (.bl (f (Q5 x ds))) else none
 |_=>none
def N6 (x c:D):Option D:=Y0 id x c
def Z2 (x c:D):Option D:=Y0 not x c
def fv (K:vF_) (f:Bool->Bool):R2:=fun x y H Q=>∃N fa d1 d2 ds,RepB K N fa H d1 x/\RepB K N fa H d2 y/\(d2 = .lst ds\/d2 = .tup ds)/\u3 d1=true/\u3 d2=true/\Q (.bl (f (Q5 d1 ds))) H
section
variable {K:vF_}
def gM {u a b:Nat}(h:u+64<cLine) (ha:a+1<=64):u+1+min a b<cLine:=by
 have:min a b<=a:=KC _ _;omega
def gA (W:X.A.units+64<cLine):OpR X (compareOp .In) (fv X.K id):=by
 intro pins s σ H x y v u Q I rx Z h;obtain⟨N,fa,d1,d2,ds,r1,r2,Y,B,J,q⟩:=h;unfold u3 at B J;rw[Iq] at B J;obtain⟨as,h1⟩:=V8 I d1 x v r1.o rx B.1;obtain⟨bs,h2⟩:=V8 I d2 y u r2.o Z J.1;have l2:=KD J.2;have U:=SeqAt.depth_of_shaped J.2;rcases Y with rfl | rfl
 .simp only[D.py,PyData.canLay0,PyData.depth] at h2 l2 U;exact SeqAt.in_list_reads h2 h1 l2 (KD B.2) (gM W U) #[.bl _,H,I,rfl,q]
 .simp only[D.py,PyData.canLay0,PyData.depth] at h2 l2 U;exact SeqAt.in_tuple_reads h2 h1 l2 (KD B.2) (gM W U) #[.bl _,H,I,rfl,q]
def vN (W:X.A.units+64<cLine):OpR X (compareOp .NotIn) (fv X.K not):=by
 intro pins s σ H x y v u Q I rx Z h;obtain⟨N,fa,d1,d2,ds,r1,r2,Y,B,J,q⟩:=h;unfold u3 at B J;rw[Iq] at B J;obtain⟨as,h1⟩:=V8 I d1 x v r1.o rx B.1;obtain⟨bs,h2⟩:=V8 I d2 y u r2.o Z J.1;have l2:=KD J.2;have U:=SeqAt.depth_of_shaped J.2;rcases Y with rfl | rfl
 .simp only[D.py,PyData.canLay0,PyData.depth] at h2 l2 U;exact SeqAt.notIn_list_reads h2 h1 l2 (KD B.2) (gM W U) #[.bl _,H,I,rfl,q]
 .simp only[D.py,PyData.canLay0,PyData.depth] at h2 l2 U;exact SeqAt.notIn_tuple_reads h2 h1 l2 (KD B.2) (gM W U) #[.bl _,H,I,rfl,q]
def AG {f:Bool->Bool}{x c:D}(h:Y0 f x c=some d):∃ds,(c = .lst ds\/c = .tup ds)/\u3 x=true/\u3 c=true/\d = .bl (f (Q5 x ds)):=by
 unfold Y0 at h;cases c with
 |lst ds=>
  simp only at h;split at h
  .rename_i q;rw[Iq] at q;cases h;exact#[ds,.inl rfl,q.1,q.2,rfl]
  .cases h
 |tup ds=>
  simp only at h;split at h
  .rename_i q;rw[Iq] at q;cases h;exact#[ds,.inr rfl,q.1,q.2,rfl]
  .cases h
 |_=>cases h
def rL (f:Bool->Bool):J5 K (fv K f) (Y0 f):=by
 intro g σ H fa O s x y Y d2 d Q I U W e k;obtain⟨ds,Z,B,J,rfl⟩:=AG e;exact#[_,fa,Y,d2,ds,U,W,Z,B,J,k _ H StE.refl I (by simp only[Rep])]
def gf:J5 K (fv K id) N6:=rL id
def tw:J5 K (fv K not) Z2:=rL not
end
end DL
namespace DL
open PySem PySem.Spec L2
def mJ (i:Nat) (s:DS):DS:=match s.sl[i]? with
 |some (.own ds)=>{ s with sl:=s.sl.set i (.v (.lst ds)) }
 |_=>s
def iK:List Nat->DS->DS
 |[],s=>s
 |i::r,s=>iK r (mJ i s)
section
variable {K:vF_}{σ:L2.St}{s:DS}
def Bl (i:Nat) (I:GI K g σ H fa O s):∃P,StE fa O H fa P H/\GI K g σ H fa P (mJ i s):=by
 unfold mJ;cases q:s.sl[i]? with
 |none=>exact#[O,StE.refl,I]
 |some z=>
  cases z with
  |no=>exact#[O,StE.refl,I]
  |dct _=>exact#[O,StE.refl,I]
  |v d'=>exact#[O,StE.refl,I]
  |own ds=>
   simp only;obtain⟨a,xs,U,m,e2,r⟩:=SlR.own I.sl q
   let N1:Addr->Prop:=fun b=>NN g.F fa O b/\b≠a
   have J:Car K (NN g.F fa O) fa H N1 fa H:=#[fun b ys n z=>#[z,fun y=>n y.1],fun _ _ z=>z,fun _ _ z=>z,fun _ z=>z]
   have S1:=SlR.go J (fun _ _ _ z=>z) I.sl;have R1:Rep K N1 fa H (.lst ds) (.ref a):=by
    simp only[Rep];exact#[a,xs,rfl,fun z=>z.2 rfl,e2,Reps.go J ds xs r]
   obtain⟨P,hs,Y,hn⟩:=SlR.put i S1 R1;have na:a ∉ P:=hn I.nd a (by rw[q];rfl) #[ds,q] U;have eσ:σ.set i (some (V.ref a))=σ:=by
    apply MI;intro j;by_cases W:j=i
    .subst W;rw[U,LK (IK.mp U).1]
    .rw[Kl (xu W)]
   rw[eσ] at Y;have B:∀b∈P,b∈O:=fun b hb=>hs.subset hb
   have a1:StE fa O H fa P H:=#[B,.inl rfl,fun _ _ z _=>z,fun _ z=>z]
   have Z:Car K N1 fa H (NN g.F fa P) fa H:=#[fun b ys n z=>#[z,fun y=>n #[by
     rcases y with y | y | y
     .exact .inl y
     .exact .inr (.inl (B b y))
     .exact .inr (.inr y),fun w=>by
     subst w;rcases y with y | y | y
     .exact I.tr b y (I.fr b m)
     .exact na y
     .exact I.nf b y m]],fun _ _ z=>z,fun _ _ z=>z,fun _ z=>z]
   exact#[P,a1,hs.nodup I.nd,SlR.go Z (fun _ _ _ z=>z) Y,fun b hb=>I.fr b (B b hb),I.st,I.tr,I.ff,(I.fd.car J fun _ _=>rfl).car Z fun _ _=>rfl,fun b z y=>I.nf b z (B b y)]
theorem pG:∀(is:List Nat) {O:vL_}{s:DS},GI K g σ H fa O s->∃P,StE fa O H fa P H/\GI K g σ H fa P (iK is s)
 |[],O,s,I=>#[O,StE.refl,I]
 |i::r,O,s,I=>by
  obtain⟨P,a,B⟩:=Bl i I;obtain⟨J,W,U⟩:=pG r B;exact#[J,a.trans W,U]
end
def iL (is:List Nat) (f:DA):DA:=fun s=>f (iK is s)
def P7 (idx:List Nat) (sl:List Sl):D->Option (List Sl)
 |.tup [a,b]=>some (.v a :: .v b::K2 idx sl)
 |_=>none
def wY {r:List Sl}(h:P7 idx sl d=some r):∃a b,d = .tup [a,b]/\r = .v a :: .v b::K2 idx sl:=by
 cases d with
 |tup ds=>
  match ds,h with
  |[a,b],h=>cases h;exact#[a,b,rfl,rfl]
 |_=>cases h
noncomputable def R3 (idx:List Nat) (fi:DA) (fc:DT) (fe:DE):DA:=fun s=>(fi s).bind fun x=>if x.1.length<=sizeLine then (A3 (P7 idx x.2.sl) fc fe x.1 x.2.fs).map fun y=>(y.1,{ x.2 with fs:=y.2 }) else none
section
variable {pos:Pos}
def ox {G:TG}(k:CompOk X scope cl N' 2 idx)
  (hG:∀(a:Addr) (x y:V) (σ:L2.St) (H:Hp) (Q:L2.St->Hp->Prop),SqT X.K H a [x,y]->Q ((σ.set 0 (some x)).set 1 (some y)) H->G (.ref a) σ H Q):∀σ H Q,liftF X.K g (R3 idx fi fc fe) σ H Q->bU 2 idx (liftI X.K g fi) G (fun σ H Q=>∃g',liftT X.K g' fc σ H Q) (fun σ H Q=>∃g',liftE X.K g' fe σ H Q) σ H Q:=
 ot (mk:=P7 idx) fun N fa sl d Y x σ H Q hm W hc kk=>by
  obtain⟨da,db,rfl,rfl⟩:=wY hm;simp only[Rep,Reps] at W;obtain⟨ad,xs0,rfl,B,u,ys0,rfl,Z,w,ys1,rfl,U,rfl⟩:=W;refine hG ad u w _ _ _ B (kk _ #[by simp,fun j v J=>?_] ?_)
  .cases j with
   |zero=>simp[F6] at J
   |succ j=>
    cases j with
    |zero=>simp[F6] at J
    |succ j=>rw[Kl (by simp),Kl (by simp)];exact J
  .have eb:((F6 2 idx σ).set 0 (some u)).set 1 (some w)=some u::some w::idx.map fun i=>(σ[i]?).join:=by simp[F6]
   rw[eb];simp only[SlR];exact#[u,_,rfl,Z,w,_,rfl,U,hc]
def CZ {G:TG}(U:X.calm=true) (k:CompOk X scope cl N' 2 idx) (hi:IO X g tg iter fi) (B:∀C s0 H0 ex,PG (t9 X N' scope cl C s0 H0 ex) tg G)
  (J:∀(a:Addr) (x y:V) (σ:L2.St) (H:Hp) (Q:L2.St->Hp->Prop),SqT X.K H a [x,y]->Q ((σ.set 0 (some x)).set 1 (some y)) H->G (.ref a) σ H Q)
  (W:∀C s0 H0 ex g',aw (t9 X N' scope cl C s0 H0 ex) g' ifs fc) (Y:∀C s0 H0 ex g',EO (t9 X N' scope cl C s0 H0 ex) g' elt fe) (hs:∀x,foldedSetIterable iter X.env x=pure x:=by intro _;rfl) :
  FO X g (.ListComp elt [#[tg,iter,ifs,0]] scope pos) (R3 idx fi fc fe):=by
 exact FO.w (rR (tc:=fun σ H Q=>∃g',liftT X.K g' fc σ H Q) (te:=fun σ H Q=>∃g',liftE X.K g' fe σ H Q) U k hi.pe B (fun C s0 H0 ex pins s σ H Q I ⟨g',h⟩=>W C s0 H0 ex g' pins s σ H Q I h) (fun C s0 H0 ex pins s σ H Q I ⟨g',h⟩=>(Y C s0 H0 ex g').pe pins s σ H Q I h) hs) (ox k J)
def eu {y:Str}(J:closureFor scope X.env=pure cl) (W:SubL X.env.cells cl) (cell:∀y∈scope.names,y.2 ≠ .cell) (kind:scope.kind = .function)
  (names:∀y∈scope.names,y.2 = .local->scope.names.lookup y.1=some .local) (U:hasAll (relabel scope X.env).names cl=true) (B:CapL X scope idx caps):CompOk X scope cl (x::y::caps) 2 idx:=
 #[J,fun y c e=>W.mem y c (gG e),cell,kind,names,qA U,by rw[Iu,Iu,B.len];omega,fun j i y Z Y=>B.at j i y Z (by
  rw[show 2+j=j+1+1 by omega] at Y;simpa using Y)]
end
def RwIt (h:Heap) (i l:Addr) (xs:vR_) (k:Nat):Prop:=(h.IsListIter i l k/\h.IsList l xs)\/(h.IsTupleIter i l k/\h.IsTuple l xs)
section
variable {i:Addr}{xs:vR_}
def RwIt.at (x:RwIt h i l xs k) (J:∀o,h.get? i=some o->h'.get? i=some o) (B:∀o,h.get? l=some o->h'.get? l=some o):RwIt h' i l xs k:=by
 rcases x with ⟨⟨o,q,r⟩,⟨p,u,v⟩⟩ | ⟨⟨o,q,r⟩,⟨p,u,v⟩⟩
 .exact .inl #[#[o,J o q,r],#[p,B p u,v]]
 .exact .inr #[#[o,J o q,r],#[p,B p u,v]]
def RwIt.lt (x:RwIt h i l xs k):i<h.objs.size:=by
 rcases x with ⟨⟨o,q,r⟩,_⟩ | ⟨⟨o,q,r⟩,_⟩ <;> exact Ig q
end
section
variable {w:World}
def CK {it t:Addr}{i:Nat}{items:vR_}{x:Value}{Q:vQ_}(B:s.heap.IsTupleIter it t i) (ht:s.heap.IsTuple t items) (Z:items[i]? = some x)
  (hQ:∀h',h'.IsTupleIter it t (i+1)->Heap.SameBut it s.heap h'->Q x { s with heap:=h' }):wpAny (model prog w) A (Builtin.SmallTypes.nextOf (.ref it)) Q E s:=by
 obtain⟨o,U,hc,J⟩:=id B;obtain⟨ol,Y,_,nl,W⟩:=ht;unfold Builtin.SmallTypes.nextOf;refine cn (JA (name:=Str.ofString "__next__") B.typeIs LU (Je LU B.typeIs Ny ?_ (Nz _)));show wpAny _ _ (field (.ref it) 0 >>= _) _ _ s;refine cn (IU U J (x:=.ref t) rfl ?_);show wpAny _ _ (if (Value.ref t == Value.none)=true then _ else _) _ _ s;rw[fI (show ¬ ((Value.ref t == Value.none)=true) from Io)];show wpAny _ _ (field (.ref it) 1 >>= _) _ _ s;refine cn (IU U J (x:=.int i 0) rfl ?_);show wpAny _ _ (seqItems? (.ref t) >>= _) _ _ s;refine cn (Jv Y W ?_);simp only[JH,Z];refine cn (LV U J (by simp) (gV #[x,rfl,gV (hQ _ ?_ (LX ..))]));exact#[_,JM _ U (Obj.isFreed_of_fields (LY J _)),(Obj.cls_mapFields ..).trans hc,by rw[LY J];simp[rawInt]]
def yh {it t:Addr}{i:Nat}{items:vR_}{Q:vQ_}(Z:A.handled=none) (B:s.heap.IsTupleIter it t i) (ht:s.heap.IsTuple t items) (hx:items[i]? = none)
  (hE:∀h' e,Heap.ExtBut it s.heap h'->(∃o,h'.get? e=some o/\o.cls = .type "StopIteration")->E (.ref e) { s with heap:=h' }):wpAny (model prog w) A (Builtin.SmallTypes.nextOf (.ref it)) Q E s:=by
 obtain⟨o,W,hc,J⟩:=id B;obtain⟨ol,Y,_,nl,U⟩:=ht;unfold Builtin.SmallTypes.nextOf;refine cn (JA (name:=Str.ofString "__next__") B.typeIs LU (Je LU B.typeIs Ny ?_ (Nz _)));show wpAny _ _ (field (.ref it) 0 >>= _) _ _ s;refine cn (IU W J (x:=.ref t) rfl ?_);show wpAny _ _ (if (Value.ref t == Value.none)=true then _ else _) _ _ s;rw[fI (show ¬ ((Value.ref t == Value.none)=true) from Io)];show wpAny _ _ (field (.ref it) 1 >>= _) _ _ s;refine cn (IU W J (x:=.int i 0) rfl ?_);show wpAny _ _ (seqItems? (.ref t) >>= _) _ _ s;refine cn (Jv Y U ?_);simp only[JH,hx];refine cn (Jx (cn (LV W J (by simp) ?_)));show wpAny _ _ (newExc (.type "StopIteration") [] >>= _) _ _ _;refine cn ?_;simp only[newExc,newTuple];refine cn (JE ?_ (by size_fits));refine cn (m:=firstArgMember _ _) (wpAny_of_eq (a:=Value.none) (by first | rfl | (simp only[firstArgMember];rfl)) ?_);refine JE ?_ (by size_fits);simp only[raiseNew];refine cn (wpAny_handled ?_)
 first | rw[show A.in1.handled=none from Z] | rw[Z]
 refine cn (gV (wpAny_throw ?_));exact hE _ _ (((LX ..).extBut.push _).push _) #[_,ID _ rfl,rfl]
def bQ {it l:Addr}{i:Nat}{xs:vR_}{x:Value}{Q:vQ_}(r:RwIt s.heap it l xs i) (hl:l≠it) (J:xs[i]? = some x)
  (U:∀h',RwIt h' it l xs (i+1)->Heap.SameBut it s.heap h'->Q x { s with heap:=h' }):wpAny (model prog w) A (Builtin.SmallTypes.nextOf (.ref it)) Q E s:=by
 rcases r with ⟨a,b⟩ | ⟨a,b⟩
 .exact wpAny_nextOf_list_item a b J fun h' B hs=>U h' (.inl #[B,b.extBut hs.extBut hl]) hs
 .exact CK a b J fun h' B hs=>U h' (.inr #[B,b.extBut hs.extBut hl]) hs
def gh {it l:Addr}{i:Nat}{xs:vR_}{Q:vQ_}(J:A.handled=none) (r:RwIt s.heap it l xs i) (U:xs[i]? = none)
  (B:∀h' e,Heap.ExtBut it s.heap h'->(∃o,h'.get? e=some o/\o.cls = .type "StopIteration")->E (.ref e) { s with heap:=h' }):wpAny (model prog w) A (Builtin.SmallTypes.nextOf (.ref it)) Q E s:=by
 rcases r with ⟨a,b⟩ | ⟨a,b⟩
 .exact wpAny_nextOf_list_end J a b U B
 .exact yh J a b U B
abbrev D9 (h:Heap) (z TI TO:Addr) (f0 f1:Value):Prop:=h.get? z=some { cls:=.type "zip",dict:=none,data:=.fields #v[f0,f1,.bool false,.ref TI,.ref TO],slots:=#v[] }
variable {z TI TO i1 i2 l1 l2:Addr}{xs ys:vR_}
def qf {x y a b:Value}{Q:vQ_}(D:ZipApart z TI TO i1 i2 l1 l2)
  (hz:D9 s.heap z TI TO .none (.bool false)) (hTI:IsPair s.heap TI (.ref i1) (.ref i2)) (hTO:IsPair s.heap TO a b) (h1:RwIt s.heap i1 l1 xs k) (h2:RwIt s.heap i2 l2 ys k) (hx:xs[k]? = some x) (hy:ys[k]? = some y)
  (hQ:∀h',D9 h' z TI TO (rawInt s.heap.objs.size) (.bool false)->RwIt h' i1 l1 xs (k+1)->RwIt h' i2 l2 ys (k+1)->IsPair h' s.heap.objs.size x y ->
   (∀c o,c≠z->c≠TO->c≠i1->c≠i2->s.heap.get? c=some o->h'.get? c=some o)->IsPair h' TO x y->Q (.ref s.heap.objs.size) { s with heap:=h' }) :
  wpAny (model prog w) A (Builtin.«zip.__next__» #[[.ref z],[]]) (fun fin s'=>∃v,fin = .done (.ret v)/\Q v s') E s:=by
 show wpAny _ _ (field (.ref z) 2 >>= _) _ _ _;refine cn (IU hz rfl (x:=.bool false) rfl ?_);show wpAny _ _ (field (.ref z) 3 >>= _) _ _ _;refine cn (IU hz rfl (x:=.ref TI) rfl ?_);refine cn (Jv hTI rfl ?_);show wpAny _ _ (Builtin.SmallTypes.ownedTupleIsFree (.ref z) >>= _) _ _ _;refine cn ?_;unfold Builtin.SmallTypes.ownedTupleIsFree;refine cn (IU hz rfl (x:=.none) rfl (gV ?_));simp only[IC];refine cn (Jx ?_);refine cn (IU hz rfl (x:=.ref TO) rfl ?_);refine cn (JX hz (by simp) fun g1 z1 Y=>?_)
 replace z1:D9 g1 z TI TO .ellipsis (.bool false):=z1
 refine cn ?_;simp only[List.zipIdx_cons,List.zipIdx_nil,KG,Ll];refine cn (cn (Ma ?_));show wpAny _ _ (Builtin.SmallTypes.nextOf (.ref i1) >>= _) _ _ _;refine cn (bQ (h1.at (fun o e=>Y.extBut _ o D.i1z e) fun o e=>Y.extBut _ o D.l1z e) D.l1i1 hx fun g2 r2 k2=>gV ?_);have o2:IsPair g2 TO a b:=k2.extBut _ _ D.TOi1 (Y.extBut _ _ D.TOz hTO);refine cn (Jv o2 rfl ?_);refine cn (MJ o2 fun g3 o3 U=>?_)
 replace o3:IsPair g3 TO x b:=o3
 refine cn (Lm (gV ?_));refine cn (cn (Ma ?_));show wpAny _ _ (Builtin.SmallTypes.nextOf (.ref i2) >>= _) _ _ _;refine cn (bQ (h2.at (fun o e=>U.extBut _ o D.TOi2.symm (k2.extBut _ o D.i12.symm (Y.extBut _ o D.i2z e))) fun o e=>U.extBut _ o D.l2TO (k2.extBut _ o D.l2i1 (Y.extBut _ o D.l2z e))) D.l2i2 hy fun g4 r4 Z=>gV ?_);have o4:IsPair g4 TO x b:=Z.extBut _ _ D.TOi2 o3;refine cn (Jv o4 rfl ?_);refine cn (MJ o4 fun B o5 W=>?_)
 replace o5:IsPair B TO x y:=o5
 refine cn (Lm (gV (gV ?_)));refine cn (Jv o5 rfl ?_);refine cn (wpAny_newTuple ?_);have sz:B.objs.size=s.heap.objs.size:=by rw[W.1,Z.1,U.1,k2.1,Y.1]
 have z5:D9 B z TI TO .ellipsis (.bool false):=W.extBut _ _ D.TOz.symm (Z.extBut _ _ D.i2z.symm (U.extBut _ _ D.TOz.symm (k2.extBut _ _ D.i1z.symm z1)));have q5:∀c o,c≠z->c≠TO->c≠i1->c≠i2->s.heap.get? c=some o->B.get? c=some o:=fun c o J c2 c3 c4 e=>
  W.extBut _ _ c2 (Z.extBut _ _ c4 (U.extBut _ _ c2 (k2.extBut _ _ c3 (Y.extBut _ _ J e))))
 have p1:RwIt B i1 l1 xs (k+1):=r2.at (fun o e=>W.extBut _ o D.TOi1.symm (Z.extBut _ o D.i12 (U.extBut _ o D.TOi1.symm e))) fun o e=>W.extBut _ o D.l1TO (Z.extBut _ o D.l1i2 (U.extBut _ o D.l1TO e))
 have p2:RwIt B i2 l2 ys (k+1):=r4.at (fun o e=>W.extBut _ o D.TOi2.symm e) fun o e=>W.extBut _ o D.l2TO e
 have zl:z<B.objs.size:=Ig z5;show wpAny _ _ (Builtin.SmallTypes.ownedTupleHandOut (.ref z) (.ref B.objs.size) >>= _) _ _ _;refine cn ?_;unfold Builtin.SmallTypes.ownedTupleHandOut;have z6:D9 (B.push { cls:=.type "tuple",data:=.seq #v[x,y] }) z TI TO .ellipsis (.bool false):=Ii _ z5;refine cn (JX z6 (by simp) fun g7 z7 k7=>?_)
 replace z7:D9 g7 z TI TO (rawInt B.objs.size) (.bool false):=z7
 refine JX z7 (by simp) fun g8 z8 k8=>?_
 replace z8:D9 g8 z TI TO (rawInt B.objs.size) (.bool false):=z8
 have up:∀c o,c≠z->B.get? c=some o->g8.get? c=some o:=fun c o J e=>k8.extBut _ _ J (k7.extBut _ _ J (Ii _ e))
 have t8:IsPair g8 B.objs.size x y:=k8.extBut _ _ (Jr zl) (k7.extBut _ _ (Jr zl) (ID _ rfl));rw[sz] at z8 t8;refine gV #[_,rfl,?_];show Q (.ref B.objs.size) _;rw[sz];exact hQ g8 z8 (p1.at (fun o e=>up _ o D.i1z e) fun o e=>up _ o D.l1z e) (p2.at (fun o e=>up _ o D.i2z e) fun o e=>up _ o D.l2z e) t8 (fun c o J c2 c3 c4 e=>up c o J (q5 c o J c2 c3 c4 e)) (up _ _ D.TOz o5)
def tW {a b:Value}{Q:Fin->Shared->Prop}(hh:A.handled=none) (D:ZipApart z TI TO i1 i2 l1 l2)
  (hz:D9 s.heap z TI TO .none (.bool false)) (hTI:IsPair s.heap TI (.ref i1) (.ref i2)) (hTO:IsPair s.heap TO a b) (h1:RwIt s.heap i1 l1 xs k) (h2:RwIt s.heap i2 l2 ys k) (hend:xs[k]? = none\/ys[k]? = none)
  (hE:∀h' e,(∀c o,c≠z->c≠TO->c≠i1->c≠i2->s.heap.get? c=some o->h'.get? c=some o)->(∃o,h'.get? e=some o/\o.cls = .type "StopIteration")->E (.ref e) { s with heap:=h' }) :
  wpAny (model prog w) A (Builtin.«zip.__next__» #[[.ref z],[]]) Q E s:=by
 show wpAny _ _ (field (.ref z) 2 >>= _) _ _ _;refine cn (IU hz rfl (x:=.bool false) rfl ?_);show wpAny _ _ (field (.ref z) 3 >>= _) _ _ _;refine cn (IU hz rfl (x:=.ref TI) rfl ?_);refine cn (Jv hTI rfl ?_);show wpAny _ _ (Builtin.SmallTypes.ownedTupleIsFree (.ref z) >>= _) _ _ _;refine cn ?_;unfold Builtin.SmallTypes.ownedTupleIsFree;refine cn (IU hz rfl (x:=.none) rfl (gV ?_));simp only[IC];refine cn (Jx ?_);refine cn (IU hz rfl (x:=.ref TO) rfl ?_);refine cn (JX hz (by simp) fun g1 z1 U=>?_)
 replace z1:D9 g1 z TI TO .ellipsis (.bool false):=z1
 refine cn ?_;simp only[List.zipIdx_cons,List.zipIdx_nil,KG,Ll];refine cn (cn (Ma ?_));show wpAny _ _ (Builtin.SmallTypes.nextOf (.ref i1) >>= _) _ _ _;cases hx:xs[k]? with
 |none=>
  refine cn (gh hh (h1.at (fun o e=>U.extBut _ o D.i1z e) fun o e=>U.extBut _ o D.l1z e) hx fun g2 e W he=>?_);obtain⟨oe,B,J⟩:=he;have z2:D9 g2 z TI TO .ellipsis (.bool false):=W _ _ D.i1z.symm z1;have Z:e≠z:=fun x=>by subst x;rw[z2] at B;cases B;simp at J
  exact JX z2 (by simp) fun g3 _ Y=>hE g3 e (fun c o c1 _ c3 _ x=>Y.extBut _ _ c1 (W _ _ c3 (U.extBut _ _ c1 x))) #[oe,Y.extBut _ _ Z B,J]
 |some x=>
  have hy:ys[k]? = none:=by
   rcases hend with h | h
   .rw[hx] at h;cases h
   .exact h
  refine cn (bQ (h1.at (fun o e=>U.extBut _ o D.i1z e) fun o e=>U.extBut _ o D.l1z e) D.l1i1 hx fun g2 r2 W=>gV ?_);have o2:IsPair g2 TO a b:=W.extBut _ _ D.TOi1 (U.extBut _ _ D.TOz hTO);refine cn (Jv o2 rfl ?_);refine cn (MJ o2 fun g3 o3 Y=>?_);refine cn (Lm (gV ?_));refine cn (cn (Ma ?_));show wpAny _ _ (Builtin.SmallTypes.nextOf (.ref i2) >>= _) _ _ _;refine cn (gh hh (h2.at (fun o e=>Y.extBut _ o D.TOi2.symm (W.extBut _ o D.i12.symm (U.extBut _ o D.i2z e))) fun o e=>Y.extBut _ o D.l2TO (W.extBut _ o D.l2i1 (U.extBut _ o D.l2z e))) hy fun g4 e k4 he=>?_);obtain⟨oe,B,J⟩:=he;have z4:D9 g4 z TI TO .ellipsis (.bool false):=k4 _ _ D.i2z.symm (Y.extBut _ _ D.TOz.symm (W.extBut _ _ D.i1z.symm z1));have Z:e≠z:=fun x=>by subst x;rw[z4] at B;cases B;simp at J
  exact JX z4 (by simp) fun g5 _ k5=>hE g5 e (fun c o c1 c2 c3 c4 x=>k5.extBut _ _ c1 (k4 _ _ c4 (Y.extBut _ _ c2 (W.extBut _ _ c3 (U.extBut _ _ c1 x))))) #[oe,k5.extBut _ _ Z B,J]
end
section
variable {w:World}
variable {z TI TO i1 i2 l1 l2:Addr}{xs ys:vR_}
def Ag {o:Obj}{Q:Option Obj->Shared->Prop}(B:s.heap.get? a=some o) (h:Q (some o) s):wpAny (model prog w) A (loadIfAlive a) Q E s:=by
 have h':Q (s.heap.get? a) s:=by rw[B];exact h
 exact fun _ _ _=>h'
def uk {T:Addr}{f:Bool}{U:Obj}{Q:Bool->Shared->Prop}(hz:D9 s.heap z TI TO (rawInt T) (.bool f)) (Y:s.heap.get? T=some U)
  (B:∀h',D9 h' z TI TO (rawInt T) (.bool true)->Heap.SameBut z s.heap h'->Q false { s with heap:=h' }):wpAny (model prog w) A (Builtin.SmallTypes.ownedTupleIsFree (.ref z)) Q E s:=by
 unfold Builtin.SmallTypes.ownedTupleIsFree;refine cn (IU hz rfl (x:=rawInt T) rfl ?_);show wpAny _ _ (loadIfAlive ((T:Int).toNat) >>= _) _ _ _;rw[JH];refine cn (Ag Y ?_);simp only[Option.isNone_some,IW,IG];refine cn (IU hz rfl (x:=.bool f) rfl ?_);cases f with
 |true=>
  rw[fI (show ¬ ((Value.bool true != Value.bool true)=true) from Io)];exact gV (B s.heap hz (Heap.SameBut.refl _ _))
 |false=>
  rw[fx (show (Value.bool false != Value.bool true)=true from rfl)];exact cn (JX hz (by simp) fun g J W=>gV (B g J W))
def CG {x y:Value}{T:Addr}{f:Bool}{oT:Obj}{Q:vQ_}(D:ZipApart z TI TO i1 i2 l1 l2)
  (hz:D9 s.heap z TI TO (rawInt T) (.bool f)) (hT:s.heap.get? T=some oT) (hTI:IsPair s.heap TI (.ref i1) (.ref i2)) (h1:RwIt s.heap i1 l1 xs k) (h2:RwIt s.heap i2 l2 ys k) (hx:xs[k]? = some x) (hy:ys[k]? = some y)
  (hQ:∀h',D9 h' z TI TO (rawInt T) (.bool true)->RwIt h' i1 l1 xs (k+1)->RwIt h' i2 l2 ys (k+1)->IsPair h' s.heap.objs.size x y ->
   (∀c o,c≠z->c≠TO->c≠i1->c≠i2->s.heap.get? c=some o->h'.get? c=some o)->Q (.ref s.heap.objs.size) { s with heap:=h' }) :
  wpAny (model prog w) A (Builtin.«zip.__next__» #[[.ref z],[]]) (fun fin s'=>∃v,fin = .done (.ret v)/\Q v s') E s:=by
 show wpAny _ _ (field (.ref z) 2 >>= _) _ _ _;refine cn (IU hz rfl (x:=.bool false) rfl ?_);show wpAny _ _ (field (.ref z) 3 >>= _) _ _ _;refine cn (IU hz rfl (x:=.ref TI) rfl ?_);refine cn (Jv hTI rfl ?_);show wpAny _ _ (Builtin.SmallTypes.ownedTupleIsFree (.ref z) >>= _) _ _ _;refine cn (uk hz hT fun g1 z1 B=>?_);simp only[IW,IG];simp only[List.forIn_toArray,KG,Ll];refine cn (cn (cn (Jt ?_)));show wpAny _ _ (Builtin.SmallTypes.nextOf (.ref i1) >>= _) _ _ _;refine cn (bQ (h1.at (fun o e=>B.extBut _ o D.i1z e) fun o e=>B.extBut _ o D.l1z e) D.l1i1 hx fun g2 r2 U=>gV ?_);refine gV ?_;refine cn (cn (Jt ?_));show wpAny _ _ (Builtin.SmallTypes.nextOf (.ref i2) >>= _) _ _ _;refine cn (bQ (h2.at (fun o e=>U.extBut _ o D.i12.symm (B.extBut _ o D.i2z e)) fun o e=>U.extBut _ o D.l2i1 (B.extBut _ o D.l2z e)) D.l2i2 hy fun Y r4 J=>gV ?_);refine gV (gV ?_);show wpAny _ _ (newTuple [x,y] >>= _) _ _ _;refine cn (wpAny_newTuple (items:=[x,y]) ?_ (show 2<=sizeLine by decide));have sz:Y.objs.size=s.heap.objs.size:=by rw[J.1,U.1,B.1]
 have q4:∀c o,c≠z->c≠i1->c≠i2->s.heap.get? c=some o->Y.get? c=some o:=fun c o Z W c4 e=>J.extBut _ _ c4 (U.extBut _ _ W (B.extBut _ _ Z e))
 refine gV #[_,rfl,?_];show Q (.ref Y.objs.size) _;rw[sz];refine hQ _ (Ii _ (J.extBut _ _ D.i2z.symm (U.extBut _ _ D.i1z.symm z1)))
  (r2.at (fun o e=>Ii _ (J.extBut _ o D.i12 e)) fun o e=>Ii _ (J.extBut _ o D.l1i2 e))
  (r4.at (fun o e=>Ii _ e) fun o e=>Ii _ e) ?_ fun c o Z c2 W c4 e=>Ii _ (q4 c o Z W c4 e)
 rw[<-sz];exact ID _ rfl
def Hw {T:Addr}{f:Bool}{oT:Obj}{Q:Fin->Shared->Prop}(hh:A.handled=none) (D:ZipApart z TI TO i1 i2 l1 l2)
  (hz:D9 s.heap z TI TO (rawInt T) (.bool f)) (hT:s.heap.get? T=some oT) (hTI:IsPair s.heap TI (.ref i1) (.ref i2)) (h1:RwIt s.heap i1 l1 xs k) (h2:RwIt s.heap i2 l2 ys k) (U:xs[k]? = none\/ys[k]? = none)
  (hE:∀h' e,(∀c o,c≠z->c≠TO->c≠i1->c≠i2->s.heap.get? c=some o->h'.get? c=some o)->(∃o,h'.get? e=some o/\o.cls = .type "StopIteration")->E (.ref e) { s with heap:=h' }) :
  wpAny (model prog w) A (Builtin.«zip.__next__» #[[.ref z],[]]) Q E s:=by
 show wpAny _ _ (field (.ref z) 2 >>= _) _ _ _;refine cn (IU hz rfl (x:=.bool false) rfl ?_);show wpAny _ _ (field (.ref z) 3 >>= _) _ _ _;refine cn (IU hz rfl (x:=.ref TI) rfl ?_);refine cn (Jv hTI rfl ?_);show wpAny _ _ (Builtin.SmallTypes.ownedTupleIsFree (.ref z) >>= _) _ _ _;refine cn (uk hz hT fun g1 z1 B=>?_);simp only[IW,IG];simp only[List.forIn_toArray,KG,Ll];refine cn (cn (cn (Jt ?_)));show wpAny _ _ (Builtin.SmallTypes.nextOf (.ref i1) >>= _) _ _ _;cases Z:xs[k]? with
 |none=>
  refine cn (gh hh (h1.at (fun o e=>B.extBut _ o D.i1z e) fun o e=>B.extBut _ o D.l1z e) Z fun g2 e J he=>?_);exact hE g2 e (fun c o Y _ W _ x=>J _ _ W (B.extBut _ _ Y x)) he
 |some x=>
  have hy:ys[k]? = none:=by
   rcases U with h | h
   .rw[Z] at h;cases h
   .exact h
  refine cn (bQ (h1.at (fun o e=>B.extBut _ o D.i1z e) fun o e=>B.extBut _ o D.l1z e) D.l1i1 Z fun g2 r2 J=>gV ?_);refine gV ?_;refine cn (cn (Jt ?_));show wpAny _ _ (Builtin.SmallTypes.nextOf (.ref i2) >>= _) _ _ _;refine cn (gh hh (h2.at (fun o e=>J.extBut _ o D.i12.symm (B.extBut _ o D.i2z e)) fun o e=>J.extBut _ o D.l2i1 (B.extBut _ o D.l2z e)) hy fun g4 e k4 he=>?_);exact hE g4 e (fun c o Y c2 W c4 x=>k4 _ _ c4 (J.extBut _ _ W (B.extBut _ _ Y x))) he
structure ZSt (h:Heap) (z TI TO i1 i2 l1 l2 S:Addr) (xs ys:vR_) (k:Nat):Prop where
 ti:IsPair h TI (.ref i1) (.ref i2)
 r1:RwIt h i1 l1 xs k
 r2:RwIt h i2 l2 ys k
 zz:(D9 h z TI TO .none (.bool false)/\∃a b,IsPair h TO a b)\/∃(T:Addr) (f:Bool) (oT:Obj),D9 h z TI TO (rawInt T) (.bool f)/\h.get? T=some oT/\T≠z/\T≠TO/\T≠i1/\T≠i2/\T≠S
def BN {S:Addr}{x y:Value}{Q:Option Value->Shared->Prop}(D:ZipApart z TI TO i1 i2 l1 l2) (st:ZSt s.heap z TI TO i1 i2 l1 l2 S xs ys k) (hS:S<s.heap.objs.size) (hTO:TO<s.heap.objs.size) (hx:xs[k]? = some x) (hy:ys[k]? = some y)
  (hQ:∀h',ZSt h' z TI TO i1 i2 l1 l2 S xs ys (k+1)->IsPair h' s.heap.objs.size x y->(∀c o,c ∉ [z,TO,i1,i2]->s.heap.get? c=some o->h'.get? c=some o)->Q (some (.ref s.heap.objs.size)) { s with heap:=h' }) :
  wpAny (model prog w) A (pyNext (.ref z)) Q E s:=by
 obtain⟨Z,r1,r2,zz⟩:=st;have K:∀{h':Heap},(∀c o,c≠z->c≠TO->c≠i1->c≠i2->s.heap.get? c=some o->h'.get? c=some o)->∀c o,c ∉ [z,TO,i1,i2]->s.heap.get? c=some o->h'.get? c=some o:=fun k c o W e=>by
  simp only[iO,IY,Jh,JY] at W;exact k c o W.1 W.2.1 W.2.2.1 W.2.2.2 e
 unfold pyNext;rcases zz with ⟨J,a,b,ho⟩ | ⟨T,f,oT,J,hT,t1,t2,t3,t4,t5⟩
 .have U:s.TypeIs (.ref z) "zip" := #[_,J,rfl]
  exact cn (JZ (JA (name:=Str.ofString "__next__") U Jo (Je Jo U KH
   (qf D J Z ho r1 r2 hx hy fun h' a1 a2 a3 Y B _=>gV (hQ h' #[B _ _ D.TIz D.TITO D.TIi1 D.TIi2 Z,a2,a3,.inr #[_,_,_,a1,Y,Jr (Ig J),Jr hTO,Jr r1.lt,Jr r2.lt,Jr hS]] Y (K B))) (KI _))))
 .have U:s.TypeIs (.ref z) "zip" := #[_,J,rfl]
  exact cn (JZ (JA (name:=Str.ofString "__next__") U Jo (Je Jo U KH
   (CG D J hT Z r1 r2 hx hy fun h' a1 a2 a3 Y B=>gV (hQ h' #[B _ _ D.TIz D.TITO D.TIi1 D.TIi2 Z,a2,a3,.inr #[T,true,oT,a1,B _ _ t1 t2 t3 t4 hT,t1,t2,t3,t4,t5]] Y (K B))) (KI _))))
def xM {S:Addr}{Q:Option Value->Shared->Prop}(hh:A.handled=none) (D:ZipApart z TI TO i1 i2 l1 l2) (st:ZSt s.heap z TI TO i1 i2 l1 l2 S xs ys k) (J:xs[k]? = none\/ys[k]? = none)
  (hQ:∀h',(∀c o,c ∉ [z,TO,i1,i2]->s.heap.get? c=some o->h'.get? c=some o)->Q none { s with heap:=h' }):wpAny (model prog w) A (pyNext (.ref z)) Q E s:=by
 obtain⟨ti,r1,r2,zz⟩:=st;have K:∀{h':Heap},(∀c o,c≠z->c≠TO->c≠i1->c≠i2->s.heap.get? c=some o->h'.get? c=some o)->∀c o,c ∉ [z,TO,i1,i2]->s.heap.get? c=some o->h'.get? c=some o:=fun k c o B e=>by
  simp only[iO,IY,Jh,JY] at B;exact k c o B.1 B.2.1 B.2.2.1 B.2.2.2 e
 unfold pyNext;rcases zz with ⟨W,a,b,U⟩ | ⟨T,f,oT,W,hT,t1,t2,t3,t4,t5⟩
 .have Y:s.TypeIs (.ref z) "zip" := #[_,W,rfl]
  refine cn (JZ (JA (name:=Str.ofString "__next__") Y Jo (Je Jo Y KH (tW hh D W ti U r1 r2 J fun h' e hk Z=>?_) (KI _))));obtain⟨o,U,B⟩:=Z;refine cn (KJ (T := "StopIteration") (b:=true) #[o,U,B] Mb ?_);exact gV (hQ _ (K hk))
 .have Y:s.TypeIs (.ref z) "zip" := #[_,W,rfl]
  refine cn (JZ (JA (name:=Str.ofString "__next__") Y Jo (Je Jo Y KH (Hw hh D W hT ti r1 r2 J fun h' e hk Z=>?_) (KI _))));obtain⟨o,U,B⟩:=Z;refine cn (KJ (T := "StopIteration") (b:=true) #[o,U,B] Mb ?_);exact gV (hQ _ (K hk))
end
structure LW (prog:Program) (w:World) (A:Around) (I S:Addr) (wr:vL_) (n:Nat) (P:Nat->Value->Heap->Prop) (St:Nat->Heap->Prop):Prop where
 item:∀(i:Nat) (s:Shared) (Q:Option Value->Shared->Prop) (E:vQ_),i<n->St i s.heap->S<s.heap.objs.size ->
  (∀v h',P i v h'->St (i+1) h'->(∀j u,P j u s.heap->u≠v)->(∀b o,b ∉ wr->s.heap.get? b=some o->h'.get? b=some o)->Q (some v) { s with heap:=h' })->wpAny (model prog w) A (pyNext (.ref I)) Q E s
 done:∀(s:Shared) (Q:Option Value->Shared->Prop) (E:vQ_),St n s.heap->(∀h',(∀b o,b ∉ wr->s.heap.get? b=some o->h'.get? b=some o)->Q none { s with heap:=h' })->wpAny (model prog w) A (pyNext (.ref I)) Q E s
 stay:∀i h h',St i h->(∀b o,b≠S->h.get? b=some o->h'.get? b=some o)->St i h'
 pay:∀i v h h',P i v h->(∀b o,b≠S->b ∉ wr->h.get? b=some o->h'.get? b=some o)->P i v h'
 self:∀(A:Around) (s:Shared) (Q:vQ_) (E:vQ_),St 0 s.heap->Q (.ref I) s->wpAny (model prog w) A (pyIter (.ref I)) Q E s
 out:S ∉ wr
section
variable {w:World}{I:Addr}{wr:vL_}{P:Nat->Value->Heap->Prop}{St:Nat->Heap->Prop}{R:Result->Shared->Prop}
def fy (P:Nat->Value->Heap->Prop) (h:Heap) (acc:vR_) (i:Nat):Prop:=acc.size=i/\(∀j v,acc[j]? = some v->P j v h)/\acc.toList.Nodup
abbrev T0 (h:Heap) (S:Addr) (acc:vR_) (c:Nat):Prop:=h.get? S=some { cls:=.type "list",dict:=none,data:=.seq acc c,slots:=#v[] }
def FM (W:LW prog w A.in1 I S wr n P St) (hn:n<=sizeLine) (res:Value) {h₁:Heap}
  (hR:∀h' acc c,(∀b o,b≠S->b ∉ wr->h₁.get? b=some o->h'.get? b=some o)->T0 h' S acc c->fy P h' acc n->R (.ok (.ret res)) { s with heap:=h' }) :
  ∀(k i:Nat) (h:Heap) (c:Nat) (acc:vR_),n - i=k->i<=n->St i h->(∀b o,b≠S->b ∉ wr->h₁.get? b=some o->h.get? b=some o)->T0 h S acc c->fy P h acc i ->
   codeAny (model prog w) A (.builtin "list.extend.loop" #[[.ref S,.ref I,res],[]]) R { s with heap:=h }:=by
 intro k;induction k with
 |zero=>
  intro i h c acc hk hi Y kp hS J;have e:i=n:=by omega
  subst e;refine codeAny_builtin NA ?_;rw[Around.under_plainId Ln _];show wpAny _ A.in1 (pyNext (.ref I) >>= _) _ _ _;refine cn (W.done { s with heap:=h } _ _ Y fun h' U=>?_);exact gV (hR h' acc c (fun b o h1 h2 e=>U b o h2 (kp b o h1 h2 e)) (U S _ W.out hS) #[J.1,fun j v e=>W.pay j v h h' (J.2.1 j v e) fun b o _ h2 e=>U b o h2 e,J.2.2])
 |succ k ih=>
  intro i h c acc hk hi Y kp hS J;have hlt:i<n:=by omega
  refine codeAny_builtin NA ?_;rw[Around.under_plainId Ln _];show wpAny _ A.in1 (pyNext (.ref I) >>= _) _ _ _;refine cn (W.item i { s with heap:=h } _ _ hlt Y (Ig hS) fun v h' hP hst' hne U=>?_)
  dsimp only at U hne ⊢
  have hS':T0 h' S acc c:=U S _ W.out hS;have up:∀b o,b≠S->h'.get? b=some o->(h'.update S (Obj.mapSeq (·.push v))).get? b=some o:=fun b o hb e=>(JT _ _ (xu hb)).trans e
  show wpAny _ A.in1 (updateSeq S (·.push v) >>= _) _ _ _;refine cn ?_;have B:=J.1;refine Kr hS' rfl (gV #[plainId_quiet Ln _,ih (i+1) _ _ (acc.push v) ∅ hlt (W.stay _ h' _ hst' up)
   (fun b o h1 h2 e=>up b o h1 (U b o h2 (kp b o h1 h2 e))) (JM _ hS' rfl) #[by rw[Array.size_push,B],fun j x Z=>?_,?_]]) (by rw[B];omega) (by show (acc.push v).size<=sizeLine+1;rw[Array.size_push,B];omega)
  .rw[Array.getElem?_push] at Z;split at Z
   .rename_i e;cases Z;rw[e,B];exact W.pay i v h' _ hP fun b o h1 _ e=>up b o h1 e
   .exact W.pay j x h _ (J.2.1 j x Z) fun b o h1 h2 e=>up b o h1 (U b o h2 e)
  .rw[Array.toList_push];refine Mc.mpr #[J.2.2,by simp,fun a ha b hb=>?_];have e:b=v:=by simpa using hb
   subst e;obtain⟨j,Z⟩:=Md.mp ha;exact hne j a (J.2.1 j a (by simpa using Z))
def HX (W:LW prog w A.in1 I S wr n P St) (hn:n<=sizeLine) (hT:s.TypeIs (.ref I) T) (hl:(Value.type T == Value.type "list")=false) (ht:(Value.type T == Value.type "tuple")=false)
  (nl:typeLookup (.type T) "__len__" = pure none) (nh:typeLookup (.type T) "__length_hint__" = pure none) (J:St 0 s.heap) (hSI:S≠I) (res:Value) (c₀:Nat) (hS:T0 s.heap S #v[] c₀)
  (hR:∀h' acc c,(∀b o,b≠S->b ∉ wr->s.heap.get? b=some o->h'.get? b=some o)->T0 h' S acc c->fy P h' acc n->R (.ok (.ret res)) { s with heap:=h' }) :
  wpAny (model prog w) A.in1 (Builtin.List.listExtendWith (.ref S) (.ref I) res)
   (fun fin s'=>match fin with | .done f=>R (.ok f) s' | .again c'=>c'.quiet=true/\codeAny (model prog w) A c' R s') (fun e s'=>R (.error e) s') s:=by
 have key:∀(h:Heap) (Z:Nat),(∀b o,b≠S->s.heap.get? b=some o->h.get? b=some o)->T0 h S #v[] Z ->
   codeAny (model prog w) A (.builtin "list.extend.loop" #[[.ref S,.ref I,res],[]]) R { s with heap:=h }:=fun h Z hk Y=>
  FM (h₁:=s.heap) W hn res hR n 0 h Z #v[] (Kq _) (JF _) (W.stay 0 _ h J hk) (fun b o h1 _ e=>hk b o h1 e) Y #[rfl,fun j v e=>by simp at e,by simp]
 unfold Builtin.List.listExtendWith;refine cn (Lh hT ?_);have h1:Builtin.List.listSameRef (.ref S) (.ref I)=false:=by simp[Builtin.List.listSameRef,hSI]
 simp only[h1,hl,ht,Lo,IW,IG];refine cn (W.self _ _ _ _ J ?_);refine cn (Jt ?_);unfold Builtin.List.listLengthHint;refine cn (Lp hT nl ?_);show wpAny _ A.in1 (specialOf (Value.ref I) (Str.ofString "__length_hint__") >>= _) _ _ _;refine cn (Lp hT nh ?_);refine gV ?_;show wpAny _ A.in1 (rule "list.extend.makes-room" >>= fun _=>Builtin.List.listTouch (.ref S) >>= fun _=>
  again (.builtin "list.extend.loop" #[[.ref S,.ref I,res],[]])) _ _ _
 refine cn (Jx ?_);refine cn ?_;show wpAny _ A.in1 (updateSeq S (·.push .none) >>= fun _=>updateSeq S (·.pop)) _ _ _;refine cn (Kr hS rfl ?_);have B:=JM (Obj.mapSeq (·.push Value.none)) hS rfl;refine Kr (hz:=by seq_fits) B rfl ?_;have U:=JM (Obj.mapSeq (·.pop)) B rfl;refine gV #[plainId_quiet Ln _,key _ _ (fun b o hb e=>?_) U];exact(JT _ _ (xu hb)).trans ((JT _ _ (xu hb)).trans e)
def CS {E:vQ_}{Q:vQ_}(W:LW prog w A.in1.in1 I s.heap.objs.size wr n P St) (hn:n<=sizeLine) (hT:s.TypeIs (.ref I) T) (hl:(Value.type T == Value.type "list")=false) (ht:(Value.type T == Value.type "tuple")=false)
  (nl:typeLookup (.type T) "__len__" = pure none) (nh:typeLookup (.type T) "__length_hint__" = pure none) (hst:St 0 s.heap)
  (hQ:∀h' acc c,(∀b o,b ∉ wr->s.heap.get? b=some o->h'.get? b=some o)->T0 h' s.heap.objs.size acc c->fy P h' acc n->Q (.ref s.heap.objs.size) { s with heap:=h' }) :
  wpAny (model prog w) A (call (.type "list") [.ref I]) Q E s:=by
 refine callType_codes (Q₁:=fun U s₁=>U = .ref s.heap.objs.size/\s₁={ s with heap:=s.heap.push { cls:=.type "list",data:=.seq #v[] } }) PySem.F.called_list (NB _) NC
  (code_list_new _ #[rfl,rfl]) fun U s₁ h₁=>?_
 obtain⟨rfl,rfl⟩:=h₁;have hS:(s.heap.push { cls:=.type "list",data:=.seq #v[] }).get? s.heap.objs.size=some { cls:=.type "list",data:=.seq #v[] }:=ID _ rfl;obtain⟨oI,J,Z⟩:=id hT;have hI:I<s.heap.objs.size:=Ig J;refine#[#[_,hS,rfl],ND _ _,?_];show wpAny _ _ (do let old <-Builtin.List.listItems (.ref s.heap.objs.size);Builtin.List.listUpdate (.ref s.heap.objs.size) (fun _=>#v[]);letGo old.toList.reverse;Builtin.List.listExtendWith (.ref s.heap.objs.size) (.ref I) .none) _ _ _;refine cn ?_;unfold Builtin.List.listItems;refine cn (Jv hS rfl (gV ?_));show wpAny _ _ (updateSeq s.heap.objs.size (fun _=>#v[]) >>= fun _=>letGo (#v[]:vR_).toList.reverse >>= fun _=>Builtin.List.listExtendWith (.ref s.heap.objs.size) (.ref I) .none) _ _ _;refine cn (Kr hS rfl ?_);have Y:=JM (Obj.mapSeq (fun _=>(#v[]:vR_))) hS rfl;have B:∀b o,b≠s.heap.objs.size->s.heap.get? b=some o->((s.heap.push { cls:=.type "list",data:=.seq #v[] }).update s.heap.objs.size (Obj.mapSeq (fun _=>(#v[]:vR_)))).get? b=some o:=
  fun b o hb e=>(JT _ _ (xu hb)).trans (Ii _ e)
 refine cn (Lm ?_);refine HX (A:=A.in1) W hn #[oI,B I _ (Ir hI) J,Z] hl ht nl nh (W.stay 0 s.heap _ hst B) (Jr hI) .none _ Y fun h' acc c hk hS' hG=>?_
 exact#[rfl,hQ h' acc c (fun b o h2 e=>hk b o (Ir (Ig e)) h2 (B b o (Ir (Ig e)) e)) hS' hG]
end
def Cl:typeLookup (.type "zip") "__len__" = pure none:=by rw[typeLookup_type,builtinLookup_eq_fast];kernel_rfl
def GG:typeLookup (.type "zip") "__length_hint__" = pure none:=by rw[typeLookup_type,builtinLookup_eq_fast];kernel_rfl
def DP {w:World}{z TI TO i1 i2 l1 l2:Addr}{xs ys:vR_}(hh:A.handled=none) (D:ZipApart z TI TO i1 i2 l1 l2) (Z:TO<S) (hS:S ∉ [z,TI,TO,i1,i2,l1,l2]) (j7:∀b∈[z,TO,i1,i2],b<S) :
  LW prog w A z S [z,TO,i1,i2] (min xs.size ys.size) (fun j v h=>∃a x y,v = .ref a/\S<=a/\a≠S/\xs[j]? = some x/\ys[j]? = some y/\IsPair h a x y) (fun k h=>ZSt h z TI TO i1 i2 l1 l2 S xs ys k) where
 item:=fun i s Q E hi st hs W=>by
  have Y:i<xs.size:=Iy hi (KC ..);have U:i<ys.size:=Iy hi (Nat.min_le_right ..);exact BN D st hs (Nat.lt_trans Z hs) (Ka Y) (Ka U) fun h' a1 a2 a3=>W _ h' #[_,_,_,rfl,LI hs,Jr hs,Ka Y,Ka U,a2] a1 (fun j u ⟨a,x,y,e,_,_,_,_,q⟩ z=>by
   rw[e] at z;cases z;exact absurd (Ig q) (JQ _)) a3
 done:=fun s Q E st W=>by
  have J:xs[min xs.size ys.size]? = none\/ys[min xs.size ys.size]? = none:=by
   rcases Nat.le_total xs.size ys.size with h | h
   .exact .inl (by rw[Ks h];exact Lq (tx _))
   .exact .inr (by rw[Lr h];exact Lq (tx _))
  exact xM hh D st J W
 stay:=fun i h h' st k=>by
  simp only[iO,IY,Jh,JY] at hS;obtain⟨n1,n2,n3,n4,n5,n6,n7⟩:=hS;obtain⟨ti,r1,r2,zz⟩:=st;refine#[k _ _ (xu n2) ti,r1.at (fun o e=>k _ o (xu n4) e) (fun o e=>k _ o (xu n6) e),r2.at (fun o e=>k _ o (xu n5) e) (fun o e=>k _ o (xu n7) e),?_];rcases zz with ⟨B,a,b,ho⟩ | ⟨T,f,oT,B,hT,t1,t2,t3,t4,t5⟩
  .exact .inl #[k _ _ (xu n1) B,a,b,k _ _ (xu n3) ho]
  .exact .inr #[T,f,oT,k _ _ (xu n1) B,k _ _ t5 hT,t1,t2,t3,t4,t5]
 pay:=fun i v h h' p k=>by
  obtain⟨a,x,y,e,ha,na,hx,hy,q⟩:=p;refine#[a,x,y,e,ha,na,hx,hy,k _ _ na (fun hb=>?_) q];exact absurd (Iy (j7 a hb) ha) (JQ _)
 self:=fun A s Q E st W=>by
  have tz:s.TypeIs (.ref z) "zip":= by
   rcases st.zz with ⟨B,_⟩ | ⟨T,f,oT,B,_⟩ <;> exact#[_,B,rfl]
  refine Me tz KL (Je KL tz MK ?_ (ML _));show wpAny _ _ (ret (.ref z)) _ _ s;exact gV #[_,rfl, "zip",_,tz,Jo.lookup,W]
 out:=fun h=>hS (by
  simp only[iO,IY,Jh] at h ⊢;rcases h with h | h | h | h <;> simp[h])
def W1 (t:Bool) (l:Addr):Obj:={ cls:=.type (if t then "tuple_iterator" else "list_iterator"),data:=.fields #v[.ref l,.int 0 0] }
def RwB (t:Bool) (h:Heap) (l:Addr) (xs:vR_):Prop:=if t then h.IsTuple l xs else h.IsList l xs
section
variable {w:World}
def qo {t:Bool}{l:Addr}{xs:vR_}{Q:vQ_}(h:RwB t s.heap l xs) (B:Q (.ref s.heap.objs.size) { s with heap:=s.heap.push (W1 t l) }):wpAny (model prog w) A (pyIter (.ref l)) Q E s:=by
 cases t with
 |true=>exact wpAny_pyIter_tuple h B
 |false=>exact wpAny_pyIter_list h B
end
abbrev gO (h:Heap) (t1:Bool) (l1:Addr):Heap:=h.push (W1 t1 l1)
abbrev fY (h:Heap) (t1 t2:Bool) (l1 l2:Addr):Heap:=(gO h t1 l1).push (W1 t2 l2)
abbrev iQ (h:Heap) (t1 t2:Bool) (l1 l2:Addr):Heap:=(fY h t1 t2 l1 l2).push { cls:=.type "tuple",data:=.seq #v[.ref h.objs.size,.ref (gO h t1 l1).objs.size] }
abbrev fW (h:Heap) (t1 t2:Bool) (l1 l2:Addr):Heap:=(iQ h t1 t2 l1 l2).push { cls:=.type "tuple",data:=.seq #v[.none,.none] }
abbrev az (h:Heap) (t1 t2:Bool) (l1 l2:Addr):Heap:=(fW h t1 t2 l1 l2).push { cls:=.type "zip",data:=.fields #v[.none,.bool false,.bool false,.ref (fY h t1 t2 l1 l2).objs.size,.ref (iQ h t1 t2 l1 l2).objs.size] }
theorem RwB.push {t:Bool}{xs:vR_}(x:RwB t h l xs) (o:Obj):RwB t (h.push o) l xs:=by
 cases t with
 |true=>exact Heap.IsTuple.push x o
 |false=>exact Heap.IsList.push x o
def Hq (B J:Bool) (l1 l2:Addr) (xs ys:vR_) :
  Meets (Builtin.«zip.__new__» #[[.type "zip",.ref l1,.ref l2],[]]) (fun _ R s=>RwB B s.heap l1 xs/\RwB J s.heap l2 ys /\
   R (.ok (.ret (.ref (fW s.heap B J l1 l2).objs.size))) { s with heap:=az s.heap B J l1 l2 }):=
 .of_wp fun prog w A R s h=>by
  obtain⟨hp,g,d,tk,os⟩:=s;obtain⟨W,Z,h⟩:=h;have hsub:=sub_zip;have Y:RwB B (Shared.heap #[hp,g,d,tk,os]) l1 xs:=W;have U:RwB J (Shared.heap #[hp.push (W1 B l1),g,d,tk,os]) l2 ys:=RwB.push Z _
  wp_walk using qo Y,qo U
  exact#[_,rfl,h]
section
variable {w:World}
def RwB.it {t:Bool}{i:Addr}{xs:vR_}(x:RwB t h l xs) (e:h.get? i=some (W1 t l)):RwIt h i l xs 0:=by
 cases t with
 |true=>exact .inr #[#[_,e,rfl,rfl],x]
 |false=>exact .inl #[#[_,e,rfl,rfl],x]
def RwB.at {t:Bool}{xs:vR_}(x:RwB t h l xs) (e:∀o,h.get? l=some o->h'.get? l=some o):RwB t h' l xs:=by
 cases t with
 |true=>obtain⟨o,q,r⟩:=x;exact#[o,e o q,r]
 |false=>obtain⟨o,q,r⟩:=x;exact#[o,e o q,r]
def RwB.lt {t:Bool}{xs:vR_}(x:RwB t h l xs):l<h.objs.size:=by
 cases t with
 |true=>obtain⟨o,q,r⟩:=x;exact Ig q
 |false=>obtain⟨o,q,r⟩:=x;exact Ig q
def rB (h:Heap) (m:Nat) (xs ys:vR_):Prop:=∃l1 l2,ZipApart (m+4) (m+2) (m+3) m (m+1) l1 l2/\l1<m/\l2<m/\h.objs.size=m+5/\∀S,m+5<=S->ZSt h (m+4) (m+2) (m+3) m (m+1) l1 l2 S xs ys 0
def xf (h:Heap) (m:Nat) (J B:Bool) (l1 l2:Addr):Prop:=ZipApart (m+4) (m+2) (m+3) m (m+1) l1 l2/\h.get? m=some (W1 J l1)/\h.get? (m+1)=some (W1 B l2)/\IsPair h (m+2) (.ref m) (.ref (m+1))/\D9 h (m+4) (m+2) (m+3) .none (.bool false)/\∃a b,IsPair h (m+3) a b
def vT {B J:Bool}{xs ys:vR_}{Q:vQ_}(h1:RwB B s.heap l1 xs) (h2:RwB J s.heap l2 ys)
  (h:∀h',rB h' s.heap.objs.size xs ys->(∀c o,s.heap.get? c=some o->h'.get? c=some o)->xf h' s.heap.objs.size B J l1 l2->Q (.ref (s.heap.objs.size+4)) { s with heap:=h' }) :
  wpAny (model prog w) A (call (.type "zip") [.ref l1,.ref l2]) Q E s:=by
 refine callType_new PySem.F.called_zip #[] (PySem.F.typeCall_zip_2 _ _) (PySem.F.newCall_zip_2 _ _) (fun obj=>PySem.F.args_object_init_3 obj _ _) PySem.F.entry_zip_new
  (Hq B J l1 l2 xs ys) #[h1,h2,?_]
 have z1:(gO s.heap B l1).objs.size=s.heap.objs.size+1:=KA ..;have Z:(fY s.heap B J l1 l2).objs.size=s.heap.objs.size+2:=by rw[KA,z1]
 have z3:(iQ s.heap B J l1 l2).objs.size=s.heap.objs.size+3:=by rw[KA,Z]
 have z4:(fW s.heap B J l1 l2).objs.size=s.heap.objs.size+4:=by rw[KA,z3]
 have z5:(az s.heap B J l1 l2).objs.size=s.heap.objs.size+5:=by rw[KA,z4]
 have fr:∀t l,(W1 t l).isFreed=false:=fun t l=>rfl
 have U:(az s.heap B J l1 l2).get? (fW s.heap B J l1 l2).objs.size=some _:=ID _ rfl;have Y:(az s.heap B J l1 l2).get? (iQ s.heap B J l1 l2).objs.size=some _:=Ii _ (ID _ rfl);have W:(az s.heap B J l1 l2).get? (fY s.heap B J l1 l2).objs.size=some _:=Ii _ (Ii _ (ID _ rfl));have g2:(az s.heap B J l1 l2).get? (gO s.heap B l1).objs.size=some (W1 J l2):=Ii _ (Ii _ (Ii _ (ID _ (fr _ _))));have g1:(az s.heap B J l1 l2).get? s.heap.objs.size=some (W1 B l1):=Ii _ (Ii _ (Ii _ (Ii _ (ID _ (fr _ _)))));show _/\_;rw[Z,z3,z4] at U;rw[z1,Z] at W;rw[z3] at Y;rw[z1] at g2;rw[z4];have up:∀c o,s.heap.get? c=some o->(az s.heap B J l1 l2).get? c=some o:=fun c o x=>
  Ii _ (Ii _ (Ii _ (Ii _ (Ii _ x))))
 refine#[#[_,U,rfl],h _ #[l1,l2,NF h1.lt h2.lt,h1.lt,h2.lt,z5,fun S hS=>#[W,(h1.at fun o e=>up _ o e).it g1,(h2.at fun o e=>up _ o e).it g2,.inl #[U,_,_,Y]]] up #[NF h1.lt h2.lt,g1,g2,W,U,_,_,Y]]
structure LZ (h h':Heap) (S:Addr) (xs ys:vR_) (as:vL_) (c:Nat):Prop where
 keep:∀b o,h.get? b=some o->h'.get? b=some o
 low:h.objs.size<=S
 lst:T0 h' S (as.map Value.ref).toArray c
 len:as.length=min xs.size ys.size
 new:∀a∈as,h.objs.size<=a/\a≠S
 nd:as.Nodup
 at':∀(j:Nat) a,as[j]? = some a->∃x y,xs[j]? = some x/\ys[j]? = some y/\IsPair h' a x y
def GE {P:Nat->Value->Heap->Prop}{acc:vR_}(g:fy P h acc n) (hp:∀j v,P j v h->∃a,v = .ref a):∃as:List Addr,acc=(as.map Value.ref).toArray:=by
 have:∀l:List Value,(∀v∈l,∃a,v=Value.ref a)->∃as:List Addr,l=as.map Value.ref:=by
  intro l;induction l with
  |nil=>exact fun _=>#[[],rfl]
  |cons v r W=>
   intro B;obtain⟨a,e⟩:=B v (.head _);obtain⟨as,U⟩:=W fun u J=>B u (.tail _ J)
   exact#[a::as,by rw[e,U];rfl]
 obtain⟨as,e⟩:=this acc.toList fun v B=>by
  obtain⟨j,Y⟩:=Md.mp B;exact hp j v (g.2.1 j v (by simpa using Y))
 exact#[as,by rw[<-e,Array.toArray_toList]]
def yH {m:Nat}{h₀:Heap}{xs ys:vR_}{Q:vQ_}(hh:A.handled=none) (Z:rB s.heap m xs ys) (k₀:∀c o,h₀.get? c=some o->s.heap.get? c=some o) (hm:h₀.objs.size=m) (hn:xs.size<=sizeLine)
  (hQ:∀S h' as c,LZ h₀ h' S xs ys as c->Q (.ref S) { s with heap:=h' }):wpAny (model prog w) A (call (.type "list") [.ref (m+4)]) Q E s:=by
 obtain⟨l1,l2,D,b1,b2,sz,st⟩:=Z;have B:=st s.heap.objs.size ∅;have tz:s.TypeIs (.ref (m+4)) "zip":= by
  rcases B.zz with ⟨hz,_⟩ | ⟨T,f,oT,hz,_⟩ <;> exact#[_,hz,rfl]
 refine CS (T := "zip") (DP (A:=A.in1.in1) hh D (show (m+3:Nat)<s.heap.objs.size by omega) (by
  simp only[iO,IY,Jh,JY];have ms:m<=s.heap.objs.size:=by omega
  exact#[show (s.heap.objs.size:Nat)≠m+4 by omega,show (s.heap.objs.size:Nat)≠m+2 by omega,show (s.heap.objs.size:Nat)≠m+3 by omega,show (s.heap.objs.size:Nat)≠m by omega,show (s.heap.objs.size:Nat)≠m+1 by omega,
   Jr (Iy b1 ms),Jr (Iy b2 ms)]) (by
  simp only[iO,IY,Jh];intro b hb;have U:∀j,j<=4->m+j<s.heap.objs.size:=fun j _=>by omega
  rcases hb with e | e | e | e
  .rw[e];exact U 4 ∅
  .rw[e];exact U 3 ∅
  .rw[e];exact U 0 ∅
  .rw[e];exact U 1 ∅)) (Ij (KC ..) hn) tz #[] #[] Cl GG B fun h' acc c k l g=>?_
 obtain⟨as,ea⟩:=GE g fun j v ⟨a,_,_,e,_⟩=>#[a,e]
 subst ea;refine hQ _ h' as c #[fun b o e=>k b o (fun hb=>?_) (k₀ b o e),by omega,l,by simpa using g.1,fun a ha=>?_,?_,fun j a e=>?_]
 .have hl:b<m:=hm▸Ig e;simp only[iO,IY,Jh] at hb;have J:∀j:Nat,¬ (m+j<m):=fun j=>by omega
  rcases hb with e | e | e | e
  .exact J 4 (e▸hl)
  .exact J 3 (e▸hl)
  .exact J 0 (e▸hl)
  .exact J 1 (e▸hl)
 .obtain⟨j,hj⟩:=Md.mp ha;obtain⟨a',x,y,e,W,Y,_⟩:=g.2.1 j (.ref a) (by simp[hj]);cases e;exact#[Ij (show (h₀.objs.size:Nat)<=s.heap.objs.size by omega) W,Y]
 .have nd:=g.2.2;simp only[List.toList_toArray] at nd;exact(MM.mp nd).imp fun h e=>h (by rw[e])
 .obtain⟨a',x,y,e',W,Y,q3,q4,q5⟩:=g.2.1 j (.ref a) (by simp[e]);cases e';exact#[x,y,q3,q4,q5]
end
def P2 (H:Hp):List (Addr × List V)->Hp
 |[]=>H
 |(a,p)::r=>f9 (P2 H r) a (.tup p)
theorem eH:∀{ps:List (Addr × List V)}{b:Addr},(∀q∈ps,q.1≠b)->P2 H ps b=H b
 |[],b,h=>rfl
 |(a,p)::r,b,h=>by
  show f9 (P2 H r) a (.tup p) b=H b;rw[n9 (xu (h _ (.head _)))];exact eH fun q B=>h q (.tail _ B)
theorem qJ:∀{ps:List (Addr × List V)}{b:Addr}{u:HO},P2 H ps b=some u->(∃p,(b,p)∈ps/\u = .tup p)\/H b=some u
 |[],b,u,h=>.inr h
 |(a,p)::r,b,u,h=>by
  replace h:f9 (P2 H r) a (.tup p) b=some u:=h
  by_cases hb:b=a
  .subst hb;rw[v8] at h;cases h;exact .inl #[p,.head _,rfl]
  .rw[n9 hb] at h;rcases qJ h with ⟨p',q,e⟩ | e
   .exact .inl #[p',.tail _ q,e]
   .exact .inr e
theorem qQ:∀{ps:List (Addr × List V)}{b:Addr}{p:List V},(ps.map (·.1)).Nodup->(b,p)∈ps->P2 H ps b=some (.tup p)
 |(a,p')::r,b,p,nd,h=>by
  show f9 (P2 H r) a (.tup p') b=_;rcases iO.mp h with e | h
  .cases e;exact v8
  .have B:=IE.mp nd;have hb:b≠a:=fun e=>B.1 (e▸Ik.mpr #[(b,p),h,rfl])
   rw[n9 hb];exact qQ B.2 h
def Gq {fs ex:vL_}(k:∀b u,h.get? b=some u->h'.get? b=some u) (B:∀b,b<h.objs.size->H' b=H b) (hs:∀b u,H b=some u->H' b=some u):Un fs ex H H' h h' where
 keep:=fun b u q _ _ _=>k b u q
 slot:=fun b u q _ _ _=>#[u.slots,k b u q]
 free:=fun b u q n _=>by rw[B b (Ig q)];exact n
 there:=fun b u q _=>#[u,k b u q]
 tups:=fun b xs q=>hs b _ q
 frzs:=fun b u xs q=>hs b _ q
 tbls:=fun b ps q=>#[#v[],by rw[hs b _ q];simp]
def E4 (xs ys:List V):List (List V):=List.zipWith (fun x y=>[x,y]) xs ys
def yF (e:(E4 xs ys)[j]? = some p):∃x y,xs[j]? = some x/\ys[j]? = some y/\p=[x,y]:=by
 unfold E4 at e;rw[NG] at e;cases B:xs[j]? with
 |none=>rw[B] at e;simp at e
 |some x=>
  cases J:ys[j]? with
  |none=>rw[B,J] at e;simp at e
  |some y=>rw[B,J] at e;simp at e;exact#[x,y,rfl,rfl,e.symm]
def Sq (K:vF_) (H:Hp) (a:Addr) (xs:List V):Prop:=SqL K H a xs\/SqT K H a xs
def uL (K:vF_):List V->Hp->VK->Prop:=fun B H Q=>∃p q xs ys,B=[.ref p,.ref q]/\Sq K H p xs/\Sq K H q ys /\
 ∀S as,(S::as).Nodup->(∀a∈S::as,H a=none)->as.length=(E4 xs ys).length->Q (.ref S) (f9 (P2 H (as.zip (E4 xs ys))) S (.lst (as.map V.ref)))
def vz (I:Inv X pins σ H s) (h:Sq X.K H p xs):∃(t:Bool) (its:vV_),Vals xs its/\RwB t s.heap p its.toArray/\xs.length<=sizeLine:=by
 rcases h with h | h
 .obtain⟨its,r,⟨o,n,e,c,_,d⟩,z⟩:=I.list h;exact#[false,its,r,#[o,e,c,n,d],z]
 .obtain⟨its,r,⟨o,e,c,n,d⟩,z⟩:=I.tuple h;exact#[true,its,r,#[o,e,c,n,d],z]
def qV {as:vL_}{ps:List (List V)}(h:as.length=ps.length):(as.zip ps).map (·.1)=as:=by
 rw[List.map_fst_zip ∅]
def Inv.lz {it jt:vV_}{as:vL_}{c:Nat}(I:Inv X pins σ H s) (rx:Vals xs it) (ry:Vals ys jt) (zx:xs.length<=sizeLine) (Z:LZ s.heap h' S it.toArray jt.toArray as c) :
  (S::as).Nodup/\(∀a∈S::as,H a=none)/\as.length=(E4 xs ys).length/\Inv X pins σ (f9 (P2 H (as.zip (E4 xs ys))) S (.lst (as.map V.ref))) { s with heap:=h' }:=by
 have hl:as.length=(E4 xs ys).length:=by
  have e:=Z.len;simp only[Iz] at e;rw[e,E4,MN,rx.length,ry.length]
 have fr:∀a∈S::as,s.heap.objs.size<=a:=fun a ha=>by
  rcases iO.mp ha with e | e
  .rw[e];exact Z.low
  .exact(Z.new a e).1
 have nn:∀a∈S::as,H a=none:=fun a ha=>I.hok.fresh (fr a ha)
 have nd:(S::as).Nodup:=IE.mpr #[fun h=>(Z.new S h).2 rfl,Z.nd];have ky:=qV hl;have ndz:((as.zip (E4 xs ys)).map (·.1)).Nodup:=by rw[ky];exact Z.nd
 have J:∀q∈as.zip (E4 xs ys),q.1∈as:=fun q B=>(JS B).1
 refine#[nd,nn,hl,?_];have hs:∀b u,H b=some u->f9 (P2 H (as.zip (E4 xs ys))) S (.lst (as.map V.ref)) b=some u:=fun b u e=>by
  have n:∀a∈S::as,a≠b:=fun a ha z=>by rw[z] at ha;rw[nn b ha] at e;cases e
  rw[n9 (xu (n S (.head _))),eH fun q B=>n _ (.tail _ (J q B))];exact e
 refine I.un (t':=s.toks) (Gq Z.keep (fun b hb=>?_) hs) fun b u e=>?_
 .have n:∀a∈S::as,a≠b:=fun a ha z=>absurd (Iy hb (z▸fr a ha)) (JQ _)
  rw[n9 (xu (n S (.head _))),eH fun q B=>n _ (.tail _ (J q B))]
 .by_cases hb:b=S
  .subst hb;rw[v8] at e;cases e;refine#[?_,as.map Value.ref,c,?_,Z.lst]
   .rw[xo,hl,E4,MN];exact Ij (KC ..) zx
   .have:∀l:List Addr,Vals (l.map V.ref) (l.map Value.ref):=fun l=>by
     induction l with
     |nil=>exact .nil
     |cons a r ih=>exact .cons rfl ih
    exact this as
  .rw[n9 hb] at e;rcases qJ e with ⟨p,hp,rfl⟩ | e0
   .obtain⟨j,hj⟩:=Md.mp hp;obtain⟨ha,W⟩:=Ls.mp hj;obtain⟨x,y,ex,ey,rfl⟩:=yF W;obtain⟨x',y',ex',U,q⟩:=Z.at' j b ha;obtain⟨u1,f1,g1⟩:=rx.get ex;obtain⟨Y,f2,g2⟩:=ry.get ey;have e1:u1=x':=by simpa [f1] using ex'
    have e2:Y=y':=by simpa [f2] using U
    subst e1;subst e2;exact#[show 2<=sizeLine by decide,[u1,Y],.cons g1 (.cons g2 .nil),#[_,q,rfl,_,rfl]]
   .exact(I.hok b u e0).stay (fun c v _ q=>Z.keep c v q) (fun c q=>hs c _ q) fun c xs q=>hs c _ q
section
variable {p p' pos:Pos}{t:TA}
def zk (hc:X.calm=true) (U:Gl X "list") (hml:X.mg "list" = none) (W:Gl X "zip") (hmz:X.mg "zip" = none) (ha:PA X (e::es) t)
  (he:starEach (e::es) X.env=(false,eval e X.env)::starEach es X.env:=by rfl) (Y:(backTo pos' (starEach es X.env)).any (·.1)=false:=by rfl)
  (J:starEach [.Call (.Name "zip" p') (e::es) [] pos'] X.env=[(false,eval (.Call (.Name "zip" p') (e::es) [] pos') X.env)]:=by rfl) :
  PE X (.Call (.Name "list" p) [.Call (.Name "zip" p') (e::es) [] pos'] [] pos) (dA (uL X.K) t):=by
 intro pins s σ H Q I h;refine JW (aI I U hml (show bootBuiltins ("list" : Str)=some (.type "list") by decide +kernel) ?_ #[] #[]);refine Kn ?_ J rfl;rw[J];show wpAny _ _ (spliced [(false,eval (.Call (.Name "zip" p') (e::es) [] pos') X.env)]) _ _ s;refine Calls.spliced_cons ?_;refine JW (aI I W hmz (show bootBuiltins ("zip" : Str)=some (.type "zip") by decide +kernel) ?_ #[] #[]);refine Kn (n8 (ha pos' pins s σ H _ I h) fun us s1 ⟨vs,H1,I1,B,q1⟩=>?_) he Y;obtain⟨a,b,xs,ys,rfl,qa,qb,k⟩:=q1;obtain⟨u1,u2,rfl,e1,e2⟩:∃u1 u2,us=[u1,u2]/\u1=Value.ref a/\u2=Value.ref b:=by
  cases B with
  |cons h1 B=>
   cases B with
   |cons h2 B=>cases B;exact#[_,_,rfl,h1,h2]
 subst e1;subst e2;obtain⟨ta,it,rx,wa,za⟩:=vz I1 qa;obtain⟨tb,jt,ry,wb,zb⟩:=vz I1 qb;refine vT wa wb fun h1 Z1 k1 _=>?_
 refine Calls.spliced_nil ?_;refine yH (h₀:=s1.heap) (I.ok.hd hc) Z1 k1 rfl (by simpa [<-rx.length] using za) fun S h2 as c Z=>?_
 obtain⟨nd,nn,hl,I2⟩:=Inv.lz I1 rx ry za Z;exact#[.ref S,_,I2,rfl,k S as nd nn hl]
end
def P0:D->Option (List D)
 |.tup ds=>some ds
 |.lst ds=>some ds
 |_=>none
def S5 (x y:D):D:=.tup [x,y]
def aA:List D->Option (List D)
 |[a,b]=>(P0 a).bind fun xs=>(P0 b).map fun ys=>List.zipWith S5 xs ys
 |_=>none
theorem tM {K:vF_}{s:DS}(I:GI K g σ H fa O s):∀(ps:List (Addr × List V)),(ps.map (·.1)).Nodup->(∀q∈ps,H q.1=none)->GI K g σ (P2 H ps) fa O s/\StE fa O H fa O (P2 H ps)
 |[],_,_=>#[I,StE.refl]
 |(a,p)::r,nd,h=>by
  have B:=IE.mp nd;obtain⟨W,s1⟩:=tM I r B.2 fun q J=>h q (.tail _ J)
  have U:P2 H r a=none:=by
   rw[eH fun q J z=>B.1 (Ik.mpr #[q,J,z])];exact h _ (.head _)
  exact#[W.new U,s1.trans (B8 U)]
theorem vW {K:vF_}:∀{ds es:vD_}{xs ys:List V}{as:vL_},Reps K N fa H ds xs->Reps K N fa H es ys->as.length=(E4 xs ys).length->(∀q∈as.zip (E4 xs ys),H q.1=some (.tup q.2)) ->
  Reps K N fa H (List.zipWith S5 ds es) (as.map V.ref)
 |[],es,xs,ys,as,h,q,l,k=>by
  simp only[Reps] at h;subst h;simp only[E4,NH,JJ] at l;rw[NI l];simp only[NH,Kz,Reps]
 |d::r,[],xs,ys,as,h,q,l,k=>by
  simp only[Reps] at q;subst q;simp only[E4,NJ,JJ] at l;rw[NI l];simp only[NJ,Kz,Reps]
 |d::r,e::f,xs,ys,as,h,q,l,k=>by
  simp only[Reps] at h q;obtain⟨x,B,rfl,h1,h2⟩:=h;obtain⟨y,J,rfl,Y,Z⟩:=q;cases as with
  |nil=>simp[E4] at l
  |cons a as=>
   have W:(a::as).zip (E4 (x::B) (y::J))=(a,[x,y])::as.zip (E4 B J):=rfl;rw[W] at k;simp only[NK,Iv,Reps];refine#[_,_,rfl,?_,vW h2 Z (by simpa [E4] using l) fun q U=>k q (.tail _ U)];simp only[S5,Rep,Reps];exact#[a,[x,y],rfl,SqT.of (k _ (.head _)),x,[y],rfl,h1,y,[],rfl,Y,rfl]
def sX {K:vF_}{v:V}(r:RepB K N fa H d v) (e:P0 d=some ds):∃a xs,v = .ref a/\Sq K H a xs/\Reps K N fa H ds xs:=by
 cases d with
 |tup es=>
  cases e;simp only[RepB,Rep] at r;obtain⟨a,ys,rfl,q,w⟩:=r;exact#[a,ys,rfl,.inr q,w]
 |lst es=>
  cases e;obtain⟨a,ys,rfl,_,q,w⟩:=r;exact#[a,ys,rfl,.inl (SqL.of q),w]
 |_=>cases e
def xE {K:vF_}:iM K (uL K) aA:=by
 intro g σ H fa O s xs ds es Q I rs e k
 match ds,e with
 |[d1,d2],e=>
  refine G7 (show (P0 d1).bind (fun xs=>(P0 d2).map fun ys=>List.zipWith S5 xs ys)=some es from e) fun xs1 e1 e=>?_
  refine J9 e fun ys1 e2 e=>?_
  subst e;simp only[Y6] at rs;obtain⟨x,zs,rfl,r1,y,zs',rfl,r2,rfl⟩:=rs;obtain⟨a,J,rfl,q1,w1⟩:=sX r1 e1;obtain⟨b,us,rfl,q2,w2⟩:=sX r2 e2;refine#[a,b,J,us,rfl,q1,q2,fun S as nd Z hl=>?_];have W:=IE.mp nd;have ky:=qV hl;have Y:∀q∈as.zip (E4 J us),q.1∈as:=fun q B=>(JS B).1
  have U:((as.zip (E4 J us)).map (·.1)).Nodup:=by rw[ky];exact W.2
  obtain⟨I1,s1⟩:=tM I (as.zip (E4 J us)) U fun q B=>Z _ (.tail _ (Y q B))
  have hS:P2 H (as.zip (E4 J us)) S=none:=by
   rw[eH fun q B (z:q.1=S)=>W.1 (by rw[<-z];exact Y q B)];exact Z S (.head _)
  have rp:=vW (Reps.stp I s1.stp w1) (Reps.stp I s1.stp w2) hl fun q B=>qQ (b:=q.1) (p:=q.2) U B
  exact k S (as.map V.ref) _ (s1.trans (B8 hS)) (X9 I1 hS rp) (Z S (.head _))
section
variable {p p' pos:Pos}{t:DA}
def wE (hc:X.calm=true) (U:Gl X "list") (W:X.mg "list" = none) (Y:Gl X "zip") (B:X.mg "zip" = none) (ha:BAO X g (e::es) t)
  (he:starEach (e::es) X.env=(false,eval e X.env)::starEach es X.env:=by rfl) (Z:(backTo pos' (starEach es X.env)).any (·.1)=false:=by rfl)
  (J:starEach [.Call (.Name "zip" p') (e::es) [] pos'] X.env=[(false,eval (.Call (.Name "zip" p') (e::es) [] pos') X.env)]:=by rfl) :
  FO X g (.Call (.Name "list" p) [.Call (.Name "zip" p') (e::es) [] pos'] [] pos) (V4 aA t):=
 FO.w (zk hc U W Y B ha.pe he Z J) (uj xE)
end
section
variable {pos:Pos}{y:Str}{px py pp:Pos}{kt:Nat}
def gX (W:X.calm=true) (k:CompOk X scope cl (x::y::caps) 2 idx) (hi:IO X g (.Tuple [.Name x px,.Name y py] kt pp) iter fi) (B:(x::y::caps).Nodup)
  (U:∀C s0 H0 ex,(t9 X (x::y::caps) scope cl C s0 H0 ex).env.scope.names.lookup x=some .local) (J:∀C s0 H0 ex,(t9 X (x::y::caps) scope cl C s0 H0 ex).env.scope.names.lookup y=some .local)
  (Y:∀C s0 H0 ex g',aw (t9 X (x::y::caps) scope cl C s0 H0 ex) g' ifs fc) (Z:∀C s0 H0 ex g',EO (t9 X (x::y::caps) scope cl C s0 H0 ex) g' elt fe) (hs:∀x,foldedSetIterable iter X.env x=pure x:=by intro _;rfl) :
  FO X g (.ListComp elt [#[.Tuple [.Name x px,.Name y py] kt pp,iter,ifs,0]] scope pos) (R3 idx fi fc fe):=
 CZ (G:=lQ X.K 2 (dI (T3 0) (dI (T3 1) kF))) W k hi (fun C s0 H0 ex=>lX (X:=t9 X (x::y::caps) scope cl C s0 H0 ex) (n:=2) W (fH (X:=t9 X (x::y::caps) scope cl C s0 H0 ex) (R9 (X:=t9 X (x::y::caps) scope cl C s0 H0 ex) (i:=0) B rfl (Or.inl (U C s0 H0 ex)) (Or.inr (U C s0 H0 ex))) (fH (X:=t9 X (x::y::caps) scope cl C s0 H0 ex) (R9 (X:=t9 X (x::y::caps) scope cl C s0 H0 ex) (i:=1) B rfl (Or.inl (J C s0 H0 ex)) (Or.inr (J C s0 H0 ex))) kL)))
  (fun a x y σ H Q h q=>#[a,[x,y],rfl,h,rfl,x,[y],rfl,y,[],rfl,rfl,q]) Y Z hs
end
def PC (X:Cx) (e:Expr) (te:TE):Prop:=∀(i:Nat) (y:Str) (py spos:Pos),X.N.Nodup->X.N[i]? = some y->Loc X.env.scope y->swapsWith e (some (.Name y py)) spos.line X.env=pure true->(X.fn y=true\/X.env.scope.names.lookup y=some .local)->PS X (.Assign [.Name y py] e spos) (dF te (T3 i))
structure CO (X:Cx) (g:Gh) (e:Expr) (f:DA):Prop where
 pe:PC X e (liftF X.K g f)
theorem CO.w {t:TE}(h:PC X e t) (w:∀σ H Q,liftF X.K g f σ H Q->t σ H Q):CO X g e f:=
 #[fun i y py B h1 h2 J h4 U pins s σ H D I q=>h i y py B h1 h2 J h4 U pins s σ H D I (w σ H _ q)]
section
variable {pos:Pos}
def nW (Y:X.calm=true) (k:CompOk X scope cl N' 1 idx) (hi:IO X g tg iter fi) (J:∀C s0 H0 ex,PG (t9 X N' scope cl C s0 H0 ex) tg (T3 0))
  (Z:∀C s0 H0 ex g',aw (t9 X N' scope cl C s0 H0 ex) g' ifs fc) (he:∀C s0 H0 ex g',EO (t9 X N' scope cl C s0 H0 ex) g' elt fe) (hs:∀x,foldedSetIterable iter X.env x=pure x:=by intro _;rfl) :
  CO X g (.ListComp elt [#[tg,iter,ifs,0]] scope pos) (F9 idx fi fc fe):=
 CO.w (fun i y py B h1 h2 U h4 W=>oM (tc:=fun σ H Q=>∃g',liftT X.K g' fc σ H Q) (te:=fun σ H Q=>∃g',liftE X.K g' fe σ H Q) h1 h2 U Y k hi.pe J (fun C s0 H0 ex pins s σ H Q I ⟨g',h⟩=>Z C s0 H0 ex g' pins s σ H Q I h) (fun C s0 H0 ex pins s σ H Q I ⟨g',h⟩=>(he C s0 H0 ex g').pe pins s σ H Q I h) hs h4 W) (qG k)
def Ee {G:TG}(Z:X.calm=true) (k:CompOk X scope cl N' 2 idx) (hi:IO X g tg iter fi) (J:∀C s0 H0 ex,PG (t9 X N' scope cl C s0 H0 ex) tg G)
  (W:∀(a:Addr) (x y:V) (σ:L2.St) (H:Hp) (Q:L2.St->Hp->Prop),SqT X.K H a [x,y]->Q ((σ.set 0 (some x)).set 1 (some y)) H->G (.ref a) σ H Q)
  (ht:∀C s0 H0 ex g',aw (t9 X N' scope cl C s0 H0 ex) g' ifs fc) (he:∀C s0 H0 ex g',EO (t9 X N' scope cl C s0 H0 ex) g' elt fe) (hs:∀x,foldedSetIterable iter X.env x=pure x:=by intro _;rfl) :
  CO X g (.ListComp elt [#[tg,iter,ifs,0]] scope pos) (R3 idx fi fc fe):=
 CO.w (fun i y py B h1 h2 U h4 Y=>oM (tc:=fun σ H Q=>∃g',liftT X.K g' fc σ H Q) (te:=fun σ H Q=>∃g',liftE X.K g' fe σ H Q) h1 h2 U Z k hi.pe J (fun C s0 H0 ex pins s σ H Q I ⟨g',h⟩=>ht C s0 H0 ex g' pins s σ H Q I h) (fun C s0 H0 ex pins s σ H Q I ⟨g',h⟩=>(he C s0 H0 ex g').pe pins s σ H Q I h) hs h4 Y) (ox k W)
def BV (is:List Nat) (h:CO X g e f):CO X g e (iL is f):=CO.w h.pe fun σ H Q J=>by
 refine J.elim fun fa O s d s' I q k=>?_
 obtain⟨P,a,B⟩:=pG is I;exact#[fa,P,iK is s,d,s',B,q,fun p xs H' f1 O1 W L U=>k p xs H' f1 O1 (a.trans W) L U]
def kg {e:Expr}{i:Nat}{x:Str}{f:DA}{pos':Pos}(W:X.N.Nodup) (hi:X.N[i]? = some x) (Y:Loc X.env.scope x) (Z:CO X g e f) (hs:swapsWith e (some (.Name x pos')) pos.line X.env=pure true:=by rfl) (J:X.fn x=true\/X.env.scope.names.lookup x=some .local:=by first | exact .inl rfl | exact .inr rfl | assumption) :
  SO X g (.Assign [.Name x pos'] e pos) (G6 i f):=SO.w (Z.pe i x pos' pos W hi Y hs J) fun E σ H hQ=>by
 refine hQ.elim fun fa O s fl s' I q k=>?_
 refine v6 q fun ds s1 h1 h2=>?_
 by_cases hl:i<s1.sl.length
 .simp only[] at h2;rw[fx hl] at h2;cases h2;refine#[fa,O,s,ds,s1,I,h1,fun p xs H1 f1 O1 B L hp=>?_];have np:p ∉ O1:=fun z=>by
   obtain⟨ys,e⟩:=I.owned (B.sub p z);rw[hp] at e;cases e
  obtain⟨P,sub,U⟩:=L.put i hl (I.st.mon p hp) np;refine k _ H1 f1 P #[fun b hb=>?_,B.fe,fun b u e _ n=>B.same b u e n,B.mon] U;rcases sub b hb with y | y
  .exact .inr (by rw[y];exact hp)
  .exact .inl (B.sub b y)
 .simp only[] at h2;rw[fI hl] at h2;cases h2
end
section
variable {pos:Pos}{y:Str}{px py pp:Pos}{kt:Nat}
def zF (W:X.calm=true) (k:CompOk X scope cl (x::y::caps) 2 idx) (hi:IO X g (.Tuple [.Name x px,.Name y py] kt pp) iter fi) (B:(x::y::caps).Nodup)
  (U:∀C s0 H0 ex,(t9 X (x::y::caps) scope cl C s0 H0 ex).env.scope.names.lookup x=some .local) (J:∀C s0 H0 ex,(t9 X (x::y::caps) scope cl C s0 H0 ex).env.scope.names.lookup y=some .local)
  (Y:∀C s0 H0 ex g',aw (t9 X (x::y::caps) scope cl C s0 H0 ex) g' ifs fc) (Z:∀C s0 H0 ex g',EO (t9 X (x::y::caps) scope cl C s0 H0 ex) g' elt fe) (hs:∀x,foldedSetIterable iter X.env x=pure x:=by intro _;rfl) :
  CO X g (.ListComp elt [#[.Tuple [.Name x px,.Name y py] kt pp,iter,ifs,0]] scope pos) (R3 idx fi fc fe):=
 Ee (G:=lQ X.K 2 (dI (T3 0) (dI (T3 1) kF))) W k hi (fun C s0 H0 ex=>lX (X:=t9 X (x::y::caps) scope cl C s0 H0 ex) (n:=2) W (fH (X:=t9 X (x::y::caps) scope cl C s0 H0 ex) (R9 (X:=t9 X (x::y::caps) scope cl C s0 H0 ex) (i:=0) B rfl (Or.inl (U C s0 H0 ex)) (Or.inr (U C s0 H0 ex))) (fH (X:=t9 X (x::y::caps) scope cl C s0 H0 ex) (R9 (X:=t9 X (x::y::caps) scope cl C s0 H0 ex) (i:=1) B rfl (Or.inl (J C s0 H0 ex)) (Or.inr (J C s0 H0 ex))) kL)))
  (fun a x y σ H Q h q=>#[a,[x,y],rfl,h,rfl,x,[y],rfl,y,[],rfl,rfl,q]) Y Z hs
end
theorem mi:∀ns:List Int,D.plains (ns.map .int)=true
 |[]=>rfl
 |n::r=>by simp only[Iv,D.plains,D.plain,mi r,Js]
theorem rK:∀ns:List Int,PyData.canLayAll0 (D.pys (ns.map .int))=true
 |[]=>rfl
 |n::r=>by simp only[Iv,D.pys,D.py,PyData.canLayAll0,PyData.canLay0,rK r,Js]
theorem rk:∀ns:List Int,PyData.depthAll (D.pys (ns.map .int))=0
 |[]=>rfl
 |n::r=>by simp only[Iv,D.pys,D.py,PyData.depthAll,PyData.depth,rk r,Nat.max_self]
def oQ (ns:List Int):u3 (.lst (ns.map .int))=true:=by
 simp[u3,D.plain,mi,D.py,SeqAt.shaped,PyData.canLay0,rK,PyData.depth,rk]
def De (ns:List Int):PyData.eqv (D.py (.lst (ns.map .int))) (D.py (.lst []))=decide (ns=[]):=by
 cases ns with
 |nil=>rfl
 |cons n r=>simp[D.py,D.pys,PyData.eqv,PyData.eqvAll]
def yr (hu:X.A.units+64<cLine):OpR X (compareOp .Eq) (fun x y H Q=>∃a ns b,x = .ref a/\y = .ref b/\SqL X.K H a ((ns:List Int).map V.int)/\H b=some (.lst [])/\Q (.bl (decide (ns=[]))) H):=by
 intro pins s σ H x y v u Q I rx Z h;obtain⟨a,ns,b,rfl,rfl,sq,hb,q⟩:=h;cases rx;have B:=oQ ns;have J:u3 (.lst [])=true:=oQ [];unfold u3 at B J;rw[Iq] at B J;obtain⟨its,W,⟨o,n,h1,h2,h3,h4⟩,_⟩:=I.list sq;obtain⟨as,Y⟩:=ie (N:=fun _=>False) (fa:=none) I (ns.map .int) (ns.map V.int) its Reps.ints W (mi ns);have U:∃as,Reads s.heap (.ref a) (D.py (.lst (ns.map .int))) as:=by
  simp only[D.py];exact#[_,.list h1 h2 h4 (by simpa using Y)]
 obtain⟨as1,U⟩:=U;obtain⟨bs,r2⟩:=V8 I (.lst []) (.ref b) u (show U5 X.K (fun _=>False) none H (.lst []) (.ref b) from #[b,[],rfl,hb,Reps.nil]) Z rfl;rw[<-De] at q;exact Nx U r2 B.2 J.2 hu #[.bl _,H,I,rfl,q]
def SqF.new {K:vF_}{o:HO}(h:SqF K H a xs) (hp:H p=none):SqF K (f9 H p o) a xs:=by
 rcases h with ⟨o',h⟩ | h
 .exact .inl #[o',by rw[n9 (R8 h hp)];exact h]
 .exact .inr h
def BE {K:vF_}{s:DS}(I:GI K g σ H none O s) (hf:s.fs=none) (f:FS) (hk:f.kind≠0) (Z:f.cells.length<=63) {c p:Addr}(J:H c=none) (B:f9 H c (.lst (f.cells.map V.int)) p=none) :
  StE none O H (some p) O (f9 (f9 H c (.lst (f.cells.map V.int))) p (.lst (K9 c f)))/\GI K g σ (f9 (f9 H c (.lst (f.cells.map V.int))) p (.lst (K9 c f))) (some p) O { s with fs:=some f }:=by
 have W:c≠p:=fun z=>by rw[<-z,v8] at B;cases B
 have hp:H p=none:=by rw[n9 (xu W)] at B;exact B
 have U:∀b u,H b=some u->b≠p/\b≠c:=fun b u e=>#[R8 e hp,R8 e J]
 have Y:StE none O H (some p) O (f9 (f9 H c (.lst (f.cells.map V.int))) p (.lst (K9 c f))):=by
  refine#[fun _ h=>h,.inr #[rfl,fun b z=>by cases z;exact hp],fun b u e _=>?_,fun b z=>?_]
  .obtain⟨n1,n2⟩:=U b u e;rw[n9 n1,n9 n2];exact e
  .by_cases h1:b=p
   .subst h1;exact hp
   .by_cases h2:b=c
    .subst h2;exact J
    .rw[n9 h1,n9 h2] at z;exact z
 have cr:=I.car Y.stp;refine#[Y,#[I.nd,SlR.go cr (fun b xs hb e=>Y.same b _ e (by simp)) I.sl,I.fr,I.st.trans #[fun b hb=>(by cases hb),Y.fe,fun b u e _ n=>Y.same b u e n,Y.mon],I.tr,I.ff,?_,I.nf_step Y.fe]];refine#[Z,c,by rw[iP hk,v8],?_,?_]
 .rintro(z | z | z)
  .exact I.trF z J
  .obtain⟨xs,e⟩:=I.owned z;rw[J] at e;cases e
  .exact W (Jj z).symm
 .rw[n9 W,v8]
def Q7 (ns:List Int):List Int:=ns++(List.replicate (if ns=[] then 1 else 0) [0]).flatten
def iA (i:Nat):DE:=fun s=>match s.sl[i]?,s.fs with
 |some (.v (.scr ns)),none=>if (Q7 ns).length<=63 then some (.feed,{ s with fs:=some #[Q7 ns,0,0,0,2] }) else none
 |_,_=>none
def BX {i:Nat}{x W U:Str}{p1 Y pl pi pos q1 q2 q3 q4 q5 q6 q7 q8 q9 q10 q11 q12 q13 q14:Pos}{j63 j0 j1 j2 j3:Nat}(hu:X.A.units+64<cLine) (hv:PE X (.Name x p1) (M1 i)) (hv':PE X (.Name x Y) (M1 i))
  (hgl:Gl X W) (hml:X.mg W=none) (hbl:bootBuiltins W=some (.type "list")) (hgi:Gl X U) (hmi:X.mg U=none) (hbi:bootBuiltins U=some (.type "int"))
  (hnl:W ≠ "__name__" := by decide) (hdl:(W == ("__debug__" : Str))=false:=by decide) (hni:U ≠ "__name__" := by decide) (hdi:(U == ("__debug__" : Str))=false:=by decide) :
  EO X g (.List [.BinOp (.Call (.Name W pl) [.Subscript (.Name x p1) (.Slice none (some (.Constant (.int 63) j63 q1)) none q2) q3] [] q4) .Add (.BinOp (.List [.Constant (.int 0) j0 q5] q6) .Mult (.Call (.Name U pi) [.Compare (.Name x Y) [.Eq] [.List [] q7] q8] [] q9) q10) q11,.Constant (.int 0) j1 q12,.Constant (.int 0) j2 q13,.Constant (.int 0) j3 q14] pos) (iA i):=
 EO.w (iy (U8 (fP mK (jh vo hgl hml hbl (U8 (rJ rA hv nT (vI ak)) X7) hnl hdl) (fP rh (iy (U8 ak X7)) (jh wG hgi hmi hbi (U8 (wt (yr hu) hv' (iy X7) (dY _)) X7) hni hdi))) (U8 ak (U8 ak (U8 ak X7))))) fun σ H Q hQ=>by
  refine hQ.elim fun fa O s d s' I e k=>?_
  unfold iA at e;cases q:s.sl[i]? with
  |none=>rw[q] at e;cases e
  |some z=>
   rw[q] at e;cases z with
   |no=>cases e
   |dct _=>cases e
   |own _=>cases e
   |v dz=>
    cases dz with
    |scr ns=>
     cases hf:s.fs with
     |some f=>rw[hf] at e;cases e
     |none=>
      rw[hf] at e;simp only[] at e;split at e
      case isFalse=>cases e
      rename_i l4;cases e;obtain⟨u,e1,r⟩:=SlR.val I.sl q;simp only[Rep] at r;obtain⟨l63,a,rfl,sq⟩:=r;have fd:=I.fd;rw[hf] at fd;have fan:fa=none:=by cases fa with | none=>rfl | some _=>exact fd.elim
      subst fan;refine#[_,e1,63,rfl,a,_,rfl,sq.sq,fun c1 h1=>?_];rw[zU _ (by rw[xo];exact l63)];have I1:=I.new (o:=.lst (ns.map V.int)) h1;have sq1:=sq.new (o:=.lst (ns.map V.int)) h1;refine#[c1,_,rfl,.inl (SqL.of v8),fun c2 h2=>?_];have I2:=I1.new (o:=.lst (ns.map V.int)) h2;have sq2:=sq1.new (o:=.lst (ns.map V.int)) h2;refine#[by show 1<=sizeLine;decide,fun c3 h3=>?_];have I3:=I2.new (o:=.lst [V.int 0]) h3;have sq3:=sq2.new (o:=.lst [V.int 0]) h3;refine#[_,e1,by show 0<=sizeLine;decide,fun c4 h4=>?_];have I4:=I3.new (o:=.lst []) h4;have sq4:=sq3.new (o:=.lst []) h4;refine#[a,ns,c4,rfl,rfl,sq4.sq,v8,.inr #[decide (ns=[]),rfl,?_]];have n34:c3≠c4:=fun z=>by rw[<-z,v8] at h4;cases h4
      have J:c2≠c3:=fun z=>by rw[<-z,v8] at h3;cases h3
      have Z:c2≠c4:=fun z=>by rw[<-z,n9 J,v8] at h4;cases h4
      refine#[c3,if decide (ns=[]) then 1 else 0,[V.int 0],rfl,rfl,by rw[n9 n34,v8],by split <;> decide,by split <;> decide,by split <;> decide,fun c5 h5=>?_];have I5:=I4.new (o:=.lst (List.replicate (if decide (ns=[]) then (1:Int) else 0).toNat [V.int 0]).flatten) h5;have n25:c2≠c5:=fun z=>by rw[<-z,n9 Z,n9 J,v8] at h5;cases h5
      have B:ns.map V.int++(List.replicate (if decide (ns=[]) then (1:Int) else 0).toNat [V.int 0]).flatten=(Q7 ns).map V.int:=by
       unfold Q7;cases ns with
       |nil=>rfl
       |cons n r=>simp
      have l4':((Q7 ns).map V.int).length<=sizeLine:=by rw[xo];exact Ij l4 #[]
      refine#[c2,c5,_,_,rfl,rfl,by rw[n9 n25,n9 Z,n9 J,v8],v8,by rw[<-IQ,B];exact l4',fun c6 h6=>?_];rw[B];refine#[by show 4<=sizeLine;decide,fun p hp=>?_];obtain⟨a6,I6⟩:=BE I5 hf #[Q7 ns,0,0,0,2] (show (2:Nat)≠0 by decide) l4 h6 hp;have aa:=(((((B8 (fa:=none) (O:=O) (o:=.lst (ns.map V.int)) h1).trans (B8 h2)).trans (B8 h3)).trans (B8 h4)).trans (B8 h5)).trans a6;exact k _ _ (some p) O aa I6 (by simp only[Rep];exact#[p,rfl,rfl])
    |_=>cases e
end DL
namespace DL
open PySem PySem.Spec L2 PyProof.Rows
def aL:List D->Option (List Int)
 |[]=>some []
 |.int i::r=>(aL r).map fun l=>i::l
 |_::_=>none
def N2:List Int->Int
 |[]=>0
 |i::r=>r.foldl min i
def lN:D->Option D
 |.lst ds=>(aL ds).bind fun is=>if 0<is.length then some (.int (N2 is)) else none
 |_=>none
theorem nu:∀is:List Int,aL (is.map D.int)=some is
 |[]=>rfl
 |i::r=>by rw[Iv,aL,nu r];rfl
theorem vK:∀{ds:vD_}{is:List Int},aL ds=some is->ds=is.map D.int
 |[],is,h=>by cases h;rfl
 |.int i::r,is,h=>by
  rw[aL] at h;refine J9 h fun l h1 h2=>?_
  rw[<-h2,vK h1];rfl
 |.bl _::r,is,h=>by cases h
 |.non::r,is,h=>by cases h
 |.str _::r,is,h=>by cases h
 |.tup _::r,is,h=>by cases h
 |.lst _::r,is,h=>by cases h
 |.feed::r,is,h=>by cases h
 |.scr _::r,is,h=>by cases h
 |.fn _::r,is,h=>by cases h
 |.exc _ _::r,is,h=>by cases h
theorem eE:∀(l:List Int) (i:Int),(l.foldl min i=i\/l.foldl min i∈l)/\l.foldl min i<=i/\∀x∈l,l.foldl min i<=x
 |[],i=>#[.inl rfl,Int.le_refl _,fun x B=>by cases B]
 |y::r,i=>by
  obtain⟨a,b,c⟩:=eE r (min i y);rw[List.foldl_cons];refine#[?_,by omega,fun x B=>?_]
  .rcases a with a | a
   .rw[a];rcases Int.le_total i y with h | h
    .exact .inl (Int.min_eq_left h)
    .exact .inr (by rw[Int.min_eq_right h];exact iR ..)
   .exact .inr (iU _ a)
  .rcases iO.mp B with rfl | B
   .omega
   .exact c x B
def Cb {l:List Int}(h:0<l.length):N2 l∈l/\∀x∈l,N2 l<=x:=by
 cases l with
 |nil=>cases h
 |cons i r=>
  obtain⟨a,b,c⟩:=eE r i;refine#[?_,fun x B=>?_]
  .rcases a with a | a
   .show r.foldl min i∈_;rw[a];exact iR ..
   .exact iU _ a
  .rcases iO.mp B with rfl | B
   .exact b
   .exact c x B
theorem qz:∀{is:List Int}{us:vV_},Vals (is.map V.int) us->∃ps:List (Int × Tok),us=(intItems ps.toArray).toList/\ps.map (·.1)=is
 |[],_,.nil=>#[[],by simp[intItems],rfl]
 |i::r,_,.cons q t=>by
  obtain⟨ps,U,J⟩:=qz t;obtain⟨k,B⟩:=(show ∃k,_=Value.int i k from q)
  exact#[(i,k)::ps,by rw[B,U];simp[intItems],by rw[Iv,J]]
def nw {ps:List (Int × Tok)}(h:ps.map (·.1)=is) {x:Int}(B:is[j]? = some x):numAt ps.toArray j=x:=by
 rw[<-h,IT] at B;unfold numAt;rw[List.getElem?_toArray,B];rfl
theorem sD {val:Nat->Int}:∀k:Nat,argBest (fun i j=>decide (val i<val j)) k<=k/\∀j,j<=k->val (argBest (fun i j=>decide (val i<val j)) k)<=val j
 |0=>#[tx _,fun j B=>by
  have e:j=0:=Nat.le_zero.mp B;subst e;exact Int.le_refl _]
 |k+1=>by
  obtain⟨a,b⟩:=sD (val:=val) k;unfold argBest;by_cases c:val (k+1)<val (argBest (fun i j=>decide (val i<val j)) k)
  .rw[fx (IH c)];refine#[tx _,fun j B=>?_];by_cases e:j=k+1
   .subst e;exact Int.le_refl _
   .have:=b j ∅;omega
  .rw[fI (by rw[Jc c];exact Io)];refine#[by omega,fun j B=>?_];by_cases e:j=k+1
   .subst e;omega
   .exact b j ∅
def tP:bootBuiltins ("min" : Str)=some (.builtin "min"):=by decide +kernel
section
variable {K:vF_}
def mT (K:vF_) (f:List Int->Int) (c:List Int->Prop):List V->Hp->VK->Prop:=fun xs H Q=>∃(a:Addr) (is:List Int),xs=[.ref a]/\SqL K H a (is.map V.int)/\c is/\Q (.int (f is)) H
def vZ (hc:X.calm=true):CallR X (.builtin "min") (mT X.K N2 fun is=>0<is.length):=by
 intro pins s σ H xs us Q I r h;obtain⟨a,is,rfl,U,B,q⟩:=h;obtain⟨u,rfl,ru⟩:=Z8 r;cases ru;obtain⟨its,W,p,_⟩:=I.list U;obtain⟨ps,e,hp⟩:=qz W;have hl:s.heap.IsList a (intItems ps.toArray):=by
  have:=p.isList;rw[e] at this;simpa using this
 have hn:ps.toArray.size=is.length:=by rw[<-hp];simp
 refine min_intList (I.ok.hd hc) hl (by rw[hn];exact B) fun v h' tk hv hk=>?_
 obtain⟨t,rfl⟩:=intItems_at hv;obtain⟨b1,Z⟩:=sD (val:=numAt ps.toArray) (ps.toArray.size - 1);have Y:numAt ps.toArray (argBest (fun i j=>decide (numAt ps.toArray i<numAt ps.toArray j)) (ps.toArray.size - 1))=N2 is:=by
  generalize argBest (fun i j=>decide (numAt ps.toArray i<numAt ps.toArray j)) (ps.toArray.size - 1)=k at *;obtain⟨m1,m2⟩:=Cb B;have hk:is[k]? = some (is[k]'∅):=Jg ∅;have k1:=nw hp hk;have k2:=m2 _ (Ju hk);obtain⟨j,J⟩:=Kb m1;have k3:=Z j (by have:=(IK.mp J).1;omega);rw[nw hp J] at k3;omega
 rw[Y];exact#[.int _,H,I.kept hk,#[t,rfl],q]
theorem uO :∀{is:List Int}{xs:List V},Reps K N fa H (is.map D.int) xs->xs=is.map V.int
 |[],xs,h=>by simpa only[Kz,Reps] using h
 |b::r,xs,h=>by
  simp only[Iv,Reps,Rep] at h;obtain⟨x,ys,rfl,rfl,h⟩:=h;rw[uO h];rfl
def AM {p:D->Option D}{f:List Int->Int}{c:List Int->Prop}(hp:∀d1 d,p d1=some d->∃is:List Int,d1 = .lst (is.map D.int)/\c is/\d = .int (f is)):Z4 K (mT K f c) (one p):=fX fun g σ H fa O s x d1 d Q I r e k=>by
 obtain⟨is,rfl,B,rfl⟩:=hp _ _ e;obtain⟨a,ys,rfl,_,q,w⟩:=r;have:=uO w;subst this;exact#[a,is,rfl,SqL.of q,B,k _ H StE.refl I (by simp only[Rep])]
def sm:Z4 K (mT K N2 fun is=>0<is.length) (one lN):=AM fun B d e=>by
 cases B with
 |lst es=>
  refine G7 (show (aL es).bind (fun is=>if 0<is.length then some (D.int (N2 is)) else none)=some d from e) fun is h1 h2=>?_
  by_cases h:0<is.length
  .rw[fx h] at h2;cases h2;exact#[is,by rw[vK h1],h,rfl]
  .rw[fI h] at h2;cases h2
 |_=>cases e
end
end DL
namespace L2
open PySem PySem.Spec PyProof.Rows
section
variable {σ:List (Option V)}
def Inv.turned2 {t':Nat}{a b:Addr}(I:Inv X pins σ H s) (k:∀c o,c≠a->c≠b->s.heap.get? c=some o->h'.get? c=some o) (fa:M7 X pins H a) (fb:M7 X pins H b):Inv X pins σ H { s with heap:=h',toks:=t' }:=by
 have W:∀c u,H c=some u->c≠a:=fun c u e z=>by rw[z,fa.1] at e;cases e
 have U:∀c u,H c=some u->c≠b:=fun c u e z=>by rw[z,fb.1] at e;cases e
 refine I.step (g':=s.gens) (d':=s.drawn) (ch:=[a,b]) (fun c B=>?_) (fun c o _ _ B e _=>k c o (fun z=>B (by simp[z])) (fun z=>B (by simp[z])) e) (fun c o _ _ B e _=>#[o.slots,k c o (fun z=>B (by simp[z])) (fun z=>B (by simp[z])) e]) (fun _ _ _ _ n=>n)
  (fun c o B e=>#[o,k c o (fun z=>B (by simp[z])) (fun z=>B (by simp[z])) e]) (fun _ _ e=>e) (fun _ _ _ e=>e) (fun c ps e=>#[#v[],by rw[e];simp]) (fun m hm=>?_) (fun c u e=>?_) I.bare
 .simp only[iO,IY,Jh] at B;rcases B with rfl | rfl
  .exact#[fa.2.2.2.1,fa.2.1,fa.2.2.2.2.1,fa.2.2.2.2.2]
  .exact#[fb.2.2.2.1,fb.2.1,fb.2.2.2.2.1,fb.2.2.2.2.2]
 .obtain⟨o,es,ep,Y,r⟩:=hm;exact#[o,es,ep,k _ o (xu fa.2.1) (xu fb.2.1) Y,r]
 .refine(I.hok c u e).stay (fun d v J q=>k d v ?_ ?_ q) (fun _ q=>q) fun _ _ q=>q
  .rcases J with z | z
   .rw[z];exact W c u e
   .exact W d _ z
  .rcases J with z | z
   .rw[z];exact U c u e
   .exact U d _ z
end
def fF (K:vF_) (a:Addr):It:=
 #[fun i H=>∃xs x,SqL K H a xs/\xs[i]? = some x,fun i H v H'=>∃p x,H p=none/\v = .ref p/\H'=f9 H p (.tup [.int (i:Int),x])/\∀xs,SqL K H a xs->xs[i]? = some x,fun i H=>∃xs,SqL K H a xs/\xs.length<=i]
def Hu {w:World}{K:vF_}{x1} {pos:Pos}(a e it:Addr) (hne:e≠it):Turn P w K (.Tuple elts x1 pos) (fF K a) [e,it] e (fun i h=>(∃old,IsEnum h e it ((i:Nat):Int) old)/\h.IsListIter it a i) where
 mem:=by simp
 obj:=fun i h st b hb=>by
  obtain⟨⟨old,J⟩,hi⟩:=st;simp only[iO,IY,Jh] at hb;rcases hb with rfl | rfl
  .exact#[_,J,fun v z=>by
    have z':Data.fields _=Data.cell v:=z;cases z']
  .obtain⟨o,q,c,d⟩:=hi;exact#[o,q,fun v z=>by rw[d] at z;cases z]
 keep:=fun i h h' st k=>#[let ⟨old,J⟩:=st.1;#[old,k e (by simp) _ J],st.2.at fun o q=>k it (by simp) o q]
 item:=by
  intro X hP hw hK hc i pins s σ H E I hf st hg;subst hP hw hK;obtain⟨xs,x,hq,hx⟩:=hg;obtain⟨⟨old,J⟩,U⟩:=st;obtain⟨its,rv,p,hz⟩:=I.list hq;obtain⟨u,hu,ru⟩:=rv.get hx;have fe:=hf e (by simp);have fi:=hf it (by simp);have hx':its.toArray[i]? = some u:=by simpa using hu
  have Z:e<s.heap.objs.size:=Ig J;have Y:it<s.heap.objs.size:=by obtain⟨o,q,_⟩:=id U;exact Ig q
  refine wpAny_pyNext_enum_item J U p.isList hx' hne fun h₁ heo W ht₁ hz₁ hk₁=>?_
  refine#[_,rfl,wpAny_letOwnedTupleGo_enum heo fun h₂ he₂ B=>?_]
  replace B:Heap.SameBut e h₁ h₂:=B
  have hn:H s.heap.objs.size=none:=I.hok.fresh (tx _);have I1:Inv X pins σ (f9 H s.heap.objs.size (.tup [.int (i:Int),x])) { s with heap:=s.heap.push { cls:=.type "tuple",data:=.seq #v[.int i s.toks,u] },toks:=s.toks }:=
   I.laid (t':=s.toks) (fun b o q=>Ii _ q) (tx _) #[by show 2<=sizeLine;decide,[.int i s.toks,u],.cons #[_,rfl] (.cons ru .nil),#[_,ID _ rfl,rfl,_,rfl]]
  have up:∀b,b<s.heap.objs.size->M7 X pins H b->M7 X pins (f9 H s.heap.objs.size (.tup [.int (i:Int),x])) b:=fun b hb f=>#[by rw[n9 (Ir hb)];exact f.1,f.2]
  have I2:=I1.turned2 (h':=h₂) (t':=s.toks+1) (a:=e) (b:=it) (fun c o ce ci q=>by
   rcases Heap.get?_push_cases q with ⟨rfl,rfl⟩ | q1
   .exact(B.2 _ ce).trans ht₁
   .exact(B.2 _ ce).trans (hk₁ c o ce ci q1)) (up e Z fe) (up it Y fi)
  refine#[.ref s.heap.objs.size,_,I2,rfl,#[_,x,hn,rfl,rfl,fun ys hy=>by rw[I.list_inj hy hq];exact hx],#[#[u,?_],W.extBut B.extBut (xu hne)],fun b hb=>?_]
  .have:((i+1:Nat):Int)=(i:Int)+1:=by push_cast;rfl
   rw[this];exact he₂
  .simp only[iO,IY,Jh] at hb;rcases hb with rfl | rfl
   .exact(up _ Z fe).1
   .exact(up _ Y fi).1
 done:=by
  intro X hP hw hK hc i pins s σ H E I hf st hg;subst hP hw hK;obtain⟨xs,hq,hx⟩:=hg;obtain⟨⟨old,J⟩,U⟩:=st;obtain⟨its,rv,p,hz⟩:=I.list hq;obtain⟨f0,f1,f2,f3,f4,f5⟩:=hf it (by simp);have hl:=rv.length;exact wpAny_pyNext_enum_end (I.ok.hd hc) J U p.isList (by simp;omega) fun h' eb=>#[rfl,I.turned (t':=s.toks) (fun b o hb q=>eb b o hb q) f0 f1 f3 f4 f5]
 self:=fun _ _ _ _ _ st h=>by obtain⟨⟨old,J⟩,_⟩:=st;exact wpAny_pyIter_enum J h
def DR (K:vF_) (ta:TA):TI:=fun σ H R=>ta σ H fun B H1=>∃a,B=[.ref a]/\(∃xs,SqL K H1 a xs)/\R (fF K a) H1
def GW:bootBuiltins ("enumerate" : Str)=some (.type "enumerate"):=by decide +kernel
def Gz {ta:TA}{p pos pt:Pos}{elts:List Expr}{x1} (Y:Gl X "enumerate") (hm:X.mg "enumerate" = none) (ha:PA X [a] ta) (hs:starEach [a] X.env=[(false,eval a X.env)]:=by rfl):PI X (.Tuple elts x1 pt) (.Call (.Name "enumerate" p) [a] [] pos) (DR X.K ta):=by
 intro pins s σ H R I h;refine Call_ (aI I Y hm GW (Kn (n8 (ha pos pins s σ H _ I h) fun us s1 ⟨vs,H1,B,r1,W⟩=>?_) hs rfl));obtain⟨l,e,⟨xs,Z⟩,q⟩:=W;subst e;cases r1 with
 |cons r rr=>
  cases rr;cases r;obtain⟨its,rv,pp,hz⟩:=B.list Z;refine call_enumerate_list pp.isList fun h' U J hsz hk=>wpAny_pyIter_enum U ?_
  refine#[s1.heap.objs.size+1,[s1.heap.objs.size+1,s1.heap.objs.size],_,_,H1,rfl,B.kept (t':=s1.toks) hk,Hu l (s1.heap.objs.size+1) s1.heap.objs.size (Nat.succ_ne_self _),#[#[_,U],J],fun b hb=>?_,q];simp only[iO,IY,Jh] at hb;rcases hb with rfl | rfl
  .exact B.fpOk (Nat.le_succ _) (B.hok.fresh (Nat.le_succ _))
  .exact B.fpOk (tx _) (B.hok.fresh (tx _))
def zM {K:vF_}{xs:List V}{g:TG}{tb:TS}{D:Ends}{H:Hp}(B:Nat->St->Hp->Prop) (Y:B 0 σ H) (hl:∀i σ H,i<=xs.length->B i σ H->SqL K H a xs)
  (hs:∀i x p σ H,xs[i]? = some x->H p=none->B i σ H->g (.ref p) σ (f9 H p (.tup [.int (i:Int),x])) fun σ2 H2=>tb { D with nx:=B (i+1),ct:=B (i+1),bk:=D.nx } σ2 H2) (U:∀σ H,B xs.length σ H->D.nx σ H) :
  ∃W:Nat->Nat->St->Hp->Prop,(∃m,W 0 m σ H)/\∀i m σ H,W i m σ H ->
   ((fF K a).stop i H/\D.nx σ H)\/((fF K a).go i H/\∃N:St->Hp->Prop,(∀σ' H',N σ' H'->∃m',m'<m/\W (i+1) m' σ' H')/\∀x H',(fF K a).yld i H x H'->g x σ H' fun σ2 H2=>tb { D with nx:=N,ct:=N,bk:=D.nx } σ2 H2):=by
 refine#[fun i m σ H=>m=xs.length - i/\i<=xs.length/\B i σ H,#[xs.length,by simp,JF _,Y],?_];rintro i m σ H ⟨rfl,hi,p⟩;have q:=hl i σ H hi p;by_cases J:i<xs.length
 .refine .inr #[#[xs,xs[i],q,by simp[J]],B (i+1),fun σ' H' p'=>#[xs.length - (i+1),by omega,rfl,J,p'],fun v H' y=>?_];obtain⟨pp,x,hp,rfl,rfl,y⟩:=y;exact hs i x pp σ _ (y xs q) hp p
 .have e:i=xs.length:=by omega
  subst e;exact .inl #[#[xs,q,tx _],U σ H p]
end L2
namespace DL
open PySem PySem.Spec L2 PyProof.Rows
def R7 (ds:vD_):List D:=ds.zipIdx.map fun p=>.tup [.int (p.2:Int),p.1]
def AA (h:ds[i]? = some d):(R7 ds)[i]? = some (.tup [.int (i:Int),d]):=by
 unfold R7;rw[IT,List.getElem?_zipIdx,h];simp
def dU (f:DA) (t:D->DS->Option DS) (b:DM):DM:=fun s=>(f s).bind fun x=>match x.1 with
 |[.lst ds]=>A2 t b (R7 ds) x.2
 |_=>none
def yP {t:D->DS->Option DS}{b:DM}{s:DS}(q:dU f t b s=some r):∃ds s1,f s=some ([.lst ds],s1)/\A2 t b (R7 ds) s1=some r:=by
 refine v6 q fun xs s1 h1 h2=>?_
 cases xs with
 |nil=>cases h2
 |cons d xs=>
  cases xs with
  |cons _ _=>cases d <;> cases h2
  |nil=>
   cases d with
   |lst ds=>exact#[ds,s1,h1,h2]
   |_=>cases h2
section
variable {t:D->DS->Option DS}{b:DM}{pos pt:Pos}{x1:Nat}
def Fw (hp:PassesOwn (model X.prog X.w) X.A X.env X.xe) (hc:X.calm=true) (J:Gl X "enumerate") (hm:X.mg "enumerate" = none) (he:AO X g [e] f) (hg:GO X g (.Tuple elts x1 pt) t) (hb:SSO X g body b)
  (W:starEach [e] X.env=[(false,eval e X.env)]:=by rfl) (hs:∀x,foldedSetIterable (.Call (.Name "enumerate" p1) [e] [] p2) X.env x=pure x:=by intro _;rfl) :
  SO X g (.For (.Tuple elts x1 pt) (.Call (.Name "enumerate" p1) [e] [] p2) body [] pos) (dU f t b):=SO.w (gW hp hc (Gz J hm he.pe W) hg.pe hb.pe hs) fun E σ H hQ=>by
 refine hQ.elim fun fa O s fl sf I q k=>?_
 obtain⟨ds,s1,h1,h2⟩:=yP q;refine#[fa,O,s,_,s1,I,h1,fun vs H1 f1 O1 a1 U r=>?_];have Z:=k.shift a1.stp
 .simp only[Reps,Rep] at r;obtain⟨v,ys,rfl,⟨a,xs,rfl,na,q,w⟩,rfl⟩:=r;refine#[a,rfl,#[xs,SqL.of q],zM (xs:=xs) (U1 X.K g f1 O1 H1 t b (R7 ds) fl sf) #[f1,O1,s1,Stp.refl,U,h2] ?_ ?_ ?_]
  .rintro i σ' H' _ ⟨fa',O',s',st,Y,e⟩;exact SqL.of ((U.car st).ls a xs na q).1
  .intro i x p σ' H' hx B h;obtain⟨d,hd,rd⟩:=Reps.get' w hx;have h':U1 X.K g f1 O1 H1 t b (R7 ds) fl sf i σ' (f9 H' p (.tup [.int (i:Int),x])):=by
    obtain⟨fa',O',s',st,Y,e⟩:=h;exact#[fa',O',s',st.trans (B8 B).stp,Y.new B,e]
   refine dP Z (AA hd) (fun fa' O' st=>?_) h';simp only[Rep,Reps];exact#[p,[.int (i:Int),x],rfl,SqT.of v8,_,_,rfl,rfl,_,_,rfl,Rep.stp U st rd,rfl]
  .intro σ' H' h;refine eI Z ?_ h;unfold R7;rw[xo,List.length_zipIdx,w.length];exact tx _
end
end DL
namespace L2
open PySem PySem.Spec PyProof.Rows
section
variable {σ:List (Option V)}
def Inv.turnedL {t':Nat}(I:Inv X pins σ H s) (k:∀c o,c ∉ ch->s.heap.get? c=some o->h'.get? c=some o) (f:∀b∈ch,M7 X pins H b):Inv X pins σ H { s with heap:=h',toks:=t' }:=by
 have J:∀c u,H c=some u->c ∉ ch:=fun c u e B=>by rw[(f c B).1] at e;cases e
 refine I.step (g':=s.gens) (d':=s.drawn) (ch:=ch) (fun c B=>#[(f c B).2.2.2.1,(f c B).2.1,(f c B).2.2.2.2.1,(f c B).2.2.2.2.2]) (fun c o _ _ B e _=>k c o B e) (fun c o _ _ B e _=>#[o.slots,k c o B e]) (fun _ _ _ _ n=>n)
  (fun c o B e=>#[o,k c o B e]) (fun _ _ e=>e) (fun _ _ _ e=>e) (fun c ps e=>#[#v[],by rw[e];simp]) (fun m hm=>?_) (fun c u e=>?_) I.bare
 .obtain⟨o,es,ep,W,r⟩:=hm;exact#[o,es,ep,k _ o (fun z=>(f _ z).2.1 rfl) W,r]
 .refine(I.hok c u e).stay (fun d v U q=>k d v ?_ q) (fun _ q=>q) fun _ _ q=>q
  rcases U with z | z
  .rw[z];exact J c u e
  .exact J d _ z
end
end L2
namespace DL
open PySem PySem.Spec L2 PyProof.Rows
def M4 (K:vF_) (t:Bool) (H:Hp) (a:Addr) (xs:List V):Prop:=if t then SqT K H a xs else SqL K H a xs
def RwI (t:Bool) (h:Heap) (i l:Addr) (k:Nat):Prop:=if t then h.IsTupleIter i l k else h.IsListIter i l k
def RwI.it {t:Bool}{i:Addr}{xs:vR_}(x:RwI t h i l k) (y:RwB t h l xs):RwIt h i l xs k:=by
 cases t with
 |true=>exact .inr #[x,y]
 |false=>exact .inl #[x,y]
def RwI.at {t:Bool}{i:Addr}(x:RwI t h i l k) (e:∀o,h.get? i=some o->h'.get? i=some o):RwI t h' i l k:=by
 cases t with
 |true=>obtain⟨o,q,r⟩:=x;exact#[o,e o q,r]
 |false=>obtain⟨o,q,r⟩:=x;exact#[o,e o q,r]
def RwI.ob {t:Bool}{i:Addr}(x:RwI t h i l k):∃o,h.get? i=some o/\∀v,o.data ≠ .cell v:=by
 cases t with
 |true=>obtain⟨o,q,c,d⟩:=x;exact#[o,q,fun v z=>by rw[d] at z;cases z]
 |false=>obtain⟨o,q,c,d⟩:=x;exact#[o,q,fun v z=>by rw[d] at z;cases z]
def RwIt.kind {t:Bool}{i:Addr}{xs ys:vR_}(x:RwIt h i l xs k) (y:RwB t h l ys):RwI t h i l k:=by
 cases t with
 |true=>
  rcases x with ⟨_,o,q,c,_⟩ | ⟨x,_⟩
  .obtain⟨o',J,B,_⟩:=y;rw[q] at J;cases J;rw[c] at B;exact absurd B #[]
  .exact x
 |false=>
  rcases x with ⟨x,_⟩ | ⟨_,o,q,c,_⟩
  .exact x
  .obtain⟨o',J,B,_⟩:=y;rw[q] at J;cases J;rw[c] at B;exact absurd B #[]
def bP {t:Bool}(I:Inv X pins σ H s) (h:M4 X.K t H p xs):∃its:List Value,Vals xs its/\RwB t s.heap p its.toArray/\xs.length<=sizeLine:=by
 cases t with
 |false=>
  obtain⟨its,r,⟨o,n,e,c,_,d⟩,z⟩:=I.list h;exact#[its,r,#[o,e,c,n,d],z]
 |true=>
  obtain⟨its,r,⟨o,e,c,n,d⟩,z⟩:=I.tuple h;exact#[its,r,#[o,e,c,n,d],z]
def oU {t:Bool}(I:Inv X pins σ H s) (h:M4 X.K t H p xs) (h':M4 X.K t H p ys):xs=ys:=by
 cases t with
 |false=>exact I.list_inj h h'
 |true=>exact I.tuple_inj h h'
section
variable {w:World}{z TI TO i1 i2 l1 l2:Addr}{xs ys:vR_}
def Ei {x y a b:Value}{Q:Option Value->Shared->Prop}(D:ZipApart z TI TO i1 i2 l1 l2) (hz:D9 s.heap z TI TO .none (.bool false)) (J:IsPair s.heap TI (.ref i1) (.ref i2)) (B:IsPair s.heap TO a b) (h1:RwIt s.heap i1 l1 xs k) (h2:RwIt s.heap i2 l2 ys k) (hx:xs[k]? = some x) (hy:ys[k]? = some y)
  (Z:∀h',D9 h' z TI TO (rawInt s.heap.objs.size) (.bool false)->RwIt h' i1 l1 xs (k+1)->RwIt h' i2 l2 ys (k+1)->IsPair h' s.heap.objs.size x y ->
   (∀c o,c≠z->c≠TO->c≠i1->c≠i2->s.heap.get? c=some o->h'.get? c=some o)->IsPair h' TO x y->Q (some (.ref s.heap.objs.size)) { s with heap:=h' }):wpAny (model prog w) A (pyNext (.ref z)) Q E s:=by
 unfold pyNext;have U:s.TypeIs (.ref z) "zip" := #[_,hz,rfl]
 exact cn (JZ (JA (name:=Str.ofString "__next__") U Jo (Je Jo U KH
  (qf D hz J B h1 h2 hx hy fun h' a1 a2 a3 a4 W Y=>gV (Z h' a1 a2 a3 a4 W Y)) (KI _))))
def HB {a b:Value}{Q:Option Value->Shared->Prop}(hh:A.handled=none) (D:ZipApart z TI TO i1 i2 l1 l2) (hz:D9 s.heap z TI TO .none (.bool false)) (U:IsPair s.heap TI (.ref i1) (.ref i2)) (J:IsPair s.heap TO a b) (h1:RwIt s.heap i1 l1 xs k) (h2:RwIt s.heap i2 l2 ys k) (B:xs[k]? = none\/ys[k]? = none)
  (Y:∀h',(∀c o,c≠z->c≠TO->c≠i1->c≠i2->s.heap.get? c=some o->h'.get? c=some o)->Q none { s with heap:=h' }):wpAny (model prog w) A (pyNext (.ref z)) Q E s:=by
 unfold pyNext;have W:s.TypeIs (.ref z) "zip" := #[_,hz,rfl]
 refine cn (JZ (JA (name:=Str.ofString "__next__") W Jo (Je Jo W KH (tW hh D hz U J h1 h2 B fun h' e hk he=>?_) (KI _))));obtain⟨o,Z,hc⟩:=he;refine cn (KJ (T := "StopIteration") (b:=true) #[o,Z,hc] Mb ?_);exact gV (Y _ hk)
def FW {elts:List Expr}{x1} {pos:Pos}{a:Addr}{Q:Unit->Shared->Prop}(hz:D9 s.heap z TI TO (rawInt a) (.bool false))
  (U:∀h',D9 h' z TI TO .none (.bool false)->Heap.SameBut z s.heap h'->Q () { s with heap:=h' }):wpAny (model prog w) A (letOwnedTupleGo (.Tuple elts x1 pos) (.ref z) (.ref a)) Q E s:=by
 unfold letOwnedTupleGo;refine cn (wpAny_load hz ?_);show wpAny _ A (if (["enumerate", "zip", "dict_itemiterator", "dict_reverseitemiterator", "odict_iterator", "itertools.zip_longest", "itertools.pairwise"].contains "zip" &&
   (#v[rawInt a,.bool false,.bool false,.ref TI,.ref TO]:vR_)[0]? == some (rawInt a))=true then _ else _) Q E s
 rw[fx (by simp)];refine cn (Jx ?_);show wpAny _ A (setField (.ref z) 0 .none) Q E s;exact JX hz (by simp) fun h' J B=>U h' J B
end
def eF (K:vF_) (t u:Bool) (a b:Addr):It:=
 #[fun i H=>∃xs ys x y,M4 K t H a xs/\M4 K u H b ys/\xs[i]? = some x/\ys[i]? = some y,fun i H v H'=>∃p x y,H p=none/\v = .ref p/\H'=f9 H p (.tup [x,y])/\(∀xs,M4 K t H a xs->xs[i]? = some x)/\∀ys,M4 K u H b ys->ys[i]? = some y,fun i H=>∃xs ys,M4 K t H a xs/\M4 K u H b ys/\(xs.length<=i\/ys.length<=i)]
def Dl (t u:Bool) (z TI TO i1 i2 a b:Addr) (i:Nat) (h:Heap):Prop:=D9 h z TI TO .none (.bool false)/\IsPair h TI (.ref i1) (.ref i2)/\(∃x y,IsPair h TO x y)/\RwI t h i1 a i/\RwI u h i2 b i
def Go {w:World}{K:vF_}{x1} {pos:Pos}{t u:Bool}{z TI TO i1 i2 a b:Addr}(D:ZipApart z TI TO i1 i2 a b):Turn P w K (.Tuple elts x1 pos) (eF K t u a b) [z,TI,TO,i1,i2] z (Dl t u z TI TO i1 i2 a b) where
 mem:=by simp
 obj:=fun i h st c B=>by
  obtain⟨hz,U,⟨x,y,Y⟩,Z,W⟩:=st;simp only[iO,IY,Jh] at B;rcases B with rfl | rfl | rfl | rfl | rfl
  .exact#[_,hz,fun v q=>by
    have q':Data.fields _=Data.cell v:=q;cases q']
  .exact#[_,U,fun v q=>by
    have q':Data.seq _ _=Data.cell v:=q;cases q']
  .exact#[_,Y,fun v q=>by
    have q':Data.seq _ _=Data.cell v:=q;cases q']
  .exact Z.ob
  .exact W.ob
 keep:=fun i h h' st k=>by
  obtain⟨hz,U,⟨x,y,Y⟩,Z,W⟩:=st;exact#[k z (by simp) _ hz,k TI (by simp) _ U,#[x,y,k TO (by simp) _ Y],Z.at fun o q=>k i1 (by simp) o q,W.at fun o q=>k i2 (by simp) o q]
 item:=by
  intro X hP hw hK B i pins s σ H E I hf st hg;subst hP hw hK;obtain⟨xs,ys,x,y,q1,q2,hx,hy⟩:=hg;obtain⟨hz,U,⟨o1,o2,Y⟩,Z,W⟩:=st;obtain⟨its,rv,w1,_⟩:=bP I q1;obtain⟨jts,rw_,w2,_⟩:=bP I q2;obtain⟨p,hp,rp⟩:=rv.get hx;obtain⟨q,hq,rq⟩:=rw_.get hy;have hx':its.toArray[i]? = some p:=by simpa using hp
  have hy':jts.toArray[i]? = some q:=by simpa using hq
  have lz:∀c∈[z,TI,TO,i1,i2],c<s.heap.objs.size:=fun c B=>by
   simp only[iO,IY,Jh] at B;rcases B with rfl | rfl | rfl | rfl | rfl
   .exact Ig hz
   .exact Ig U
   .exact Ig Y
   .obtain⟨o,e,_⟩:=Z.ob;exact Ig e
   .obtain⟨o,e,_⟩:=W.ob;exact Ig e
  refine Ei D hz U Y (Z.it w1) (W.it w2) hx' hy' fun h1 a1 a2 a3 a4 a5 a6=>?_
  refine#[_,rfl,FW a1 fun h2 hz2 J=>?_]
  replace J:Heap.SameBut z h1 h2:=J
  have hn:H s.heap.objs.size=none:=I.hok.fresh (tx _);have I1:Inv X pins σ (f9 H s.heap.objs.size (.tup [x,y])) { s with heap:=s.heap.push { cls:=.type "tuple",data:=.seq #v[p,q] },toks:=s.toks }:=
   I.laid (t':=s.toks) (fun b o q=>Ii _ q) (tx _) #[by show 2<=sizeLine;decide,[p,q],.cons rp (.cons rq .nil),#[_,ID _ rfl,rfl,_,rfl]]
  have up:∀c,c<s.heap.objs.size->M7 X pins H c->M7 X pins (f9 H s.heap.objs.size (.tup [x,y])) c:=fun c B f=>#[by rw[n9 (Ir B)];exact f.1,f.2]
  have k2:∀c o,c≠z->c≠TO->c≠i1->c≠i2->s.heap.get? c=some o->h2.get? c=some o:=fun c o c1 c2 c3 c4 e=>(J.2 _ c1).trans (a5 c o c1 c2 c3 c4 e)
  have I2:=I1.turnedL (h':=h2) (t':=s.toks) (ch:=[z,TO,i1,i2]) (fun c o B e=>by
   simp only[iO,IY,Jh,JY] at B;rcases Heap.get?_push_cases e with ⟨rfl,rfl⟩ | e1
   .exact(J.2 _ B.1).trans a4
   .exact k2 c o B.1 B.2.1 B.2.2.1 B.2.2.2 e1) (fun c B=>by
   have hc':c∈[z,TI,TO,i1,i2]:=by
    simp only[iO,IY,Jh] at B ⊢;rcases B with h | h | h | h <;> simp[h]
   exact up c (lz c hc') (hf c hc'))
  have wa:RwB t h1 a its.toArray:=w1.at fun o e=>a5 a o D.l1z D.l1TO D.l1i1 D.l1i2 e
  have wb:RwB u h1 b jts.toArray:=w2.at fun o e=>a5 b o D.l2z D.l2TO D.l2i1 D.l2i2 e
  refine#[.ref s.heap.objs.size,_,I2,rfl,#[_,x,y,hn,rfl,rfl,fun xs' h=>by rw[oU I h q1];exact hx,fun ys' h=>by rw[oU I h q2];exact hy],#[hz2,k2 _ _ D.TIz D.TITO D.TIi1 D.TIi2 U,#[p,q,(J.2 _ D.TOz).trans a6],(a2.kind wa).at fun o e=>(J.2 _ D.i1z).trans e,(a3.kind wb).at fun o e=>(J.2 _ D.i2z).trans e],fun c B=>(up c (lz c B) (hf c B)).1]
 done:=by
  intro X hP hw hK B i pins s σ H E I hf st hg;subst hP hw hK;obtain⟨xs,ys,q1,q2,hl⟩:=hg;obtain⟨hz,U,⟨o1,o2,Y⟩,Z,W⟩:=st;obtain⟨its,rv,w1,_⟩:=bP I q1;obtain⟨jts,rw_,w2,_⟩:=bP I q2;have e1:=rv.length;have e2:=rw_.length;refine HB (I.ok.hd B) D hz U Y (Z.it w1) (W.it w2) (by
   rcases hl with h | h
   .exact .inl (by simp;omega)
   .exact .inr (by simp;omega)) fun h' k=>#[rfl,I.turnedL (t':=s.toks) (ch:=[z,TO,i1,i2]) (fun c o B e=>by
    simp only[iO,IY,Jh,JY] at B;exact k c o B.1 B.2.1 B.2.2.1 B.2.2.2 e) fun c B=>hf c (by
    simp only[iO,IY,Jh] at B ⊢;rcases B with h | h | h | h <;> simp[h])]
 self:=fun A i s Q E st hQ=>by
  have tz:s.TypeIs (.ref z) "zip" := #[_,st.1,rfl]
  refine Me tz KL (Je KL tz MK ?_ (ML _));show wpAny _ _ (ret (.ref z)) _ _ s;exact gV #[_,rfl, "zip",_,tz,Jo.lookup,hQ]
def AL (K:vF_) (ta:TA):TI:=fun σ H R=>ta σ H fun B H1=>∃a b t u,B=[.ref a,.ref b]/\(∃xs,M4 K t H1 a xs)/\(∃ys,M4 K u H1 b ys)/\R (eF K t u a b) H1
def EC {e:Expr}{es:List Expr}{ta:TA}{p pos pt:Pos}{elts:List Expr}{x1} (hg:Gl X "zip") (hm:X.mg "zip" = none) (ha:PA X (e::es) ta) (he:starEach (e::es) X.env=(false,eval e X.env)::starEach es X.env:=by rfl) (W:(backTo pos (starEach es X.env)).any (·.1)=false:=by rfl) :
  PI X (.Tuple elts x1 pt) (.Call (.Name "zip" p) (e::es) [] pos) (AL X.K ta):=by
 intro pins s σ H R I h;refine JW (aI I hg hm (show bootBuiltins ("zip" : Str)=some (.type "zip") by decide +kernel) ?_ #[] #[]);refine Kn (n8 (ha pos pins s σ H _ I h) fun us s1 ⟨vs,H1,J,B,q1⟩=>?_) he W;obtain⟨a,b,t,u,rfl,⟨xs,qa⟩,⟨ys,qb⟩,k⟩:=q1;obtain⟨u1,u2,rfl,e1,e2⟩:∃u1 u2,us=[u1,u2]/\u1=Value.ref a/\u2=Value.ref b:=by
  cases B with
  |cons h1 B=>
   cases B with
   |cons h2 B=>cases B;exact#[_,_,rfl,h1,h2]
 subst e1;subst e2;obtain⟨it,rx,wa,za⟩:=bP J qa;obtain⟨jt,ry,wb,zb⟩:=bP J qb;refine vT wa wb fun h1 _ k1 Z=>?_
 obtain⟨D,g1,g2,g3,g5,x1,x2,g4⟩:=Z;have Y:({ s1 with heap:=h1 }:Shared).TypeIs (.ref (s1.heap.objs.size+4)) "zip" := #[_,g5,rfl]
 refine Me Y KL (Je KL Y MK ?_ (ML _));show wpAny _ _ (ret (.ref (s1.heap.objs.size+4))) _ _ _;refine gV #[_,rfl, "zip",_,Y,Jo.lookup,?_];refine#[s1.heap.objs.size+4,[s1.heap.objs.size+4,s1.heap.objs.size+2,s1.heap.objs.size+3,s1.heap.objs.size,s1.heap.objs.size+1],_,_,H1,rfl,J.kept (t':=s1.toks) k1,Go (t:=t) (u:=u) D,#[g5,g3,#[x1,x2,g4],?_,?_],fun c U=>?_,k]
 .cases t with
  |true=>exact#[_,g1,rfl,rfl]
  |false=>exact#[_,g1,rfl,rfl]
 .cases u with
  |true=>exact#[_,g2,rfl,rfl]
  |false=>exact#[_,g2,rfl,rfl]
 .have U:s1.heap.objs.size<=c:=by
   simp only[iO,IY,Jh] at U;rcases U with h | h | h | h | h <;> rw[h] <;> omega
  exact J.fpOk U (J.hok.fresh U)
def ze {K:vF_}{t u:Bool}{a b:Addr}{xs ys:List V}{g:TG}{tb:TS}{D:Ends}{H:Hp}(B:Nat->L2.St->Hp->Prop) (h0:B 0 σ H) (hl:∀i σ H,B i σ H->M4 K t H a xs/\M4 K u H b ys)
  (hs:∀i x y p σ H,xs[i]? = some x->ys[i]? = some y->H p=none->B i σ H->g (.ref p) σ (f9 H p (.tup [x,y])) fun σ2 H2=>tb { D with nx:=B (i+1),ct:=B (i+1),bk:=D.nx } σ2 H2) (Z:∀σ H,B (min xs.length ys.length) σ H->D.nx σ H) :
  ∃W:Nat->Nat->L2.St->Hp->Prop,(∃m,W 0 m σ H)/\∀i m σ H,W i m σ H ->
   ((eF K t u a b).stop i H/\D.nx σ H)\/((eF K t u a b).go i H/\∃N:L2.St->Hp->Prop,(∀σ' H',N σ' H'->∃m',m'<m/\W (i+1) m' σ' H')/\∀x H',(eF K t u a b).yld i H x H'->g x σ H' fun σ2 H2=>tb { D with nx:=N,ct:=N,bk:=D.nx } σ2 H2):=by
 refine#[fun i m σ H=>m=min xs.length ys.length - i/\i<=min xs.length ys.length/\B i σ H,#[min xs.length ys.length,by simp,JF _,h0],?_];rintro i m σ H ⟨rfl,hi,p⟩;obtain⟨J,Y⟩:=hl i σ H p;by_cases U:i<min xs.length ys.length
 .have l1:i<xs.length:=by omega
  have l2:i<ys.length:=by omega
  refine .inr #[#[xs,ys,xs[i],ys[i],J,Y,by simp[l1],by simp[l2]],B (i+1),fun σ' H' p'=>#[min xs.length ys.length - (i+1),by omega,rfl,U,p'],fun v H' y=>?_];obtain⟨pp,x,y,hp,rfl,rfl,y1,y2⟩:=y;exact hs i x y pp σ _ (y1 xs J) (y2 ys Y) hp p
 .have e:i=min xs.length ys.length:=by omega
  refine .inl #[#[xs,ys,J,Y,by omega],Z σ H ?_];rw[<-e];exact p
def iC (f:DA) (t:D->DS->Option DS) (b:DM):DM:=fun s=>(f s).bind fun x=>match x.1 with
 |[d1,d2]=>(P0 d1).bind fun xs=>(P0 d2).bind fun ys=>A2 t b (List.zipWith S5 xs ys) x.2
 |_=>none
def sJ {K:vF_}{v:V}(r:Rep K N fa H d v) (e:P0 d=some ds):∃t a xs,v = .ref a/\M4 K t H a xs/\(t=false->¬ N a/\H a=some (.lst xs))/\Reps K N fa H ds xs:=by
 cases d with
 |tup es=>
  cases e;simp only[Rep] at r;obtain⟨a,ys,rfl,q,w⟩:=r;exact#[true,a,ys,rfl,q,fun z=>(by cases z),w]
 |lst es=>
  cases e;simp only[Rep] at r;obtain⟨a,ys,rfl,B,q,w⟩:=r;exact#[false,a,ys,rfl,SqL.of q,fun _=>#[B,q],w]
 |_=>cases e
def Co {t:D->DS->Option DS}{b:DM}{s:DS}(q:iC f t b s=some r):∃d1 d2 xs ys s1,f s=some ([d1,d2],s1)/\P0 d1=some xs/\P0 d2=some ys/\A2 t b (List.zipWith S5 xs ys) s1=some r:=by
 refine v6 q fun as s1 h1 h2=>?_
 cases as with
 |nil=>cases h2
 |cons d1 as=>
  cases as with
  |nil=>cases h2
  |cons d2 as=>
   cases as with
   |cons _ _=>cases h2
   |nil=>
    refine G7 h2 fun xs B h2=>?_
    refine G7 h2 fun ys J h2=>?_
    exact#[d1,d2,xs,ys,s1,h1,B,J,h2]
section
variable {t:D->DS->Option DS}{b:DM}{pos pt:Pos}{x1:Nat}
def Ep (hp:PassesOwn (model X.prog X.w) X.A X.env X.xe) (hc:X.calm=true) (hgl:Gl X "zip") (hm:X.mg "zip" = none) (he:AO X g (e::es) f) (hg:GO X g (.Tuple elts x1 pt) t) (hb:SSO X g body b)
  (hst:starEach (e::es) X.env=(false,eval e X.env)::starEach es X.env:=by rfl) (hpl:(backTo p2 (starEach es X.env)).any (·.1)=false:=by rfl) (hs:∀x,foldedSetIterable (.Call (.Name "zip" p1) (e::es) [] p2) X.env x=pure x:=by intro _;rfl) :
  SO X g (.For (.Tuple elts x1 pt) (.Call (.Name "zip" p1) (e::es) [] p2) body [] pos) (iC f t b):=SO.w (gW hp hc (EC hgl hm he.pe hst hpl) hg.pe hb.pe hs) fun E σ H hQ=>by
 refine hQ.elim fun fa O s fl sf I q k=>?_
 obtain⟨d1,d2,J,U,s1,h1,e1,e2,h2⟩:=Co q;refine#[fa,O,s,_,s1,I,h1,fun vs H1 f1 O1 a1 Y r=>?_];have k1:=k.shift a1.stp
 .simp only[Reps] at r;obtain⟨v1,zs,rfl,r1,v2,zs',rfl,r2,rfl⟩:=r;obtain⟨ta,a,vs,rfl,q1,c1,w1⟩:=sJ r1 e1;obtain⟨tb,c,us,rfl,q2,c2,w2⟩:=sJ r2 e2;have B:∀{t:Bool}{p:Addr}{xs:List V}{fa' O' H'},Stp f1 O1 H1 fa' O' H'->M4 X.K t H1 p xs->(t=false->¬ NN g.F f1 O1 p/\H1 p=some (.lst xs))->M4 X.K t H' p xs:=fun {t p xs fa' O' H'} st q z=>by
   cases t with
   |true=>exact(Y.car st).tp p xs q
   |false=>exact SqL.of ((Y.car st).ls p xs (z rfl).1 (z rfl).2).1
  refine#[a,c,ta,tb,rfl,#[vs,q1],#[us,q2],ze (xs:=vs) (ys:=us) (U1 X.K g f1 O1 H1 t b (List.zipWith S5 J U) fl sf) #[f1,O1,s1,Stp.refl,Y,h2] ?_ ?_ ?_]
  .rintro i σ' H' ⟨fa',O',s',st,I',e⟩;exact#[B st q1 c1,B st q2 c2]
  .intro i x y p σ' H' hx hy W h;obtain⟨dx,Z,rx⟩:=Reps.get' w1 hx;obtain⟨dy,hdy,ry⟩:=Reps.get' w2 hy;have h':U1 X.K g f1 O1 H1 t b (List.zipWith S5 J U) fl sf i σ' (f9 H' p (.tup [x,y])):=by
    obtain⟨fa',O',s',st,I',e⟩:=h;exact#[fa',O',s',st.trans (B8 W).stp,I'.new W,e]
   have hd:(List.zipWith S5 J U)[i]? = some (S5 dx dy):=by rw[NG,Z,hdy]
   refine dP k1 hd (fun fa' O' st=>?_) h';simp only[S5,Rep,Reps];exact#[p,[x,y],rfl,SqT.of v8,_,_,rfl,Rep.stp Y st rx,_,_,rfl,Rep.stp Y st ry,rfl]
  .intro σ' H' h;refine eI k1 ?_ h;rw[MN,w1.length,w2.length];exact tx _
end
end DL
namespace DL
open PySem PySem.Spec L2
def EQ {α:Type _}{P:List α->Prop}(h:∀a1:α,P [a1]):∀us:List α,us.length=1->P us:=by
 intro us e
 match us,e with | [a1],_=>exact h a1
def jY {α:Type _}{P:List α->Prop}(h:∀a1 a2:α,P [a1,a2]):∀us:List α,us.length=2->P us:=by
 intro us e
 match us,e with | [a1,a2],_=>exact h a1 a2
def Dm {α:Type _}{P:List α->Prop}(h:∀a1 a2 a3:α,P [a1,a2,a3]):∀us:List α,us.length=3->P us:=by
 intro us e
 match us,e with | [a1,a2,a3],_=>exact h a1 a2 a3
def DX {α:Type _}{P:List α->Prop}(h:∀a1 a2 a3 a4:α,P [a1,a2,a3,a4]):∀us:List α,us.length=4->P us:=by
 intro us e
 match us,e with | [a1,a2,a3,a4],_=>exact h a1 a2 a3 a4
structure GF (K:vF_) (mg:vG_) (n:Str) (st:Stmt) (f:Addr) (fd:FuncData):Prop where
 F:Fun K n n st f fd
 m:mg n=some (.ref f)
section
variable {K:vF_}{n:Str}{st:Stmt}{f:Addr}
def gf_mk (X:K.In h) (G:h.Ns mainGlobals mg) {od Z:vA_}{kV J U B Y:Value}(a:PySem.W.nsIn K mainGlobals n=some (some (.ref f))) (l:K.lookup f=some #[oc,od,.func (PySem.W.fnOf n n (X4 st) (Q1 st) (D5 st) .none kV J U Z B Y),osl])
  (c:PySem.W.codeIn K B n=true) (k:PySem.W.keepIn K (.ref f)=true):GF K mg n st f (PySem.W.fnOf n n (X4 st) (Q1 st) (D5 st) .none kV J U Z B Y):=#[Gb l c k,Mf X G a]
def HJ (F:Fun K n n st f fd) (q:∀(kV doc pm:Value) (an:vA_) (cdv ct:Value) (s:Shared) (v:Value),BindsTo s (PySem.W.fnOf n n (X4 st) (Q1 st) (D5 st) .none kV doc pm an cdv ct) #[[v],[]] [(x,v)]):∀(s:Shared) (v:Value),BindsTo s fd #[[v],[]] [(x,v)]:=by
 obtain⟨Y,U,kV,doc,pm,an,cdv,ct,osl,rfl,J,B⟩:=F.ex;exact fun s v=>q kV doc pm an cdv ct s v
def blt_mk (X:K.In h) (G:h.Ns mainGlobals mg) (z0:PySem.W.nsIn K mainGlobals "len" = some none) (z1:PySem.W.nsIn K mainGlobals "range" = some none) (z2:PySem.W.nsIn K mainGlobals "abs" = some none) (z3:PySem.W.nsIn K mainGlobals "tuple" = some none) (z4:PySem.W.nsIn K mainGlobals "list" = some none) (z5:PySem.W.nsIn K mainGlobals "int" = some none) (z6:PySem.W.nsIn K mainGlobals "bool" = some none) (z7:PySem.W.nsIn K mainGlobals "str" = some none) (z8:PySem.W.nsIn K mainGlobals "repr" = some none) (z9:PySem.W.nsIn K mainGlobals "all" = some none) (Y:PySem.W.nsIn K mainGlobals "isinstance" = some none) (z11:PySem.W.nsIn K mainGlobals "zip" = some none) (U:PySem.W.nsIn K mainGlobals "enumerate" = some none) (Z:PySem.W.nsIn K mainGlobals "min" = some none) (z14:PySem.W.nsIn K mainGlobals "max" = some none) (z15:PySem.W.nsIn K mainGlobals "reversed" = some none) (z16:PySem.W.nsIn K mainGlobals "any" = some none) (B:PySem.W.nsIn K mainGlobals "sum" = some none) (J:PySem.W.nsIn K mainGlobals "sorted" = some none):Blt mg:=#[IZ X G z0,IZ X G z1,IZ X G z2,IZ X G z3,IZ X G z4,IZ X G z5,IZ X G z6,IZ X G z7,IZ X G z8,IZ X G z9,IZ X G Y,IZ X G z11,IZ X G U,IZ X G Z,IZ X G z14,IZ X G z15,IZ X G z16,IZ X G B,IZ X G J]
def uF {w:World}{N ps:List Str}{b:DM}(F:GF K mg n st f fd) (q:∀(kV doc pm:Value) (an:vA_) (cdv ct:Value) (us:vV_),us.length=ps.length->bindArgs (PySem.W.fnOf n n (X4 st) (Q1 st) (D5 st) .none kV doc pm an cdv ct) #[us,[]]=pure (ps.zip us)) (S:FnScope N ps (D5 st))
  (B:∀(cdv:Value) (A:Around) (outer:List Env) (s:Shared) (H:Hp) (E:XK) (g:Gh),Room k (A.deeper (PyProof.Rows.envOfC n (D5 st) s.heap.objs.size f cdv))->SSO (W5 T8 P w K mg base N n (D5 st) f cdv A outer s H E).nox g (Q1 st) b) :
  Cal P w K mg base (k+1) n ps (t7 N.length b):=Dr F.F F.m (F.F.binds q) S B
end
end DL
namespace DL
open PySem PySem.Spec L2 PyProof.Rows
structure FnV (K:vF_) (mg:vG_) (x:Str):Prop where
 ex:∃a:Addr,mg x=some (.ref a)/\PySem.W.nsIn K mainGlobals x=some (some (.ref a))
structure CalT (P:Program) (w:World) (K:vF_) (mg:vG_) (base:Heap) (k:Nat) (ps:Nat) (tab:List (Str × a9)):Prop where
 ex:∀x m,(x,m)∈tab->∃(j:Nat) (qs:List Str),j<=k/\qs.length=ps/\Cal P w K mg base j x qs m
def W4 (i:Nat) (tab:List (Str × a9)) (t:DA):DE:=fun s=>match s.sl[i]? with
 |some (.v (.fn x))=>(tab.find? fun p=>decide (p.1=x)).bind fun p=>d8 p.2 t s
 |_=>none
def He {t:DA}{s:DS}{r:D × DS}(h:W4 i tab t s=some r):∃x m,s.sl[i]? = some (.v (.fn x))/\(x,m)∈tab/\d8 m t s=some r:=by
 unfold W4 at h;cases q:s.sl[i]? with
 |none=>rw[q] at h;cases h
 |some z=>
  rw[q] at h;cases z with
  |no=>cases h
  |dct _=>cases h
  |own _=>cases h
  |v d=>
   cases d with
   |fn x=>
    refine G7 h fun p h1 h2=>?_
    have e:=List.find?_some h1;have m:=List.mem_of_find?_eq_some h1;have e:p.1=x:=JC e;subst e;exact#[p.1,p.2,rfl,m,h2]
   |_=>cases h
section
variable {p pos:Pos}{t:DA}
def rQ (V:FnV X.K X.mg x) (W:Gl X x) (B:(x == ("__debug__" : Str))=false:=by decide):EO X g (.Name x pos) (dC (.fn x)):=by
 obtain⟨a,hm,Z⟩:=V.ex;exact EO.w (xk (v:=.ref a) W hm rfl B) fun σ H Q U=>by
  refine U.elim fun fa O s d' s' I e k=>?_
  simp only[dC,Jf,Iw] at e;obtain⟨J,Y⟩:=e;subst J;subst Y;refine k (.ref a) H fa O StE.refl I ?_;simp only[Rep];exact#[a,rfl,Z]
def GD (C:CalT X.prog X.w X.K X.mg X.base k n tab) (hr:Room k X.A) (hv:PE X (.Name x p) (M1 i)) (ha:AO X g (e::es) t) (hn:∀s ds s',t s=some (ds,s')->ds.length=n)
  (he:starEach (e::es) X.env=(false,eval e X.env)::starEach es X.env:=by rfl) (U:(backTo pos (starEach es X.env)).any (·.1)=false:=by rfl) :
  EO X g (.Call (.Name x p) (e::es) [] pos) (W4 i tab t):=#[fun pins s σ H Q I h=>by
 obtain⟨fa,O,s0,d,s',I0,q,kk⟩:=h;obtain⟨y,m,q1,J,q3⟩:=He q;obtain⟨j,qs,hj,hl,c⟩:=C.ex y m J;obtain⟨f,fd,F,hm,hk,hb⟩:=c.ex;obtain⟨u,e1,Y⟩:=SlR.val I0.sl q1;simp only[Rep] at Y;obtain⟨a,rfl,B⟩:=Y;have Z:X.mg y=some (.ref a):=Mf I.kIn (I.mod.glob.keeps I.bk) B;rw[hm] at Z;obtain rfl:f=a:=by injection Z with z;injection z
 have tc:=oZ (X:=X) (g:=g) (m:=m) hn σ H Q #[fa,O,s0,d,s',I0,q3,kk];subst hl;refine JW (n8 (hv pins s σ H (fun v H'=>v = .ref f/\H'=H) I #[_,e1,rfl,rfl]) fun uv s1 ⟨v,H1,I1,r,ev,eh⟩=>?_);subst ev;subst eh;cases r;exact PySem.W.callWith_K (h₀:=X.base) I.ok.mod.kin hk (n8 (ha.pe pos pins s1 σ _ _ I1 tc) fun us s2 ⟨vs,H2,I2,r2,J⟩=>#[I2.kIn,qy F (hr.mono hj) hb .nil og I2 r2 J]) he U]
end
section
variable {P:Program}{w:World}{K:vF_}
def wH:CalT P w K mg base k n []:=#[fun _ _ h=>by cases h]
def uV {B:List Str}(C:Cal P w K mg base j x B m) (W:j<=k) (J:B.length=n) (T:CalT P w K mg base k n tab):CalT P w K mg base k n ((x,m)::tab):=#[fun y U h=>by
 rcases iO.mp h with e | e
 .cases e;exact#[j,B,W,J,C]
 .exact T.ex y U e]
end
def RawD (h:Heap) (d:Addr) (es:Array DictEntry) (ep:Nat):Prop:=∃o,h.get? d=some o/\o.ExactDict/\o.data = .dict es ep
section
variable {w:World}{d it:Addr}{es:Array DictEntry}{ep:Nat}
def RawD.ty (x:RawD s.heap d es ep):s.TypeIs (.ref d) "dict" := let ⟨o,a,b,_⟩:=x;#[o,a,b.1]
def Dk {Q:vQ_}(lo:(d == sysModules)=false) (x:RawD s.heap d es ep)
  (k:Q (.ref s.heap.objs.size) { s with heap:=s.heap.push { cls:=.type "dict_keyiterator",data:=.fields #v[.ref d,.int 0 0,.int es.size 0,.int ep 0] } }) :
  wpAny (model prog w) A (pyIter (.ref d)) Q E s:=by
 have ty:=x.ty;obtain⟨o,J,U,B⟩:=x;refine Me ty NL (Je NL ty PySem.F.entry_dict_iter ?_ (PySem.F.args_dict_iter_1 _));unfold Builtin.«dict.__iter__»;refine cn ?_;unfold Builtin.Dict.dictSlotNone;refine cn (wpAny_notOrdered_dict ty ?_);show wpAny _ _ (pure (Value.ref d)) _ _ s;refine gV ?_;show wpAny _ _ (Builtin.Dict.showsAll d >>= _) _ _ s;unfold Builtin.Dict.showsAll;rw[fI (fun z=>by rw[lo] at z;cases z)];refine cn (gV ?_);refine cn (MO J B ?_);refine cn (MP J B ?_);refine cn (JE (gV #[_,rfl, "dict_keyiterator",_,#[_,ID _ rfl,rfl],Lu.lookup,?_]));simpa [rawInt] using k
def Ht {e:DictEntry}{Q:Option Value->Shared->Prop}(y:s.heap.IsKeyIter it d i es.size ep) (x:RawD s.heap d es ep) (Z:es[i]? = some e)
  (k:∀h',h'.IsKeyIter it d (i+1) es.size ep->Heap.SameBut it s.heap h'->Q (some e.key) { s with heap:=h' }) :
  wpAny (model prog w) A (pyNext (.ref it)) Q E s:=by
 have B:=y.typeIs;obtain⟨o,U,a2,J⟩:=id y;obtain⟨od,Y,g2,W⟩:=x;unfold pyNext;refine cn (JZ (JA (name:=Str.ofString "__next__") B Lu
  (Je Lu B NM ?_ (NO _))))
 refine cn (gV ?_);refine cn ?_;refine cn ?_
 first | refine cn (Mg B (gV ?_)) | refine cn (Mh B (gV ?_))
 refine cn (wpAny_fieldsOf U J ?_);have ow:Builtin.Dict_items.ownsTuple "dict_keyiterator" = false:=by decide
 simp only[ow,IW,IG];show wpAny _ _ (if (Value.ref d == Value.none)=true then _ else _) _ _ s;have nn:¬ ((Value.ref d == Value.none)=true):=Io;rw[fI nn];refine cn (gV ?_);refine cn (MO Y W ?_);rw[fI (by simp)];refine cn (gV ?_);refine cn (MP Y W ?_);rw[fI (by simp)];refine gV ?_;obtain⟨hlt,he⟩:=Array.getElem?_eq_some_iff.mp Z;simp only[show ¬ ((i:Int)<0) from by omega,IG,JH,Z];refine cn ?_
 first | refine cn (Mg B (gV ?_)) | refine cn (Mh B (gV ?_))
 refine cn (wpAny_isOneOf_keyiter B ?_);show wpAny _ _ (setField (.ref it) 1 (rawInt ((i:Int)+1)) >>= _) _ _ s;refine cn (LV U J (by simp) ?_);have y':(s.heap.update it (Obj.mapFields (·.setIfInBounds 1 (rawInt ((i:Int)+1))))).IsKeyIter it d (i+1) es.size ep:=
  #[_,JM _ U (Obj.isFreed_of_fields (LY J _)),(Obj.cls_mapFields ..).trans a2,by rw[LY J];simp[rawInt]]
 refine cn (Jt ?_);refine cn (wpAny_isOneOf_keyiter (s:={ s with heap:=s.heap.update it (Obj.mapFields (·.setIfInBounds 1 (rawInt ((i:Int)+1)))) }) y'.typeIs ?_);show wpAny _ _ (pure e.key) _ _ _;exact gV (gV #[_,rfl,gV (k _ y' (LX ..))])
def Fi {Q:Option Value->Shared->Prop}(hh:A.handled=none) (y:s.heap.IsKeyIter it d i es.size ep) (x:RawD s.heap d es ep) (Z:es.size<=i)
  (k:∀h',Heap.ExtBut it s.heap h'->Q none { s with heap:=h' }):wpAny (model prog w) A (pyNext (.ref it)) Q E s:=by
 have B:=y.typeIs;obtain⟨o,W,a2,Y⟩:=id y;obtain⟨od,U,g2,J⟩:=x;unfold pyNext;refine cn (JZ (JA (name:=Str.ofString "__next__") B Lu
  (Je Lu B NM ?_ (NO _))))
 refine cn (gV ?_);refine cn ?_;refine cn ?_
 first | refine cn (Mg B (gV ?_)) | refine cn (Mh B (gV ?_))
 refine cn (wpAny_fieldsOf W Y ?_);have ow:Builtin.Dict_items.ownsTuple "dict_keyiterator" = false:=by decide
 simp only[ow,IW,IG];show wpAny _ _ (if (Value.ref d == Value.none)=true then _ else _) _ _ s;have nn:¬ ((Value.ref d == Value.none)=true):=Io;rw[fI nn];refine cn (gV ?_);refine cn (MO U J ?_);rw[fI (by simp)];refine cn (gV ?_);refine cn (MP U J ?_);rw[fI (by simp)];refine gV ?_;simp only[show ¬ ((i:Int)<0) from by omega,IG,JH,Lq Z];refine cn ?_
 first | refine cn (Mg B (gV ?_)) | refine cn (Mh B (gV ?_))
 show wpAny _ _ (setField (.ref it) 0 .none >>= _) _ _ s;refine cn (LV W Y (by simp) ?_);show wpAny _ _ (newExc (.type "StopIteration") [] >>= _) _ _ _;refine cn ?_;simp only[newExc,newTuple];refine cn (JE ?_ (by size_fits));refine cn (m:=firstArgMember _ _) (wpAny_of_eq (a:=Value.none) (by first | rfl | (simp only[firstArgMember];rfl)) ?_);refine JE ?_ (by size_fits);simp only[raiseNew];refine cn (wpAny_handled ?_);rw[show A.in1.handled=none from hh];refine cn (gV (wpAny_throw ?_));refine cn (KJ (T := "StopIteration") (b:=true) #[_,ID _ rfl,rfl] Mb ?_);exact gV (k _ (((LX ..).extBut.push _).push _))
def RawD.at_ (x:RawD h d es ep) (e:∀o,h.get? d=some o->h'.get? d=some o):RawD h' d es ep:=let ⟨o,a,r⟩:=x;#[o,e o a,r]
def BA (U:A.handled=none) (J:d≠it):Walks prog w A it [it,d] [it] es.size (fun i v=>∃e,es[i]? = some e/\v=e.key) (fun i h=>h.IsKeyIter it d i es.size ep/\RawD h d es ep) where
 sub:=fun b hb=>by simp at hb;simp[hb]
 frame:=fun _ _ _ st hk=>#[st.1.at fun o e=>hk it (by simp) o e,st.2.at_ fun o e=>hk d (by simp) o e]
 item:=fun i s Q E hi st B=>Ht st.1 st.2 (Ka hi) fun h' W hs=>
  B _ h' s.toks #[_,Ka hi,rfl] #[W,st.2.at_ fun o e=>hs.extBut d o J e] fun b o hb e=>hs.extBut b o (fun h=>hb (by simp[h])) e
 done:=fun s Q E st B=>Fi U st.1 st.2 (tx _) fun h' Y=>B h' s.toks fun b o hb e=>Y b o (fun h=>hb (by simp[h])) e
 self:=fun _ _ _ _ st B=>wpAny_pyIter_keyiter st.1 B
def HG {R:Result->Shared->Prop}{S:Addr}{c₀:Nat}(hh:A.handled=none) (lo:(d == sysModules)=false) (x:RawD s.heap d es ep) (B:S≠d) (hn:es.size<=sizeLine) (hS:T0 s.heap S #v[] c₀)
  (hR:∀h' tk acc c,(∀b o,b≠S->s.heap.get? b=some o->h'.get? b=some o)->T0 h' S acc c->ItemsOf (fun i v=>∃e,es[i]? = some e/\v=e.key) acc es.size->R (.ok (.ret .none)) { s with heap:=h',toks:=tk }) :
  wpAny (model prog w) A.in1 (Builtin.List.listExtendWith (.ref S) (.ref d) .none)
   (fun fin s'=>match fin with | .done f=>R (.ok f) s' | .again c'=>c'.quiet=true/\codeAny (model prog w) A c' R s') (fun e s'=>R (.error e) s') s:=by
 have hT:=x.ty;unfold Builtin.List.listExtendWith;refine cn (Lh hT ?_);have h1:Builtin.List.listSameRef (.ref S) (.ref d)=false:=by simp[Builtin.List.listSameRef,B]
 have h2:(Value.type "dict" == Value.type "list")=false:=by decide
 have h3:(Value.type "dict" == Value.type "tuple")=false:=by decide
 simp only[h1,h2,h3,Lo,IW,IG];refine cn (Dk lo x ?_);have x₁:RawD (s.heap.push { cls:=.type "dict_keyiterator",data:=.fields #v[.ref d,.int 0 0,.int es.size 0,.int ep 0] }) d es ep:=x.at_ fun o e=>Ii _ e
 refine cn (Jt (PySem.W.kdl_hint_dict (s:={ s with heap:=s.heap.push { cls:=.type "dict_keyiterator",data:=.fields #v[.ref d,.int 0 0,.int es.size 0,.int ep 0] } }) x₁.ty ?_));refine wpAny_ite_split (fun _=>?_) (fun hab=>absurd (by decide +kernel) hab);obtain⟨od,Z,_⟩:=id x;have Y:S≠s.heap.objs.size:=Ir (Ig hS);have hdI:d≠s.heap.objs.size:=Ir (Ig Z);have U:T0 (s.heap.push { cls:=.type "dict_keyiterator",data:=.fields #v[.ref d,.int 0 0,.int es.size 0,.int ep 0] }) S #v[] c₀:=Ii _ hS;have y₁:(s.heap.push { cls:=.type "dict_keyiterator",data:=.fields #v[.ref d,.int 0 0,.int es.size 0,.int ep 0] }).IsKeyIter s.heap.objs.size d 0 es.size ep:=#[_,ID _ rfl,rfl,rfl]
 have kp₁:∀b o,s.heap.get? b=some o->(s.heap.push { cls:=.type "dict_keyiterator",data:=.fields #v[.ref d,.int 0 0,.int es.size 0,.int ep 0] }).get? b=some o:=fun b o e=>Ii _ e
 generalize s.heap.push { cls:=.type "dict_keyiterator",data:=.fields #v[.ref d,.int 0 0,.int es.size 0,.int ep 0] }=hp at *;refine cn (Jx ?_);refine cn ?_;show wpAny _ A.in1 (updateSeq S (·.push .none) >>= fun _=>updateSeq S (·.pop)) _ _ _;refine cn (Kr U rfl ?_);have J:=JM (Obj.mapSeq (·.push Value.none)) U rfl;refine Kr (hz:=by seq_fits) J rfl ?_;have hS₃:=JM (Obj.mapSeq (·.pop)) J rfl;have up:∀b o,b≠S->hp.get? b=some o->((hp.update S (Obj.mapSeq (·.push Value.none))).update S (Obj.mapSeq (·.pop))).get? b=some o:=fun b o hb e=>(JT _ _ (xu hb)).trans ((JT _ _ (xu hb)).trans e)
 have hin:A.in1.handled=none:=hh;refine gV #[plainId_quiet Ln _,codeAny_extend_loopS (BA (w:=w) (es:=es) (ep:=ep) hin hdI).toS hn S (by simp[Y,B]) .none es.size 0 _ #v[] _ (Kq _) (JF _) #[y₁.at fun o e=>up _ o (xu Y) e,x₁.at_ fun o e=>up d o (xu B) e] hS₃ (ItemsOf.nil _) fun s' acc c hm hS' hG=>?_];obtain⟨h',g,dr,tk,os'⟩:=s';obtain rfl:g=s.gens:=hm.gens;obtain rfl:dr=s.drawn:=hm.drawn;obtain rfl:os'=s.os:=hm.os;refine hR h' tk acc c (fun b o hb e=>hm.heap b o (fun z=>?_) (up b o hb (kp₁ b o e))) hS' hG;rcases iO.mp z with z | z
 .exact hb z
 .exact absurd (IA.mp z) (Ir (Ig e))
def Hv {Q:vQ_}(hh:A.handled=none) (lo:(d == sysModules)=false) (x:RawD s.heap d es ep) (hn:es.size<=sizeLine)
  (hQ:∀h' tk c,(∀b o,s.heap.get? b=some o->h'.get? b=some o)->T0 h' s.heap.objs.size (es.toList.map (·.key)).toArray c->Q (.ref s.heap.objs.size) { s with heap:=h',toks:=tk }) :
  wpAny (model prog w) A (call (.type "list") [.ref d]) Q E s:=by
 refine callType_codes (Q₁:=fun U s₁=>U = .ref s.heap.objs.size/\s₁={ s with heap:=s.heap.push { cls:=.type "list",data:=.seq #v[] } }) PySem.F.called_list (NB _) NC
  (code_list_new _ #[rfl,rfl]) fun U s₁ h₁=>?_
 obtain⟨rfl,rfl⟩:=h₁;have hS:(s.heap.push { cls:=.type "list",data:=.seq #v[] }).get? s.heap.objs.size=some { cls:=.type "list",data:=.seq #v[] }:=ID _ rfl;obtain⟨od,Z,_⟩:=id x;have hd:d<s.heap.objs.size:=Ig Z;refine#[#[_,hS,rfl],ND _ _,?_];show wpAny _ _ (do let old <-Builtin.List.listItems (.ref s.heap.objs.size);Builtin.List.listUpdate (.ref s.heap.objs.size) (fun _=>#v[]);letGo old.toList.reverse;Builtin.List.listExtendWith (.ref s.heap.objs.size) (.ref d) .none) _ _ _;refine cn ?_;unfold Builtin.List.listItems;refine cn (Jv hS rfl (gV ?_));show wpAny _ _ (updateSeq s.heap.objs.size (fun _=>#v[]) >>= fun _=>letGo (#v[]:vR_).toList.reverse >>= fun _=>Builtin.List.listExtendWith (.ref s.heap.objs.size) (.ref d) .none) _ _ _;refine cn (Kr hS rfl ?_);have Y:=JM (Obj.mapSeq (fun _=>(#v[]:vR_))) hS rfl;have B:∀b o,b≠s.heap.objs.size->s.heap.get? b=some o->((s.heap.push { cls:=.type "list",data:=.seq #v[] }).update s.heap.objs.size (Obj.mapSeq (fun _=>(#v[]:vR_)))).get? b=some o:=
  fun b o hb e=>(JT _ _ (xu hb)).trans (Ii _ e)
 refine cn (Lm ?_);refine HG (A:=A.in1) hh lo (x.at_ fun o e=>B d o (Ir hd) e) (Jr hd) hn Y fun h' tk J c hk W hG=>?_
 have ea:J=(es.toList.map (·.key)).toArray:=by
  refine Array.ext_getElem? fun i=>?_
  by_cases hi:i<es.size
  .have:i<J.size:=by rw[hG.1];exact hi
   rw[Ka this];obtain⟨e,he,ek⟩:=hG.2 i _ (Ka this);rw[ek];simp[he]
  .rw[Lq (by rw[hG.1];omega),Lq (by simpa using hi)]
 rw[ea] at W;exact#[rfl,hQ h' tk c (fun b o e=>hk b o (Ir (Ig e)) (B b o (Ir (Ig e)) e)) W]
end
section
variable {σ:L2.St}{p b:Addr}{k:List A8}{ks:List (List A8 × Addr)}{r:Value}
def zd (I:Inv X pins σ H s) (h:SqT X.K H b (k.map kV)):(tupleKind (Q2 X.prog X.w)).is s.heap k b:=by
 obtain⟨its,J,⟨o,h1,h2,n,B⟩,_⟩:=I.tuple h;exact#[o,its.toArray,n,h1,h2,B,by simpa using vh J]
end
def dN:List D->Option (List Int)
 |[]=>some []
 |.int i::r=>(dN r).map (i :: ·)
 |_::_=>none
def wA:D->Option (List Int)
 |.tup ds=>dN ds
 |_=>none
section
variable {K:vF_}
theorem vC:∀{ds:vD_}{q:List Int}{xs:List V},dN ds=some q->Reps K N fa H ds xs->xs=q.map V.int
 |[],q,xs,h,r=>by cases h;simp only[Reps] at r;subst r;rfl
 |d::r',q,xs,h,r=>by
  cases d with
  |int i=>
   refine J9 h fun B h1 h2=>?_
   subst h2;simp only[Reps,Rep] at r;obtain⟨x,ys,rfl,rfl,r⟩:=r;rw[vC h1 r];rfl
  |_=>cases h
def HR {q:List Int}{x:V}(h:wA d=some q) (r:Rep K N fa H d x):∃b,x = .ref b/\SqT K H b ((q.map Sum.inl).map kV):=by
 cases d with
 |tup ds=>
  simp only[Rep] at r;obtain⟨a,xs,rfl,s,r⟩:=r;refine#[a,rfl,?_];rw[vC h r] at s;have e:(q.map (Sum.inl (β:=Str))).map kV=q.map V.int:=by rw[KN];rfl
  rw[e];exact s
 |_=>cases h
end
def bH (k:List Int):List A8:=k.map Sum.inl
def Hj {a b:List Int}(h:bH a=bH b):a=b:=(List.map_inj_right (fun _ _ z=>Sum.inl.inj z)).mp h
section
variable {P:Program}{w:World}{K:Type}[DecidableEq K] (hk:HeapKind P w K)
inductive RwA (h:Heap):List K->List Value->Prop
 | nil:RwA h [] []
 | cons {k:K}{a:Addr}{ks:List K}{vs:vV_}:hk.is h k a->RwA h ks vs->RwA h (k::ks) (.ref a::vs)
def TtK (h:Heap) (ks:List K) (a:Addr):Prop:=∃o its n,h.get? a=some o/\o.cls = .type "tuple" /\ o.data = .seq its n/\RwA hk h ks its.toList
variable {hk}
theorem RwA.uniq :∀{x y:List K}{vs:vV_},RwA hk h x vs->RwA hk h y vs->x=y
 |_,_,_,.nil,.nil=>rfl
 |_,_,_,.cons a r,.cons b t=>by rw[hk.inj a b,r.uniq t]
theorem RwA.car {d:Addr}{o:Obj}{es ep} (U:h.get? d=some o) (B:o.data = .dict es ep) (J:Heap.SameBut d h h'):∀{x:List K}{vs:vV_},RwA hk h x vs->RwA hk h' x vs
 |_,_,.nil=>.nil
 |_,_,.cons a r=>.cons (hk.keeps a U B J) (r.car U B J)
def TtK.ty (x:TtK hk s.heap ks a):s.TypeIs (.ref a) "tuple":= by
 obtain⟨o,_,_,h1,h2,_⟩:=x;exact#[o,h1,h2]
theorem TtK.uniq {x y:List K}(p:TtK hk h x a) (q:TtK hk h y a):x=y:=by
 obtain⟨o,its,n,h1,_,h2,J⟩:=p;obtain⟨o',B,Z,W,_,Y,U⟩:=q;cases h1.symm.trans W;cases h2.symm.trans Y;exact J.uniq U
theorem TtK.car {a d:Addr}{o:Obj}{es ep} (x:TtK hk h ks a) (U:h.get? d=some o) (B:o.data = .dict es ep) (W:Heap.SameBut d h h'):TtK hk h' ks a:=by
 obtain⟨q,its,n,h1,h2,J,h4⟩:=x;refine#[q,its,n,(W.2 a ?_).trans h1,h2,J,h4.car U B W];rintro rfl;cases h1.symm.trans U;rw[J] at B;cases B
def jV (hk:HeapKind P w K) (ks:List K):Int:=reduceHash (Builtin.Tuple.tupleHashOf (ks.map hk.hash))
def jK (hk:HeapKind P w K) (ks:List K):Nat:=(ks.map hk.draws).sum+1
def GQ {Q:Int->Shared->Prop}(W:A.units<cLine) (Y:hk.room A.in1) (x:TtK hk s.heap ks a) (h:Q (jV hk ks) { s with toks:=s.toks+jK hk ks }):wpAny (model P w) A (pyHash (.ref a)) Q E s:=by
 have ty:=x.ty;obtain⟨o,its,n,h1,_,h2,U⟩:=x;unfold pyHash
 first | unfold pyHashByItsType | skip
 first | refine cn (wpAny_cRoomFor_or (.inr W) ?_) | skip
 refine cn (Lp ty Mi.lookup ?_);show wpAny _ _ (if (some (Value.builtin "tuple.__hash__") == some Value.none)=true then _ else _) Q E s;rw[fI (by rw[beq_builtin_none];exact Io)];refine cn (Lp ty Mi.lookup ?_);show wpAny _ _ (callSpecialIfBoundUnlessNone? (.ref a) "__hash__" _ >>= _) Q E s;refine cn (wpAny_callSpecialIfBoundUnlessNone?_slot ty Mi (Je Mi ty F.entry_tuple_hash ?_ (F.args_tuple_hash_1 _)));show wpAny _ _ (Builtin.Tuple.tupleItemsOf (.ref a) >>= _) _ _ s;refine cn (MQ h1 h2 ?_);refine cn ?_;rw[<-Array.forIn_toList];refine MR _ (fun rest (b:Array Int) s'=>∃u v,ks=u++v/\RwA hk s.heap v rest/\b.toList=u.map hk.hash/\s'={ s with toks:=s.toks+(u.map hk.draws).sum }) _ ?_ ?_ _ _ #[[],ks,rfl,U,rfl,rfl]
 .rintro x rest b s' ⟨u,v,rfl,J,hb,rfl⟩;cases J with
  |@cons k c ks' _ hc hv'=>
   refine cn (hk.pyHash (s:={ s with toks:=s.toks+(u.map hk.draws).sum }) Y hc ?_)
   first
    | exact gV #[u++[k],ks',by simp,hv',by simp[hb],by simp[Mj]]
    | exact cn (gV (gV #[u++[k],ks',by simp,hv',by simp[hb],by simp[Mj]]))
 .rintro b s' ⟨u,v,rfl,J,hb,rfl⟩;cases J;rw[JR] at h;show wpAny _ _ (retInt (Builtin.Tuple.tupleHashOf b.toList)) _ _ _;rw[hb];refine wpAny_ret_mkInt ?_;show wpAny _ _ (if (decide (-(2:Int) ^ 63<=Builtin.Tuple.tupleHashOf (u.map hk.hash))&&decide (Builtin.Tuple.tupleHashOf (u.map hk.hash)<2 ^ 63))=true then _ else _) Q E _;unfold jV jK reduceHash at h;by_cases B:(decide (-(2:Int) ^ 63<=Builtin.Tuple.tupleHashOf (u.map hk.hash))&&decide (Builtin.Tuple.tupleHashOf (u.map hk.hash)<2 ^ 63))=true
  .rw[fx B] at h ⊢;exact gV (by simpa [Mj] using h)
  .rw[fI B] at h ⊢;exact cn (Jx (gV (by simpa [Mj] using h)))
def AH {x y:List K}{a b:Addr}{R:Fin->Shared->Prop}(hr:hk.room A) (p:TtK hk s.heap x a) (q:TtK hk s.heap y b) (h:R (.done (.ret (.bool (decide (x=y))))) s) :
  wpAny (model P w) A (Builtin.«tuple.__eq__» #[[.ref a,.ref b],[]]) R E s:=by
 have tq:=q.ty;obtain⟨o,xs,n,h1,_,h2,h3⟩:=p;obtain⟨o',ys,n',k1,_,k2,k3⟩:=q;show wpAny _ _ (isInstance (.ref b) (.type "tuple") >>= _) _ _ s;refine cn (KJ tq isSubtype_tuple_tuple ?_);simp only[Lk,IW,IG];refine cn (MQ h1 h2 ?_);refine cn (MQ k1 k2 ?_);refine cn ?_;refine MR _ (fun rest r s'=>r.1=none/\s'=s/\∃u v us J,rest=List.zip us J/\RwA hk s.heap u us/\RwA hk s.heap v J/\decide (u=v)=decide (x=y)/\(us.length == J.length)=(xs.size == ys.size)) _ ?_ ?_ _ _ #[rfl,rfl,x,y,xs.toList,ys.toList,rfl,h3,k3,rfl,by simp]
 .rintro⟨c,d⟩ rest r s' ⟨er,rfl,u,v,us,J,B,Z,W,U,Y⟩;cases Z with
  |nil=>simp at B
  |@cons k1 a1 u' us' g1 hu'=>
   cases W with
   |nil=>simp at B
   |@cons k2 a2 v' vs' g2 hv'=>
    simp only[List.zip_cons_cons,Mk,Iw] at B;obtain⟨⟨rfl,rfl⟩,rfl⟩:=B;refine cn (hk.eqBool hr g1 g2 ?_);by_cases e:k1=k2
    .subst e;rw[IH rfl];simp only[Lk,IW,IG];refine gV #[rfl,rfl,u',v',us',vs',rfl,hu',hv',?_,by simpa using Y];rw[<-U];by_cases e2:u'=v' <;> simp[e2]
    .rw[Jc e];simp only[Bool.not_false,IC];have hf:decide (x=y)=false:=by rw[<-U];simp[e]
     rw[hf] at h;exact cn (gV (gV (gV h)))
 .rintro⟨r1,r2⟩ s' ⟨er,rfl,u,v,us,J,B,Z,W,U,Y⟩;simp only at er;subst er;refine gV ?_;have fin:(xs.size == ys.size)=decide (x=y):=by
   rw[<-U,<-Y];cases Z with
   |nil=>cases W <;> simp
   |cons _ _=>
    cases W with
    |nil=>simp
    |cons _ _=>simp at B
  show R (.done (.ret (.bool (xs.size == ys.size)))) s';rw[fin];exact h
def BG {x y:List K}{a b:Addr}{Q:Bool->Shared->Prop}(J:A.units<cLine) (U:hk.room A.in1) (p:TtK hk s.heap x a) (q:TtK hk s.heap y b) (h:Q (decide (x=y)) s):wpAny (model P w) A (eqBool (.ref a) (.ref b)) Q E s:=by
 unfold eqBool
 try with_reducible refine Jt ?_
 show wpAny _ _ (if (Value.ref a == Value.ref b)=true then _ else _) Q E s;by_cases B:(Value.ref a == Value.ref b)=true
 .rw[fx B];have e:a=b:=by have:=eq_of_beq B;injection this
  subst e;cases p.uniq q;exact cn (Jx (gV (by simpa using h)))
 .rw[fI B];exact cn (wpAny_richCompare_same_room (op:=.Eq) p.ty q.ty MS (Je MS p.ty F.entry_tuple_eq (AH U p q #[_,rfl,(fun e=>nomatch e),Kw h]) (F.args_tuple_eq_2 _ _)) J)
def uS {o:Obj}{its m} {Q:Bool->Shared->Prop}(h1:s.heap.get? a=some o) (h2:o.cls = .type "tuple") (U:o.data = .seq its m) (W:∀v∈its.toList,∀{Q:Bool->Shared->Prop},Q true s->wpAny (model P w) A (eqIsQuiet n v) Q E s) (h:Q true s) :
  wpAny (model P w) A (eqIsQuiet (n+1) (.ref a)) Q E s:=by
 have J:s.TypeIs (.ref a) "tuple" := #[o,h1,h2]
 unfold eqIsQuiet;refine cn (Lp J MS.lookup ?_);show wpAny _ _ (isInstance (.ref a) (.type "tuple") >>= _) _ _ s;refine cn (KJ J isSubtype_tuple_tuple ?_);simp only[Lk,IW,IG];refine cn (Jv h1 U ?_);refine cn ?_;show wpAny _ _ (forIn its _ _) _ _ s;rw[<-Array.forIn_toList];refine MR _ (fun rest r s'=>r.1=none/\s'=s/\∀v∈rest,v∈its.toList) _ ?_ ?_ _ _ #[rfl,rfl,fun v Z=>Z]
 .rintro v rest r s' ⟨B,rfl,ha⟩;refine cn (W v (ha v iR) ?_);simp only[Lk,IW,IG];exact gV #[rfl,rfl,fun u Y=>ha u (iU _ Y)]
 .rintro⟨r1,r2⟩ s' ⟨B,rfl,_⟩;simp only at B;subst B;exact gV h
end
section
variable {P:Program}{w:World}{K:Type}[DecidableEq K] (kn:KeyKind P w K)
def Gu {k:List K}{Q:Bool->Shared->Prop}(x:(tupleKind kn).is s.heap k a) (h:Q true s):wpAny (model P w) A (eqIsQuiet (n+1) (.ref a)) Q E s:=by
 obtain⟨o,its,m,h1,h2,B,h4⟩:=x;refine uS h1 h2 B (fun v U Q J=>?_) h;rw[eqIsQuiet_byValue _ (h4.byValue v U)];exact gV J
theorem RwA.quiet :∀{x:List (List K)}{vs:vV_},RwA (tupleKind kn) s.heap x vs->∀v∈vs,∀{Q:Bool->Shared->Prop},Q true s->wpAny (model P w) A (eqIsQuiet (n+1) v) Q E s
 |_,_,.nil,v,hv=>by cases hv
 |_,_,.cons a r,v,hv=>fun B=>by
  rcases iO.mp hv with rfl | hv
  .exact Gu kn a B
  .exact r.quiet v hv B
def Ge:HeapKind P w (List (List K)) where
 is:=TtK (tupleKind kn)
 hash:=jV (tupleKind kn)
 draws:=jK (tupleKind kn)
 room:=fun A=>A.units+1<cLine
 inj:=fun p q=>p.uniq q
 keeps:=fun x J Y U=>x.car J Y U
 pyHash:=fun B x h=>GQ (Nat.lt_of_succ_lt B) (MT B) x h
 eqBool:=fun B p q h=>BG (Nat.lt_of_succ_lt B) (MT B) p q h
 quiet:=fun x h=>by
  obtain⟨o,its,m,h1,h2,W,h4⟩:=x;exact uS h1 h2 W (h4.quiet kn) h
end
section
variable {κ:Type}[DecidableEq κ]
def J2 (dec:D->Option κ):List D->Option (List κ)
 |[]=>some []
 |d::r=>(dec d).bind fun k=>(J2 dec r).map (k :: ·)
structure KDP (X:Cx) (hk:HeapKind X.prog X.w κ) (dec:D->Option κ):Prop where
 room:∀{A:Around},A.units+64<cLine->hk.room A.in1
 room0:∀{A:Around},A.units+64<cLine->hk.room A
 is:∀{pins:vP_}{σ:L2.St}{H:Hp}{s:Shared}{N:vB_}{fa:vA_}{d:D}{k:κ}{x:V},Inv X pins σ H s->dec d=some k->Rep X.K N fa H d x->∃b,x = .ref b/\hk.is s.heap k b
 hash:∀{d:D}{k:κ},dec d=some k->hk.hash k=bj d
def J4 (ks:List κ) (k:κ) (ds:vD_) (d:D):List D:=if k∈ks then ds else ds++[d]
variable {hk:HeapKind X.prog X.w κ}{dec:D->Option κ}{σ:L2.St}
theorem wl (J:KDP X hk dec) (I:Inv X pins σ H s):∀{ds:vD_}{xs:List V}{es:List DictEntry}{ks:List κ},ba ds xs es->Reps X.K N fa H ds xs->J2 dec ds=some ks ->
  ∃ys:List (κ × Addr × Value),es=ys.map (entryOfKey hk)/\ys.map (·.1)=ks/\xs=ys.map (fun y=>V.ref y.2.1)/\∀y∈ys,hk.is s.heap y.1 y.2.1
 |[],xs,es,ks,h,r,e=>by
  obtain⟨rfl,rfl⟩:=h;cases e;exact#[[],rfl,rfl,rfl,fun y B=>nomatch B]
 |d::ds,xs,es,ks,h,r,e=>by
  obtain⟨c,ys,U,fs,rfl,rfl,h1,h2,h⟩:=h;refine G7 e fun k W q=>?_
  refine J9 q fun ks' q2 q3=>?_
  subst q3;simp only[Reps] at r;obtain⟨x,zs,ex,rx,r⟩:=r;cases ex;obtain⟨b,eb,hb⟩:=J.is I W rx;cases eb;obtain⟨ws,rfl,Z,rfl,Y⟩:=wl J I h r q2;refine#[(k,c,U.val)::ws,?_,by simp[Z],rfl,fun y B=>?_]
  .obtain⟨hh,kk,vv⟩:=U;show _=entryOfKey hk _::_;unfold entryOfKey;simp only at h1 h2;rw[J.hash W,h1,h2]
  .rcases iO.mp B with rfl | B
   .exact hb
   .exact Y y B
theorem tT (J:KDP X hk dec):∀{ds:vD_}{ys:List (κ × Addr × Value)},J2 dec ds=some (ys.map (·.1))->ba ds (ys.map fun y=>V.ref y.2.1) (ys.map (entryOfKey hk))
 |[],ys,e=>by
  cases ys with
  |nil=>exact#[rfl,rfl]
  |cons y r=>cases e
 |d::ds,ys,e=>by
  refine G7 e fun k Y q=>?_
  refine J9 q fun W Z B=>?_
  cases ys with
  |nil=>cases B
  |cons y r=>
   simp only[Iv,Mk] at B;obtain⟨B,U⟩:=B;subst U;exact#[y.2.1,_,entryOfKey hk y,_,rfl,rfl,by rw[<-J.hash Y,B];rfl,rfl,tT J Z]
theorem pj:∀{a b:vD_}{ka kb:List κ},J2 dec a=some ka->J2 dec b=some kb->J2 dec (a++b)=some (ka++kb)
 |[],b,ka,kb,h,q=>by cases h;exact q
 |d::r,b,ka,kb,h,q=>by
  refine G7 h fun k W h=>?_
  refine J9 h fun J U B=>?_
  subst B;show (dec d).bind _=_;rw[W,MG];show (J2 dec (r++b)).map _=_;rw[pj U q];rfl
def atKeyG {ys:List (κ × Addr × Value)}{k:κ}:(atKey ys k).isSome=true↔k∈ys.map (·.1):=by
 unfold atKey;rw[Option.isSome_map,List.find?_isSome,Ik];exact#[fun ⟨x,B,e⟩=>#[x,B,JC e],fun ⟨x,B,e⟩=>#[x,B,IH e]]
def yq {ys:List (κ × Addr × Value)}{k:κ}{b:Addr}{v:Value}:(storedH ys k b v).map (·.1)=(if k∈ys.map (·.1) then ys.map (·.1) else ys.map (·.1)++[k]) /\
  (storedH ys k b v).map (fun y=>V.ref y.2.1)=(if k∈ys.map (·.1) then ys.map (fun y=>V.ref y.2.1) else ys.map (fun y=>V.ref y.2.1)++[V.ref b]):=by
 unfold storedH;by_cases e:k∈ys.map (·.1)
 .rw[fx e,fx e,fx (atKeyG.mpr e),KN,KN];constructor <;> refine List.map_congr_left fun x _=>?_ <;> show _=_ <;> simp only[Function.comp,putAt] <;> split <;> rfl
 .rw[fI e,fI e,fI (fun z=>e (atKeyG.mp z)),JN,JN];exact#[rfl,rfl]
def sO (B:HOk X.prog X.w H s.heap) (e:H a=some (E8 a ds xs)):(a == sysModules)=false/\∃o es ep,s.heap.get? a=some o/\o.ExactDict/\o.data = .dict es ep/\ba ds xs es.toList:=
 (show ObjOk X.prog X.w H s.heap a (E8 a ds xs) from B a _ e).1
def mj {o:Obj}{es:Array DictEntry}{ep:Nat}(lo:(a == sysModules)=false) (h1:h.get? a=some o) (h2:o.ExactDict) (B:o.data = .dict es ep) (h4:ba ds xs es.toList) :
  ObjOk X.prog X.w H' h a (E8 a ds xs):=by
 refine#[#[lo,o,es,ep,h1,h2,B,h4],#[o,h1],?_];rintro x y ⟨lo,o,es,ep,h1,r⟩ k;exact#[lo,o,es,ep,k o h1,r]
theorem qE:∀{ds:vD_}{ks:List κ},J2 dec ds=some ks->ks.length=ds.length
 |[],ks,h=>by cases h;rfl
 |d::r,ks,h=>by
  refine G7 h fun k W h=>?_
  refine J9 h fun J U B=>?_
  subst B;simp[qE U]
def nj (B:KDP X hk dec) {ks:List κ}{k:κ}{x:V}(I:Inv X pins σ H s) (e:H a=some (E8 a ds xs)) (r:Reps X.K N fa H ds xs) (rx:Rep X.K N fa H d x) (q:J2 dec ds=some ks) (J:dec d=some k) (nd:ks.Nodup) :
  ∃b ys,x = .ref b/\hk.is s.heap k b/\s.heap.DictOfH hk a ys/\ys.length=ds.length/\∀(v:Value) (h':Heap) (t:Nat),h'.DictOfH hk a (storedH ys k b v)->Heap.SameBut a s.heap h' ->
   Inv X pins σ (f9 H a (E8 a (J4 ks k ds d) (if k∈ks then xs else xs++[x]))) { s with heap:=h',toks:=t }:=by
 obtain⟨lo,o,es,ep,h1,h2,h3,h4⟩:=sO I.hok e;obtain⟨b,rfl,hb⟩:=B.is I J rx;obtain⟨ys,e5,rfl,rfl,W⟩:=wl B I h4 r q;refine#[b,ys,rfl,hb,#[o,es,ep,h1,h2,h3,e5,W,nd],by rw[<-qE q,xo],fun v h' t dd hs=>?_];obtain⟨o',es',Y,U,k2,k3,k4,_,_⟩:=dd;refine Dh I (by rw[e];exact True.intro) hs #[o',U] (mj lo U k2 k3 ?_);obtain⟨z1,Z⟩:=yq (ys:=ys) (k:=k) (b:=b) (v:=v);rw[k4,<-Z];refine tT B ?_;rw[z1];unfold J4;by_cases m:k∈ys.map (·.1)
 .rw[fx m,fx m];exact q
 .rw[fI m,fI m];refine pj q ?_;show (dec d).bind _=_;rw[J];rfl
def DB (X:Cx) (dec:D->Option κ):gl:=fun o i _ H Q=>∃a N fa ds d xs ks k,o = .ref a/\H a=some (E8 a ds xs)/\Reps X.K N fa H ds xs/\Rep X.K N fa H d i/\J2 dec ds=some ks/\dec d=some k/\ks.Nodup/\ds.length<=sizeLine /\
 Q (f9 H a (E8 a (J4 ks k ds d) (if k∈ks then xs else xs++[i])))
def FN (J:KDP X hk dec) (hu:X.A.units+64<cLine):kw X (DB X dec):=by
 intro pins s σ H o i v ov iv u Q I ro ri rv h;obtain⟨a,N,fa,ds,d,xs,ks,k,rfl,e,r,rx,q,Y,nd,hl,W⟩:=h;obtain⟨b,ys,rfl,hb,Z,U,go⟩:=nj J I e r rx q Y nd;cases ro;cases ri;exact wpAny_setItem_heap (hsz:=by rw[U];exact hl) (J.room hu) hb Z fun h' B hs=>#[_,go _ h' _ B hs,W]
end
section
variable {κ:Type}[DecidableEq κ] {hk:HeapKind X.prog X.w κ}{dec:D->Option κ}{σ:L2.St}{s:DS}{y:Str}{pos pd:Pos}{v0:V}
def DI.rewD {K:vF_}(I:GI K g σ H fa O s) {es:vD_}(U:s.sl[i]? = some (.dct ds)) (J:σ[i]? = some (some (.ref a))) (m:a∈O) (Y:H a=some (E8 a ds xs)) (r:Reps K (NN g.F fa O) fa H es ys) :
  GI K g σ (f9 H a (E8 a es ys)) fa O { s with sl:=s.sl.set i (.dct es) }/\Stp fa O H fa O (f9 H a (E8 a es ys)):=by
 have B:Stp fa O H fa O (f9 H a (E8 a es ys)):=#[fun b hb=>.inl hb,.inl rfl,fun b u e n _=>by
  rw[n9 (show b≠a from fun z=>n (by rw[z];exact m))];exact e,fun b z=>by
  by_cases hb:b=a
  .subst hb;rw[v8] at z;cases z
  .rw[n9 hb] at z;exact z]
 have c:=I.car B;have k:∀b u,b≠a->H b=some u->f9 H a (E8 a es ys) b=some u:=fun b u n e=>by rw[n9 n];exact e
 refine#[#[I.nd,SlR.rewG I.sl I.nd (fun b hb=>.inr (.inl hb)) U #[ds,.inr rfl] J c k fun W τ P h=>?_,I.fr,?_,I.tr,I.ff,I.fd.car c fun b hb=>?_,I.nf],B]
 .simp only[SlR];exact#[a,ys,τ,P,rfl,rfl,v8,Reps.go c es ys r,h]
 .refine#[fun b hb=>(by cases hb),I.st.fe,fun b u e n f=>?_,fun b z=>I.st.mon b (B.mon b z)];refine k b u (fun z=>?_) (I.st.same b u e n f);rw[z,I.fr a m] at e;cases e
 .refine n9 fun z=>?_
  subst z;exact I.nf _ hb m
def eU (dec:D->Option κ) (i j:Nat):DM:=fun s=>match s.sl[i]?,s.sl[j]? with
 |some (.dct ds),some (.v d)=>(J2 dec ds).bind fun ks=>(dec d).bind fun k=>if ks.Nodup/\ds.length<=sizeLine then some (.next,{ s with sl:=s.sl.set i (.dct (J4 ks k ds d)) }) else none
 |_,_=>none
def Ed (q:eU dec i j s=some r):∃ds d ks k,s.sl[i]? = some (.dct ds)/\s.sl[j]? = some (.v d)/\J2 dec ds=some ks/\dec d=some k/\ks.Nodup/\ds.length<=sizeLine/\r=(.next,{ s with sl:=s.sl.set i (.dct (J4 ks k ds d)) }):=by
 unfold eU at q;split at q
 .next ds d e1 e2=>
  refine G7 q fun ks h1 q=>G7 q fun k h2 q=>?_
  by_cases h:ks.Nodup/\ds.length<=sizeLine
  .rw[fx h] at q;cases q;exact#[ds,d,ks,k,e1,e2,h1,h2,h.1,h.2,rfl]
  .rw[fI h] at q;cases q
 .cases q
def qe (Z:KDP X hk dec) (hu:X.A.units+64<cLine) (hU:PE X (.Name x p1) (M1 i)) (hO:PE X (.Name y p2) (M1 j)) (he:PE X e (tC v0)) (hs:swapsWithSole [.Subscript (.Name x p1) (.Name y p2) pos'] e pos.line X.env=pure false:=by rfl) (hw:swappedStores [.Subscript (.Name x p1) (.Name y p2) pos'] e X.env=pure none:=by rfl) :
  SO X g (.Assign [.Subscript (.Name x p1) (.Name y p2) pos'] e pos) (eU dec i j):=
 SO.w (kT he (sP hU hO (FN Z hu)) hs hw) fun E σ H hQ=>by
  refine hQ.elim fun fa O s fl s' I q k=>?_
  obtain⟨ds,d,ks,B,h1,h2,h3,h4,h5,h6,er⟩:=Ed q;cases er;obtain⟨a,xs,U,m,Y,J⟩:=SlR.dct I.sl h1;obtain⟨vx,e3,W⟩:=SlR.val I.sl h2;refine#[_,U,_,e3,a,_,_,ds,d,xs,ks,B,rfl,Y,J,W,h3,h4,h5,h6,?_];obtain⟨I2,a2⟩:=I.rewD h1 U m Y (es:=J4 ks B ds d) (ys:=if B∈ks then xs else xs++[vx]) (by
   unfold J4;by_cases z:B∈ks
   .rw[fx z,fx z];exact J
   .rw[fI z,fI z];exact Reps.append J (Reps.one W))
  exact k σ _ fa O a2 I2
def DI.newD {K:vF_}(I:GI K g σ H fa O s) (hi:i<s.sl.length) (hp:H p=none) (r:Reps K (NN g.F fa O) fa H ds xs) :
  ∃P,(∀b∈P,b=p\/b∈O)/\GI K g (σ.set i (some (.ref p))) (f9 H p (E8 p ds xs)) fa P { s with sl:=s.sl.set i (.dct ds) }:=by
 have B:=fq (o:=E8 p ds xs) I hp;have U:p ∉ O:=fun z=>by
  obtain⟨ys,e⟩:=I.owned z;rw[hp] at e;cases e
 have J:=SlR.go B (fun b ys _ e=>by rw[n9 (R8 e hp)];exact e) I.sl;obtain⟨P,h1,h2,S⟩:=SlR.putG i (p:=p) (w:=.dct ds) J hi U I.nd fun W τ P h=>by
  simp only[SlR];exact#[p,xs,τ,P,rfl,rfl,v8,Reps.go B ds xs r,h]
 have c:Car K (fun b=>NN g.F fa O b\/b=p) fa (f9 H p (E8 p ds xs)) (NN g.F fa P) fa (f9 H p (E8 p ds xs)):=jE fun b z=>by
  rcases z with z | z | z
  .exact .inl (.inl z)
  .rcases h1 b z with y | y
   .exact .inr y
   .exact .inl (.inr (.inl y))
  .exact .inl (.inr (.inr z))
 refine#[P,h1,h2,SlR.go c (fun _ _ _ z=>z) S,fun b hb=>?_,(I.new hp).st,I.tr,I.ff,(I.fd.car B (I.fd.same_new hp)).car c fun _ _=>rfl,fun b z hb=>?_]
 .rcases h1 b hb with y | y
  .rw[y];exact I.st.mon p hp
  .exact I.fr b y
 .rcases h1 b hb with y | y
  .rw[y] at z;exact I.fd.tracked z hp
  .exact I.nf b z y
def sV {o:HO}{P:vL_}(hp:H p=none) (B:∀b∈P,b=p\/b∈O):Stp fa O H fa P (f9 H p o):=
 #[fun b hb=>by
  rcases B b hb with y | y
  .exact .inr (by rw[y];exact hp)
  .exact .inl y,.inl rfl,(B8 (O:=O) hp).stp.same,(B8 (fa:=fa) (O:=O) (o:=o) hp).mon]
def me (i:Nat):DM:=fun s=>if i<s.sl.length then some (.next,{ s with sl:=s.sl.set i (.dct []) }) else none
def zD:PE X (.Dict [] [] pos) (fun _ H Q=>∀p,H p=none->Q (.ref p) (f9 H p (E8 p [] []))):=fun pins s σ H Q I h=>
 wpAny_Dict_empty #[.ref s.heap.objs.size,_,I.laid (a:=s.heap.objs.size) (o:=E8 s.heap.objs.size [] []) (t':=s.toks) (fun _ _ q=>Ii _ q) (tx _)
  (mj (X:=X) (Mw.mpr (xu (Ir I.big))) (ID _ rfl) #[rfl,rfl,rfl] rfl #[rfl,rfl]),rfl,h _ (I.hok.fresh (tx _))]
def Fn (W:X.N.Nodup) (hi:X.N[i]? = some x) (Y:L2.Loc X.env.scope x) (hs:swapsWith (.Dict [] [] pd) (some (.Name x pos')) pos.line X.env=pure false:=by rfl) (J:X.fn x=true\/X.env.scope.names.lookup x=some .local:=by first | exact .inl rfl | exact .inr rfl | assumption) :
  SO X g (.Assign [.Name x pos'] (.Dict [] [] pd) pos) (me i):=SO.w (hV W hi Y zD hs J) fun E σ H U=>by
 refine U.elim fun fa O s fl s' I q k=>?_
 unfold me at q;by_cases h:i<s.sl.length
 .rw[fx h] at q;cases q;intro p hp;obtain⟨P,B,Z⟩:=I.newD h hp Reps.nil;exact k _ _ fa P (sV hp B) Z
 .rw[fI h] at q;cases q
def bF (dec:D->Option κ) (i a b:Nat):DM:=fun s=>match s.sl[a]?,s.sl[b]? with
 |some (.v d),some (.v B)=>(dec d).bind fun k=>(dec B).bind fun J=>if i<s.sl.length then some (.next,{ s with sl:=s.sl.set i (.dct (J4 [k] J [d] B)) }) else none
 |_,_=>none
def zc {a b:Nat}(q:bF dec i a b s=some r):∃d d' k k',s.sl[a]? = some (.v d)/\s.sl[b]? = some (.v d')/\dec d=some k/\dec d'=some k'/\i<s.sl.length/\r=(.next,{ s with sl:=s.sl.set i (.dct (J4 [k] k' [d] d')) }):=by
 unfold bF at q;split at q
 .next d d' e1 e2=>
  refine G7 q fun k h1 q=>G7 q fun k' h2 q=>?_
  by_cases h:i<s.sl.length
  .rw[fx h] at q;cases q;exact#[d,d',k,k',e1,e2,h1,h2,h,rfl]
  .rw[fI h] at q;cases q
 .cases q
def qr {s:Shared}(J:KDP X hk dec) (hu:X.A.units+64<cLine) {ks:List κ}{k:κ}{v:V}{u r:Value}{Q:Unit->Shared->Prop}(I:Inv X pins σ H s) (e:H a=some (E8 a ds xs)) (rs:Reps X.K N fa H ds xs) (rx:Rep X.K N fa H d v) (ru:RelV v u) (q:J2 dec ds=some ks) (W:dec d=some k) (Z:ks.Nodup) (hl:ds.length<=sizeLine)
  (h:∀s',Inv X pins σ (f9 H a (E8 a (J4 ks k ds d) (if k∈ks then xs else xs++[v]))) s'->Q () s'):wpAny (model X.prog X.w) X.A (dictSet a u r) Q E s:=by
 obtain⟨b,ys,rfl,hb,Y,U,go⟩:=nj J I e rs rx q W Z;cases ru;exact wpAny_dictSet_heap (hsz:=by rw[U];exact hl) (J.room0 hu) hb Y fun h' B hs=>h _ (go _ h' _ B hs)
def FP (X:Cx) (dec:D->Option κ) (B J:Nat):TE:=fun σ H Q=>∃va vb N fa d d' k k',σ[B]? = some (some va)/\σ[J]? = some (some vb)/\dec d=some k/\dec d'=some k'/\(∀p o,H p=none->Rep X.K N fa (f9 H p o) d va/\Rep X.K N fa (f9 H p o) d' vb) /\
 ∀p,H p=none->Q (.ref p) (f9 H p (E8 p (J4 [k] k' [d] d') (if k'∈[k] then [va] else [va,vb])))
def AZ {v1:V}{ia ib:Nat}(kd:KDP X hk dec) (hu:X.A.units+64<cLine) (hA:PE X (.Name xa pa) (M1 ia)) (hB:PE X (.Name xb pb) (M1 ib)) (hv:PE X e (tC v0)) (Y:PE X e' (tC v1)) :
  PE X (.Dict [some (.Name xa pa),some (.Name xb pb)] [e,e'] pos) (FP X dec ia ib):=by
 rintro pins s σ H Q I ⟨W,vb,N,fa,d,d',k,k',e1,e2,q1,q2,Z,h⟩;have J:=I.hok.fresh (tx s.heap.objs.size);have I1:=I.laid (a:=s.heap.objs.size) (o:=E8 s.heap.objs.size [] []) (h':=s.heap.push { cls:=.type "dict",data:=.dict #v[] }) (t':=s.toks) (fun _ _ q=>Ii _ q) (tx _)
  (mj (X:=X) (Mw.mpr (xu (Ir I.big))) (ID _ rfl) #[rfl,rfl,rfl] rfl #[rfl,rfl])
 refine wpAny_Dict_any rfl rfl (by simp) (by simp) (n8 (rb hA hv (rb hB Y Hn) pins _ σ _ (fun ps H2=>ps=[(W,v0),(vb,v1)]/\H2=_) I1 #[W,e1,#[vb,e2,rfl,rfl]]) fun ws s2 ⟨ps,H2,I2,B,ep,eh⟩=>?_);subst ep;subst eh;cases B with
 |@cons _ w1 _ ws1 r1 B=>
 cases B with
 |@cons _ w2 _ ws2 r2 B=>
 cases B;unfold storeAll;rw[KG];refine cn (cn (qr (d:=d) (k:=k) (ks:=[]) (xs:=[]) (ds:=[]) (v:=W) (N:=N) (fa:=fa) kd hu I2 v8 Reps.nil (Z _ _ J).1 r1.1 rfl q1 LS (JF _) fun s3 U=>gV ?_))
 dsimp only
 rw[KG];rw[ve] at U;have n1:k ∉ ([]:List κ):=IY;unfold J4 at U;rw[fI n1,fI n1] at U;refine cn (cn (qr (d:=d') (k:=k') (ks:=[k]) (xs:=[W]) (ds:=[d]) (v:=vb) (N:=N) (fa:=fa) kd hu U v8 (Reps.one (Z _ _ J).1) (Z _ _ J).2 r2.1 (by show (dec d).bind _=_;rw[q1];rfl) q2 (by simp) (by show 1<=_;decide) fun s4 I4=>gV ?_))
 dsimp only
 rw[Ll];rw[ve] at I4;exact gV #[.ref s.heap.objs.size,_,I4,rfl,h _ J]
def Fm {v1:V}{ia ib:Nat}(kd:KDP X hk dec) (hu:X.A.units+64<cLine) (hN:X.N.Nodup) (hi:X.N[i]? = some x) (hx:L2.Loc X.env.scope x) (hA:PE X (.Name xa pa) (M1 ia)) (hB:PE X (.Name xb pb) (M1 ib)) (hv:PE X e (tC v0)) (U:PE X e' (tC v1))
  (hs:swapsWith (.Dict [some (.Name xa pa),some (.Name xb pb)] [e,e'] pd) (some (.Name x pos')) pos.line X.env=pure false:=by rfl) (hf:X.fn x=true\/X.env.scope.names.lookup x=some .local:=by first | exact .inl rfl | exact .inr rfl | assumption) :
  SO X g (.Assign [.Name x pos'] (.Dict [some (.Name xa pa),some (.Name xb pb)] [e,e'] pd) pos) (bF dec i ia ib):=SO.w (hV hN hi hx (AZ kd hu hA hB hv U) hs hf) fun E σ H hQ=>by
 refine hQ.elim fun fa O s fl s' I q k=>?_
 obtain⟨d,d',B,J,h1,h2,h3,h4,hl,er⟩:=zc q;cases er;obtain⟨Z,e1,Y⟩:=SlR.val I.sl h1;obtain⟨vb,e2,r2⟩:=SlR.val I.sl h2;refine#[Z,vb,_,_,d,d',B,J,e1,e2,h3,h4,fun p o hp=>#[Rep.go (I.car (B8 hp).stp) _ _ Y,Rep.go (I.car (B8 hp).stp) _ _ r2],fun p hp=>?_];obtain⟨P,W,I2⟩:=I.newD (ds:=J4 [B] J [d] d') (xs:=if J∈[B] then [Z] else [Z,vb]) hl hp (by
  unfold J4;by_cases z:J∈[B]
  .rw[fx z,fx z];exact Reps.one Y
  .rw[fI z,fI z];exact Reps.append (Reps.one Y) (Reps.one r2))
 exact k _ _ fa P (sV hp W) I2
def aK (i:Nat):DA:=fun s=>match s.sl[i]? with
 |some (.dct ds)=>if ds.length<=sizeLine then some (ds,s) else none
 |_=>none
def Bw {r:List D × DS}(q:aK i s=some r):∃ds,s.sl[i]? = some (.dct ds)/\ds.length<=sizeLine/\r=(ds,s):=by
 unfold aK at q;split at q
 .next ds e1=>
  by_cases h:ds.length<=sizeLine
  .rw[fx h] at q;cases q;exact#[ds,e1,h,rfl]
  .rw[fI h] at q;cases q
 .cases q
theorem rE:∀{ds:vD_}{xs:List V}{es:List DictEntry},ba ds xs es->Vals xs (es.map (·.key))/\xs.length=ds.length
 |[],xs,es,h=>by obtain⟨rfl,rfl⟩:=h;exact#[.nil,rfl]
 |d::ds,xs,es,h=>by
  obtain⟨r,ys,e,fs,rfl,rfl,_,h2,h⟩:=h;obtain⟨a,b⟩:=rE h;exact#[.cons h2 a,by simp[b]]
def oj (hc:X.calm=true) (B:Gl X "list") (W:X.mg "list" = none) (hv:PE X (.Name x p') (M1 i)) (he:starEach [.Name x p'] X.env=(false,eval (.Name x p') X.env)::starEach [] X.env:=by rfl) :
  FO X g (.Call (.Name "list" p) [.Name x p'] [] pos) (aK i):=#[by
 intro pins s σ H Q I h;refine h.elim fun fa O ds0 d s' J q k=>?_
 obtain⟨ds,h1,hz,er⟩:=Bw q;cases er;obtain⟨a,xs,e1,m,e2,r1⟩:=SlR.dct J.sl h1;refine JW (aI I B W (show bootBuiltins ("list" : Str)=some (.type "list") by decide +kernel) ?_ #[] #[]);refine Kn (n8 ((U8 hv X7 he) pos pins s σ H (fun Z H'=>Z=[.ref a]/\H'=H) I #[_,e1,rfl,rfl]) fun us s1 ⟨Z,H1,U,rr,q1⟩=>?_) he rfl;obtain⟨rfl,rfl⟩:=q1;obtain⟨u,rfl,ru⟩:=Z8 rr;cases ru;obtain⟨lo,o,es,ep,k1,k2,k3,k4⟩:=sO U.hok e2;obtain⟨vr,vl⟩:=rE k4;have hl:es.size<=sizeLine:=by
  have z:es.toList.length=d.length:=by rw[<-vl,vr.length,xo]
  have y:es.size=es.toList.length:=rfl;omega
 refine Hv (I.ok.hd hc) lo #[o,k1,k2,k3] hl fun h' tk c hk hS=>?_
 have Y:=U.hok.fresh (tx s1.heap.objs.size);refine#[.ref s1.heap.objs.size,_,U.laid (t':=tk) (o:=.lst xs) (h':=h') hk (tx _) ?_,rfl,k _ _ _ fa O (B8 Y) (X9 J Y r1) Y];exact#[by rw[vl];exact hz,_,c,vr,hS]]
end
def N9 (d:D):Option (List A8):=(wA d).map bH
def br:D->Option (List (List A8))
 |.tup ds=>J2 N9 ds
 |_=>none
theorem uz:∀{ds:vD_}{q:List Int},dN ds=some q->aD ds=q.map hashInt
 |[],q,h=>by cases h;rfl
 |d::r,q,h=>by
  cases d with
  |int i=>
   refine J9 h fun B h1 h2=>?_
   subst h2;show hashInt i::aD r=_;rw[uz h1];rfl
  |_=>cases h
def HD {k:List A8}(h:N9 d=some k):∃ds q,d = .tup ds/\dN ds=some q/\k=bH q:=by
 refine J9 h fun q h1 h2=>?_
 cases d with
 |tup ds=>exact#[ds,q,rfl,h1,h2.symm]
 |_=>cases h1
def si {k:List A8}(h:N9 d=some k):(tupleKind (Q2 X.prog X.w)).hash k=bj d:=by
 obtain⟨ds,q,rfl,h1,rfl⟩:=HD h;show reduceHash (Builtin.Tuple.tupleHashOf ((bH q).map _))=reduceHash (Builtin.Tuple.tupleHashOf (aD ds));rw[uz h1];unfold bH;rw[KN];rfl
def tL {k:List A8}{x:V}(I:Inv X pins σ H s) (h:N9 d=some k) (r:Rep X.K N fa H d x):∃b,x = .ref b/\(tupleKind (Q2 X.prog X.w)).is s.heap k b:=by
 refine J9 h fun q h1 h2=>?_
 subst h2;obtain⟨b,e,z⟩:=HR h1 r;exact#[b,e,zd I z]
def qg:KDP X (tupleKind (Q2 X.prog X.w)) N9:=
 #[fun h=>MT ∅,fun h=>show _<_ by omega,tL,si]
theorem vm:∀{ds:vD_}{ks:List (List A8)},J2 N9 ds=some ks->aD ds=ks.map (tupleKind (Q2 X.prog X.w)).hash
 |[],ks,h=>by cases h;rfl
 |d::r,ks,h=>by
  refine G7 h fun k h1 h=>J9 h fun J h2 B=>?_
  subst B;show bj d::aD r=_::_;rw[si (X:=X) h1,vm h2]
def pB {k:List (List A8)}(h:br d=some k):∃ds,d = .tup ds/\J2 N9 ds=some k:=by
 cases d with
 |tup ds=>exact#[ds,rfl,h]
 |_=>cases h
theorem tR (I:Inv X pins σ H s):∀{ds:vD_}{ks:List (List A8)}{xs:List V}{us:vV_},J2 N9 ds=some ks->Reps X.K N fa H ds xs->Vals xs us->RwA (tupleKind (Q2 X.prog X.w)) s.heap ks us
 |[],ks,xs,us,h,r,v=>by
  cases h;simp only[Reps] at r;subst r;cases v;exact .nil
 |d::r',ks,xs,us,h,r,v=>by
  refine G7 h fun k h1 h=>J9 h fun J h2 B=>?_
  subst B;simp only[Reps] at r;obtain⟨x,ys,rfl,U,r⟩:=r;cases v with
  |cons a b=>
   obtain⟨c,rfl,z⟩:=tL I h1 U;cases a;exact .cons z (tR I h2 r b)
def Aa:KDP X (Ge (Q2 X.prog X.w)) br:=by
 refine#[fun {A} h=>show A.units+1+1<cLine by omega,fun h=>show _+1<_ by omega,fun {pins σ H s N fa d k x} I h r=>?_,fun {d k} h=>?_]
 .obtain⟨ds,rfl,h⟩:=pB h;simp only[Rep] at r;obtain⟨a,xs,rfl,q,r⟩:=r;obtain⟨its,B,⟨o,h1,h2,n,J⟩,_⟩:=I.tuple q;exact#[a,rfl,o,its.toArray,n,h1,h2,J,by simpa using tR I h r B]
 .obtain⟨ds,rfl,h⟩:=pB h;show reduceHash (Builtin.Tuple.tupleHashOf (k.map _))=reduceHash (Builtin.Tuple.tupleHashOf (aD ds));rw[vm (X:=X) h]
end DL
namespace DL
open PySem PySem.Spec L2
def w9 {K:vF_}{n:Str}{st:Stmt}{f:Addr}{w:World}{ps:List Str}{b:DM}(J:List Str) (F:GF K mg n st f fd) (q:∀(kV doc pm:Value) (an:vA_) (cdv ct:Value) (us:vV_),us.length=ps.length->bindArgs (PySem.W.fnOf n n (X4 st) (Q1 st) (D5 st) .none kV doc pm an cdv ct) #[us,[]]=pure (ps.zip us)) (S:FnScope (ps++J) ps (D5 st))
  (B:(ps++J).Nodup->∀(cdv:Value) (A:Around) (outer:List Env) (s:Shared) (H:Hp) (E:XK) (g:Gh),Room k (A.deeper (PyProof.Rows.envOfC n (D5 st) s.heap.objs.size f cdv))->SSO (W5 T8 P w K mg base (ps++J) n (D5 st) f cdv A outer s H E).nox g (Q1 st) b) :
  Cal P w K mg base (k+1) n ps (t7 (ps++J).length b):=uF F q S (B S.nd)
end DL
namespace T
open PySem PySem.Spec L2 DL
abbrev Dd:DM:=(f6 (i8 (a7 C1 (dL 2) (dL 3)) (e7 4)) (f6 (i8 (dV 3) (e7 2)) (i8 (dV 4) (e7 3))))
def gY:DM:=(f6 (i8 (l7 (one W3) (a0 (dL 0) b9)) (e7 2)) (f6 (i8 (l7 (one W3) (a0 (dL 1) b9)) (e7 3)) (f6 (O0 (dB (a7 J6 (dL 3) (Od 0))) (Dd)) (j5 (dV 2)))))
def T2:a9:=t7 5 (gY)
abbrev eN (m0s:a9):DM:=(i8 (d8 m0s (a0 (dV 1) (a0 (dV 2) b9))) (e7 1))
def gy (B:a9):DM:=(f6 (i8 (Od 0) (e7 1)) (f6 (M6 (dV 0) (e7 2) (eN B)) (j5 (dV 1))))
def bM (B:a9):a9:=t7 3 (gy B)
def mD (B:a9):DM:=(f6 (i8 (d8 B (a0 (dV 0) b9)) (e7 1)) (f6 (o0 (dB (a7 (p8 (fun i j=>decide (i<j))) (a7 d5 (dL 0) (u6 u8 (Od 1))) (Od 0))) (i8 (u6 u8 (dL 1)) (e7 1)) p7) (j5 (l7 (one dH) (a0 (p9 (F9 [1] (E7 (dV 0)) A5 (a7 G8 (dL 0) (dL 1)))) b9)))))
def uc (B:a9):a9:=t7 2 (mD B)
def dS:DM:=(f6 (i8 (a7 j9 (Oe 0 0) (Oe 1 2)) (e7 2)) (f6 (i8 (a7 j9 (Oe 1 0) (Oe 0 2)) (e7 3)) (f6 (o0 (dB (a7 J6 (dL 2) (dL 3))) (j5 (a7 (p8 (fun i j=>decide (i<j))) (dL 2) (dL 3))) p7) (j5 (a7 (p8 (fun i j=>decide (i<j))) (a7 j9 (Oe 0 1) (Oe 1 2)) (a7 j9 (Oe 1 1) (Oe 0 2)))))))
def E1:a9:=t7 4 (dS)
def cB:DM:=(f6 (o0 (dB (a7 (p8 (fun i j=>decide (j<i))) (dL 0) (Od 0))) (j5 (Od 1)) p7) (f6 (o0 (dB (a7 (p8 (fun i j=>decide (i<j))) (dL 0) (Od 0))) (j5 (u6 u8 (Od 1))) p7) (j5 (Od 0))))
def lR:a9:=t7 1 (cB)
def eA (J:a9) (B:a9):DM:=(f6 (o0 (dB (a7 (p8 (fun i j=>decide (i<j))) (l7 (one o6) (a0 (dL 0) b9)) (Od 2))) (j5 (p9 (V4 (one oF) (a0 (dL 0) b9)))) p7) (f6 (i8 (a7 G8 (l7 (one o6) (a0 (dL 0) b9)) (Od 2)) (e7 2)) (j5 (d8 J (a0 (d8 B (a0 (L9 (dL 0) R5 (R0 (dL 2))) (a0 (dV 1) b9))) (a0 (d8 B (a0 (L9 (dL 0) (R0 (dL 2)) R5) (a0 (dV 1) b9))) (a0 (dV 1) b9)))))))
def dD (B:a9):Nat->a9
 |0=>fun _ _=>none
 |n+1=>t7 3 (eA B (dD B n))
def bG:DM:=(f6 (o0 (o7 (dL 1)) (j5 (p9 (V4 aA (a0 (dL 0) (a0 (a7 k9 (L9 (dL 0) (R0 (Od 1)) R5) (L9 (dL 0) R5 (R0 (Od 1)))) b9))))) p7) (j5 (p9 (V4 aA (a0 (dL 0) (a0 (L9 (dL 0) (R0 (Od 1)) R5) b9))))))
def T4:a9:=t7 2 (bG)
abbrev zw:DM:=(A6 0 1 (a0 (dV 1) (a0 (a7 C1 (dL 0) (dL 1)) b9)))
def kc:DM:=(f6 (A6 0 1 (a0 (l7 (one W3) (a0 (dL 0) b9)) (a0 (l7 (one W3) (a0 (dL 1) b9)) b9))) (f6 (O0 (dB (a7 (p8 (fun i j=>decide (j<i))) (dL 1) (Od 0))) (zw)) (j5 (dV 0))))
def EB:a9:=t7 2 (kc)
def jD:DM:=(j5 (iA 0))
def aY:a9:=t7 1 (jD)
def ap:DM:=(f6 (Q9 0 3 (a7 k9 (C0 0 3) (Od 1))) (f6 (o0 (dB (a7 (p8 (fun i j=>decide (j<i))) (C0 0 2) (Od 0))) (f6 (i8 (a7 C1 (C0 0 2) (dL 1)) (e7 2)) (f6 (Q9 0 2 (a7 G8 (C0 0 2) (dL 1))) (j5 (dV 2)))) p7) (f6 (i8 (C0 0 1) (e7 3)) (f6 (Q9 0 1 (a7 k9 (dL 3) (Od 1))) (f6 (i8 (a7 d5 (C0 0 0) (a7 C1 (dL 3) (l7 (one o6) (a0 (C0 0 0) b9)))) (e7 4)) (f6 (o0 (u4 (dB (a7 (p8 (fun i j=>decide (j<=i))) (dL 4) (a7 aW (Od 10) (Od 18)))) (dB (a7 (p8 (fun i j=>decide (i<j))) (dL 3) (l7 (one o6) (a0 (C0 0 0) b9))))) (f6 (Q9 0 2 (a7 G8 (dL 4) (dL 1))) (j5 (a7 C1 (dL 4) (dL 1)))) p7) (f6 (i8 (a7 C1 (a7 k9 (a7 k9 (a7 j9 (a7 C1 (dL 4) (Od 1000003)) (Od 48271)) (a7 j9 (Od 7919) (C0 0 3))) (Od 104729)) (Od 2147483647)) (e7 5)) (f6 (i8 (a7 C1 (a7 k9 (a7 k9 (a7 j9 (a7 G8 (dL 5) (Od 64)) (Od 69621)) (a7 j9 (a7 j9 (Od 31) (C0 0 3)) (C0 0 3))) (dL 3)) (Od 2147483587)) (e7 5)) (j5 (a7 C1 (a7 G8 (dL 5) (Od 64)) (dL 1)))))))))))
def tf:a9:=t7 6 (ap)
abbrev BH:DM:=(A6 0 1 (a0 (dV 1) (a0 (a7 C1 (dL 0) (dL 1)) b9)))
def oz:DM:=(f6 (A6 0 1 (a0 (l7 (one W3) (a0 (dL 0) b9)) (a0 (l7 (one W3) (a0 (dL 1) b9)) b9))) (f6 (O0 (dB (a7 (p8 (fun i j=>decide (j<i))) (dL 1) (Od 0))) (BH)) (j5 (dV 0))))
def ix:a9:=t7 2 (oz)
def gu (B:a9):DM:=(f6 (i8 (d8 B (a0 (d8 B (a0 (dV 0) (a0 (dV 1) b9))) (a0 (dV 2) b9))) (e7 3)) (f6 (o0 (dB (a7 (p8 (fun i j=>decide (i<j))) (dL 2) (Od 0))) (i8 (a7 u5 (Od 0) (dL 3)) (e7 3)) p7) (j5 (i9 (a0 (a7 G8 (dL 0) (dL 3)) (a0 (a7 G8 (dL 1) (dL 3)) (a0 (a7 G8 (dL 2) (dL 3)) b9)))))))
def rH (B:a9):a9:=t7 4 (gu B)
def gU (B:a9):DM:=(j5 (d8 B (a0 (dV 0) (a0 (dC (.bl true)) b9))))
def sT (B:a9):a9:=t7 1 (gU B)
def jT:DM:=(j5 (p9 (F9 [0] (cQ (a0 (l7 (one o6) (a0 (dL 0) b9)) b9)) A5 (i9 (a0 (a7 d5 (dL 1) (dL 0)) (a0 (a7 d5 (dL 1) (a7 C1 (a7 k9 (dL 0) (Od 1)) (l7 (one o6) (a0 (dL 1) b9)))) b9))))))
def aN:a9:=t7 1 (jT)
def ik:DM:=(f6 (i8 (a7 j9 (Oe 0 0) (a7 u5 (a7 j9 (Oe 1 1) (Oe 2 2)) (a7 j9 (Oe 1 2) (Oe 2 1)))) (e7 3)) (f6 (i8 (a7 j9 (Oe 0 1) (a7 u5 (a7 j9 (Oe 1 0) (Oe 2 2)) (a7 j9 (Oe 1 2) (Oe 2 0)))) (e7 4)) (j5 (a7 k9 (a7 u5 (dL 3) (dL 4)) (a7 j9 (Oe 0 2) (a7 u5 (a7 j9 (Oe 1 0) (Oe 2 1)) (a7 j9 (Oe 1 1) (Oe 2 0))))))))
def av:a9:=t7 5 (ik)
def ja (B:a9):DM:=(f6 (i8 (a7 k9 (a7 j9 (Oe 0 0) (Oe 1 2)) (a7 j9 (Oe 1 0) (Oe 0 2))) (e7 2)) (j5 (d8 B (a0 (dV 2) (a0 (a7 k9 (a7 j9 (Oe 0 1) (Oe 1 2)) (a7 j9 (Oe 1 1) (Oe 0 2))) (a0 (a7 j9 (a7 j9 (Od 2) (Oe 0 2)) (Oe 1 2)) b9))))))
def tB (B:a9):a9:=t7 3 (ja B)
def lL (m01:a9):DM:=(j5 (C3 (o7 (d8 m01 (a0 (dV 0) (a0 (dV 1) b9)))) (i9 (a0 (dV 0) (a0 (dV 1) b9))) (i9 (a0 (dV 1) (a0 (dV 0) b9)))))
def jg (m01:a9):a9:=t7 2 (lL m01)
def gb:DM:=(f6 (i8 (a7 u5 (a7 j9 (Oe 0 0) (Oe 1 2)) (a7 j9 (Oe 1 0) (Oe 0 2))) (e7 2)) (j5 (D3 (a7 (p8 (fun i j=>decide (i<j))) (dL 2) (Od 0)) (D0 (a7 E6 (dL 2) (Od 0)) (a7 (p8 (fun i j=>decide (i<j))) (a7 j9 (Oe 0 1) (Oe 1 2)) (a7 j9 (Oe 1 1) (Oe 0 2)))))))
def aJ:a9:=t7 3 (gb)
def eV (B:a9) (J:a9):DM:=(f6 (o0 (dB (a7 J6 (d8 J (a0 (dV 0) (a0 (dV 1) (a0 (dV 2) b9)))) (Od 0))) (j5 (dC (.bl false))) p7) (f6 (i8 (C3 (o7 (d8 B (a0 (dV 0) (a0 (dV 1) b9)))) (i9 (a0 (dV 0) (a0 (dV 1) b9))) (i9 (a0 (dV 1) (a0 (dV 0) b9)))) (w8 2 (t6 (e7 3) (t6 (e7 4) A1)))) (j5 (D0 (C6 (d8 B (a0 (dV 2) (a0 (dV 3) b9)))) (C6 (d8 B (a0 (dV 4) (a0 (dV 2) b9))))))))
def ck (B:a9) (J:a9):a9:=t7 5 (eV B J)
def uY:DM:=(j5 (i9 (a0 (a7 u5 (a7 j9 (Oe 0 1) (Oe 1 2)) (a7 j9 (Oe 0 2) (Oe 1 1))) (a0 (a7 u5 (a7 j9 (Oe 0 2) (Oe 1 0)) (a7 j9 (Oe 0 0) (Oe 1 2))) (a0 (a7 u5 (a7 j9 (Oe 0 0) (Oe 1 1)) (a7 j9 (Oe 0 1) (Oe 1 0))) b9)))))
def ij:a9:=t7 2 (uY)
def sH (B:a9):DM:=(j5 (d8 B (a0 (dV 0) (a0 (dV 1) b9))))
def sS (B:a9):a9:=t7 2 (sH B)
def ph (B:a9):DM:=(j5 (d8 B (a0 (a7 k9 (a7 k9 (a7 j9 (Oe 0 0) (Oe 1 0)) (a7 j9 (Oe 0 1) (Oe 1 1))) (a7 j9 (Oe 0 2) (Oe 1 2))) b9)))
def nB (B:a9):a9:=t7 2 (ph B)
def wc (J:a9) (B:a9):DM:=(j5 (d8 J (a0 (d8 B (a0 (dV 0) (a0 (dV 1) b9))) b9)))
def uw (J:a9) (B:a9):a9:=t7 2 (wc J B)
def fQ (m00:a9):DM:=(f6 (G6 1 (u7 (a0 (i9 (a0 (Od 1) (a0 (Od 0) (a0 (Od 0) (a0 (Od 1) b9))))) (a0 (i9 (a0 (Od 1) (a0 (u6 u8 (Od 1)) (a0 (Od 1) (a0 (Od 1) b9))))) (a0 (i9 (a0 (Od 3) (a0 (u6 u8 (Od 4)) (a0 (Od 4) (a0 (Od 3) b9))))) (a0 (i9 (a0 (Od 1) (a0 (Od 1) (a0 (Od 0) (a0 (Od 1) b9))))) (a0 (i9 (a0 (Od 0) (a0 (u6 u8 (Od 1)) (a0 (Od 1) (a0 (Od 0) b9))))) (a0 (i9 (a0 (Od 2) (a0 (Od 1) (a0 (Od 1) (a0 (Od 1) b9))))) b9)))))))) (f6 (i8 (a7 d5 (dL 1) (d8 m00 (a0 (dV 0) (a0 (Od 6) b9)))) (e7 2)) (f6 (i8 (a7 u5 (d8 m00 (a0 (dV 0) (a0 (Od 19) b9))) (Od 9)) (e7 3)) (f6 (i8 (a7 u5 (d8 m00 (a0 (dV 0) (a0 (Od 19) b9))) (Od 9)) (e7 4)) (j5 (a7 k9 (dL 2) (i9 (a0 (dV 3) (a0 (dV 4) (a0 (a7 d5 (p9 (u7 (a0 (Od 1) (a0 (Od 2) (a0 (Od 3) (a0 (Od 7) b9)))))) (d8 m00 (a0 (dV 0) (a0 (Od 4) b9)))) b9))))))))))
def vj (m00:a9):a9:=t7 5 (fQ m00)
def gQ (B:a9):DM:=(f6 (i8 (a7 k9 (a7 k9 (a7 j9 (Oe 0 0) (dL 1)) (a7 j9 (Oe 0 1) (dL 2))) (Oe 0 4)) (e7 3)) (j5 (d8 B (a0 (dV 3) (a0 (a7 k9 (a7 k9 (a7 j9 (Oe 0 2) (dL 1)) (a7 j9 (Oe 0 3) (dL 2))) (Oe 0 5)) (a0 (Oe 0 6) b9))))))
def sU (B:a9):a9:=t7 4 (gQ B)
def gN (m00:a9):DM:=(f6 (A6 1 2 (a0 (a7 k9 (Od 1) (d8 m00 (a0 (dV 0) (a0 (Od 4) b9)))) (a0 (a7 k9 (Od 1) (d8 m00 (a0 (dV 0) (a0 (Od 4) b9)))) b9))) (f6 (G6 3 (u7 (a0 (i9 (a0 (i9 (a0 (Od 0) (a0 (Od 0) b9))) (a0 (i9 (a0 (dV 1) (a0 (Od 0) b9))) (a0 (i9 (a0 (dV 1) (a0 (dV 2) b9))) (a0 (i9 (a0 (Od 0) (a0 (dV 2) b9))) b9))))) (a0 (i9 (a0 (i9 (a0 (Od 0) (a0 (Od 0) b9))) (a0 (i9 (a0 (dV 1) (a0 (Od 0) b9))) (a0 (i9 (a0 (Od 0) (a0 (dV 2) b9))) b9)))) (a0 (i9 (a0 (i9 (a0 (Od 0) (a0 (Od 0) b9))) (a0 (i9 (a0 (dV 1) (a0 (Od 0) b9))) (a0 (i9 (a0 (dV 1) (a0 (dV 2) b9))) b9)))) b9))))) (f6 (G6 3 (dW jq (dL 3) (p9 (u7 (a0 (i9 (a0 (i9 (a0 (Od 0) (a0 (Od 0) b9))) (a0 (i9 (a0 (dV 1) (a0 (dV 2) b9))) (a0 (i9 (a0 (Od 0) (a0 (dV 2) b9))) b9)))) (a0 (i9 (a0 (i9 (a0 (Od 0) (a0 (Od 0) b9))) (a0 (i9 (a0 (a7 k9 (dL 1) (Od 1)) (a0 (Od 1) b9))) (a0 (i9 (a0 (Od 1) (a0 (a7 k9 (dL 2) (Od 1)) b9))) b9)))) (a0 (i9 (a0 (i9 (a0 (Od 0) (a0 (Od 0) b9))) (a0 (i9 (a0 (dV 1) (a0 (Od 0) b9))) (a0 (i9 (a0 (dV 1) (a0 (dV 2) b9))) (a0 (i9 (a0 (Od 0) (a0 (dV 2) b9))) b9))))) b9))))))) (f6 (K7 3 (i9 (a0 (i9 (a0 (Od 0) (a0 (dV 2) b9))) (a0 (i9 (a0 (dV 1) (a0 (Od 0) b9))) (a0 (i9 (a0 (a7 j9 (Od 2) (dL 1)) (a0 (dV 2) b9))) (a0 (i9 (a0 (dV 1) (a0 (a7 j9 (Od 2) (dL 2)) b9))) b9)))))) (f6 (K7 3 (i9 (a0 (i9 (a0 (Od 0) (a0 (Od 1) b9))) (a0 (i9 (a0 (Od 1) (a0 (Od 0) b9))) (a0 (i9 (a0 (a7 k9 (dL 1) (Od 1)) (a0 (Od 0) b9))) (a0 (i9 (a0 (a7 k9 (dL 1) (Od 2)) (a0 (Od 1) b9))) (a0 (i9 (a0 (a7 k9 (dL 1) (Od 1)) (a0 (Od 2) b9))) (a0 (i9 (a0 (Od 1) (a0 (Od 2) b9))) b9)))))))) (j5 (a7 d5 (dL 3) (d8 m00 (a0 (dV 0) (a0 (Od 8) b9))))))))))
def oE (m00:a9):a9:=t7 4 (gN m00)
abbrev qC (m06:a9):DM:=(o0 (o7 (d8 m06 (a0 (a7 d5 (dL 0) (dL 2)) (a0 (a7 d5 (dL 0) (dL 1)) b9)))) (i8 (dV 2) (e7 1)) p7)
def iD (B:a9):DM:=(f6 (i8 (Od 0) (e7 1)) (f6 (aZ (a0 (l7 (one o6) (a0 (dL 0) b9)) b9) (e7 2) (qC B)) (j5 (l7 (one dH) (a0 (a7 k9 (L9 (dL 0) (R0 (dL 1)) R5) (L9 (dL 0) R5 (R0 (dL 1)))) b9)))))
def uX (B:a9):a9:=t7 3 (iD B)
abbrev bJ (m00:a9) (m0t:a9) (m0u:a9) (m0v:a9):DM:=(f6 (i8 (i9 (a0 (a7 k9 (dL 3) (d8 m00 (a0 (dV 0) (a0 (Od 6) b9)))) (a0 (d8 m00 (a0 (dV 0) (a0 (Od 6) b9))) b9))) (w8 2 (t6 (e7 6) (t6 (e7 7) A1)))) (f6 (G6 8 (R3 [1,6,7] (E7 (d8 m0u (a0 (dV 0) b9))) A5 (d8 m0v (a0 (dV 2) (a0 (a7 k9 (dL 0) (dL 3)) (a0 (a7 k9 (dL 1) (dL 4)) b9)))))) (o0 (u4 (dB (a7 J6 (dL 4) (p9 (u7 b9)))) (dB (a7 E6 (d8 m00 (a0 (dV 0) (a0 (Od 9) b9))) (Od 0)))) (K7 4 (Oe 4 0)) (K7 4 (d8 m0t (a0 (dV 8) b9))))))
def kf (m00:a9) (B:a9) (U:a9) (J:a9):DM:=(f6 (G6 4 (u7 b9)) (f6 (aZ (a0 (a7 k9 (Od 1) (d8 m00 (a0 (dV 0) (a0 (dV 2) b9)))) b9) (e7 5) (bJ m00 B U J)) (j5 (l7 (one dH) (a0 (dL 4) b9)))))
def nE (m00:a9) (B:a9) (U:a9) (J:a9):a9:=t7 9 (kf m00 B U J)
def lW (B:a9) (J:a9):DM:=(j5 (a7 (p8 (fun i j=>decide (j<=i))) (l7 (one lN) (a0 (p9 (R3 [1] (E7 (d8 B (a0 (dV 0) b9))) A5 (d8 J (a0 (dV 0) (a0 (dV 1) (a0 (dV 2) b9)))))) b9)) (Od 0)))
def oS (B:a9) (J:a9):a9:=t7 2 (lW B J)
def ju (B:a9):DM:=(j5 (a7 N6 (dC (.bl true)) (p9 (F9 [1] (E7 (dV 0)) A5 (d8 B (a0 (dV 0) (a0 (dV 1) b9)))))))
def vL (B:a9):a9:=t7 2 (ju B)
abbrev ER (m01:a9):DM:=(o0 (dB (a7 J6 (dL 2) (dL 3))) (j5 (d8 m01 (a0 (dV 2) (a0 (dV 3) b9)))) p7)
def mv (m01:a9):DM:=(f6 (iC (a0 (dV 0) (a0 (dV 1) b9)) (w8 2 (t6 (e7 2) (t6 (e7 3) A1))) (ER m01)) (j5 (a7 (p8 (fun i j=>decide (i<j))) (l7 (one o6) (a0 (dL 0) b9)) (l7 (one o6) (a0 (dL 1) b9)))))
def sK (m01:a9):a9:=t7 4 (mv m01)
abbrev mY (m01:a9) (m0i:a9):DM:=(f6 (K7 3 (a7 d5 (dL 1) (dL 4))) (i8 (a7 k9 (dL 4) (Od 1)) (e7 4)))
abbrev jy (m01:a9) (m0i:a9):DM:=(f6 (O0 (u4 (dB (a7 (p8 (fun i j=>decide (i<j))) (dL 4) (l7 (one o6) (a0 (dL 1) b9)))) (o7 (W4 2 [("is_lesser",m01),("row_goes_ahead",m0i)] (a0 (a7 d5 (dL 1) (dL 4)) (a0 (dV 5) b9))))) (mY m01 m0i)) (K7 3 (dV 5)))
def jW (m01:a9) (B:a9):DM:=(f6 (G6 3 (u7 b9)) (f6 (i8 (Od 0) (e7 4)) (f6 (M6 (dV 0) (e7 5) (jy m01 B)) (j5 (a7 k9 (dL 3) (L9 (dL 1) (R0 (dL 4)) R5))))))
def di (m01:a9) (B:a9):a9:=t7 6 (jW m01 B)
abbrev eS (m0w:a9) (m04:a9):DM:=(o0 (dB (a7 E6 (dL 5) (Od 0))) (K7 3 (a7 d5 (dL 1) (dL 4))) (o0 (dB (a7 E6 (a7 k9 (dL 5) (a7 d5 (dL 2) (a7 u5 (dL 4) (Od 1)))) (Od 0))) (K7 3 (d8 m0w (a0 (dV 0) (a0 (d8 m04 (a0 (a7 d5 (dL 1) (a7 u5 (dL 4) (Od 1))) (a0 (a7 d5 (dL 1) (dL 4)) b9))) b9)))) p7))
def jr (B:a9) (J:a9):DM:=(f6 (G6 3 (u7 b9)) (f6 (dU (a0 (dV 2) b9) (w8 2 (t6 (e7 4) (t6 (e7 5) A1))) (eS B J)) (j5 (dV 3))))
def tS (B:a9) (J:a9):a9:=t7 6 (jr B J)
abbrev qN (m01:a9):DM:=(o0 (u4 (v4 (o7 (d8 m01 (a0 (Oe 0 0) (a0 (dV 2) b9))))) (v4 (o7 (d8 m01 (a0 (dV 3) (a0 (Oe 0 1) b9)))))) (j5 (dC (.bl true))) p7)
def fO (m01:a9):DM:=(f6 (M6 (dV 1) (w8 2 (t6 (e7 2) (t6 (e7 3) A1))) (qN m01)) (j5 (dC (.bl false))))
def qB (m01:a9):a9:=t7 4 (fO m01)
abbrev vG (m0j:a9) (m05:a9) (m02:a9) (m0g:a9) (m01:a9) (m0k:a9) (m0l:a9) (m04:a9):DM:=(o0 (u4 (o7 (d8 m01 (a0 (Oe 3 0) (a0 (dV 10) b9)))) (o7 (d8 m01 (a0 (dV 10) (a0 (Oe 3 1) b9))))) (eU N9 5 10) p7)
abbrev fV (m0j:a9) (m05:a9) (m02:a9) (m0g:a9) (m01:a9) (m0k:a9) (m0l:a9) (m04:a9):DM:=(f6 (G6 8 (F9 [4] (E7 (dV 7)) A5 (d8 m0l (a0 (dV 1) (a0 (dV 0) b9))))) (f6 (i8 (d8 m0k (a0 (dV 4) (a0 (dV 7) (a0 (dV 8) b9)))) (e7 9)) (f6 (M6 (dV 9) (e7 10) (vG m0j m05 m02 m0g m01 m0k m0l m04)) (o0 (u4 (dB (a7 E6 (l7 (one o6) (a0 (dL 9) b9)) (Od 2))) (dB (a7 N6 (u6 u8 (Od 1)) (dL 8)))) (K7 6 (d8 m0g (a0 (Oe 9 0) (a0 (Oe 9 1) b9)))) p7))))
def jI (J:a9) (U:a9) (B:a9) (Y:a9) (m01:a9) (Z:a9) (m0l:a9) (W:a9):DM:=(f6 (i8 (d8 Y (a0 (dV 0) (a0 (dV 1) b9))) (e7 3)) (f6 (i8 (d8 W (a0 (dV 0) (a0 (dV 1) b9))) (e7 4)) (f6 (bF N9 5 0 1) (f6 (G6 6 (u7 b9)) (f6 (M6 (dV 2) (e7 7) (fV J U B Y m01 Z m0l W)) (f6 (i8 (d8 U (a0 (d8 B (a0 (p9 (aK 5)) (a0 (dC (.fn "is_lesser")) b9))) (a0 (dC (.bl false)) b9))) (e7 11)) (f6 (G6 12 (iL [6] (F9 [6] (E7 (dV 11)) (v4 (o7 (d8 J (a0 (dV 0) (a0 (dV 1) b9))))) (dV 0)))) (f6 (o0 (dB (a7 E6 (Oe 3 0) (dL 0))) (j5 (dV 12)) p7) (j5 (p9 (R3 [] (E7 (dV 12)) A5 (i9 (a0 (dV 1) (a0 (dV 0) b9))))))))))))))
def ul (U:a9) (W:a9) (J:a9) (m0g:a9) (m01:a9) (B:a9) (Z:a9) (Y:a9):a9:=t7 13 (jI U W J m0g m01 B Z Y)
abbrev kv (m02:a9) (m0e:a9) (m0f:a9):DM:=(eU br 1 5)
abbrev lw (m02:a9) (m0e:a9) (m0f:a9):DM:=(M6 (d8 m0e (a0 (dV 3) (a0 (dV 4) (a0 (dV 0) b9)))) (e7 5) (kv m02 m0e m0f))
abbrev jN (m02:a9) (m0e:a9) (m0f:a9):DM:=(M6 (d8 m0f (a0 (dV 2) b9)) (w8 2 (t6 (e7 3) (t6 (e7 4) A1))) (lw m02 m0e m0f))
def jJ (B:a9) (U:a9) (J:a9):DM:=(f6 (me 1) (f6 (M6 (dV 0) (e7 2) (jN B U J)) (j5 (d8 B (a0 (p9 (aK 1)) (a0 (dC (.fn "row_goes_ahead")) b9))))))
def qO (B:a9) (U:a9) (J:a9):a9:=t7 6 (jJ B U J)
def gF:DM:=(f6 (i8 (a7 aW (Od 10) (Od 60)) (e7 4)) (f6 (i8 (a7 u5 (a7 j9 (Oe 1 0) (Oe 0 2)) (a7 j9 (Oe 0 0) (Oe 1 2))) (e7 5)) (f6 (i8 (a7 u5 (a7 j9 (Oe 1 1) (Oe 0 2)) (a7 j9 (Oe 0 1) (Oe 1 2))) (e7 6)) (j5 (i9 (a0 (a7 u5 (a7 j9 (Oe 2 0) (dL 4)) (a7 j9 (a7 j9 (dL 3) (dL 6)) (Oe 2 2))) (a0 (a7 k9 (a7 j9 (Oe 2 1) (dL 4)) (a7 j9 (a7 j9 (dL 3) (dL 5)) (Oe 2 2))) (a0 (a7 j9 (Oe 2 2) (dL 4)) b9))))))))
def F1:a9:=t7 7 (gF)
def mM (Y:a9) (U:a9) (B:a9) (W:a9) (m00:a9) (J:a9):DM:=(f6 (i8 (a7 d5 (dL 1) (d8 m00 (a0 (dV 0) (a0 (l7 (one o6) (a0 (dL 1) b9)) b9)))) (e7 3)) (f6 (i8 (a7 d5 (d8 J (a0 (dV 3) b9)) (d8 m00 (a0 (dV 0) (a0 (l7 (one o6) (a0 (dL 3) b9)) b9)))) (w8 2 (t6 (e7 4) (t6 (e7 5) A1)))) (f6 (i8 (d8 m00 (a0 (dV 0) (a0 (Od 13) b9))) (e7 6)) (f6 (i8 (a7 k9 (a7 j9 (a7 j9 (a7 u5 (Od 12) (dL 6)) (Oe 4 0)) (Oe 5 2)) (a7 j9 (a7 j9 (dL 6) (Oe 5 0)) (Oe 4 2))) (e7 7)) (f6 (i8 (d8 W (a0 (dV 7) (a0 (a7 k9 (a7 j9 (a7 j9 (a7 u5 (Od 12) (dL 6)) (Oe 4 1)) (Oe 5 2)) (a7 j9 (a7 j9 (dL 6) (Oe 5 1)) (Oe 4 2))) (a0 (a7 j9 (a7 j9 (Od 12) (Oe 4 2)) (Oe 5 2)) b9)))) (e7 8)) (f6 (o0 (dB (a7 N6 (dC (.bl true)) (p9 (R3 [8] (E7 (dV 2)) A5 (d8 B (a0 (dV 0) (a0 (dV 1) (a0 (dV 2) b9)))))))) (j5 (dC (.bl true))) p7) (j5 (a7 Z2 (dC (.bl false)) (p9 (F9 [1,4,5,8] (E7 (i9 (a0 (Od 1) (a0 (u6 u8 (Od 1)) b9)))) A5 (d8 Y (a0 (dV 1) (a0 (d8 U (a0 (dV 2) (a0 (dV 3) (a0 (dV 4) (a0 (dV 0) b9))))) b9)))))))))))))
def wv (Y:a9) (U:a9) (B:a9) (W:a9) (m00:a9) (J:a9):a9:=t7 9 (mM Y U B W m00 J)
abbrev nF (m08:a9) (m09:a9) (m07:a9):DM:=(f6 (o0 (v4 (o7 (d8 m08 (a0 (dV 0) (a0 (d8 m09 (a0 (dV 1) (a0 (dV 2) (a0 (dV 4) (a0 (Od 1) b9))))) b9))))) (j5 (dC (.bl false))) p7) (o0 (o7 (d8 m08 (a0 (dV 0) (a0 (d8 m09 (a0 (dV 1) (a0 (dV 2) (a0 (dV 4) (a0 (u6 u8 (Od 1)) b9))))) b9)))) (j5 (dC (.bl false))) p7))
def gD (J:a9) (U:a9) (B:a9):DM:=(f6 (i8 (d8 B (a0 (dV 1) (a0 (dV 2) b9))) (e7 3)) (f6 (M6 (i9 (a0 (dV 3) (a0 (d8 B (a0 (dV 1) (a0 (dV 3) b9))) (a0 (d8 B (a0 (dV 3) (a0 (dV 2) b9))) b9)))) (e7 4) (nF J U B)) (j5 (dC (.bl true)))))
def pN (B:a9) (U:a9) (J:a9):a9:=t7 5 (gD B U J)
def mC (B:a9) (J:a9):DM:=(f6 (G6 2 (u7 (a0 (Oe 0 0) (a0 (Oe 0 1) (a0 (d8 J (a0 (Oe 0 0) (a0 (Oe 0 1) b9))) b9))))) (j5 (a7 (p8 (fun i j=>decide (j<i))) (l7 (one o6) (a0 (p9 (F9 [1] (E7 (dV 2)) (u4 (dB (a7 Z2 (dL 0) (dL 1))) (o7 (d8 B (a0 (Oe 1 0) (a0 (Oe 1 1) (a0 (dV 0) b9)))))) (dV 0))) b9)) (Od 0))))
def po (B:a9) (J:a9):a9:=t7 3 (mC B J)
abbrev iT (m0h:a9) (m00:a9) (m0m:a9) (m0n:a9) (m0o:a9) (m0p:a9) (m0q:a9) (m0r:a9):DM:=(o0 (v4 (o7 (d8 m0m (a0 (dV 1) (a0 (dV 2) (a0 (dV 3) b9)))))) (j5 (dC (.bl false))) p7)
abbrev iI (m0h:a9) (m00:a9) (m0m:a9) (m0n:a9) (m0o:a9) (m0p:a9) (m0q:a9) (m0r:a9):DM:=(f6 (A6 5 6 (a0 (a7 d5 (dL 3) (dL 4)) (a0 (a7 d5 (dL 3) (d8 m00 (a0 (dV 1) (a0 (l7 (one o6) (a0 (dL 3) b9)) b9)))) b9))) (o0 (u4 (dB (a7 J6 (dL 5) (dL 6))) (C2 (o7 (d8 m0h (a0 (dV 5) (a0 (dV 6) b9)))) (o7 (d8 m0h (a0 (dV 6) (a0 (dV 5) b9)))))) (j5 (dC (.bl false))) p7))
def mF (Z:a9) (m00:a9) (m0m:a9) (Y:a9) (J:a9) (U:a9) (B:a9) (W:a9):DM:=(f6 (i8 (d8 W (a0 (dV 0) b9)) (e7 1)) (f6 (i8 (d8 U (a0 (dV 1) (a0 (d8 B (a0 (dV 1) b9)) (a0 (Od 4) (a0 (Od 0) b9))))) (e7 2)) (f6 (i8 (d8 J (a0 (dV 2) b9)) (e7 3)) (f6 (o0 (C2 (dB (a7 N6 (dC (.bl false)) (p9 (R3 [2] (E7 (dV 3)) A5 (d8 Y (a0 (dV 2) (a0 (dV 0) (a0 (dV 1) b9)))))))) (dB (a7 E6 (dL 3) (p9 (u7 b9))))) (j5 (dC (.bl false))) p7) (f6 (aZ (a0 (Od 8) b9) (e7 4) (iT Z m00 m0m Y J U B W)) (f6 (aZ (a0 (l7 (one o6) (a0 (dL 3) b9)) b9) (e7 4) (iI Z m00 m0m Y J U B W)) (j5 (dC (.bl true)))))))))
def gR (U:a9) (m00:a9) (Y:a9) (m0n:a9) (J:a9) (W:a9) (B:a9) (Z:a9):a9:=t7 7 (mF U m00 Y m0n J W B Z)
end T
namespace DL
open PySem L2
def fk (hk:0<k) (h:n<2 ^ k):n.log2<k:=by
 by_cases B:n=0
 .subst B;simpa using hk
 .exact(Nat.log2_lt B).mpr h
def iw {i:Int}(h:i.natAbs<2 ^ 200):C8 i=true:=by
 have:=fk #[] h;exact IH ∅
def Eh {j:Int}(B:j≠0) (h:j.natAbs<2 ^ 200):L8 j=true:=by
 have:=fk #[] h;unfold L8;rw[IH B,Lv];exact IH ∅
def wf (i:Int):u3 (.int i)=true:=by simp[u3,D.plain,D.py,SeqAt.shaped,PyData.canLay0,PyData.depth]
def bW (i j:Int):J6 (.int i) (.int j)=some (.bl (!decide (i=j))):=by
 simp only[J6,wf,Js,IC,D.py,PyData.eqv,Lw]
def bi (i j:Int):E6 (.int i) (.int j)=some (.bl (decide (i=j))):=by
 simp only[E6,wf,Js,IC,D.py,PyData.eqv,Lw]
def Ab {i:Int}(h:i.natAbs.log2<1920):(PySem.Str.ofString (toString i)).length<=1921:=PyProof.Rows.int_text_len_1921 h
def lG {α:Type}{xs:List α}{i:Int}(B:0<=i) (h1:i<xs.length):v5 xs i=xs[i.toNat]?:=by
 unfold v5 P5;rw[fx B,fx h1];rfl
def Y2 {a b:Int}(h:0<b):0<=a.fmod b/\a.fmod b<b:=by
 rw[Ml a ∅];exact#[Int.emod_nonneg a ∅,Int.emod_lt_of_pos a h]
def B6 {a b:DM}{s:DS}(h:a s=some (.next,s1)):f6 a b s=b s1:=by simp[f6,h,B2]
def aQ {a b:DM}{s:DS}(h:a s=some (.ret d,s1)):f6 a b s=some (.ret d,s1):=by simp[f6,h,B2]
def fS {a:DA}{s:DS}{xs:vD_}{fs:vO_}(ha:a s=some (xs,s1)) (hm:m xs s1.fs=some (d,fs)):d8 m a s=some (d,{ s1 with fs:=fs }):=by
 unfold d8;rw[ha,td,hm];rfl
def c8 {p:D->D->Option D}{a b:DE}{s:DS}{x y z:D}(h1:a s=some (x,s1)) (h2:b s1=some (y,s2)) (B:p x y=some z):a7 p a b s=some (z,s2):=by
 unfold a7;rw[h1,td,h2,td,B];rfl
def G4 {a:DE}{b:DA}{s:DS}{x:D}{xs:vD_}(h1:a s=some (x,s1)) (h2:b s1=some (xs,s2)):a0 a b s=some (x::xs,s2):=by
 unfold a0;rw[h1,td,h2];rfl
def B1 {f:DE}{t:D->DS->Option DS}{s:DS}(h1:f s=some (d,s1)) (h2:t d s1=some s2):i8 f t s=some (.next,s2):=by
 unfold i8;rw[h1,td,h2];rfl
def P8 {c:DT}{a b:DM}{s:DS}(h:c s=some (true,s1)):o0 c a b s=a s1:=by simp[o0,h]
def N3 {c:DT}{a b:DM}{s:DS}(h:c s=some (false,s1)):o0 c a b s=b s1:=by simp[o0,h]
def B0 {f:DE}{s:DS}(h:f s=some (d,s1)):j5 f s=some (.ret d,s1):=by simp[j5,h]
def ae {p:D->D->Option D}{a b:DE}{s:DS}{x y:D}(h1:a s=some (x,s1)) (h2:b s1=some (y,s2)) (B:p x y=some d):a7 p a b s=some (d,s2):=by simp[a7,h1,h2,B]
def J0 {f:DE}{s:DS}{b:Bool}(h:f s=some (.bl b,s1)):dB f s=some (b,s1):=by simp[dB,h]
def u9 {b:DM}{fs:vO_}{s:DS}(h:b #[ds.map .v++List.replicate (n - ds.length) .no,fs]=some (.ret d,s)):t7 n b ds fs=some (d,s.fs):=by simp[t7,h]
def r8 {a:DA}{fs:vO_}{xs:vD_}(ha:a #[sl,fs]=some (xs,#[sl,fs])) (hm:m xs fs=some (d,fs)):d8 m a #[sl,fs]=some (d,#[sl,fs]):=fS (s1:=#[sl,fs]) ha hm
def K8 {a:DA}{fs:vO_}{xs:vD_}(ha:a #[sl,fs]=some (xs,#[sl,fs])) (hm:m xs fs=some (d,fs')):d8 m a #[sl,fs]=some (d,#[sl,fs']):=fS (s1:=#[sl,fs]) ha hm
def iX {a:DA}{fs B:vO_}{xs:vD_}(ha:a #[sl,fs]=some (xs,#[sl',fs'])) (hm:m xs fs'=some (d,B)):d8 m a #[sl,fs]=some (d,#[sl',B]):=fS (s1:=#[sl',fs']) ha hm
def yI {a b c:DE}{s B:DS}{x y z:D}(h1:a s=some (x,s1)) (h2:b s1=some (y,s2)) (J:c s2=some (z,B)):i9 (a0 a (a0 b (a0 c b9))) s=some (.tup [x,y,z],B):=by
 unfold i9;rw[G4 h1 (G4 h2 (G4 J rfl)),td];exact fx (e:=(none:Option (D × DS))) (show 3<=sizeLine by decide)
def Q3 {t:D->DS->Option DS}{b:DM}{r:vD_}{s:DS}(h1:t d s=some s1) (h2:b s1=some (.next,s2)):A2 t b (d::r) s=A2 t b r s2:=by
 rw[A2,h1,td,h2];rfl
def lE {a b:DE}{s:DS}{x y:D}(h1:a s=some (x,s1)) (h2:b s1=some (y,s2)):i9 (a0 a (a0 b b9)) s=some (.tup [x,y],s2):=by
 unfold i9;rw[G4 h1 (G4 h2 rfl),td];exact fx (e:=(none:Option (D × DS))) (show 2<=sizeLine by decide)
def R4 {f:DE}{s:DS}{b:Bool}(h:f s=some (.bl b,s1)):o7 f s=some (b,s1):=by
 unfold o7;rw[h];rfl
def fu {a:DT}{s:DS}{b:Bool}(h:a s=some (b,s1)):v4 a s=some (!b,s1):=by
 unfold v4;rw[h];rfl
def X6 {a b:DT}{s:DS}{r:Option (Bool × DS)}(h1:a s=some (true,s1)) (h2:b s1=r):u4 a b s=r:=by
 unfold u4;rw[h1,td,fx rfl];exact h2
def bv {a b:DT}{s:DS}(h1:a s=some (false,s1)):u4 a b s=some (false,s1):=by
 unfold u4;rw[h1,td,fI Io]
def Y5 {c:DT}{s:DS}(h:c s=some (false,s1)):o0 c a p7 s=some (.next,s1):=by
 rw[N3 h];rfl
def W7 {s:DS}(h:f s=some (ds,s1)) (hi:i<s1.sl.length):G6 i f s=some (.next,{ s1 with sl:=s1.sl.set i (.own ds) }):=by
 unfold G6;rw[h,td,fx hi]
def dJ {s:DS}{R:vD_}(h:fi s=some (ds,s1)) (hz:ds.length<=sizeLine) (c:A3 (P7 idx s1.sl) fc fe ds s1.fs=some (R,fs')):R3 idx fi fc fe s=some (R,{ s1 with fs:=fs' }):=by
 unfold R3;rw[h,td,fx hz,c];rfl
def aS {s:DS}(h:f s=some (ds,s1)):p9 f s=some (.lst ds,s1):=by
 unfold p9;rw[h];rfl
def xK {s:DS}{R:vD_}(h:fi s=some (ds,s1)) (hz:ds.length<=sizeLine) (c:A3 (fun d=>some (.v d::K2 idx s1.sl)) fc fe ds s1.fs=some (R,s1.fs)):F9 idx fi fc fe s=some (R,s1):=by
 unfold F9;rw[h,td,fx hz,c];rfl
def W8 {f:DE}{s:DS}{ds0:vD_}(B:s.sl[i]? = some (.own ds0)) (h:f s=some (d,s1)) (h1:s1.sl[i]? = some (.own ds)) (hl:ds.length<sizeLine):K7 i f s=some (.next,{ s1 with sl:=s1.sl.set i (.own (ds++[d])) }):=by
 unfold K7;rw[B];show (f s).bind _=_;rw[h,td];show (match s1.sl[i]? with | some (.own ds)=>_ | _=>_)=_;rw[h1];exact fx hl
def aU {p:D->Option D}{a:DE}{s:DS}{x:D}(h:a s=some (x,s1)) (hp:p x=some d):l7 (one p) (a0 a b9) s=some (d,s1):=by
 unfold l7;rw[G4 h rfl,td];show (p x).map _=_;rw[hp];rfl
def fr (p:Rat):D:=.tup [.int p.num,.int p.den]
def Sz (k:Nat) (p:Rat):Prop:=p.num.natAbs<2 ^ k/\p.den<2 ^ k
def Sz.mono {l:Nat}{p:Rat}(h:Sz k p) (hl:k<=l):Sz l p:=
 #[Iy h.1 (MU #[] hl),Iy h.2 (MU #[] hl)]
def wD {a b:Int}(hb:b≠0):(Rat.divInt a b).num.natAbs<=a.natAbs/\(Rat.divInt a b).den<=b.natAbs:=by
 constructor
 .rw[Rat.num_divInt,Int.natAbs_ediv_of_dvd (Int.dvd_mul_of_dvd_right (MV ..))];rw[Mm,Int.natAbs_sign_of_ne_zero hb,Nat.one_mul];exact Nat.div_le_self _ _
 .rw[Rat.den_divInt,fI hb];exact Nat.div_le_self _ _
def Sz.of_divInt {a b:Int}(hb:b≠0) (h1:a.natAbs<2 ^ k) (h2:b.natAbs<2 ^ k):Sz k (Rat.divInt a b):=
 #[Ja (wD hb).1 h1,Ja (wD hb).2 h2]
def pF {a b l:Nat}(h1:a<2 ^ k) (h2:b<2 ^ l):a*b<2 ^ (k+l):=by
 rw[Nat.pow_add];exact Nat.mul_lt_mul_of_lt_of_lt h1 h2
def xF {a b:Nat}(h1:a<2 ^ k) (h2:b<2 ^ k):a+b<2 ^ (k+1):=by
 rw[MW];omega
def Bd (k:Nat) (i:Int):Prop:=i.natAbs<2 ^ k
def Bd.mono {l:Nat}{i:Int}(h:Bd k i) (hl:k<=l):Bd l i:=Iy h (MU #[] hl)
def Bd.mul {l:Nat}{i j:Int}(h1:Bd k i) (h2:Bd l j):Bd (k+l) (i*j):=by
 unfold Bd;rw[Mm];exact pF h1 h2
def Bd.add {l:Nat}{i j:Int}(h1:Bd k i) (h2:Bd l j):Bd (max k l+1) (i+j):=
 Ja (Int.natAbs_add_le i j) (xF (h1.mono (Nat.le_max_left ..)) (h2.mono (Nat.le_max_right ..)))
def Bd.neg {i:Int}(h1:Bd k i):Bd k (-i):=by unfold Bd;rw[Lx];exact h1
def Bd.sub {l:Nat}{i j:Int}(h1:Bd k i) (h2:Bd l j):Bd (max k l+1) (i - j):=by rw[Int.sub_eq_add_neg];exact h1.add h2.neg
theorem Bd.gcd {i:Int}{j:Int}(h:Bd k j) (B:j≠0):Bd k (Int.gcd i j:Int):=by
 have:Int.gcd i j<=j.natAbs:=Nat.le_of_dvd ∅ (Nat.gcd_dvd_right i.natAbs j.natAbs);exact Ja this h
def Bd.bits {i:Int}(h:Bd k i) (hk:k<=8000):C8 i=true:=by
 have:=fk (k:=8000) #[] (h.mono hk);exact IH ∅
def Bd.div {i:Int}(h:Bd k i) (B:i≠0) (hk:k<=8000):L8 i=true:=by
 have:=fk (k:=8000) #[] (h.mono hk);unfold L8;rw[IH B,Lv];exact IH ∅
def Bd.lit {i:Int}(h:decide (i.natAbs<2 ^ k)=true):Bd k i:=by unfold Bd;exact JC h
theorem Sz.num {p:Rat}(h:Sz k p):Bd k p.num:=h.1
def Dz (p:Rat):(p.den:Int)≠0:=by have:=p.den_nz;omega
def GH (p:Rat):(0:Int)<p.den:=by have:=p.den_nz;omega
end DL
namespace T
open PySem L2 DL
abbrev gT:DT:=dB (a7 J6 (dL 3) (Od 0))
abbrev gB:DM:=f6 (i8 (a7 C1 (dL 2) (dL 3)) (e7 4)) (f6 (i8 (dV 3) (e7 2)) (i8 (dV 4) (e7 3)))
def sk (a b:Sl) (g r:Int) (x:Sl) (fs:vO_):gT #[[a,b,.v (.int g),.v (.int r),x],fs]=some (!decide (r=0),#[[a,b,.v (.int g),.v (.int r),x],fs]):=by
 simp[dB,a7,dL,dC,Od,Oe,bW]
def Ey (a b:Sl) (g r:Int) (x:Sl) (fs:vO_) (h:r≠0):gB #[[a,b,.v (.int g),.v (.int r),x],fs] =
  some (.next,#[[a,b,.v (.int r),.v (.int (g.fmod r)),.v (.int (g.fmod r))],fs]):=by
 simp[f6,B2,i8,a7,dL,dV,e7,C1,h]
def FU (a b:Sl) (fs:vO_) (r:Nat):∀(g:Nat) (x:Sl),∃y,O0 gT gB #[[a,b,.v (.int g),.v (.int r),x],fs]=some (.next,#[[a,b,.v (.int (Nat.gcd g r)),.v (.int 0),y],fs]):=by
 induction r using Nat.strongRecOn with
 |ind r U=>
  intro g x;by_cases h:r=0
  .subst h;refine#[x,?_];rw[Nat.gcd_zero_right];exact gm (by rw[sk];rfl)
  .have e:((g:Int).fmod (r:Int))=((g % r:Nat):Int):=by rw[Ml _ ∅];rfl
   obtain⟨y,B⟩:=U (g % r) (IV _ ∅) r (.v (.int ((g:Int).fmod (r:Int))));refine#[y,?_];have J:Nat.gcd g r=Nat.gcd r (g % r):=by rw[Mn g r,Nat.gcd_rec,Mn]
   rw[J];refine kH (s1:=#[[a,b,.v (.int g),.v (.int r),x],fs]) (by rw[sk,Jc ∅];rfl) (Ey _ _ _ _ _ _ ∅) ?_;rw[e] at B ⊢;exact B
def mB (a:Int):(if a<0 then -a else a)=((a.natAbs:Nat):Int):=by split <;> omega
def CD (a b:Int) (fs:vO_):T2 [.int a,.int b] fs=some (.int (Int.gcd a b),fs):=by
 obtain⟨y,B⟩:=FU (.v (.int a)) (.v (.int b)) fs b.natAbs a.natAbs .no;refine u9 (s:=#[[.v (.int a),.v (.int b),.v (.int (Int.gcd a b)),.v (.int 0),y],fs]) ?_;show gY #[[.v (.int a),.v (.int b),.no,.no,.no],fs]=_;unfold gY;rw[B6 (s1:=#[[.v (.int a),.v (.int b),.v (.int a.natAbs),.no,.no],fs]) (by simp[i8,l7,a0,b9,dL,one,W3,e7,mB])];rw[B6 (s1:=#[[.v (.int a),.v (.int b),.v (.int a.natAbs),.v (.int b.natAbs),.no],fs]) (by simp[i8,l7,a0,b9,dL,one,W3,e7,mB])];rw[B6 B];exact B0 (by simp[dV,Int.gcd])
def zI (a:Int):Int.gcd 0 a=a.natAbs:=by simp[Int.gcd]
def yM (a b:Int):Int.gcd ((a.natAbs:Nat):Int) b=Int.gcd a b:=by simp[Int.gcd]
def jz (P:D) (acc x:Int) (x2:Sl) (r:vD_) (fs:vO_):A2 (e7 2) (eN T2) (.int x::r) #[[.v P,.v (.int acc),x2],fs]=A2 (e7 2) (eN T2) r #[[.v P,.v (.int (Int.gcd acc x)),.v (.int x)],fs]:=Q3 (s1:=#[[.v P,.v (.int acc),.v (.int x)],fs]) rfl (B1 (r8 rfl (CD acc x fs)) rfl)
def EM {g:Int}{fs:vO_}(h:A2 (e7 2) (eN T2) ds #[[.v (.tup ds),.v (.int 0),.no],fs]=some (.next,#[[.v (.tup ds),.v (.int g),x2],fs])):bM T2 [.tup ds] fs=some (.int g,fs):=by
 refine u9 (s:=#[[.v (.tup ds),.v (.int g),x2],fs]) ?_;show gy T2 #[[.v (.tup ds),.no,.no],fs]=_;unfold gy;have B:M6 (dV 0) (e7 2) (eN T2) #[[.v (.tup ds),.v (.int 0),.no],fs]=some (.next,#[[.v (.tup ds),.v (.int g),x2],fs]):=h;rw[B6 (s1:=#[[.v (.tup ds),.v (.int 0),.no],fs]) (B1 rfl rfl),B6 B];exact B0 rfl
def Er (a b c:Int) (fs:vO_):bM T2 [.tup [.int a,.int b,.int c]] fs=some (.int (Int.gcd (Int.gcd a b:Int) c),fs):=EM (x2:=.v (.int c)) (by
 rw[jz,jz,jz,zI,yM];rfl)
def dj {a g c:Int}(B:g≠0) (e:a=g*c):a.fdiv g=c:=by subst e;exact Int.mul_fdiv_cancel_left c B
def zO {a b:Int}(hb:b≠0) (h:Bd k b) (hk:k<=8000):L8 (if b<0 then -(Int.gcd a b:Int) else (Int.gcd a b:Int))=true:=by
 have B:0<Int.gcd a b:=NP a hb;split
 .exact(Bd.gcd h hb).neg.div ∅ hk
 .exact(Bd.gcd h hb).div ∅ hk
def jm:(2:Nat)<=sizeLine:=by decide
def Fg (a b c:D):v5 [a,b,c] (-1)=some c:=mV [a,b] c
def mI (a b c:D):v5 [a,b,c] 0=some a:=rfl
def mS (a b c:D):v5 [a,b,c] 1=some b:=rfl
def kR (a b c:D):v5 [a,b,c] 2=some c:=rfl
abbrev FL:a9:=uc (bM T2)
theorem qx {B:Int}(J:L8 B=true) (fs:vO_):∀xs:List Int,A3 (fun d=>some [.v d,.v (.int B)]) A5 (a7 G8 (dL 0) (dL 1)) (xs.map .int) fs=some (xs.map (fun x=>.int (x.fdiv B)),fs)
 |[]=>rfl
 |x::r=>by
  have e:a7 G8 (dL 0) (dL 1) #[[.v (.int x),.v (.int B)],fs]=some (.int (x.fdiv B),#[[.v (.int x),.v (.int B)],fs]):=c8 rfl rfl (fx J);have U:=qx J fs r;rw[Iv,A3,td];show ((a7 G8 (dL 0) (dL 1) #[[.v (.int x),.v (.int B)],fs]).bind _)=_;rw[e,td];show (A3 _ A5 _ (r.map .int) fs).map _=_;rw[U];rfl
def yv {d g:Int}(h:v5 ds (-1)=some (.int d)) (fs:vO_):o0 (dB (a7 (p8 (fun i j=>decide (i<j))) (a7 d5 (dL 0) (u6 u8 (Od 1))) (Od 0))) (i8 (u6 u8 (dL 1)) (e7 1)) p7 #[[.v (.tup ds),.v (.int g)],fs]=some (.next,#[[.v (.tup ds),.v (.int (if d<0 then -g else g))],fs]):=by
 have t:dB (a7 (p8 (fun i j=>decide (i<j))) (a7 d5 (dL 0) (u6 u8 (Od 1))) (Od 0)) #[[.v (.tup ds),.v (.int g)],fs]=some (decide (d<0),#[[.v (.tup ds),.v (.int g)],fs]):=J0 (c8 (c8 rfl rfl (show d5 (.tup ds) (.int (-1))=some (.int d) from h)) rfl rfl);by_cases B:d<0
 .rw[IH B] at t;rw[fx B,P8 t];rfl
 .rw[Jc B] at t;rw[fI B,N3 t];rfl
def BB {xs:List Int}{d g:Int}(fs:vO_) (hl:xs.length<=10) (J:bM T2 [.tup (xs.map .int)] fs=some (.int g,fs)) (h:v5 (xs.map D.int) (-1)=some (.int d)) (Y:L8 (if d<0 then -g else g)=true):FL [.tup (xs.map .int)] fs=some (.tup (xs.map fun x=>.int (x.fdiv (if d<0 then -g else g))),fs):=by
 have U:=yv (g:=g) h fs;have B:=qx Y fs xs;have W:(xs.map D.int).length<=sizeLine:=Ij (by rw[xo];exact hl) (show 10<=sizeLine by decide);generalize xs.map D.int=ds at *;generalize (if d<0 then -g else g)=gg at *;refine u9 (s:=#[[.v (.tup ds),.v (.int gg)],fs]) ?_;show mD (bM T2) #[[.v (.tup ds),.no],fs]=_;unfold mD;rw[B6 (s1:=#[[.v (.tup ds),.v (.int g)],fs]) (B1 (r8 rfl J) rfl),B6 U];exact B0 (aU (p:=dH) (aS (xK (idx:=[1]) (ds:=ds) (s1:=#[[.v (.tup ds),.v (.int gg)],fs]) rfl W B)) rfl)
def GC (a:Int) {b:Int}(h:L8 b=true):G8 (.int a) (.int b)=some (.int (a.fdiv b)):=by simp[G8,h]
def Y4 {a b:Int}(h1:C8 a=true) (h2:C8 b=true):j9 (.int a) (.int b)=some (.int (a*b)):=by simp[j9,h1,h2]
def mX {α:Type}{xs:List α}{r:Int}(B:0<=r) (h1:r<xs.length):∃x,x∈xs/\v5 xs r=some x:=by
 refine#[xs[r.toNat]'∅,KO _,?_];rw[lG B h1,Jg]
end T
namespace DL
open PySem L2
abbrev Pt:=Rat × Rat
variable {Ss Os:List (List Pt)}{a p:Pt}{u:Pt × Pt}{Cv:List (Pt × Pt)}
abbrev vT_:=List Pt
variable {C L:vT_}
def pL (a:Pt):Int:=((Nat.lcm a.1.den a.2.den:Nat):Int)
def pX (a:Pt):Int:=a.1.num*((Nat.lcm a.1.den a.2.den / a.1.den:Nat):Int)
def pY (a:Pt):Int:=a.2.num*((Nat.lcm a.1.den a.2.den / a.2.den:Nat):Int)
def pt (a:Pt):D:=.tup [.int (pX a),.int (pY a),.int (pL a)]
theorem lcm_pos (p q:Rat):0<Nat.lcm p.den q.den:=Nat.lcm_pos (by have:=p.den_nz;omega) (by have:=q.den_nz;omega)
def V2 (a:Pt):0<pL a:=by have:=lcm_pos a.1 a.2;unfold pL;omega
def Cd (a:Pt):pL a≠0:=by have:=V2 a;omega
def E5 (a:Pt):(0:Rat)<(pL a:Rat):=Rat.intCast_pos.mpr (V2 a)
def eP (a:Pt):(pL a:Rat)≠0:=fun h=>Cd a (KP.mp h)
def mN (p:Rat):(p.num:Rat)=p*((p.den:Int):Rat):=by
 have e:=Rat.num_divInt_den p;rw[Kc] at e;have B:((p.den:Int):Rat)≠0:=fun h=>Dz p (KP.mp h)
 have:(p.num:Rat) / ((p.den:Int):Rat)*((p.den:Int):Rat)=(p.num:Rat):=Jm B;rw[e] at this;exact this.symm
theorem K5 (a:Pt):(pX a:Rat)=a.1*(pL a:Rat):=by
 unfold pX pL;obtain⟨c,B⟩:=Nat.dvd_lcm_left a.1.den a.2.den;have J:=a.1.den_nz;have e:Nat.lcm a.1.den a.2.den / a.1.den=c:=NQ ∅ B;rw[e,B,Ly,Ih,Ih,mN];grind
theorem K4 (a:Pt):(pY a:Rat)=a.2*(pL a:Rat):=by
 unfold pY pL;obtain⟨c,B⟩:=Nat.dvd_lcm_right a.1.den a.2.den;have J:=a.2.den_nz;have e:Nat.lcm a.1.den a.2.den / a.2.den=c:=NQ ∅ B;rw[e,B,Ly,Ih,Ih,mN];grind
theorem gC {x d:Int}{p:Rat}(Y:0<d) (h:(x:Rat)=p*(d:Rat)):∃c:Int,d=p.den*c/\x=p.num*c:=by
 have h1:x*p.den=p.num*d:=by
  have e:=mN p;have:((x*p.den:Int):Rat)=((p.num*d:Int):Rat):=by
   rw[Ih,Ih,h,e];grind
  exact MX.mp this
 have W:(p.den:Int)∣p.num*d:=#[x,by rw[<-h1,Lz]]
 have J:p.den∣p.num.natAbs*d.natAbs:=by
  have:=Int.natAbs_dvd_natAbs.mpr W
  rwa [Mm,Int.natAbs_natCast] at this
 have B:p.den∣d.natAbs:=Nat.Coprime.dvd_of_dvd_mul_left (Nat.Coprime.symm p.reduced) J;obtain⟨c,U⟩:(p.den:Int)∣d:=Int.dvd_natAbs.mp (KQ.mpr B);refine#[c,U,?_];have hp:=GH p;have:(p.den:Int)*x=p.den*(p.num*c):=by rw[Lz,h1,U];grind
 exact Int.eq_of_mul_eq_mul_left ∅ this
theorem vq {x d:Int}(B:0<d) (hg:Int.gcd (Int.gcd x y:Int) d=1) (Z:(x:Rat)=a.1*(d:Rat)) (Y:(y:Rat)=a.2*(d:Rat)):x=pX a/\y=pY a/\d=pL a:=by
 obtain⟨c1,e1,f1⟩:=gC B Z;obtain⟨c2,e2,f2⟩:=gC B Y;obtain⟨D,rfl⟩:=KR (show 0<=d by omega);have dl:Nat.lcm a.1.den a.2.den∣D:=Nat.lcm_dvd (KQ.mp #[c1,e1]) (KQ.mp #[c2,e2]);obtain⟨m,hm⟩:=dl;have key:∀z:Int,∀r:Rat,(z:Rat)=r*((D:Int):Rat)->∀w:Int,(w:Rat)=r*(pL a:Rat)->z=w*m:=by
  intro z r h1 w h2;have:(z:Rat)=((w*m:Int):Rat):=by
   rw[h1,Ih,h2,hm];have:(((Nat.lcm a.1.den a.2.den*m:Nat):Int):Rat)=(pL a:Rat)*((m:Int):Rat):=by
    rw[Ly,Ih];rfl
   rw[this];grind
  exact MX.mp this
 have U:=key x a.1 Z (pX a) (K5 a);have W:=key y a.2 Y (pY a) (K4 a);have J:(D:Int)=pL a*m:=by rw[hm,Ly];rfl
 have m1:(m:Int)∣1:=by
  have h:(m:Int)∣(Int.gcd (Int.gcd x y:Int) (D:Int):Int):=by
   refine Int.dvd_coe_gcd (Int.dvd_coe_gcd ?_ ?_) ?_
   .exact#[pX a,by rw[U,Lz]]
   .exact#[pY a,by rw[W,Lz]]
   .exact#[pL a,by rw[J,Lz]]
  rwa [hg] at h
 have m2:m=1:=Nat.eq_one_of_dvd_one (KQ.mp m1);subst m2;exact#[by rw[U];simp,by rw[W];simp,by rw[J];simp]
structure Ps (k:Nat) (a:Pt):Prop where
 x:Bd k (pX a)
 y:Bd k (pY a)
 l:Bd k (pL a)
theorem Ps.mono {l:Nat}(h:Ps k a) (hl:k<=l):Ps l a:=#[h.x.mono hl,h.y.mono hl,h.l.mono hl]
def Ps.of {l:Nat}(h1:Sz k a.1) (h2:Sz l a.2):Ps (k+l) a:=by
 have hl:Nat.lcm a.1.den a.2.den<=a.1.den*a.2.den:=Nat.le_of_dvd (Nat.mul_pos (by have:=a.1.den_nz;omega) (by have:=a.2.den_nz;omega)) (Nat.lcm_dvd_mul ..);have b:=pF h1.2 h2.2;have J:Nat.lcm a.1.den a.2.den / a.1.den<=a.2.den:=by
  rw[NR (by have:=a.1.den_nz;omega)];omega
 have B:Nat.lcm a.1.den a.2.den / a.2.den<=a.1.den:=by
  rw[NR (by have:=a.2.den_nz;omega),Nat.mul_comm a.2.den];omega
 refine#[?_,?_,?_]
 .exact Bd.mul h1.num (show Bd l ((_:Nat):Int) from Ja J h2.2)
 .have:=Bd.mul h2.num (show Bd k ((_:Nat):Int) from Ja B h1.2);rw[JU];exact this
 .exact Ja hl b
def a8 (a b c:Pt):Rat:=(b.1 - a.1)*(c.2 - a.2) - (b.2 - a.2)*(c.1 - a.1)
def A9 (r:Rat):Int:=if 0<r then 1 else if r<0 then -1 else 0
def X0 (n:Int):Int:=if 0<n then 1 else if n<0 then -1 else 0
def gH {n:Int}{c r:Rat}(B:0<c) (h:(n:Rat)=c*r):X0 n=A9 r:=by
 unfold X0 A9;have h1:0<n↔0<r:=by
  rw[<-Rat.intCast_pos,h];exact MY B
 have h2:n<0↔r<0:=by
  rw[<-Rat.intCast_neg_iff,h];exact Rat.mul_neg_iff_of_pos_left B
 simp only[h1,h2]
def j6 (a b:Pt):Bool:=decide (a.1<b.1)||(decide (a.1=b.1)&&decide (a.2<b.2))
end DL
variable {Ss Os:List (List DL.Pt)}{a p:DL.Pt}{u:DL.Pt × DL.Pt}{Cv:List (DL.Pt × DL.Pt)}{C L:DL.vT_}
namespace T
open PySem L2 DL
theorem fT (x y d:Int) (hd:d≠0):let G:Nat:=Int.gcd (Int.gcd x y:Int) d
  let g:Int:=if d<0 then -(G:Int) else (G:Int)
  g≠0/\x.fdiv g=pX (Rat.divInt x d,Rat.divInt y d)/\y.fdiv g=pY (Rat.divInt x d,Rat.divInt y d)/\d.fdiv g=pL (Rat.divInt x d,Rat.divInt y d):=by
 intro G g;have g0:0<G:=NP _ hd;obtain⟨B,Z⟩:=MV (Int.gcd x y:Int) d;have h1:=Int.gcd_dvd_left (Int.gcd x y:Int) d;obtain⟨U,ex⟩:=Int.dvd_trans h1 (Int.gcd_dvd_left ..);obtain⟨J,W⟩:=Int.dvd_trans h1 (MV ..)
 replace Z:d=(G:Int)*B:=Z
 replace ex:x=(G:Int)*U:=ex
 replace W:y=(G:Int)*J:=W
 have cop:Int.gcd (Int.gcd U J:Int) B=1:=by
  have e1:Int.gcd x y=G*Int.gcd U J:=by
   have:=Int.gcd_mul_left (m:=(G:Int)) (n:=U) (k:=J);rw[<-ex,<-W] at this;exact this
  have e2:Int.gcd (Int.gcd x y:Int) d=G*Int.gcd (Int.gcd U J:Int) B:=by
   have:=Int.gcd_mul_left (m:=(G:Int)) (n:=(Int.gcd U J:Int)) (k:=B);rw[<-Z,<-Ly,<-e1] at this;exact this
  have e3:G*Int.gcd (Int.gcd U J:Int) B=G*1:=by rw[<-e2,Nat.mul_one]
  exact Nat.eq_of_mul_eq_mul_left g0 e3
 have hdr:(d:Rat)≠0:=fun h=>hd (KP.mp h)
 have hGr:((G:Int):Rat)≠0:=fun h=>by have:=KP.mp h;omega
 have vx:∀z z':Int,z=(G:Int)*z'->(z':Rat)=Rat.divInt z d*(B:Rat):=fun z z' e=>by
  rw[Kc];have Y:(d:Rat)=((G:Int):Rat)*(B:Rat):=by rw[<-Ih];exact congrArg _ Z
  have ez':(z:Rat)=((G:Int):Rat)*(z':Rat):=by rw[<-Ih];exact congrArg _ e
  have hd'r:(B:Rat)≠0:=fun h=>hdr (by rw[Y,h];grind)
  rw[ez',Y];grind
 by_cases h:d<0
 .have eg:g = -(G:Int):=fx h;have dn:0 < -B:=by
   rcases Int.lt_or_le B 0 with z | z
   .omega
   .have:0<=(G:Int)*B:=MZ ∅ z;omega
  obtain⟨q1,q2,q3⟩:=vq (x:=-U) (y:=-J) (d:=-B) (a:=(Rat.divInt x d,Rat.divInt y d)) dn (by
   have:Int.gcd (-U) (-J)=Int.gcd U J:=by simp[Int.gcd]
   rw[this];have:Int.gcd (Int.gcd U J:Int) (-B)=Int.gcd (Int.gcd U J:Int) B:=by simp[Int.gcd]
   rw[this];exact cop) (by rw[Kd,Kd,vx x U ex];grind) (by rw[Kd,Kd,vx y J W];grind)
  rw[eg,<-q1,<-q2,<-q3];exact#[by omega,dj ∅ (by grind),dj ∅ (by grind),dj ∅ (by grind)]
 .have eg:g=(G:Int):=fI h;have dp:0<B:=by
   rcases Int.lt_or_le 0 B with z | z
   .exact z
   .have:(G:Int)*B<=G*0:=KS z ∅;omega
  obtain⟨q1,q2,q3⟩:=vq (x:=U) (y:=J) (d:=B) (a:=(Rat.divInt x d,Rat.divInt y d)) dp cop (vx x U ex) (vx y J W);rw[eg,<-q1,<-q2,<-q3];exact#[by omega,dj ∅ ex,dj ∅ W,dj ∅ Z]
def oP {x d:Int}(B:d≠0) (h:Bd k d) (hk:k<=8000):L8 (if d<0 then -(Int.gcd (Int.gcd x y:Int) d:Int) else (Int.gcd (Int.gcd x y:Int) d:Int))=true:=zO (a:=(Int.gcd x y:Int)) B h hk
def BC (x y d:Int) (fs:vO_) (B:d≠0) (h:Bd k d) (hk:k<=8000):FL [.tup [.int x,.int y,.int d]] fs=some (pt (Rat.divInt x d,Rat.divInt y d),fs):=by
 obtain⟨U,p1,p2,J⟩:=fT x y d B;have e:=BB (xs:=[x,y,d]) (d:=d) fs (show 3<=10 by decide) (Er x y d fs) (Fg _ _ _) (oP (x:=x) (y:=y) B h hk);unfold pt;rw[<-p1,<-p2,<-J];exact e
end T
namespace DL
def D2 (x y:Rat):Prop:=0<x\/(x=0/\0<y)
theorem S9 (a b:Pt):j6 a b=true↔D2 (b.1 - a.1) (b.2 - a.2):=by
 unfold j6 D2;rw[Na,Iq,Jb,Jb,Jb];constructor
 .rintro(h | ⟨h1,h2⟩)
  .left;grind
  .right;constructor <;> grind
 .rintro(h | ⟨h1,h2⟩)
  .left;grind
  .right;constructor <;> grind
theorem oK (x y:Rat) (h:¬ (x=0/\y=0)):D2 x y\/D2 (-x) (-y):=by
 unfold D2;grind
theorem mH (x y:Rat) (h:D2 x y):¬ D2 (-x) (-y):=by
 unfold D2 at *;grind
def oD {x y s:Rat}(hs:0<s):D2 (s*x) (s*y)↔D2 x y:=by
 unfold D2;have h1:0<s*x↔0<x:=MY hs;have h2:0<s*y↔0<y:=MY hs;have B:s*x=0↔x=0:=by
  rw[IB];constructor
  .rintro(h | h)
   .rw[h] at hs;exact absurd hs Jk
   .exact h
  .exact fun h=>.inr h
 rw[h1,h2,B]
theorem tI:¬ D2 0 0:=by unfold D2;grind
theorem jn {x y:Rat}(h:D2 x y) (s:Rat):D2 (s*x) (s*y)↔0<s:=by
 constructor
 .intro q;rcases Nb (a:=s) (b:=0) with z | z
  .rcases(Rat.le_iff_lt_or_eq).mp z with z | z
   .have:D2 (-s*x) (-s*y):=(oD (by grind)).mpr h;rw[Rat.neg_mul,Rat.neg_mul] at this;exact absurd this (mH _ _ q)
   .rw[z,Ke,Ke] at q;exact absurd q tI
  .rcases(Rat.le_iff_lt_or_eq).mp z with z | z
   .exact z
   .rw[<-z,Ke,Ke] at q;exact absurd q tI
 .intro hs;exact(oD hs).mpr h
def B3 (a b c:Pt):Bool:=decide (a8 a b c=0)&&(if j6 a b then !j6 c a && !j6 b c else !j6 c b && !j6 a c)
def c7 (a b:Pt) (s:Rat):Pt:=(a.1+s*(b.1 - a.1),a.2+s*(b.2 - a.2))
theorem P9 (a b:Pt) (s:Rat):a8 a b (c7 a b s)=0:=by
 unfold a8 c7;grind
theorem eG {b:Pt}(hab:a≠b) (s:Rat):B3 a b (c7 a b s)=(decide (0<=s)&&decide (s<=1)):=by
 have Y:∀c,c=c7 a b s->(j6 c a=true↔D2 (-s*(b.1 - a.1)) (-s*(b.2 - a.2))):=fun c U=>by
  rw[S9,U];unfold c7;have B:a.1 - (a.1+s*(b.1 - a.1)) = -s*(b.1 - a.1):=by grind
  have J:a.2 - (a.2+s*(b.2 - a.2)) = -s*(b.2 - a.2):=by grind
  simp only[B,J]
 have e2:∀c,c=c7 a b s->(j6 a c=true↔D2 (s*(b.1 - a.1)) (s*(b.2 - a.2))):=fun c U=>by
  rw[S9,U];unfold c7;have B:(a.1+s*(b.1 - a.1)) - a.1=s*(b.1 - a.1):=by grind
  have J:(a.2+s*(b.2 - a.2)) - a.2=s*(b.2 - a.2):=by grind
  simp only[B,J]
 have Z:∀c,c=c7 a b s->(j6 b c=true↔D2 ((s - 1)*(b.1 - a.1)) ((s - 1)*(b.2 - a.2))):=fun c U=>by
  rw[S9,U];unfold c7;have B:(a.1+s*(b.1 - a.1)) - b.1=(s - 1)*(b.1 - a.1):=by grind
  have J:(a.2+s*(b.2 - a.2)) - b.2=(s - 1)*(b.2 - a.2):=by grind
  simp only[B,J]
 have e4:∀c,c=c7 a b s->(j6 c b=true↔D2 ((1 - s)*(b.1 - a.1)) ((1 - s)*(b.2 - a.2))):=fun c U=>by
  rw[S9,U];unfold c7;have B:b.1 - (a.1+s*(b.1 - a.1))=(1 - s)*(b.1 - a.1):=by grind
  have J:b.2 - (a.2+s*(b.2 - a.2))=(1 - s)*(b.2 - a.2):=by grind
  simp only[B,J]
 have nz:¬ (b.1 - a.1=0/\b.2 - a.2=0):=fun h=>hab (Il (by grind) (by grind))
 unfold B3;rw[IH (P9 a b s),Lv];rw[JG];rcases oK _ _ nz with h | h
 .rw[fx ((S9 a b).mpr h)];simp only[Iq,JK,<-Bool.not_eq_true,Y _ rfl,Z _ rfl,jn h,Jb];constructor
  .rintro⟨B,J⟩;constructor <;> grind
  .rintro⟨B,J⟩;constructor <;> grind
 .have hn:¬ j6 a b=true:=fun z=>mH _ _ ((S9 a b).mp z) h
  rw[fI hn];have W:∀r:Rat,D2 (r*(b.1 - a.1)) (r*(b.2 - a.2))↔0 < -r:=fun r=>by
   rw[<-jn h (-r)];have B:-r * -(b.1 - a.1)=r*(b.1 - a.1):=by grind
   have J:-r * -(b.2 - a.2)=r*(b.2 - a.2):=by grind
   rw[B,J]
  simp only[Iq,JK,<-Bool.not_eq_true,e2 _ rfl,e4 _ rfl,W,Jb];constructor
  .rintro⟨B,J⟩;constructor <;> grind
  .rintro⟨B,J⟩;constructor <;> grind
def M3 (a b:Pt):c7 a b 0=a:=by unfold c7;simp[Rat.add_zero]
theorem Q0 (a b:Pt):c7 a b 1=b:=by unfold c7;exact Il (by grind) (by grind)
def CF {b:Pt}(hab:a≠b):B3 a b a=true:=by
 have:=eG hab 0;rw[M3] at this;rw[this];decide
def GM {b:Pt}(hab:a≠b):B3 a b b=true:=by
 have:=eG hab 1;rw[Q0] at this;rw[this];decide
theorem J8 {b c:Pt}(hab:a≠b) (h:a8 a b c=0):∃s,c=c7 a b s:=by
 unfold a8 at h;by_cases h1:b.1 - a.1=0
 .have h2:b.2 - a.2≠0:=fun z=>hab (Il (by grind) (by grind))
  refine#[(c.2 - a.2) / (b.2 - a.2),?_];unfold c7;refine Il ?_ ?_
  .show c.1=_;have:(b.2 - a.2)*(c.1 - a.1)=0:=by grind
   rcases IB.mp this with z | z
   .exact absurd z h2
   .grind
  .show c.2=_;grind
 .refine#[(c.1 - a.1) / (b.1 - a.1),?_];unfold c7;refine Il ?_ ?_
  .show c.1=_;grind
  .show c.2=_;have e:(b.1 - a.1)*(c.2 - a.2)=(b.2 - a.2)*(c.1 - a.1):=by grind
   have:c.2 - a.2=(c.1 - a.1) / (b.1 - a.1)*(b.2 - a.2):=by grind
   grind
theorem N5 (x:Rat):0<=x*x:=by
 rcases Nb (a:=0) (b:=x) with h | h
 .exact Ie h h
 .have:=Ie (a:=-x) (b:=-x) (by grind) (by grind);grind
def dk {x:Rat}(h:x≠0):0<x*x:=Rat.lt_of_le_of_ne (N5 x) (fun z=>h (by
 rcases IB.mp z.symm with q | q <;> exact q))
end DL
namespace T
open PySem L2 DL
def As (n:Int) (fs:vO_):lR [.int n] fs=some (.int (X0 n),fs):=by
 refine u9 (s:=#[[.v (.int n)],fs]) ?_;show cB #[[.v (.int n)],fs]=_;unfold X0;by_cases h1:0<n
 .simp![cB,d5,h1]
 .by_cases h2:n<0
  .simp![cB,d5,h1,h2]
  .simp![cB,d5,h1,h2]
def Aj {a b c:Rat}(ha:0<a) (hb:0<b) (B:0<c):0<a*b*c:=xr (xr ha hb) B
theorem rW {x:Int}{p q c:Rat}(B:0<c) (J:(x:Rat)=c*p) (U:(y:Rat)=c*q):(x<y↔p<q)/\(x=y↔p=q):=by
 constructor
 .rw[<-Rat.intCast_lt_intCast,J,U];exact Rat.mul_lt_mul_left B
 .rw[<-MX,J,U];constructor
  .intro h;have:c≠0:=fun z=>by rw[z] at B;exact absurd B Jk
   grind
  .intro h;rw[h]
theorem GP (a b:Pt):(pX a*pL b<pX b*pL a↔a.1<b.1)/\(pX a*pL b=pX b*pL a↔a.1=b.1):=
 rW (xr (E5 a) (E5 b)) (by rw[Ih,K5];grind) (by rw[Ih,K5];grind)
theorem xD (a b:Pt):(pY a*pL b<pY b*pL a↔a.2<b.2)/\(pY a*pL b=pY b*pL a↔a.2=b.2):=
 rW (xr (E5 a) (E5 b)) (by rw[Ih,K4];grind) (by rw[Ih,K4];grind)
def aH (a b:Pt) (fs:vO_) (ha:Ps k a) (hb:Ps k b) (hk:k<=2000):E1 [pt a,pt b] fs=some (.bl (j6 a b),fs):=by
 have B:=ha.x.bits ∅;have Y:=ha.y.bits ∅;have Z:=ha.l.bits ∅;have W:=hb.x.bits ∅;have U:=hb.y.bits ∅;have J:=hb.l.bits ∅;obtain⟨x1,x2⟩:=GP a b;obtain⟨y1,y2⟩:=xD a b;refine u9 (s:=#[[.v (pt a),.v (pt b),.v (.int (pX a*pL b)),.v (.int (pX b*pL a))],fs]) ?_;show dS #[[.v (pt a),.v (pt b),.no,.no],fs]=_;by_cases h:a.1=b.1
 .have h':=x2.mpr h;have n1:¬ a.1<b.1:=by rw[h];exact Jk
  simp![dS,d5,pt,mI,mS,kR,j9,B,Y,Z,W,U,J,bW,h',j6,n1,h,y1]
 .have h':¬ pX a*pL b=pX b*pL a:=fun z=>h (x2.mp z)
  simp![dS,d5,pt,mI,mS,kR,j9,B,Y,Z,W,U,J,bW,h',j6,h,x1]
end T
namespace DL
open PySem L2
theorem cy {t:D->DS->Option DS}{b:DM}(P:Nat->DS->Prop):∀(ds:vD_) (n:Nat) (s:DS),P n s->(∀i d s,ds[i]? = some d->P (n+i) s->∃s1 s2,t d s=some s1/\(b s1=some (.next,s2)\/b s1=some (.cont,s2))/\P (n+i+1) s2) ->
  ∃s',A2 t b ds s=some (.next,s')/\P (n+ds.length) s'
 |[],n,s,h,_=>#[s,rfl,h]
 |d::r,n,s,h,k=>by
  obtain⟨s1,s2,W,B,h2⟩:=k 0 d s rfl h;obtain⟨s',Z,J⟩:=cy P r (n+1) s2 h2 (fun i Y s U hp=>by
   have:=k (i+1) Y s (by simpa using U) (by rwa [show n+1+i=n+(i+1) by omega] at hp)
   rwa [show n+(i+1)+1=n+1+i+1 by omega] at this)
  refine#[s',?_,by rw[Iu,show n+(r.length+1)=n+1+r.length by omega];exact J];rw[A2,W];rcases B with B | B <;> simp[B,Z]
def iJ {t:D->DS->Option DS}{b:DM}{s:DS}{xs:vD_}(h1:f s=some (xs,s1)) (h2:T7 xs=some ds):aZ f t b s=A2 t b ds s1:=by
 simp only[aZ,h1,td,h2]
def bS {f:DE}{t:D->DS->Option DS}{b:DM}{s:DS}(h1:f s=some (.lst ds,s1)):M6 f t b s=A2 t b ds s1:=by
 simp only[M6,h1,td]
def fE {f:DE}{t:D->DS->Option DS}{b:DM}{s:DS}(h1:f s=some (.tup ds,s1)):M6 f t b s=A2 t b ds s1:=by
 simp only[M6,h1,td]
def fM {lo:Int}(h:(B7 lo n)[i]? = some d):d = .int (lo+i)/\i<n:=by
 have hi:i<n:=by have:=(IK.mp h).1;rwa [cT] at this
 rw[mQ hi] at h;cases h;exact#[rfl,hi]
def eQ (h:n<2 ^ 30):T7 [.int (n:Int)]=some (B7 0 n):=by
 have:-(2 ^ 62)<=(n:Int)/\(n:Int)<2 ^ 62:=by omega
 simp only[T7,fx this,JH]
end DL
namespace T
open PySem L2 DL
structure PtS (k:Nat) (a:Pt):Prop where
 x:Sz k a.1
 y:Sz k a.2
def PtS.ps (h:PtS k a):Ps (k+k) a:=Ps.of h.x h.y
section
variable {α β:Type}
def M8 (lt:α->α->Bool):List α->List α->List α
 |[],ys=>ys
 |x::xs,ys=>ys.takeWhile (fun y=>lt y x)++x::M8 lt xs (ys.dropWhile (fun y=>lt y x))
def L1 (lt:α->α->Bool):Nat->List α->List α
 |0,l=>l
 |n+1,l=>if l.length<2 then l else M8 lt (L1 lt n (l.take (l.length / 2))) (L1 lt n (l.drop (l.length / 2)))
variable {lt:α->α->Bool}{lt':β->β->Bool}{t:α->α->α->Bool}{t':β->β->β->Bool}{f:α->β}
theorem jZ:∀xs ys:List α,(M8 lt xs ys).length=xs.length+ys.length
 |[],ys=>by simp[M8]
 |x::xs,ys=>by
  have h:=congrArg List.length (KU (p:=fun y=>lt y x) (l:=ys));simp only[M8,IQ,Iu,jZ xs] at h ⊢;omega
theorem ko:∀{xs ys:List α}{z:α},z∈M8 lt xs ys->z∈xs\/z∈ys
 |[],ys,z,h=>.inr h
 |x::xs,ys,z,h=>by
  simp only[M8] at h;rcases IJ.mp h with h | h
  .exact .inr (List.takeWhile_subset _ h)
  .rcases iO.mp h with h | h
   .exact .inl (h▸iR ..)
   .rcases ko h with h | h
    .exact .inl (iU _ h)
    .exact .inr (Nc _ h)
theorem cC:∀(n:Nat) (l:List α),(L1 lt n l).length=l.length
 |0,l=>rfl
 |n+1,l=>by
  simp only[L1];split
  .rfl
  .rw[jZ,cC n,cC n,Jz,IL];omega
theorem V7:∀(n:Nat) {l:List α}{z:α},z∈L1 lt n l->z∈l
 |0,l,z,h=>h
 |n+1,l,z,h=>by
  simp only[L1] at h;split at h
  .exact h
  .rcases ko h with h | h
   .exact LA (V7 n h)
   .exact Kt (V7 n h)
end
section
variable {α:Type}{lt:α->α->Bool}
abbrev N0 (lt:α->α->Bool) (l:List α):Prop:=l.Pairwise fun a b=>lt a b=true
structure Ord (lt:α->α->Bool):Prop where
 irr:∀a,lt a a=false
 tr:∀a b c,lt a b=true->lt b c=true->lt a c=true
 tot:∀a b,lt a b=false->a≠b->lt b a=true
theorem jf:∀{xs ys:List α}{z:α},z∈xs\/z∈ys->z∈M8 lt xs ys
 |[],ys,z,h=>by rcases h with h | h;cases h;exact h
 |x::xs,ys,z,h=>by
  simp only[M8];have J:∀{z},z∈ys->z∈ys.takeWhile (fun y=>lt y x)\/z∈ys.dropWhile (fun y=>lt y x):=fun {z} B=>by
   rw[<-KU (p:=fun y=>lt y x) (l:=ys)] at B;exact IJ.mp B
  rcases h with h | h
  .rcases iO.mp h with h | h
   .exact IJ.mpr (.inr (h▸iR ..))
   .exact IJ.mpr (.inr (iU _ (jf (.inl h))))
  .rcases J h with h | h
   .exact IJ.mpr (.inl h)
   .exact IJ.mpr (.inr (iU _ (jf (.inr h))))
theorem nI {p:α->Bool}:∀{l:List α}{z:α},z∈l.takeWhile p->p z=true
 |[],z,h=>by cases h
 |a::r,z,h=>by
  rw[Nd] at h;by_cases q:p a=true
  .rw[fx q] at h;rcases iO.mp h with e | e
   .exact e▸q
   .exact nI e
  .rw[fI q] at h;cases h
theorem wk {p:α->Bool}:∀{l:List α}{a:α}{r:List α},l.dropWhile p=a::r->p a=false
 |[],a,r,h=>by cases h
 |b::l,a,r,h=>by
  rw[List.dropWhile_cons] at h;by_cases q:p b=true
  .rw[fx q] at h;exact wk h
  .rw[fI q] at h;cases h;simpa using q
theorem ui (O:Ord lt):∀{xs ys:List α},N0 lt xs->N0 lt ys->(∀x∈xs,x ∉ ys)->N0 lt (M8 lt xs ys)
 |[],ys,h1,h2,_=>h2
 |x::xs,ys,h1,h2,d=>by
  obtain⟨g1,g2⟩:=Jn.mp h1;have J:=KU (p:=fun y=>lt y x) (l:=ys);have hs:N0 lt (ys.takeWhile (fun y=>lt y x)++ys.dropWhile (fun y=>lt y x)):=by rw[J];exact h2
  obtain⟨s1,s2,s3⟩:=List.pairwise_append.mp hs;have Z:∀z∈ys.dropWhile (fun y=>lt y x),lt x z=true:=by
   cases e:ys.dropWhile (fun y=>lt y x) with
   |nil=>intro z B;cases B
   |cons a r=>
    rw[e] at s2;have ha:lt a x=false:=wk (p:=fun y=>lt y x) e;have Y:a∈ys:=Nc _ (e▸iR ..);have U:lt x a=true:=O.tot a x ha fun z=>d x (iR ..) (z▸Y)
    intro z B;rcases iO.mp B with q | q
    .exact q▸U
    .exact O.tr _ _ _ U ((Jn.mp s2).1 z q)
  have rest:∀z∈M8 lt xs (ys.dropWhile (fun y=>lt y x)),lt x z=true:=fun z B=>by
   rcases ko B with q | q
   .exact g1 z q
   .exact Z z q
  simp only[M8];refine List.pairwise_append.mpr #[s1,Jn.mpr #[rest,ui O g2 s2 fun a ha hb=>d a (iU _ ha) (Nc _ hb)],fun a ha b hb=>?_];have W:lt a x=true:=nI (p:=fun y=>lt y x) ha;rcases iO.mp hb with q | q
  .exact q▸W
  .exact O.tr _ _ _ W (rest b q)
theorem gx:∀(n:Nat) {l:List α}{z:α},z∈l->z∈L1 lt n l
 |0,l,z,h=>h
 |n+1,l,z,h=>by
  simp only[L1];split
  .exact h
  .rw[<-LB (l.length / 2) l] at h;rcases IJ.mp h with h | h
   .exact jf (.inl (gx n h))
   .exact jf (.inr (gx n h))
theorem mW (O:Ord lt):∀(n:Nat) (l:List α),l.length<=2 ^ n->l.Nodup->N0 lt (L1 lt (n+1) l)
 |n,l,hl,nd=>by
  simp only[L1];split
  .rename_i h
   match l,h with
   |[],_=>exact List.Pairwise.nil
   |[a],_=>exact List.pairwise_singleton _ _
   |a::b::r,h=>exact absurd h (by simp only[Iu];omega)
  .rename_i h;cases n with
   |zero=>exact absurd hl ∅
   |succ n=>
    have p2:2 ^ (n+1)=2 ^ n+2 ^ n:=by rw[MW];omega
    rw[<-LB (l.length / 2) l] at nd;obtain⟨J,Y,U⟩:=Mc.mp nd;refine ui O (mW O n _ (by rw[Jz];omega) J) (mW O n _ (by rw[IL];omega) Y) fun x B W=>?_
    exact U x (V7 _ B) x (V7 _ W) rfl
theorem sE (O:Ord lt):∀{xs ys:List α},N0 lt xs->N0 lt ys->(∀z,z∈xs↔z∈ys)->xs=ys
 |[],[],_,_,_=>rfl
 |[],b::bs,_,_,h=>by have:=(h b).mpr (iR ..);cases this
 |a::as,[],_,_,h=>by have:=(h a).mp (iR ..);cases this
 |a::as,b::bs,h1,h2,h=>by
  obtain⟨U,W⟩:=Jn.mp h1;obtain⟨J,Y⟩:=Jn.mp h2;have e:a=b:=by
   rcases iO.mp ((h a).mp (iR ..)) with q | q
   .exact q
   .rcases iO.mp ((h b).mpr (iR ..)) with q2 | q2
    .exact q2.symm
    .have c:=O.tr _ _ _ (J a q) (U b q2);rw[O.irr] at c;cases c
  subst e;refine congrArg _ (sE O W Y fun z=>#[fun B=>?_,fun B=>?_])
  .rcases iO.mp ((h z).mp (iU _ B)) with q | q
   .have c:=U z B;rw[q,O.irr] at c;cases c
   .exact q
  .rcases iO.mp ((h z).mpr (iU _ B)) with q | q
   .have c:=J z B;rw[q,O.irr] at c;cases c
   .exact q
end
theorem lsB_ord:Ord j6 where
 irr:=fun a=>by
  cases q:j6 a a with
  |false=>rfl
  |true=>
   rw[S9] at q;unfold D2 at q;grind
 tr:=fun a b c h1 h2=>by
  rw[S9] at h1 h2 ⊢;unfold D2 at *;grind
 tot:=fun a b h n=>by
  have h:¬ (j6 a b=true):=by rw[h];decide
  rw[S9] at h ⊢;have:¬ (b.1 - a.1=0/\b.2 - a.2=0):=fun z=>n (Il (by grind) (by grind))
  unfold D2 at *;grind
def AN {r:List (Str × a9)}{t:DA}{s:DS}(h:s.sl[i]? = some (.v (.fn x))):W4 i ((x,m)::r) t s=d8 m t s:=by
 unfold W4;rw[h];simp
def mw {f:DE}{lo hi:DO}{s B:DS}{ds:List DL.D}{l h:Option Int}(e:f s=some (.lst ds,s1)) (U:lo s1=some (l,s2)) (J:hi s2=some (h,B)):L9 f lo hi s=some (.lst (F7 ds l h),B):=by
 unfold L9;rw[e];show (lo s1).bind _=_;rw[U];show (hi s2).bind _=_;rw[J];rfl
def vU (l:List DL.D) (n:Nat):F7 l (some (n:Int)) none=l.drop n:=by
 unfold F7;rw[HT.sIx_nat,HT.sIx_none];by_cases h:n<=l.length
 .rw[Ks h,LC (by rw[IL];exact tx _)]
 .rw[Lr ∅,NS (tx _),NS ∅,List.take_nil]
def AK (l:List DL.D) (n:Nat):F7 l none (some (n:Int))=l.take n:=by
 unfold F7;rw[HT.sIx_nat,HT.sIx_none,Lj,Kq];by_cases h:n<=l.length
 .rw[Ks h]
 .rw[Lr ∅,LC (tx _),LC ∅]
def f7 {a:DE}{b:DA}{s:DS}{x:DL.D}{xs:List DL.D}(h1:a s=some (x,s)) (h2:b s=some (xs,s)):a0 a b s=some (x::xs,s):=G4 h1 h2
def fU (i j:Int):p8 (fun i j=>decide (i<j)) (.int i) (.int j)=some (.bl (decide (i<j))):=rfl
def nC {l:List DL.D}{x:DL.D}(h:l[n]? = some x):v5 l (n:Int)=some x:=by
 have B:n<l.length:=(IK.mp h).1;unfold v5 P5;rw[fx ∅,fx ∅];exact h
def re {ds:List DL.D}{i:Int}{d:DL.D}(h:v5 ds i=some d):d5 (.lst ds) (.int i)=some d:=by
 show (v5 ds i)=_;exact h
end T
namespace DL
open PySem L2
def Lst (f:Pt) (q:Pt):Prop:=q=f\/D2 (q.1 - f.1) (q.2 - f.2)
def Lst.pos {f q:Pt}(h:Lst f q) (n:q≠f):D2 (q.1 - f.1) (q.2 - f.2):=h.resolve_left n
structure Ok (k n:Nat) (d:D):Prop where
 pl:d.plain=true
 sh:d.py.showable=true
 la:d.py.canLay0=true
 dp:d.py.depth<=k
 le:d.py.leavesShort 1921=true
 bu:d.py.bulk<=n
structure OkL (k n:Nat) (ds:vD_):Prop where
 pl:D.plains ds=true
 sh:PyData.showableAll (D.pys ds)=true
 la:PyData.canLayAll0 (D.pys ds)=true
 dp:PyData.depthAll (D.pys ds)<=k
 le:PyData.leavesShortAll 1921 (D.pys ds)=true
 bu:PyData.bulkAll (D.pys ds)<=n
def Ok.mono {k' B:Nat}(h:Ok k n d) (hk:k<=k') (J:n<=B):Ok k' B d:=#[h.pl,h.sh,h.la,Ij h.dp hk,h.le,Ij h.bu J]
def OkL.mono {k' B:Nat}(h:OkL k n ds) (hk:k<=k') (J:n<=B):OkL k' B ds:=#[h.pl,h.sh,h.la,Ij h.dp hk,h.le,Ij h.bu J]
theorem Ok.bl (b:Bool):Ok 0 0 (.bl b):=#[rfl,rfl,rfl,tx _,rfl,tx _]
theorem Ok.int {i:Int}(h:Bd 1920 i):Ok 0 0 (.int i):=by
 have hl:i.natAbs.log2<1920:=fk #[] h;refine#[rfl,?_,rfl,tx _,?_,tx _]
 .simp only[D.py,PyData.showable];exact IH hl
 .simp only[D.py,PyData.leavesShort,PyData.shown];exact IH (Ab hl)
def OkL.nil:OkL 0 0 []:=#[rfl,rfl,rfl,tx _,rfl,tx _]
def OkL.cons {l m:Nat}(h:Ok k n d) (hs:OkL l m ds):OkL (max k l) (n+1+m) (d::ds):=by
 refine#[?_,?_,?_,?_,?_,?_]
 .simp only[D.plains,h.pl,hs.pl,Js]
 .simp only[D.pys,PyData.showableAll,h.sh,hs.sh,Js]
 .simp only[D.pys,PyData.canLayAll0,h.la,hs.la,Js]
 .have:=h.dp;have:=hs.dp;simp only[D.pys,PyData.depthAll];omega
 .simp only[D.pys,PyData.leavesShortAll,h.le,hs.le,Js]
 .have:=h.bu;have:=hs.bu;simp only[D.pys,PyData.bulkAll];omega
theorem Ok.tup (h:OkL k n ds):Ok (k+1) n (.tup ds):=by
 refine#[?_,?_,?_,?_,?_,?_]
 .simp only[D.plain,h.pl]
 .simp only[D.py,PyData.showable,h.sh]
 .simp only[D.py,PyData.canLay0,h.la]
 .have:=h.dp;simp only[D.py,PyData.depth];omega
 .simp only[D.py,PyData.leavesShort,h.le]
 .have:=h.bu;simp only[D.py,PyData.bulk];omega
theorem Ok.lst (h:OkL k n ds):Ok (k+1) n (.lst ds):=by
 refine#[?_,?_,?_,?_,?_,?_]
 .simp only[D.plain,h.pl]
 .simp only[D.py,PyData.showable,h.sh]
 .simp only[D.py,PyData.canLay0,h.la]
 .have:=h.dp;simp only[D.py,PyData.depth];omega
 .simp only[D.py,PyData.leavesShort,h.le]
 .have:=h.bu;simp only[D.py,PyData.bulk];omega
theorem OkL.all :∀{ds:vD_},(∀d∈ds,Ok k n d)->OkL k (ds.length*(n+1)) ds
 |[],_=>OkL.nil.mono ∅ ∅
 |d::r,h=>by
  have:=(OkL.cons (h d (iR ..)) (OkL.all (ds:=r) fun x B=>h x (iU _ B)))
  refine this.mono ∅ ?_;rw[Iu,Nat.add_mul,Nat.one_mul];omega
def Ok.eq {k n:Nat}{d:D}(h:Ok k n d) (hk:k<=64:=by decide):u3 d=true:=by
 simp only[u3,h.pl,SeqAt.shaped,h.la,Lv,IH (Ij h.dp hk)]
theorem Ok.pt {k:Nat}{a:Pt}(h:Ps k a) (hk:k<=1920:=by decide):Ok 1 3 (pt a):=Ok.tup ((OkL.cons (Ok.int (h.x.mono hk)) (OkL.cons (Ok.int (h.y.mono hk)) (OkL.cons (Ok.int (h.l.mono hk)) OkL.nil))))
def Y8 (ds:vD_) (i:Int):d5 (.tup ds) (.int i)=v5 ds i:=rfl
def U6 (ds:vD_) (i:Int):d5 (.lst ds) (.int i)=v5 ds i:=rfl
def bL (p:Rat):d5 (DL.fr p) (.int 0)=some (.int p.num):=rfl
def cD (p:Rat):d5 (DL.fr p) (.int 1)=some (.int p.den):=rfl
def Z3 (a:Pt):d5 (DL.pt a) (.int 0)=some (.int (pX a)):=rfl
def X1 (a:Pt):d5 (DL.pt a) (.int 1)=some (.int (pY a)):=rfl
def S3 (a:Pt):d5 (DL.pt a) (.int 2)=some (.int (pL a)):=rfl
theorem gL {b:Pt}(h1:pX a=pX b) (h2:pY a=pY b) (B:pL a=pL b):a=b:=by
 have J:=K5 a;have Y:=K5 b;have U:=K4 a;have W:=K4 b
 have n:=eP b;rw[h1,B] at J;rw[h2,B] at U;exact Il (by grind) (by grind)
def Fy {k l:Nat}{a b:Pt}(ha:Ps k a) (hb:Ps l b) (hk:k<=1920:=by decide) (hl:l<=1920:=by decide):E6 (pt a) (pt b)=some (.bl (decide (a=b))):=by
 have J:=(Ok.pt ha hk).eq;have U:=(Ok.pt hb hl).eq;unfold pt at *;simp only[E6,J,U,Js,IC,D.py,D.pys,PyData.eqv,PyData.eqvAll,Lw,Mo];congr 2;rw[JG];simp only[Iq,Jb];constructor
 .rintro⟨h1,h2,B⟩;exact gL h1 h2 B
 .rintro rfl;exact#[rfl,rfl,rfl]
def uf {k l:Nat}{a b:Pt}(ha:Ps k a) (hb:Ps l b) (hk:k<=1920:=by decide) (hl:l<=1920:=by decide):J6 (pt a) (pt b)=some (.bl (!decide (a=b))):=by
 have J:=(Ok.pt ha hk).eq;have U:=(Ok.pt hb hl).eq;unfold pt at *;simp only[J6,J,U,Js,IC,D.py,D.pys,PyData.eqv,PyData.eqvAll,Lw,Mo];congr 3;rw[JG];simp only[Iq,Jb];constructor
 .rintro⟨h1,h2,B⟩;exact gL h1 h2 B
 .rintro rfl;exact#[rfl,rfl,rfl]
def ES (ds:vD_) (n:Nat) (h:n<=ds.length):F7 ds none (some (n:Int))=ds.take n:=by
 unfold F7 HT.sIx;have h1:¬ (n:Int)<0:=by omega
 simp only[h1,IG,Lj,Kq,JH];rw[Ks h]
def ED (ds:vD_) (n:Nat) (h:n<=ds.length):F7 ds (some (n:Int)) none=ds.drop n:=by
 unfold F7 HT.sIx;have h1:¬ (n:Int)<0:=by omega
 simp only[h1,IG,JH];rw[Ks h];exact LC (by rw[IL];omega)
theorem oW {idx:List Nat}{g:D->D}(caps:List Sl) (fs:vO_):∀(ds:vD_),(∀d∈ds,∃s,fe #[.v d::caps,fs]=some (g d,s)/\s.fs=fs)->A3 (fun d=>some (.v d::caps)) A5 fe ds fs=some (ds.map g,fs)
 |[],_=>rfl
 |d::r,h=>by
  obtain⟨s,e,q⟩:=h d (iR ..);have J:=oW (idx:=idx) caps fs r fun x B=>h x (iU _ B)
  simp[A3,A5,e,q,J]
def f8 {α:Type}(c:Bool) (l:List α):List (α × α):=l.zip (if c then l.drop 1++l.take 1 else l.drop 1)
def S6 (p:D × D):D:=.tup [p.1,p.2]
def rZ {α β:Type}(f:α->β) (c:Bool) (l:List α):f8 c (l.map f)=(f8 c l).map fun p=>(f p.1,f p.2):=by
 unfold f8;cases c
 .simp only[IW,IG];rw[<-KW,Nf];rfl
 .simp only[IC];rw[<-KW,<-Ng,<-JN,Nf];rfl
def dt {α:Type}(c:Bool) (l:List α):(f8 c l).length<=l.length:=by
 unfold f8;rw[KY];exact KC ..
theorem dQ:∀(xs ys:vD_),List.zipWith S5 xs ys=(xs.zip ys).map S6
 |[],_=>by simp
 |_::_,[]=>by simp
 |x::xs,y::ys=>by
  rw[NK,List.zip_cons_cons,Iv,dQ xs ys];rfl
def hi (c:Bool):Nat:=if c then 8 else 9
def iZ (ds:vD_):F7 ds (some 1) none=ds.drop 1:=by
 cases ds with
 |nil=>rfl
 |cons d r=>exact ED (d::r) 1 (by simp)
def pO (ds:vD_):F7 ds none (some 1)=ds.take 1:=by
 cases ds with
 |nil=>rfl
 |cons d r=>exact ES (d::r) 1 (by simp)
end DL
namespace T
open PySem L2 DL
def Du (ds:vD_) (c:Bool) (fs:vO_) (hl:ds.length+1<=sizeLine):T4 [.tup ds,.bl c] fs=some (.lst ((f8 c ds).map S6),fs):=by
 refine u9 (s:=#[[.v (.tup ds),.v (.bl c)],fs]) ?_;show bG #[[.v (.tup ds),.v (.bl c)],fs]=_;have h1:ds.length - 1+min 1 ds.length<=sizeLine:=by omega
 cases c
 .simp![bG,Y8,U6,bL,cD,Z3,X1,S3,L9,R0,R5,V4,aA,P0,iZ,f8,dQ]
 .simp![bG,Y8,U6,bL,cD,Z3,X1,S3,L9,R0,R5,V4,aA,P0,iZ,pO,f8,dQ,h1]
end T
namespace DL
open PySem L2
def kr {α:Type}(c:Bool) (l:List α):(f8 c l).length=l.length - 1+(if c then min 1 l.length else 0):=by
 unfold f8;cases c
 .show (l.zip (l.drop 1)).length=l.length - 1+0;rw[KY,IL,Lr (Nat.sub_le ..)];rfl
 .show (l.zip (l.drop 1++l.take 1)).length=l.length - 1+min 1 l.length;rw[KY,IQ,IL,Jz];exact Lr ∅
def zp {α:Type}{c:Bool}{l:List α}(h:j<(f8 c l).length):∃a b,l[j]? = some a/\l[(j+1) % l.length]? = some b/\(f8 c l)[j]? = some (a,b):=by
 have hl:=kr c l;have U:j<l.length:=Iy h (dt c l);cases B:(f8 c l)[j]? with
 |none=>rw[List.getElem?_eq_none_iff] at B;omega
 |some p=>
  obtain⟨h1,h2⟩:=Ls.mp (show (l.zip (if c then l.drop 1++l.take 1 else l.drop 1))[j]? = some p from B);refine#[p.1,p.2,h1,?_,rfl];cases c
  .simp only[IW,IG] at h2 hl;rw[Kf] at h2;rw[JV ∅,JU];exact h2
  .simp only[IC] at h2 hl;by_cases J:j+1<l.length
   .rw[Lf (by rw[IL];omega),Kf] at h2;rw[JV J,JU];exact h2
   .have e:j+1=l.length:=by omega
    rw[Kx (by rw[IL];omega),IL,show j - (l.length - 1)=0 by omega,List.getElem?_take] at h2;rw[e,Nat.mod_self];simpa using h2
end DL
namespace T
open PySem L2 DL
def tk (l:vT_) (i:Nat):Pt:=(l[i % l.length]?).getD (0,0)
def gP {l:vT_}(h:0<l.length):l[i % l.length]? = some (tk l i):=by
 unfold tk;rw[Jg (IV _ h)];rfl
def aB {l:vT_}(h:i<l.length):l[i]? = some (tk l i):=by
 have:=gP (l:=l) (i:=i) ∅
 rwa [JV h] at this
def o9 {l:vT_}(i:Nat) (h:0<l.length):tk l i∈l:=Ju (gP (i:=i) h)
def K0 {l:vT_}(i:Nat):tk l (i % l.length)=tk l i:=by unfold tk;rw[Nat.mod_mod]
theorem sF (φ:Pt->Rat):∀(C:vT_),C≠[]->∃c∈C,∀x∈C,φ x<=φ c
 |[],h=>absurd rfl h
 |[a],_=>#[a,by simp,fun x B=>by rw[IA.mp B];exact Kg]
 |a::b::r,_=>by
  obtain⟨c,J,h⟩:=sF φ (b::r) (by simp);by_cases q:φ a<=φ c
  .exact#[c,iU _ J,fun x B=>by
    rcases iO.mp B with e | e
    .rw[e];exact q
    .exact h x e]
  .have q:φ c<=φ a:=by grind
   exact#[a,iR ..,fun x B=>by
    rcases iO.mp B with e | e
    .rw[e];exact Kg
    .exact Rat.le_trans (h x e) q]
end T
namespace T
open DL
def j8 (u v:Pt):Rat:=u.1*v.2 - u.2*v.1
def A0 (u v:Pt):Rat:=u.1*v.1+u.2*v.2
def d6 (a b:Pt):Pt:=(b.1 - a.1,b.2 - a.2)
def j4 (a b:Pt):Pt × Pt:=if j6 a b then (a,b) else (b,a)
def ay (a b c d:Pt):Rat:=(b.1 - a.1)*(c.1*d.2 - c.2*d.1) - (a.1*b.2 - a.2*b.1)*(d.1 - c.1)
def aq (a b c d:Pt):Rat:=(a.1*b.2 - a.2*b.1)*(c.2 - d.2) - (a.2 - b.2)*(c.1*d.2 - c.2*d.1)
def J7 (a b c d:Pt):Pt:=(ay a b c d / j8 (d6 a b) (d6 c d),aq a b c d / j8 (d6 a b) (d6 c d))
end T
namespace T
open PySem L2 DL
def qj (A:vT_):Prop:=∀k,∀z∈A,0<=a8 (tk A k) (tk A (k+1)) z
def gv (d z:Pt):Rat:=d.1*z.2 - d.2*z.1
def jk {A:vT_}(h:a∈A):∃i,i<A.length/\tk A i=a:=by
 obtain⟨i,hi⟩:=Kb h;have B:=(IK.mp hi).1;refine#[i,B,?_];rw[aB B] at hi;exact Jj hi
theorem ki {d v:Pt}(U:d≠(0,0)) (h:gv d v=0):∃t:Rat,v=(t*d.1,t*d.2):=by
 have n:0<d.1*d.1+d.2*d.2:=by
  have a:=N5 d.1;have b:=N5 d.2;by_cases z:d.1=0
  .have:d.2≠0:=fun y=>U (Il z y)
   have:=dk this;grind
  .have:=dk z;grind
 have W:d.1*d.1+d.2*d.2≠0:=by grind
 refine#[(v.1*d.1+v.2*d.2) / (d.1*d.1+d.2*d.2),?_];unfold gv at h;generalize J:d.1*d.1+d.2*d.2=N at *;have B:N*N⁻¹=1:=Mp _ W;refine Il ?_ ?_
 .show v.1=(v.1*d.1+v.2*d.2) / N*d.1;rw[Ji];have Y:d.2*(d.1*v.2 - d.2*v.1)=0:=by rw[h,Kh]
  have e:(v.1*d.1+v.2*d.2)*d.1=v.1*N:=by rw[<-J];grind
  have:(v.1*d.1+v.2*d.2)*N⁻¹*d.1=(v.1*d.1+v.2*d.2)*d.1*N⁻¹:=by grind
  rw[this,e,KZ,B,LD]
 .show v.2=(v.1*d.1+v.2*d.2) / N*d.2;rw[Ji];have Y:d.1*(d.1*v.2 - d.2*v.1)=0:=by rw[h,Kh]
  have e:(v.1*d.1+v.2*d.2)*d.2=v.2*N:=by rw[<-J];grind
  have:(v.1*d.1+v.2*d.2)*N⁻¹*d.2=(v.1*d.1+v.2*d.2)*d.2*N⁻¹:=by grind
  rw[this,e,KZ,B,LD]
def gq (A:vT_):Prop:=∃a b c,a∈A/\b∈A/\c∈A/\a8 a b c≠0
def Ip (K:vT_) (p:Pt):Prop:=∀α β:Rat,∃k∈K,0<=α*(k.1 - p.1)+β*(k.2 - p.2)
def xq (a b u w:Pt):Pt:=c7 u w (a8 a b u / (a8 a b u - a8 a b w))
end T
namespace T
open DL
def rT (a b c:Pt):Rat:=A0 (d6 a c) (d6 a b) / A0 (d6 a b) (d6 a b)
theorem AW {b:Pt}(h:a≠b):¬ (b.1 - a.1=0/\b.2 - a.2=0):=fun ⟨x,y⟩=>h (Il (by grind) (by grind))
theorem tH (x:Rat):0<=x*x:=by
 rcases Nb (a:=0) (b:=x) with z | z
 .exact Ie z z
 .have:=Ie (show 0 <= -x by grind) (show 0 <= -x by grind);grind
theorem Db {b:Pt}(h:a≠b):0<A0 (d6 a b) (d6 a b):=by
 have J:=AW h;unfold A0 d6;have s1:=tH (b.1 - a.1);have s2:=tH (b.2 - a.2);have n:¬ ((b.1 - a.1)*(b.1 - a.1)+(b.2 - a.2)*(b.2 - a.2)=0):=fun z=>by
  have U:(b.1 - a.1)*(b.1 - a.1)=0:=by grind
  have B:(b.2 - a.2)*(b.2 - a.2)=0:=by grind
  exact J #[by rcases IB.mp U with q | q <;> exact q,by rcases IB.mp B with q | q <;> exact q]
 grind
def Al {x:Rat}(h:0<x):x≠0:=fun z=>by rw[z] at h;exact absurd h Jk
theorem wm {b:Pt}(h:a≠b) (s:Rat):rT a b (c7 a b s)=s:=by
 unfold rT;have B:=Al (Db h);have e:A0 (d6 a (c7 a b s)) (d6 a b)=s*A0 (d6 a b) (d6 a b):=by
  unfold A0 d6 c7;grind
 rw[e,Rat.mul_div_cancel B]
def W6 {b:Pt}(h:a≠b) {s t:Rat}(e:c7 a b s=c7 a b t):s=t:=by
 rw[<-wm h s,<-wm h t,e]
end T
namespace T
open PySem L2 DL
def W0 {x y:Rat}(h1:0<x) (h2:0<y):0<x*y:=xr h1 h2
abbrev FX:DT:=dB (a7 (p8 (fun i j=>decide (j<i))) (dL 1) (Od 0))
abbrev xC:DM:=A6 0 1 (a0 (dV 1) (a0 (a7 C1 (dL 0) (dL 1)) b9))
def Fj (fs:vO_) (r:Nat):∀(g:Nat),O0 FX xC #[[.v (.int g),.v (.int r)],fs]=some (.next,#[[.v (.int (Nat.gcd g r)),.v (.int 0)],fs]):=by
 induction r using Nat.strongRecOn with
 |ind r J=>
  intro g;by_cases h:r=0
  .subst h;rw[Nat.gcd_zero_right];exact gm (by simp![d5])
  .have e:((g:Int).fmod (r:Int))=((g % r:Nat):Int):=by rw[Ml _ ∅];rfl
   have U:=J (g % r) (IV _ ∅) r;have B:Nat.gcd g r=Nat.gcd r (g % r):=by rw[Mn g r,Nat.gcd_rec,Mn]
   rw[B];refine kH (s1:=#[[.v (.int g),.v (.int r)],fs]) (s2:=#[[.v (.int r),.v (.int ((g % r:Nat):Int))],fs]) (by simp![d5];omega) ?_ U;rw[<-e];simp[A6,a0,b9,dV,a7,dL,C1,h]
abbrev Ez:a9:=EB
def wJ (a b:Int) (fs:vO_):Ez [.int a,.int b] fs=some (.int (Int.gcd a b),fs):=by
 have B:=Fj fs b.natAbs a.natAbs;refine u9 (s:=#[[.v (.int (Nat.gcd a.natAbs b.natAbs)),.v (.int 0)],fs]) ?_;show kc #[[.v (.int a),.v (.int b)],fs]=_;unfold kc;rw[B6 (s1:=#[[.v (.int a.natAbs),.v (.int b.natAbs)],fs]) (by simp![d5,W3,mB])];rw[B6 B];refine B0 ?_;simp[dV,Int.gcd]
end T
namespace DL
open PySem L2
def km (f:FS) (h:f.kind=2):f.tget 0=some (.lst (f.cells.map .int)):=by unfold FS.tget;rw[fI ∅,fx rfl]
def vF (f:FS) (h:f.kind=2):f.tget 1=some (.int f.pos):=by unfold FS.tget;rw[fI ∅,fI #[],fx rfl]
def so (f:FS) (h:f.kind=2):f.tget 2=some (.int f.left):=by unfold FS.tget;rw[fI ∅,fI #[],fI #[],fx rfl]
def jp (f:FS) (h:f.kind=2):f.tget 3=some (.int f.turn):=by unfold FS.tget;rw[fI ∅,fI #[],fI #[],fI #[],fx #[rfl,by omega]]
def uP (f:FS) (v:Int) (h:f.kind=2):f.tput 1 v=some { f with pos:=v }:=by unfold FS.tput;rw[fI ∅,fx rfl]
def ut (f:FS) (v:Int) (h:f.kind=2):f.tput 2 v=some { f with left:=v }:=by unfold FS.tput;rw[fI ∅,fI #[],fx rfl]
def BP (f:FS) (v:Int) (h:f.kind=2):f.tput 3 v=some { f with turn:=v }:=by unfold FS.tput;rw[fI ∅,fI #[],fI #[],fx #[rfl,by omega]]
end DL
namespace T
open PySem L2 DL
abbrev G3:a9:=tf
def zY (f:FS) (B:Int) (hm:0<B) (hm2:B<2 ^ 100) (ht:0<=f.pos) (ht2:f.pos<2 ^ 40) (hu:0<=f.turn) (hu2:f.turn<2 ^ 40) (hk:f.kind=2) (Z:f.cells≠[]) :
  ∃r f',G3 [.feed,.int B] (some f)=some (.int r,some f')/\0<=r/\r<B/\f.pos<=f'.pos/\f'.pos<=f.pos+1/\f'.turn=f.turn+1/\f'.kind=2/\f'.cells=f.cells:=by
 have dm:L8 B=true:=Eh ∅ ∅;have hne:B≠0:=by omega
 obtain⟨J,ps,W,U,kd⟩:=f;simp only at ht ht2 hu hu2 hk Z ⊢;subst hk;have st0:Q9 0 3 (a7 k9 (C0 0 3) (Od 1)) #[[.v .feed,.v (.int B),.no,.no,.no,.no],some #[J,ps,W,U,2]]=some (.next,#[[.v .feed,.v (.int B),.no,.no,.no,.no],some #[J,ps,W,U+1,2]]):=by
  simp[Q9,a7,C0,jp,BP,dC,Od,Oe,k9]
 by_cases hl:0<W
 .refine#[W.fmod B,#[J,ps,W.fdiv B,U+1,2],u9 (s:=#[[.v .feed,.v (.int B),.v (.int (W.fmod B)),.no,.no,.no],some #[J,ps,W.fdiv B,U+1,2]]) ?_,(Y2 hm).1,(Y2 hm).2,by simp,by simp;omega,rfl,rfl,rfl];show ap #[[.v .feed,.v (.int B),.no,.no,.no,.no],some #[J,ps,W,U,2]]=_;unfold ap;rw[B6 st0];refine aQ ?_;simp[f6,B2,i8,a7,C0,Q9,km,vF,so,uP,ut,dC,Od,Oe,dL,dV,e7,o0,dB,p8,C1,G8,hl,hne,dm,j5,Option.bind]
 .have hc:0<J.length:=List.length_pos_iff.mpr Z;have hi:=Y2 (a:=ps) (b:=(J.length:Int)) ∅;obtain⟨c,hg⟩:∃c:Int,v5 (J.map D.int) (ps.fmod (J.length:Int))=some (.int c):=by
   have:(ps.fmod (J.length:Int)).toNat<J.length:=by omega
   refine#[J[(ps.fmod (J.length:Int)).toNat],?_];rw[lG hi.1 (by rw[xo];exact hi.2),IT,Jg this];rfl
  have hc1:=Y2 (a:=c) (b:=1000003) #[];have pre:∀rest:DM,f6 (Q9 0 3 (a7 k9 (C0 0 3) (Od 1))) (f6 (o0 (dB (a7 (p8 (fun i j=>decide (j<i))) (C0 0 2) (Od 0))) (f6 (i8 (a7 C1 (C0 0 2) (dL 1)) (e7 2)) (f6 (Q9 0 2 (a7 G8 (C0 0 2) (dL 1))) (j5 (dV 2)))) p7) (f6 (i8 (C0 0 1) (e7 3)) (f6 (Q9 0 1 (a7 k9 (dL 3) (Od 1))) (f6 (i8 (a7 d5 (C0 0 0) (a7 C1 (dL 3) (l7 (one o6) (a0 (C0 0 0) b9)))) (e7 4)) rest))))
    #[[.v .feed,.v (.int B),.no,.no,.no,.no],some #[J,ps,W,U,2]]=rest #[[.v .feed,.v (.int B),.no,.v (.int ps),.v (.int c),.no],some #[J,ps+1,W,U+1,2]]:=fun rest=>by
   rw[B6 st0];rw[B6 (s1:=#[[.v .feed,.v (.int B),.no,.no,.no,.no],some #[J,ps,W,U+1,2]]) (by simp[o0,dB,a7,C0,so,dC,Od,Oe,p8,hl,p7])];rw[B6 (s1:=#[[.v .feed,.v (.int B),.no,.v (.int ps),.no,.no],some #[J,ps,W,U+1,2]]) (by simp[i8,C0,vF,e7])];rw[B6 (s1:=#[[.v .feed,.v (.int B),.no,.v (.int ps),.no,.no],some #[J,ps+1,W,U+1,2]]) (by simp[Q9,uP,a7,dL,dC,Od,Oe,k9])];rw[B6 (s1:=#[[.v .feed,.v (.int B),.no,.v (.int ps),.v (.int c),.no],some #[J,ps+1,W,U+1,2]]) (by
    have hn:¬ (J.length:Int)=0:=by omega
    simp[i8,a7,C0,km,dL,l7,one,o6,a0,b9,C1,d5,e7,Z,hg])]
  have Y:u4 (dB (a7 (p8 (fun i j=>decide (j<=i))) (dL 4) (a7 aW (Od 10) (Od 18)))) (dB (a7 (p8 (fun i j=>decide (i<j))) (dL 3) (l7 (one o6) (a0 (C0 0 0) b9)))) #[[.v .feed,.v (.int B),.no,.v (.int ps),.v (.int c),.no],some #[J,ps+1,W,U+1,2]] =
    some (decide (1000000000000000000<=c)&&decide (ps<(J.length:Int)),#[[.v .feed,.v (.int B),.no,.v (.int ps),.v (.int c),.no],some #[J,ps+1,W,U+1,2]]):=by
   by_cases h1:1000000000000000000<=c
   .simp[u4,dB,a7,dL,dC,Od,Oe,aW,p8,C0,km,l7,one,o6,a0,b9,h1]
   .simp[u4,dB,a7,dL,dC,Od,Oe,aW,p8,h1]
  by_cases hb:(decide (1000000000000000000<=c)&&decide (ps<(J.length:Int)))=true
  .refine#[c.fmod B,#[J,ps+1,c.fdiv B,U+1,2],u9 (s:=#[[.v .feed,.v (.int B),.no,.v (.int ps),.v (.int c),.no],some #[J,ps+1,c.fdiv B,U+1,2]]) ?_,(Y2 hm).1,(Y2 hm).2,by simp;omega,by simp,rfl,rfl,rfl];show ap #[[.v .feed,.v (.int B),.no,.no,.no,.no],some #[J,ps,W,U,2]]=_;unfold ap;rw[pre];rw[hb] at Y;refine aQ ?_;rw[P8 Y];simp[f6,B2,Q9,a7,dL,G8,dm,ut,j5,C1,hne]
  .have hb':(decide (1000000000000000000<=c)&&decide (ps<(J.length:Int)))=false:=by simpa using hb
   have b1:C8 48271=true:=by decide
   have b2:C8 (c.fmod 1000003)=true:=iw ∅;have b3:C8 7919=true:=by decide
   have b4:C8 (U+1)=true:=iw ∅;have b5:C8 69621=true:=by decide
   have b6:C8 31=true:=by decide
   have b7:C8 (31*(U+1))=true:=iw ∅;have d64:L8 64=true:=by decide
   obtain⟨M,hM,m1,m2⟩:∃M:Int,(c.fmod 1000003*48271+7919*(U+1)+104729).fmod 2147483647=M/\0<=M/\M<2147483647:=#[_,rfl,Y2 #[]]
   have hD:=Mq M (show (0:Int)<=64 by decide);have b8:C8 (M.fdiv 64)=true:=iw (by rw[hD];omega);obtain⟨L,hL⟩:∃L:Int,(M.fdiv 64*69621+31*(U+1)*(U+1)+ps).fmod 2147483587=L:=#[_,rfl]
   refine#[(L.fdiv 64).fmod B,#[J,ps+1,W,U+1,2],u9 (s:=#[[.v .feed,.v (.int B),.no,.v (.int ps),.v (.int c),.v (.int L)],some #[J,ps+1,W,U+1,2]]) ?_,(Y2 hm).1,(Y2 hm).2,by simp;omega,by simp,rfl,rfl,rfl];show ap #[[.v .feed,.v (.int B),.no,.no,.no,.no],some #[J,ps,W,U,2]]=_;unfold ap;rw[pre];rw[hb'] at Y;rw[B6 (by rw[N3 Y];rfl)];rw[B6 (s1:=#[[.v .feed,.v (.int B),.no,.v (.int ps),.v (.int c),.v (.int M)],some #[J,ps+1,W,U+1,2]]) (by
    simp[i8,a7,dL,dC,Od,Oe,C0,jp,e7,C1,j9,k9,b1,b2,b3,b4,hM])]
   rw[B6 (s1:=#[[.v .feed,.v (.int B),.no,.v (.int ps),.v (.int c),.v (.int L)],some #[J,ps+1,W,U+1,2]]) (by
    simp[i8,a7,dL,dC,Od,Oe,C0,jp,e7,C1,j9,k9,G8,b4,b5,b6,b7,b8,d64,hL])]
   simp[j5,a7,dL,dC,Od,Oe,C1,G8,d64,hne]
def Fd4 (n:Nat) (f:FS):Prop:=0<=f.pos/\f.pos<=n/\0<=f.turn/\f.turn<=n/\f.kind=2/\f.cells≠[]
def Fd4.mono {m:Nat}{f:FS}(h:Fd4 n f) (hm:n<=m):Fd4 m f:=#[h.1,by have:=h.2.1;omega,h.2.2.1,by have:=h.2.2.2.1;omega,h.2.2.2.2]
def N8 {n:Nat}{f:FS}(B:Int) (h:Fd4 n f) (hm:0<B:=by omega) (hn:n<2 ^ 30:=by omega) (J:B<2 ^ 100:=by omega) :
  ∃r f',G3 [.feed,.int B] (some f)=some (.int r,some f')/\0<=r/\r<B/\Fd4 (n+1) f':=by
 obtain⟨Y,a2,a3,a4,W,U⟩:=h;obtain⟨r,f',e,h0,h1,h2,h3,h4,h5,Z⟩:=zY f B hm J Y ∅ a3 ∅ W U;exact#[r,f',e,h0,h1,by omega,by omega,by omega,by omega,h5,by rw[Z];exact U]
def HY (ns:List Int):Q7 ns≠[]:=by
 unfold Q7;cases ns with
 |nil=>simp
 |cons n r=>simp
def HV (h:ns.length<=63):(Q7 ns).length<=63:=by
 unfold Q7;cases ns with
 |nil=>simp
 |cons n r=>simpa using h
def Dt (ns:List Int) (h:ns.length<=63):aY [.scr ns] none=some (.feed,some #[Q7 ns,0,0,0,2]):=by
 refine u9 (s:=#[[.v (.scr ns)],some #[Q7 ns,0,0,0,2]]) ?_;show jD #[[.v (.scr ns)],none]=_;have:=HV h;simp[jD,j5,iA,this]
def Fd4.zero (ns:List Int):Fd4 0 #[Q7 ns,0,0,0,2]:=#[by simp,by simp,by simp,by simp,rfl,HY ns]
def D8 {i j:Int}(h1:C8 i=true) (h2:C8 j=true):j9 (.int i) (.int j)=some (.int (i*j)):=by simp[j9,h1,h2]
def oV (a b:Int) (fs:vO_):ix [.int a,.int b] fs=some (.int (Int.gcd a b),fs):=wJ a b fs
abbrev ai:a9:=rH ix
def jO (x y d:Int) (fs:vO_) (J:d≠0) (h:Bd k d) (hk:k<=8000):ai [.int x,.int y,.int d] fs=some (pt (Rat.divInt x d,Rat.divInt y d),fs):=by
 obtain⟨p0,p1,p2,W⟩:=fT x y d J;have dg:=oP (x:=x) (y:=y) J h hk;have U:=oV x y fs;have Z:=oV (Int.gcd x y:Int) d fs;refine u9 (s:=#[[.v (.int x),.v (.int y),.v (.int d),.v (.int (if d<0 then -(Int.gcd (Int.gcd x y:Int) d:Int) else (Int.gcd (Int.gcd x y:Int) d:Int)))],fs]) ?_;show gu ix #[[.v (.int x),.v (.int y),.v (.int d),.no],fs]=_;unfold gu;rw[B6 (s1:=#[[.v (.int x),.v (.int y),.v (.int d),.v (.int (Int.gcd (Int.gcd x y:Int) d))],fs]) (by simp![d5,U,Z])];rw[B6 (s1:=#[[.v (.int x),.v (.int y),.v (.int d),.v (.int (if d<0 then -(Int.gcd (Int.gcd x y:Int) d:Int) else (Int.gcd (Int.gcd x y:Int) d:Int)))],fs]) (by
  by_cases B:d<0
  .simp![d5,B]
  .simp![d5,B])]
 generalize hg:(if d<0 then -(Int.gcd (Int.gcd x y:Int) d:Int) else (Int.gcd (Int.gcd x y:Int) d:Int))=gg at *;refine B0 ?_;unfold pt;rw[<-p1,<-p2,<-W];have Y:(3:Nat)<=sizeLine:=by decide
 simp![d5,G8,dg,Y]
end T
namespace DL
open PySem L2
def pH {α:Type}{xs:List α}{x:α}(h:xs[i]? = some x):v5 xs (i:Int)=some x:=by
 have hi:=(IK.mp h).1;rw[lG ∅ ∅];simpa using h
def mV {α:Type}{xs:List α}{x:α}(h:xs[xs.length - 1]? = some x):v5 xs (-1)=some x:=by
 have hi:=(IK.mp h).1;unfold v5 P5;rw[fI ∅,fx ∅];show xs[_]? = _;rw[show ((-1:Int)+xs.length).toNat=xs.length - 1 by omega];exact h
def pS (B:List Bool):N6 (.bl false) (.lst (B.map .bl))=some (.bl (!B.all id))/\Z2 (.bl false) (.lst (B.map .bl))=some (.bl (B.all id)):=by
 have h1:u3 (.bl false)=true:=rfl;have h2:u3 (.lst (B.map .bl))=true:=by
  have:=Ok.lst (OkL.all (k:=0) (n:=0) (ds:=B.map D.bl) (fun d W=>by
   obtain⟨b,_,rfl⟩:=Ik.mp W;exact Ok.bl b))
  exact this.eq
 have J:Q5 (.bl false) (B.map .bl) = !B.all id:=by
  clear h2;induction B with
  |nil=>rfl
  |cons b r U=>
   simp only[Iv,Q5,D.pys,D.py,Ku,List.all_cons] at U ⊢;cases b
   .rfl
   .simpa [PyData.eqv] using U
 constructor
 .simp only[N6,Y0,h1,h2,Js,IC,id,J]
 .simp only[Z2,Y0,h1,h2,Js,IC,J,Bool.not_not]
end DL
namespace T
open PySem L2 DL
abbrev Y3:a9:=sT T4
def Bt (ds:vD_) (fs:vO_) (hl:ds.length+1<=sizeLine):Y3 [.tup ds] fs=some (.lst ((f8 true ds).map S6),fs):=by
 refine u9 (s:=#[[.v (.tup ds)],fs]) ?_;show gU T4 #[[.v (.tup ds)],fs]=_;have e:=Du ds true fs hl;generalize (f8 true ds).map S6=W at *;simp![gU,d5,e]
def cL (S:vD_):D->D
 |.int k=>.tup [(S[k.toNat]?).getD .non,(S[(k.toNat+1) % S.length]?).getD .non]
 |_=>.non
def yk (S:vD_) (fs:vO_):∀d∈B7 0 S.length,∃s,i9 (a0 (a7 d5 (dL 1) (dL 0)) (a0 (a7 d5 (dL 1) (a7 C1 (a7 k9 (dL 0) (Od 1)) (l7 (one o6) (a0 (dL 1) b9)))) b9)) #[.v d::[.v (.tup S)],fs]=some (cL S d,s)/\s.fs=fs:=by
 intro d J;obtain⟨i,hi⟩:=Kb J;obtain⟨rfl,B⟩:=fM hi;rw[Nh];have hm:(i+1) % S.length<S.length:=IV _ ∅;have U:v5 S (i:Int)=some S[i]:=pH (xs:=S) (i:=i) (x:=S[i]) (by rw[Jg ∅]);have W:((i:Int)+1).fmod (S.length:Int)=(((i+1) % S.length:Nat):Int):=by
  rw[Ml _ ∅];simp
 have a2:v5 S (((i:Int)+1).fmod (S.length:Int))=some S[(i+1) % S.length]:=by
  rw[W];exact pH (xs:=S) (i:=(i+1) % S.length) (x:=S[(i+1) % S.length]) (by rw[Jg hm])
 have n0:¬ (S.length:Int)=0:=by omega
 refine#[#[[.v (.int (i:Int)),.v (.tup S)],fs],?_,rfl];have Y:cL S (.int (i:Int)) = .tup [S[i],S[(i+1) % S.length]]:=by
  simp only[cL,JH];rw[Jg ∅,Jg hm];rfl
 rw[Y];have Z:C1 (.int ((i:Int)+1)) (.int (S.length:Int))=some (.int (((i:Int)+1).fmod (S.length:Int))):=by simp only[C1,ne_eq,n0,not_false_eq_true,IC]
 generalize S[i]=x at *;generalize S[(i+1) % S.length]=y at *;generalize ((i:Int)+1).fmod (S.length:Int)=z at *;simp![Y8,U6,bL,cD,Z3,X1,S3,U,a2,Z,jm]
def FJ (ds:vD_):(B7 0 ds.length).map (cL ds)=(f8 true ds).map S6:=by
 have J:(f8 true ds).length=ds.length:=by
  rw[kr];simp only[IC];omega
 apply MI;intro i;by_cases hi:i<(f8 true ds).length
 .obtain⟨a,b,U,W,Y⟩:=zp hi;have u:(B7 0 ds.length)[i]? = some (.int (i:Int)):=by
   unfold B7;rw[IT,List.getElem?_range ∅];simp
  rw[IT,u,IT,Y];simp only[ME,cL,JH,U,W];rfl
 .have B:(f8 true ds).length<=i:=by omega
  rw[Ni (by rw[xo];unfold B7;rw[xo,Mr];omega)];rw[Ni (by rw[xo];exact B)]
def zB (ds:vD_) (fs:vO_) (hl:ds.length<=1000000):aN [.tup ds] fs=some (.lst ((f8 true ds).map S6),fs):=by
 have B:=oW (idx:=[0]) (g:=cL ds) [.v (.tup ds)] fs (B7 0 ds.length) (yk ds fs);rw[FJ] at B;have J:T7 [.int (ds.length:Int)]=some (B7 0 ds.length):=eQ ∅;have U:(B7 0 ds.length).length<=sizeLine:=by
  unfold B7;rw[xo,Mr,sizeLine_eq];omega
 have ha:a0 (l7 (one o6) (a0 (dL 0) b9)) b9 #[[.v (.tup ds)],fs]=some ([.int (ds.length:Int)],#[[.v (.tup ds)],fs]):=by
  simp![d5]
 have hr:cQ (a0 (l7 (one o6) (a0 (dL 0) b9)) b9) #[[.v (.tup ds)],fs]=some (B7 0 ds.length,#[[.v (.tup ds)],fs]):=by
  unfold cQ;rw[ha,td];show (T7 [.int (ds.length:Int)]).map _=_;rw[J];rfl
 have Y:F9 [0] (cQ (a0 (l7 (one o6) (a0 (dL 0) b9)) b9)) A5 (i9 (a0 (a7 d5 (dL 1) (dL 0)) (a0 (a7 d5 (dL 1) (a7 C1 (a7 k9 (dL 0) (Od 1)) (l7 (one o6) (a0 (dL 1) b9)))) b9))) #[[.v (.tup ds)],fs]=some ((f8 true ds).map S6,#[[.v (.tup ds)],fs]):=by
  unfold F9;rw[hr,td];simp only[fx U];have Z:K2 [0] [Sl.v (.tup ds)]=[.v (.tup ds)]:=rfl;rw[Z,B];rfl
 refine u9 (s:=#[[.v (.tup ds)],fs]) ?_;show jT #[[.v (.tup ds)],fs]=_;unfold jT;refine B0 ?_;generalize (F9 [0] (cQ (a0 (l7 (one o6) (a0 (dL 0) b9)) b9)) A5 (i9 (a0 (a7 d5 (dL 1) (dL 0)) (a0 (a7 d5 (dL 1) (a7 C1 (a7 k9 (dL 0) (Od 1)) (l7 (one o6) (a0 (dL 1) b9)))) b9))))=F at *;generalize (f8 true ds).map S6=W at *;simp[p9,Y]
def cA {i:Int}(h:v5 ds i=some d):d5 (.lst ds) (.int i)=some d:=(U6 ds i).trans h
def eC {s:DS}{R:vD_}(h:fi s=some (ds,s1)) (hz:ds.length<=sizeLine) (c:A3 (fun d=>some (.v d::K2 idx s1.sl)) fc fe ds s1.fs=some (R,fs')):F9 idx fi fc fe s=some (R,{ s1 with fs:=fs' }):=by
 unfold F9;rw[h,td,fx hz,c];rfl
def lB {a:Int}{g:Nat}:(a.fdiv (g:Int)).natAbs<=a.natAbs:=by
 rw[Mq _ ∅];exact NT a g
def Gx (x y:Int) {d:Int}(h:1<=d):(pX (Rat.divInt x d,Rat.divInt y d)).natAbs<=x.natAbs/\(pY (Rat.divInt x d,Rat.divInt y d)).natAbs<=y.natAbs/\(pL (Rat.divInt x d,Rat.divInt y d)).natAbs<=d.natAbs:=by
 obtain⟨J,p1,p2,B⟩:=fT x y d ∅;rw[fI ∅] at p1 p2 B;rw[<-p1,<-p2,<-B];exact#[lB,lB,lB]
abbrev af:a9:=tB ai
def vf {i j:Nat}{f:DA}{s s1 s2:DS}{a b:D}(h:f s=some ([a,b],s1)) (e:{ s1 with sl:=(s1.sl.set i (.v a)).set j (.v b) }=s2):A6 i j f s=some (.next,s2):=by
 unfold A6;rw[h,<-e];rfl
def HU {i:Nat}{f:DA}{s s1 s2:DS}{ds:vD_}(h:f s=some (ds,s1)) (hi:i<s1.sl.length) (e:{ s1 with sl:=s1.sl.set i (.own ds) }=s2):G6 i f s=some (.next,s2):=by
 unfold G6;rw[h,td,fx hi,<-e]
def zh {s:DS}(h:f s=some (ds,s1)) (hz:ds.length<=sizeLine):u7 f s=some (ds,s1):=by
 unfold u7;rw[h,td,fx hz]
def fw {s:DS}(h:f s=some (ds,s1)) (hz:ds.length<=sizeLine):i9 f s=some (.tup ds,s1):=by
 unfold i9;rw[h,td,fx hz]
def uI {a b:DT}{s:DS}(h1:a s=some (false,s1)) (h2:b s1=some (false,s2)):C2 a b s=some (false,s2):=by
 unfold C2;rw[h1,td];exact h2
def aj {p:List D->Option D}{a:DA}{s:DS}{xs:vD_}(ha:a s=some (xs,s1)) (hp:p xs=some d):l7 p a s=some (d,s1):=by
 unfold l7;rw[ha,td,hp];rfl
def mh {s:DS}(h:f s=some (ds,s1)):p9 f s=some (.lst ds,s1):=by
 unfold p9;rw[h];rfl
def BQ {a b:D}{l:Bool}{fs:vO_}(e:m [a,b] fs=some (.bl l,fs)):jg m [a,b] fs=some (.tup (if l then [a,b] else [b,a]),fs):=by
 cases l <;> simp![jg,t7,lL,d5,e,jm]
abbrev cF (x y l:Int):D:=.tup [.int x,.int y,.int l]
def yg {α:Type}{caps:List Sl}(fs:vO_) (A G:α->D):∀l:List α,(∀z∈l,fe #[.v (A z)::caps,fs]=some (G z,#[.v (A z)::caps,fs]))->A3 (fun d=>some (.v d::caps)) A5 fe (l.map A) fs=some (l.map G,fs):=by
 intro l;induction l with
 |nil=>exact fun _=>rfl
 |cons z r B=>
  intro h;have e:=h z (iR ..);have B:=B fun y J=>h y (iU _ J)
  rw[Iv,A3,td,
   show A5 #[.v (A z)::caps,fs]=some (true,#[.v (A z)::caps,fs]) from rfl,td,fx rfl,e,td,B]
  rfl
def nV {x l J B U:Int}(fs:vO_) (hx:Bd k x) (hy:Bd k y) (hl:Bd k l) (W:Bd k J) (Z:Bd k B) (Y:Bd k U) (hk:k<=2000):ij [cF x y l,cF J B U] fs=some (cF (y*U - l*B) (l*J - x*U) (x*B - y*J),fs):=by
 have b1:=hx.bits ∅;have b2:=hy.bits ∅;have b3:=hl.bits ∅;have c1:=W.bits ∅;have c2:=Z.bits ∅;have c3:=Y.bits ∅;refine u9 (s:=#[[.v (cF x y l),.v (cF J B U)],fs]) (B0 ?_);exact yI (c8 (c8 (c8 rfl rfl rfl) (c8 rfl rfl rfl) (Y4 b2 c3)) (c8 (c8 rfl rfl rfl) (c8 rfl rfl rfl) (Y4 b3 c2)) rfl) (c8 (c8 (c8 rfl rfl rfl) (c8 rfl rfl rfl) (Y4 b3 c1)) (c8 (c8 rfl rfl rfl) (c8 rfl rfl rfl) (Y4 b1 c3)) rfl) (c8 (c8 (c8 rfl rfl rfl) (c8 rfl rfl rfl) (Y4 b1 c2)) (c8 (c8 rfl rfl rfl) (c8 rfl rfl rfl) (Y4 b2 c1)) rfl)
abbrev T6:a9:=sS ij
def G2 (a b:Pt):Int:=pY a*pL b - pL a*pY b
def G1 (a b:Pt):Int:=pL a*pX b - pX a*pL b
def L6 (a b:Pt):Int:=pX a*pY b - pY a*pX b
abbrev o8 (a b:Pt):D:=cF (G2 a b) (G1 a b) (L6 a b)
def bb {b:Pt}(ha:Ps k a) (hb:Ps k b):Bd (k+k+1) (G2 a b)/\Bd (k+k+1) (G1 a b)/\Bd (k+k+1) (L6 a b):=
 #[((ha.y.mul hb.l).sub (ha.l.mul hb.y)).mono ∅,((ha.l.mul hb.x).sub (ha.x.mul hb.l)).mono ∅,((ha.x.mul hb.y).sub (ha.y.mul hb.x)).mono ∅]
def rO {b:Pt}(fs:vO_) (ha:Ps k a) (hb:Ps k b) (hk:k<=900):T6 [pt a,pt b] fs=some (o8 a b,fs):=by
 have e:=nV fs ha.x ha.y ha.l hb.x hb.y hb.l ∅;exact u9 (s:=#[[.v (pt a),.v (pt b)],fs]) (B0 (r8 rfl e))
abbrev au:a9:=nB lR
theorem wW (a b c:Pt):X0 (G2 a b*pX c+G1 a b*pY c+L6 a b*pL c)=A9 (a8 a b c):=by
 refine gH (Aj (E5 a) (E5 b) (E5 c)) ?_;unfold G2 G1 L6;simp only[JO,JL,Ih,K5,K4,a8];grind
def EU {b c:Pt}(fs:vO_) (ha:Ps k a) (hb:Ps k b) (B:Ps k c) (hk:k<=900):au [o8 a b,pt c] fs=some (.int (A9 (a8 a b c)),fs):=by
 obtain⟨h1,h2,U⟩:=bb ha hb;have Y:=h1.bits ∅;have b2:=h2.bits ∅;have b3:=U.bits ∅;have Z:=B.x.bits ∅;have W:=B.y.bits ∅;have J:=B.l.bits ∅;rw[<-wW];refine u9 (s:=#[[.v (o8 a b),.v (pt c)],fs]) (B0 (r8 (G4 (c8 (c8 (c8 (c8 rfl rfl rfl) (c8 rfl rfl (Z3 c)) (Y4 Y Z)) (c8 (c8 rfl rfl rfl) (c8 rfl rfl (X1 c)) (Y4 b2 W)) rfl) (c8 (c8 rfl rfl rfl) (c8 rfl rfl (S3 c)) (Y4 b3 J)) rfl) rfl) (As _ fs)))
theorem vA {q a b:Rat}(J:q≠0) (hb:b≠0):(q*a) / (q*b)=a / b:=by
 have B:q*b≠0:=fun z=>by
  rcases IB.mp z with z | z
  .exact J z
  .exact hb z
 have U:=Jm (a:=q*a) B;have W:=Jm (a:=a) hb;have:(q*a / (q*b) - a / b)*(q*b)=0:=by grind
 rcases IB.mp this with z | z
 .grind
 .exact absurd z B
theorem lI {b c d:Pt}(B:j8 (d6 a b) (d6 c d)≠0):G2 a b*G1 c d - G1 a b*G2 c d≠0/\(Rat.divInt (G1 a b*L6 c d - L6 a b*G1 c d) (G2 a b*G1 c d - G1 a b*G2 c d),Rat.divInt (L6 a b*G2 c d - G2 a b*L6 c d) (G2 a b*G1 c d - G1 a b*G2 c d))=J7 a b c d:=by
 have P:(pL a:Rat)*pL b*(pL c*pL d)≠0:=fun z=>by
  rcases IB.mp z with z | z
  .rcases IB.mp z with z | z
   .exact eP a z
   .exact eP b z
  .rcases IB.mp z with z | z
   .exact eP c z
   .exact eP d z
 have J:((G2 a b*G1 c d - G1 a b*G2 c d:Int):Rat)=((pL a:Rat)*pL b*(pL c*pL d))*j8 (d6 a b) (d6 c d):=by
  unfold G2 G1 j8 d6;simp only[JL,Ih,K5,K4];grind
 have U:((G1 a b*L6 c d - L6 a b*G1 c d:Int):Rat)=((pL a:Rat)*pL b*(pL c*pL d))*ay a b c d:=by
  unfold G1 L6 ay;simp only[JL,Ih,K5,K4];grind
 have W:((L6 a b*G2 c d - G2 a b*L6 c d:Int):Rat)=((pL a:Rat)*pL b*(pL c*pL d))*aq a b c d:=by
  unfold G2 L6 aq;simp only[JL,Ih,K5,K4];grind
 refine#[fun z=>?_,?_]
 .rw[z] at J;rcases IB.mp J.symm with q | q
  .exact P q
  .exact B q
 .unfold J7;rw[Kc,Kc,J,U,W,vA P B,vA P B]
def zo {b c d:Pt}(ha:Ps k a) (hb:Ps k b) (hc:Ps k c) (Z:Ps k d) (hW:j8 (d6 a b) (d6 c d)≠0):PtS (4*k+3) (J7 a b c d):=by
 obtain⟨h1,h2,W⟩:=bb ha hb;obtain⟨B,J,U⟩:=bb hc Z;obtain⟨Y,q⟩:=lI hW;rw[<-q];exact#[Sz.of_divInt Y (((h2.mul U).sub (W.mul J)).mono ∅) (((h1.mul J).sub (h2.mul B)).mono ∅),Sz.of_divInt Y (((W.mul B).sub (h1.mul U)).mono ∅) (((h1.mul J).sub (h2.mul B)).mono ∅)]
abbrev dG:a9:=uw FL ij
def BS {b c d:Pt}(fs:vO_) (ha:Ps k a) (hb:Ps k b) (hc:Ps k c) (W:Ps k d) (hk:k<=400) (Y:j8 (d6 a b) (d6 c d)≠0):dG [o8 a b,o8 c d] fs=some (pt (J7 a b c d),fs):=by
 obtain⟨h1,h2,Z⟩:=bb ha hb;obtain⟨B,J,U⟩:=bb hc W;have e:=nV fs h1 h2 Z B J U ∅;obtain⟨hz,q⟩:=lI Y;have l:=BC (G1 a b*L6 c d - L6 a b*G1 c d) (L6 a b*G2 c d - G2 a b*L6 c d) (G2 a b*G1 c d - G1 a b*G2 c d) fs hz ((h1.mul J).sub (h2.mul B)) ∅;rw[q] at l;exact u9 (s:=#[[.v (o8 a b),.v (o8 c d)],fs]) (B0 (r8 (G4 (r8 rfl e) rfl) l))
abbrev X5:a9:=jg E1
abbrev d7 (u:Pt × Pt):D:=.tup [pt u.1,pt u.2]
def vR {b:Pt}(fs:vO_) (ha:Ps k a) (hb:Ps k b) (hk:k<=2000):X5 [pt a,pt b] fs=some (d7 (j4 a b),fs):=by
 have e:=BQ (aH a b fs ha hb hk);refine e.trans ?_;unfold j4;cases j6 a b <;> rfl
theorem rX (a b u w:Pt):j8 (d6 a b) (d6 u w)=a8 a b w - a8 a b u:=by unfold j8 d6 a8;grind
theorem HI {b u w:Pt}(h:a8 a b u*a8 a b w<0):j8 (d6 a b) (d6 u w)≠0/\J7 a b u w=xq a b u w:=by
 have B:a8 a b w - a8 a b u≠0:=fun z=>by
  have e:a8 a b w=a8 a b u:=by grind
  rw[e] at h;have:=N5 (a8 a b u);grind
 refine#[by rw[rX];exact B,?_];have J:a8 a b u - a8 a b w≠0:=by grind
 unfold J7 xq c7;rw[rX];have s:a8 a b u / (a8 a b u - a8 a b w) = -a8 a b u / (a8 a b w - a8 a b u):=by
  rw[Ji,Ji];grind
 rw[s];refine Il ?_ ?_
 .show ay a b u w / (a8 a b w - a8 a b u)=u.1 + -a8 a b u / (a8 a b w - a8 a b u)*(w.1 - u.1);have e:ay a b u w=u.1*(a8 a b w - a8 a b u) - a8 a b u*(w.1 - u.1):=by unfold ay a8;grind
  rw[e,Ji,Ji];generalize a8 a b w - a8 a b u=W at *;grind
 .show aq a b u w / (a8 a b w - a8 a b u)=u.2 + -a8 a b u / (a8 a b w - a8 a b u)*(w.2 - u.2);have e:aq a b u w=u.2*(a8 a b w - a8 a b u) - a8 a b u*(w.2 - u.2):=by unfold aq a8;grind
  rw[e,Ji,Ji];generalize a8 a b w - a8 a b u=W at *;grind
theorem kS (x:Rat):A9 x = -1↔x<0:=by
 unfold A9;by_cases h:0<x
 .rw[fx h];exact#[fun z=>absurd z #[],fun z=>by grind]
 .rw[fI h];by_cases h2:x<0
  .rw[fx h2];exact#[fun _=>h2,fun _=>rfl]
  .rw[fI h2];exact#[fun z=>absurd z #[],fun z=>absurd z h2]
theorem FH {b c d q:Pt}(U:j8 (d6 a b) (d6 c d)≠0) (h1:a8 a b q=0) (h2:a8 c d q=0):J7 a b c d=q:=by
 have W:ay a b c d=q.1*j8 (d6 a b) (d6 c d):=by
  unfold a8 at h1 h2;unfold ay j8 d6;have B:(d.1 - c.1)*((b.1 - a.1)*(q.2 - a.2) - (b.2 - a.2)*(q.1 - a.1))=0:=by rw[h1,Kh]
  have Y:(b.1 - a.1)*((d.1 - c.1)*(q.2 - c.2) - (d.2 - c.2)*(q.1 - c.1))=0:=by rw[h2,Kh]
  show (b.1 - a.1)*(c.1*d.2 - c.2*d.1) - (a.1*b.2 - a.2*b.1)*(d.1 - c.1)=q.1*((b.1 - a.1)*(d.2 - c.2) - (b.2 - a.2)*(d.1 - c.1));grind
 have J:aq a b c d=q.2*j8 (d6 a b) (d6 c d):=by
  unfold a8 at h1 h2;unfold aq j8 d6;have B:(d.2 - c.2)*((b.1 - a.1)*(q.2 - a.2) - (b.2 - a.2)*(q.1 - a.1))=0:=by rw[h1,Kh]
  have Y:(b.2 - a.2)*((d.1 - c.1)*(q.2 - c.2) - (d.2 - c.2)*(q.1 - c.1))=0:=by rw[h2,Kh]
  show (a.1*b.2 - a.2*b.1)*(c.2 - d.2) - (a.2 - b.2)*(c.1*d.2 - c.2*d.1)=q.2*((b.1 - a.1)*(d.2 - c.2) - (b.2 - a.2)*(d.1 - c.1));grind
 unfold J7;rw[W,J,Ji,Ji,KZ,KZ,Mp _ U,LD,LD]
def Fr (ds:vD_) (c:Bool) (fs:vO_) (hl:ds.length+1<=sizeLine):T4 [.lst ds,.bl c] fs=some (.lst ((f8 c ds).map S6),fs):=by
 refine u9 (s:=#[[.v (.lst ds),.v (.bl c)],fs]) ?_;show bG #[[.v (.lst ds),.v (.bl c)],fs]=_;have h1:ds.length - 1+min 1 ds.length<=sizeLine:=by omega
 cases c
 .simp! only[]
 .simp! only[pO,h1]
def lK {t:D->DS->Option DS}{b:DM}{x:D}{r:vD_}{s:DS}(h1:t d s=some s1) (h2:b s1=some (.ret x,s2)):A2 t b (d::r) s=some (.ret x,s2):=by simp[A2,h1,h2]
def pq (q:Pt × Pt):D:=.tup [pt q.1,pt q.2]
def vy (K:vT_):(f8 true (K.map pt)).map S6=(f8 true K).map pq:=by
 rw[rZ,KN];rfl
def i7 (A:vT_):D:=.tup (A.map pt)
def bh {A:vT_}(h:i<A.length):(f8 true A)[i]? = some (tk A i,tk A (i+1)):=by
 have hl:i<(f8 true A).length:=by rw[kr,fx rfl];omega
 have l2:(A.drop 1++A.take 1).length=A.length:=by rw[IQ,IL,Jz];omega
 unfold f8;rw[fx rfl,Ls];refine#[aB h,?_];by_cases c:i+1<A.length
 .rw[Lf (by rw[IL];omega),Kf,JU 1 i,aB c]
 .have B:i+1=A.length:=by omega
  rw[Kx (by rw[IL];omega),IL,show i - (A.length - 1)=0 by omega,Lg #[],aB ∅];rw[<-K0 (i+1),B,Nat.mod_self]
structure ShC (A:vT_):Prop where
 cv:qj A
 ne:∀k,tk A (k+1)≠tk A k
 nc:gq A
 lo:3<=A.length
 hi:A.length<=6
 sz:∀z∈A,Ps 8 z/\PtS 35 z
 st:∀k,∀z∈A,z=tk A k\/z=tk A (k+1)\/0<a8 (tk A k) (tk A (k+1)) z
 nd:A.Nodup
def ShC.ps {A:vT_}(h:ShC A):∀z∈A,Ps 70 z:=fun z B=>(h.sz z B).1.mono #[]
def l8 {a b:DM}{s:DS}{r:Option (Fl × DS)}(h:a s=some (.next,s1)) (k:b s1=r):f6 a b s=r:=(B6 h).trans k
theorem fK {n:Int}{r:Rat}(h:X0 n=A9 r):(n<0↔r<0)/\(n=0↔r=0)/\(0<n↔0<r):=by
 unfold X0 A9 at h;by_cases a:0<n
 .by_cases b:0<r
  .exact#[by constructor <;> intro <;> grind,by constructor <;> intro <;> grind,by simp[a,b]]
  .rw[fx a,fI b] at h;split at h <;> omega
 .by_cases b:0<r
  .rw[fI a,fx b] at h;split at h <;> omega
  .rw[fI a,fI b] at h;by_cases c:n<0
   .by_cases d:r<0
    .exact#[by simp[c,d],by constructor <;> intro <;> grind,by simp[a,b]]
    .rw[fx c,fI d] at h;omega
   .by_cases d:r<0
    .rw[fI c,fx d] at h;omega
    .exact#[by simp[c,d],by constructor <;> intro <;> grind,by simp[a,b]]
theorem GT (A B:Pt):X0 (pX A*pL B - pX B*pL A)=A9 (A.1 - B.1):=gH (c:=(pL A:Rat)*pL B) (W0 (E5 A) (E5 B)) (by
 rw[JL,Ih,Ih,K5,K5];grind)
theorem HK (A B:Pt):X0 (pY A*pL B - pY B*pL A)=A9 (A.2 - B.2):=gH (c:=(pL A:Rat)*pL B) (W0 (E5 A) (E5 B)) (by
 rw[JL,Ih,Ih,K4,K4];grind)
abbrev V9 (A B P:Pt):Int:=pX A*(pY B*pL P - pL B*pY P) - pY A*(pX B*pL P - pL B*pX P)+pL A*(pX B*pY P - pY B*pX P)
theorem jF (A B P:Pt):X0 (V9 A B P)=A9 (a8 A B P):=gH (c:=(pL A:Rat)*pL B*pL P) (W0 (W0 (E5 A) (E5 B)) (E5 P)) (by
 unfold V9 a8;simp only[JL,JO,Ih,K5,K4];grind)
theorem Bs (A B:Pt):(decide (pX A*pL B - pX B*pL A<0)||(decide (pX A*pL B - pX B*pL A=0)&&decide (pY A*pL B<pY B*pL A)))=j6 A B:=by
 obtain⟨h1,h2,_⟩:=fK (GT A B);obtain⟨J,_,_⟩:=fK (HK A B);unfold j6;congr 1
 .rw[Ms,h1];constructor <;> intro <;> grind
 .congr 1
  .rw[Ms,h2];constructor <;> intro <;> grind
  .rw[Ms];constructor
   .intro h;have:=J.mp ∅;grind
   .intro h;have:=J.mpr (by grind);omega
def FT {x z u v w:Int}(fs:vO_) (m1:j9 (.int x) (.int w)=some (.int (x*w))) (m2:j9 (.int u) (.int z)=some (.int (u*z))) (m3:j9 (.int y) (.int w)=some (.int (y*w))) (m4:j9 (.int v) (.int z)=some (.int (v*z))) :
  aJ [.tup [.int x,.int y,.int z],.tup [.int u,.int v,.int w]] fs=some (.bl (decide (x*w - u*z<0)||(decide (x*w - u*z=0)&&decide (y*w<v*z))),fs):=by
 refine u9 (s:=#[[.v (.tup [.int x,.int y,.int z]),.v (.tup [.int u,.int v,.int w]),.v (.int (x*w - u*z))],fs]) ?_;show gb #[[.v (.tup [.int x,.int y,.int z]),.v (.tup [.int u,.int v,.int w]),.no],fs]=_;unfold gb;rw[B6 (s1:=#[[.v (.tup [.int x,.int y,.int z]),.v (.tup [.int u,.int v,.int w]),.v (.int (x*w - u*z))],fs]) (B1 (c8 (c8 rfl rfl m1) (c8 rfl rfl m2) rfl) rfl)];refine B0 ?_;generalize x*w - u*z=n;by_cases h1:n<0
 .simp![Y8,U6,bL,cD,Z3,X1,S3,h1]
 .by_cases h2:n=0
  .subst h2;simp![Y8,U6,bL,cD,Z3,X1,S3,bi,mI,mS,kR,m3,m4]
  .simp![Y8,U6,bL,cD,Z3,X1,S3,h1,h2,bi]
def cU (A B:Pt) (fs:vO_) (hA:Ps k A) (J:Ps k B) (hk:k<=1000):aJ [pt A,pt B] fs=some (.bl (j6 A B),fs):=by
 have b:∀{i:Int},Bd k i->C8 i=true:=fun h=>h.bits ∅
 rw[<-Bs];exact FT fs (D8 (b hA.x) (b J.l)) (D8 (b J.x) (b hA.l)) (D8 (b hA.y) (b J.l)) (D8 (b J.y) (b hA.l))
def uq {x z u v w a b c:Int}(hj:j<=400) (hx:Bd j x) (hy:Bd j y) (hz:Bd j z) (B:Bd j u) (W:Bd j v) (J:Bd j w) (ha:Bd j a) (hb:Bd j b) (U:Bd j c) (fs:vO_) :
  av [.tup [.int x,.int y,.int z],.tup [.int u,.int v,.int w],.tup [.int a,.int b,.int c]] fs=some (.int (x*(v*c - w*b) - y*(u*c - w*a)+z*(u*b - v*a)),fs):=by
 have m:∀{i l:Int},Bd j i->Bd j l->j9 (.int i) (.int l)=some (.int (i*l)):=fun h1 h2=>D8 (h1.bits ∅) (h2.bits ∅)
 have q:∀{i l k n:Int},Bd j i->Bd j l->Bd j k->Bd j n->C8 (i*l - k*n)=true:=fun h1 h2 Y h4=>((h1.mul h2).sub (Y.mul h4)).bits ∅
 have Z:∀{e i l k n:Int},Bd j e->Bd j i->Bd j l->Bd j k->Bd j n->j9 (.int e) (.int (i*l - k*n))=some (.int (e*(i*l - k*n))):=fun h0 h1 h2 Y h4=>D8 (h0.bits ∅) (q h1 h2 Y h4)
 refine u9 (s:=#[[.v (.tup [.int x,.int y,.int z]),.v (.tup [.int u,.int v,.int w]),.v (.tup [.int a,.int b,.int c]),.v (.int (x*(v*c - w*b))),.v (.int (y*(u*c - w*a)))],fs]) ?_;show ik #[[.v (.tup [.int x,.int y,.int z]),.v (.tup [.int u,.int v,.int w]),.v (.tup [.int a,.int b,.int c]),.no,.no],fs]=_;unfold ik;rw[B6 (s1:=#[[.v (.tup [.int x,.int y,.int z]),.v (.tup [.int u,.int v,.int w]),.v (.tup [.int a,.int b,.int c]),.v (.int (x*(v*c - w*b))),.no],fs])
  (B1 (c8 rfl (c8 (c8 rfl rfl (m W U)) (c8 rfl rfl (m J hb)) rfl) (Z hx W U J hb)) rfl),
  B6 (s1:=#[[.v (.tup [.int x,.int y,.int z]),.v (.tup [.int u,.int v,.int w]),.v (.tup [.int a,.int b,.int c]),.v (.int (x*(v*c - w*b))),.v (.int (y*(u*c - w*a)))],fs])
  (B1 (c8 rfl (c8 (c8 rfl rfl (m B U)) (c8 rfl rfl (m J ha)) rfl) (Z hy B U J ha)) rfl)]
 exact B0 (c8 (c8 rfl rfl rfl) (c8 rfl (c8 (c8 rfl rfl (m B hb)) (c8 rfl rfl (m W ha)) rfl) (Z hz B hb W ha)) rfl)
def wZ (A B P:Pt) (fs:vO_) (hA:Ps k A) (J:Ps k B) (U:Ps k P) (hk:k<=400):av [pt A,pt B,pt P] fs=some (.int (V9 A B P),fs):=
 uq hk hA.x hA.y hA.l J.x J.y J.l U.x U.y U.l fs
abbrev X2:a9:=ck aJ av
def wu {m1 m2:a9}{a b p:D}{n:Int}{l q1 q2:Bool}{fs:vO_}(U:m2 [a,b,p] fs=some (.int n,fs)) (W:m1 [a,b] fs=some (.bl l,fs)) (B:m1 [p,if l then a else b] fs=some (.bl q1,fs)) (J:m1 [if l then b else a,p] fs=some (.bl q2,fs)) :
  ck m1 m2 [a,b,p] fs=some (.bl (decide (n=0)&&(!q1 && !q2)),fs):=by
 by_cases h:n=0
 .subst h;cases l
  .simp only[IW,IG] at B J;cases q1 <;> simp![ck,t7,eV,d5,U,W,B,J,bW,jm]
  .simp only[IC] at B J;cases q1 <;> simp![ck,t7,eV,d5,U,W,B,J,bW,jm]
 .simp![ck,t7,eV,d5,U,bW,h]
def vV (A B P:Pt) (fs:vO_) (hA:Ps k A) (W:Ps k B) (J:Ps k P) (hk:k<=100):X2 [pt A,pt B,pt P] fs=some (.bl (B3 A B P),fs):=by
 have Y:=wZ A B P fs hA W J ∅;have U:=cU A B fs hA W ∅;have z:=(fK (jF A B P)).2.1;have Z:decide (V9 A B P=0)=decide (a8 A B P=0):=by rw[Ms];exact z
 cases hl:j6 A B
 .rw[hl] at U;have r:=wu (p:=pt P) Y U (q1:=j6 P B) (q2:=j6 A P) (cU P B fs J W ∅) (cU A P fs hA J ∅);refine r.trans ?_;unfold B3;rw[hl,Z];rfl
 .rw[hl] at U;have r:=wu (p:=pt P) Y U (q1:=j6 P A) (q2:=j6 B P) (cU P A fs J hA ∅) (cU B P fs W J ∅);refine r.trans ?_;unfold B3;rw[hl,Z];rfl
def tm (B:List Bool):N6 (.bl true) (.lst (B.map .bl))=some (.bl (B.any id)):=by
 have h1:u3 (.bl true)=true:=rfl;have h2:u3 (.lst (B.map .bl))=true:=by
  have:=Ok.lst (OkL.all (k:=0) (n:=0) (ds:=B.map D.bl) (fun d U=>by
   obtain⟨b,_,rfl⟩:=Ik.mp U;exact Ok.bl b))
  exact this.eq
 have W:Q5 (.bl true) (B.map .bl)=B.any id:=by
  clear h2;induction B with
  |nil=>rfl
  |cons b r J=>
   simp only[Iv,Q5,D.pys,D.py,Ku] at J ⊢;cases b
   .simpa [PyData.eqv] using J
   .rfl
 simp only[N6,Y0,h1,h2,Js,IC,id,W]
def Es (h:0<is.length):one lN [.lst (is.map D.int)]=some (.int (N2 is)):=by
 show ((aL (is.map D.int)).bind fun is=>if 0<is.length then some (D.int (N2 is)) else none)=_;rw[nu,td,fx h]
def vY (h:0<is.length):N2 is∈is:=by
 cases is with
 |nil=>cases h
 |cons i r=>
  show r.foldl min i∈i::r;rcases(eE r i).1 with q | q
  .rw[q];exact iR ..
  .exact iU _ q
abbrev fR:a9:=oS aN av
def eB {A:vT_}{q:Pt × Pt}(J:q∈f8 true A):∃i,i<A.length/\q=(tk A i,tk A (i+1)):=by
 obtain⟨i,hi⟩:=Kb J;have B:i<A.length:=Iy (IK.mp hi).1 (dt true A);rw[bh B] at hi;exact#[i,B,(Jj hi).symm]
def wo (K:vT_) (fs:vO_) (hl:K.length<=1000):aN [i7 K] fs=some (.lst ((f8 true K).map pq),fs):=by
 have e:=zB (K.map pt) fs (by rw[xo];omega);rw[vy] at e;exact e
def lm {A:vT_}(h:3<=A.length):0<(f8 true A).length:=by
 have:=bh (A:=A) (i:=0) ∅;exact(IK.mp this).1
abbrev F2:a9:=vL fR
def oC (h:ds.length=n):one o6 [.tup ds]=some (.int (n:Int)):=by
 show some (D.int (ds.length:Int))=_;rw[h]
def Bj (A:vT_) (p:Pt):Prop:=∀k,0<=a8 (tk A k) (tk A (k+1)) p
theorem nS {A:vT_}(nc:gq A) {e m:Pt}(U:e≠(0,0)) (h:∀z∈A,gv e z=gv e m):False:=by
 obtain⟨x,y,w,B,hy,W,n⟩:=nc;obtain⟨t,J⟩:=ki (v:=(y.1 - x.1,y.2 - x.2)) U (by have:=h x B;have:=h y hy;unfold gv at *;grind);obtain⟨s,hs⟩:=ki (v:=(w.1 - x.1,w.2 - x.2)) U (by have:=h x B;have:=h w W;unfold gv at *;grind);have Y:y.1 - x.1=t*e.1:=congrArg Prod.fst J;have Z:y.2 - x.2=t*e.2:=congrArg Prod.snd J;have s1:w.1 - x.1=s*e.1:=congrArg Prod.fst hs;have s2:w.2 - x.2=s*e.2:=congrArg Prod.snd hs;refine n ?_;unfold a8;rw[Y,Z,s1,s2];grind
def nD {x y:Rat}(B:x≠0) (h:x*y=0):y=0:=by
 rcases IB.mp h with q | q
 .exact absurd q B
 .exact q
theorem uA {A:vT_}(nc:gq A) {m e:Pt}{α β:Rat}(he:e≠(0,0)) (lf:∀z∈A,0<=gv e (z.1 - m.1,z.2 - m.2)) (mx:∀z∈A,α*z.1+β*z.2<=α*m.1+β*m.2) (hw:α*m.1+β*m.2<α*p.1+β*p.2) (hp:0<=gv e (p.1 - m.1,p.2 - m.2)) (h0:α*e.1+β*e.2=0):False:=by
 refine nS nc he (m:=m) fun z hz=>?_
 have a:=lf z hz;have b:=mx z hz;unfold gv at a hp ⊢;have a:0<=e.1*(z.2 - m.2) - e.2*(z.1 - m.1):=a;have hp:0<=e.1*(p.2 - m.2) - e.2*(p.1 - m.1):=hp;generalize U:e.1*(z.2 - m.2) - e.2*(z.1 - m.1)=G at *;generalize Y:e.1*(p.2 - m.2) - e.2*(p.1 - m.1)=W at *;generalize J:α*(p.1 - m.1)+β*(p.2 - m.2)=F;generalize B:α*(z.1 - m.1)+β*(z.2 - m.2)=Z;have F0:0<F:=by rw[<-J];grind
 have Z0:Z<=0:=by rw[<-B];grind
 have k1:e.1*(F*G - Z*W)=0:=by
  rw[<-J,<-U,<-B,<-Y];grind
 have k2:e.2*(F*G - Z*W)=0:=by
  rw[<-J,<-U,<-B,<-Y];grind
 have k:F*G - Z*W=0:=by
  by_cases c:e.1=0
  .refine nD (fun q=>he (Il c q)) k2
  .exact nD c k1
 have w:=Ie (show 0 <= -Z by grind) hp;have g:G=0:=by
  by_cases c:0<G
  .have:=xr F0 c;grind
  .grind
 grind
theorem om {A:vT_}(cv:qj A) (ne:∀k,tk A (k+1)≠tk A k) (Y:gq A) (hp:Bj A p):Ip A p:=by
 intro α β;refine Jp fun hn=>?_
 have hn:∀k∈A,α*(k.1 - p.1)+β*(k.2 - p.2)<0:=fun k hk=>IM.mp fun t=>hn #[k,hk,t]
 have hA:A≠[]:=by
  obtain⟨a,_,_,ha,_⟩:=Y;exact Nj ha
 have h0:0<A.length:=List.length_pos_iff.mpr hA;obtain⟨m,hm,J⟩:=sF (fun z=>α*z.1+β*z.2) A hA;obtain⟨j,hj,ej⟩:=jk hm;obtain⟨i,hi⟩:∃i,tk A (i+1)=m:=#[j+A.length - 1,by
  rw[show j+A.length - 1+1=j+A.length by omega,<-K0,Ki,K0,ej]]
 have wp:=hn m hm;have p1:=hp i;have p2:=hp (i+1);have n1:=ne i;have n2:=ne (i+1);have m1:=J _ (o9 i h0);have m2:=J _ (o9 (i+1+1) h0);have l1:=fun z B=>cv i z B
 have l2:=fun z B=>cv (i+1) z B
 have l3:=l1 _ (o9 (i+1+1) h0);rw[hi] at p1 p2 n1 n2 l1 l2 l3;generalize tk A i=a at *;generalize tk A (i+1+1)=b at *;have J:∀z∈A,α*z.1+β*z.2<=α*m.1+β*m.2:=J;have m1:α*a.1+β*a.2<=α*m.1+β*m.2:=m1;have m2:α*b.1+β*b.2<=α*m.1+β*m.2:=m2;have u0:((m.1 - a.1,m.2 - a.2):Pt)≠(0,0):=fun q=>n1 (Il (by have:m.1 - a.1=0:=congrArg Prod.fst q;grind) (by have:m.2 - a.2=0:=congrArg Prod.snd q;grind))
 have v0:((b.1 - m.1,b.2 - m.2):Pt)≠(0,0):=fun q=>n2 (Il (by have:b.1 - m.1=0:=congrArg Prod.fst q;grind) (by have:b.2 - m.2=0:=congrArg Prod.snd q;grind))
 have lu:∀z:Pt,a8 a m z=gv (m.1 - a.1,m.2 - a.2) (z.1 - m.1,z.2 - m.2):=fun z=>by unfold a8 gv;grind
 have lv:∀z:Pt,a8 m b z=gv (b.1 - m.1,b.2 - m.2) (z.1 - m.1,z.2 - m.2):=fun z=>by unfold a8 gv;grind
 have U:=uA Y (p:=p) (α:=α) (β:=β) u0 (fun z B=>by rw[<-lu];exact l1 z B) J (by grind) (by rw[<-lu];exact p1);have V:=uA Y (p:=p) (α:=α) (β:=β) v0 (fun z B=>by rw[<-lv];exact l2 z B) J (by grind) (by rw[<-lv];exact p2);have U:0<α*(m.1 - a.1)+β*(m.2 - a.2):=by
  by_cases c:α*(m.1 - a.1)+β*(m.2 - a.2)=0
  .exact(U c).elim
  .grind
 have V:α*(b.1 - m.1)+β*(b.2 - m.2)<0:=by
  by_cases c:α*(b.1 - m.1)+β*(b.2 - m.2)=0
  .exact(V c).elim
  .grind
 have W:0<α*(p.1 - m.1)+β*(p.2 - m.2):=by grind
 have key:a8 a m b*(α*(p.1 - m.1)+β*(p.2 - m.2))+a8 m b p*(α*(m.1 - a.1)+β*(m.2 - a.2)) - a8 a m p*(α*(b.1 - m.1)+β*(b.2 - m.2))=0:=by
  unfold a8;grind
 have k1:=Ie l3 (II W);have k2:=Ie p2 (II U);have k3:=Ie p1 (show 0 <= -(α*(b.1 - m.1)+β*(b.2 - m.2)) by grind);have z2:a8 m b p*(α*(m.1 - a.1)+β*(m.2 - a.2))=0:=by grind
 have z3:a8 a m p*(α*(b.1 - m.1)+β*(b.2 - m.2))=0:=by grind
 have q2:a8 m b p=0:=by
  rcases IB.mp z2 with q | q
  .exact q
  .grind
 have q3:a8 a m p=0:=by
  rcases IB.mp z3 with q | q
  .exact q
  .grind
 refine nS Y u0 (m:=m) fun z B=>?_
 have e1:a8 a m z*(α*(p.1 - m.1)+β*(p.2 - m.2)) - a8 m p z*(α*(m.1 - a.1)+β*(m.2 - a.2))=a8 a m p*(α*(z.1 - m.1)+β*(z.2 - m.2)):=by
  unfold a8;grind
 have e2:a8 m b z*(α*(p.1 - m.1)+β*(p.2 - m.2)) - a8 m p z*(α*(b.1 - m.1)+β*(b.2 - m.2))=a8 m b p*(α*(z.1 - m.1)+β*(z.2 - m.2)):=by
  unfold a8;grind
 rw[q3,Ke] at e1;rw[q2,Ke] at e2;have f1:=Ie (l1 z B) (II W);have f2:=Ie (l2 z B) (II W);have g0:a8 m p z=0:=by
  by_cases c:0<a8 m p z
  .have:=xr c (show 0 < -(α*(b.1 - m.1)+β*(b.2 - m.2)) by grind);grind
  .by_cases c':a8 m p z<0
   .have:=xr (show 0 < -a8 m p z by grind) U;grind
   .grind
 rw[g0,Ke] at e1;have Z:a8 a m z=0:=by
  rcases IB.mp (show a8 a m z*(α*(p.1 - m.1)+β*(p.2 - m.2))=0 by grind) with q | q
  .exact q
  .grind
 rw[lu] at Z;unfold gv at Z ⊢;have Z:(m.1 - a.1)*(z.2 - m.2) - (m.2 - a.2)*(z.1 - m.1)=0:=Z;show (m.1 - a.1)*z.2 - (m.2 - a.2)*z.1=(m.1 - a.1)*m.2 - (m.2 - a.2)*m.1;grind
abbrev IP:=Int × Int
structure Nt where
 a:Int
 b:Int
 c:Int
 d:Int
 x:Int
 y:Int
 l:Int
def G5 (n:Nt):D:=.tup [.int n.a,.int n.b,.int n.c,.int n.d,.int n.x,.int n.y,.int n.l]
structure NtOk (n:Nt):Prop where
 a:0<=n.a/\n.a<=3
 b:-4<=n.b/\n.b<=1
 c:0<=n.c/\n.c<=4
 d:0<=n.d/\n.d<=3
 x:-9<=n.x/\n.x<=9
 y:-9<=n.y/\n.y<=9
 l:1<=n.l/\n.l<=7
 det:0<n.a*n.d - n.b*n.c
def nX (n:Nt) (z:IP):Int:=n.a*z.1+n.b*z.2+n.x
def nY (n:Nt) (z:IP):Int:=n.c*z.1+n.d*z.2+n.y
def nP (n:Nt) (z:IP):Pt:=(Rat.divInt (nX n z) n.l,Rat.divInt (nY n z) n.l)
structure InU (z:IP):Prop where
 u:0<=z.1/\z.1<=27
 v:0<=z.2/\z.2<=13
def jj {p q m k:Int}(h1:-m<=p/\p<=m) (h2:0<=q/\q<=k):-(m*k)<=p*q/\p*q<=m*k:=by
 have a:=NU h1.1 h2.1;have b:=NU h1.2 h2.1;have c:=KS h2.2 (show 0<=m by omega);rw[Int.neg_mul] at a;omega
def wy {n:Nt}(h:NtOk n) (hz:InU z):(nX n z).natAbs<2 ^ 8:=by
 have h1:=jj (m:=3) (k:=27) #[by have:=h.a;omega,h.a.2] hz.u;have h2:=jj (m:=4) (k:=13) #[h.b.1,by have:=h.b;omega] hz.v;have:=h.x;unfold nX;omega
def tU {n:Nt}(h:NtOk n) (hz:InU z):(nY n z).natAbs<2 ^ 8:=by
 have h1:=jj (m:=4) (k:=27) #[by have:=h.c;omega,h.c.2] hz.u;have h2:=jj (m:=3) (k:=13) #[by have:=h.d;omega,h.d.2] hz.v;have:=h.y;unfold nY;omega
def lS {x g:Int}(B:0<g) (h:x.natAbs<2 ^ k):Bd k (x.fdiv g):=by
 rw[Mq _ ∅];exact Ja (NT x g) h
def Eg {n:Nt}(h:NtOk n) (hz:InU z):Ps 8 (nP n z)/\PtS 35 (nP n z):=by
 have J:n.l≠0:=by have:=h.l;omega
 have B:n.l.natAbs<2 ^ 8:=by have:=h.l;omega
 obtain⟨g0,W,Y,Z⟩:=fT (nX n z) (nY n z) n.l J;have ng:¬ n.l<0:=by have:=h.l;omega
 rw[fI ng] at g0 W Y Z;have U:0<(Int.gcd (Int.gcd (nX n z) (nY n z):Int) n.l:Int):=by omega
 refine#[#[?_,?_,?_],?_,?_]
 .show Bd 8 (pX (Rat.divInt (nX n z) n.l,Rat.divInt (nY n z) n.l));rw[<-W];exact lS U (wy h hz)
 .show Bd 8 (pY (Rat.divInt (nX n z) n.l,Rat.divInt (nY n z) n.l));rw[<-Y];exact lS U (tU h hz)
 .show Bd 8 (pL (Rat.divInt (nX n z) n.l,Rat.divInt (nY n z) n.l));rw[<-Z];exact lS U B
 .exact(Sz.of_divInt J (wy h hz) B).mono #[]
 .exact(Sz.of_divInt J (tU h hz) B).mono #[]
def L7 (p q r:IP):Int:=(q.1 - p.1)*(r.2 - p.2) - (q.2 - p.2)*(r.1 - p.1)
theorem yS {n:Nt}(h:NtOk n) (p q r:IP):a8 (nP n p) (nP n q) (nP n r)=((n.a*n.d - n.b*n.c:Int):Rat) / ((n.l:Rat)*n.l)*(L7 p q r:Rat):=by
 have B:(n.l:Rat)≠0:=by
  have:=h.l;intro z;have:n.l=0:=by exact_mod_cast z
  omega
 unfold a8 nP nX nY L7;simp only[Kc];simp only[JL,Ih,JO];grind
def GZ {n:Nt}(h:NtOk n):(0:Rat)<((n.a*n.d - n.b*n.c:Int):Rat) / ((n.l:Rat)*n.l):=by
 have B:(0:Rat)<(n.l:Rat):=by
  have:=h.l
  exact_mod_cast (show 0<n.l by omega)
 have J:(0:Rat)<((n.a*n.d - n.b*n.c:Int):Rat):=by exact_mod_cast h.det
 rw[Ji];exact xr J (LF.mpr (xr B B))
def A4 (l:List IP) (i:Nat):IP:=(l[i % l.length]?).getD (0,0)
def be (F:List IP):Bool:=decide (3<=F.length)&&decide (F.length<=6)&&(List.range F.length).all (fun k=>F.all (fun z=>decide (0<=L7 (A4 F k) (A4 F (k+1)) z))&&decide (A4 F (k+1)≠A4 F k))&&((List.range F.length).all (fun k=>F.all fun z=>decide (z=A4 F k)||decide (z=A4 F (k+1))||decide (0<L7 (A4 F k) (A4 F (k+1)) z))&&decide F.Nodup)&&decide (0<L7 (A4 F 0) (A4 F 1) (A4 F 2))&&F.all fun z=>decide (0<=z.1)&&decide (z.1<=8)&&decide (0<=z.2)&&decide (z.2<=8)
def F5 (w h:Int):List (List IP):=[[(0,0),(w,0),(w,h),(0,h)],[(0,0),(w,0),(0,h)],[(0,0),(w,0),(w,h)],[(0,0),(w,h),(0,h)],[(0,0),(w+1,1),(1,h+1)],[(0,0),(w,0),(w,h),(0,h)],[(0,h),(w,0),(2*w,h),(w,2*h)],[(0,1),(1,0),(w+1,0),(w+2,1),(w+1,2),(1,2)]]
def EF:((List.range 4).all fun w=>(List.range 4).all fun h=>(F5 ((w:Int)+1) ((h:Int)+1)).all be)=true:=by decide +kernel
def xU {w h:Int}(Y:1<=w/\w<=4) (W:1<=h/\h<=4) (J:F∈F5 w h):be F=true:=by
 have k:=JI.mp EF (w.toNat - 1) (JD.mpr ∅);have k:=JI.mp k (h.toNat - 1) (JD.mpr ∅);have B:((w.toNat - 1:Nat):Int)+1=w:=by omega
 have U:((h.toNat - 1:Nat):Int)+1=h:=by omega
 rw[B,U] at k;exact JI.mp k F J
def cj (x y:Int) (z:IP):IP:=(z.1+x,z.2+y)
def HN (x y:Int) (p q r:IP):L7 (cj x y p) (cj x y q) (cj x y r)=L7 p q r:=by
 unfold L7 cj;show (q.1+x - (p.1+x))*(r.2+y - (p.2+y)) - (q.2+y - (p.2+y))*(r.1+x - (p.1+x))=_;rw[show q.1+x - (p.1+x)=q.1 - p.1 by omega,show r.2+y - (p.2+y)=r.2 - p.2 by omega,show q.2+y - (p.2+y)=q.2 - p.2 by omega,show r.1+x - (p.1+x)=r.1 - p.1 by omega]
def L4 (n:Nt) (x y:Int) (z:IP):Pt:=nP n (cj x y z)
def dq {n:Nt}{x:Int}{F:List IP}(h:3<=F.length) (i:Nat):tk (F.map (L4 n x y)) i=L4 n x y (A4 F i):=by
 unfold tk A4;rw[xo,IT,Jg (IV _ ∅)];rfl
def sa (F:List IP) (i:Nat):A4 F (i % F.length)=A4 F i:=by
 unfold A4;rw[Nat.mod_mod]
def vi (F:List IP) (i:Nat):A4 F (i % F.length+1)=A4 F (i+1):=by
 unfold A4;rw[Kv]
def lH {F:List IP}(h:3<=F.length) (i:Nat):A4 F i∈F:=by
 unfold A4;rw[Jg (IV _ ∅)];exact KO _
theorem ET {n:Nt}{x:Int}{F:List IP}(hn:NtOk n) (hF:be F=true) (hx:0<=x/\x<=19) (hy:0<=y/\y<=5):ShC (F.map (L4 n x y)):=by
 unfold be at hF;simp only[Iq,LG] at hF;obtain⟨⟨⟨⟨⟨J,h6⟩,hk⟩,hs,hnd⟩,h0⟩,hz⟩:=hF;have ps:=GZ hn;have W:∀p q r:IP,a8 (L4 n x y p) (L4 n x y q) (L4 n x y r)=((n.a*n.d - n.b*n.c:Int):Rat) / ((n.l:Rat)*n.l)*(L7 p q r:Rat):=fun p q r=>by
  unfold L4;rw[yS hn,HN]
 have K:∀k,(∀z∈F,0<=L7 (A4 F k) (A4 F (k+1)) z)/\A4 F (k+1)≠A4 F k:=fun k=>by
  have q:=JI.mp hk (k % F.length) (JD.mpr (IV _ ∅));rw[Iq,sa,vi] at q;exact#[fun z hz=>JC (JI.mp q.1 z hz),JC q.2]
 have U:∀p q:IP,L4 n x y p=L4 n x y q->∀a b:IP,L7 a b p=L7 a b q:=fun p q e a b=>by
  have e1:=W a b p;have e2:=W a b q;rw[e,e2] at e1;have e3:((L7 a b q:Int):Rat)=((L7 a b p:Int):Rat):=by
   have ps':=Rat.ne_of_gt ps;generalize ((n.a*n.d - n.b*n.c:Int):Rat) / ((n.l:Rat)*n.l)=c at *;have:=congrArg (fun t=>c⁻¹*t) e1;simp only[<-KZ,Rat.inv_mul_cancel _ ps',Rat.one_mul] at this;exact this
  exact_mod_cast e3.symm
 have Z:∀p q:IP,L4 n x y p=L4 n x y q->p=q:=fun p q e=>by
  have i:=U _ _ e;have i1:=i p (p.1+1,p.2);have i2:=i p (p.1,p.2+1);unfold L7 at i1 i2;simp only at i1 i2;refine Il ?_ ?_
  .grind
  .grind
 refine#[?_,?_,?_,by rw[xo];exact J,by rw[xo];exact h6,?_,?_,Nk _ (fun a b h e=>h (Z a b e)) hnd]
 .intro k z B;obtain⟨w,Y,rfl⟩:=Ik.mp B;rw[dq J,dq J,W];exact Ie (II ps) (by exact_mod_cast (K k).1 w Y)
 .intro k e;rw[dq J,dq J] at e;have i:=U _ _ e;have i1:=i (A4 F k) ((A4 F k).1+1,(A4 F k).2);have i2:=i (A4 F k) ((A4 F k).1,(A4 F k).2+1);unfold L7 at i1 i2;simp only at i1 i2;refine(K k).2 (Il ?_ ?_)
  .grind
  .grind
 .refine#[L4 n x y (A4 F 0),L4 n x y (A4 F 1),L4 n x y (A4 F 2),Ik.mpr #[_,lH J 0,rfl],Ik.mpr #[_,lH J 1,rfl],Ik.mpr #[_,lH J 2,rfl],?_];rw[W];have:(0:Rat)<(L7 (A4 F 0) (A4 F 1) (A4 F 2):Rat):=by exact_mod_cast h0
  exact Rat.ne_of_gt (xr ps this)
 .intro z B;obtain⟨w,Y,rfl⟩:=Ik.mp B;have q:=JI.mp hz w Y;simp only[Iq,LG] at q;obtain⟨⟨⟨q1,q2⟩,q3⟩,q4⟩:=q;exact Eg hn #[by show 0<=w.1+x/\w.1+x<=27;omega,by show 0<=w.2+y/\w.2+y<=13;omega]
 .intro k z B;obtain⟨w,Y,rfl⟩:=Ik.mp B;have q:=JI.mp hs (k % F.length) (JD.mpr (IV _ ∅));have q:=JI.mp q w Y;rw[sa,vi] at q;simp only[Na,LG] at q;rw[dq J,dq J,W];rcases q with (rfl | rfl) | q
  .exact .inl rfl
  .exact .inr (.inl rfl)
  .exact .inr (.inr (xr ps (by exact_mod_cast q)))
def ub {K:vT_}(h:ShC K) (i:Nat) (hi:i<K.length):ShC (K.drop i++K.take i):=by
 have l:(K.drop i++K.take i).length=K.length:=by
  rw[IQ,IL,Jz];omega
 have m:∀z,z∈K.drop i++K.take i↔z∈K:=fun z=>by
  rw[IJ,Or.comm,<-IJ,LB]
 have t:∀k,tk (K.drop i++K.take i) k=tk K (i+k):=fun k=>by
  unfold tk;rw[l];have U:=IV k (show 0<K.length by omega);rw[<-Nat.add_mod_mod];generalize k % K.length=j at *;by_cases c:j<K.length - i
  .rw[Lf (by rw[IL];exact c),Kf,JV (show i+j<K.length by omega)]
  .rw[Kx (by rw[IL];omega),IL,Lg ∅];rw[Nat.mod_eq_sub_mod ∅,JV ∅];rw[show i+j - K.length=j - (K.length - i) by omega]
 refine#[?_,?_,?_,by rw[l];exact h.lo,by rw[l];exact h.hi,fun z B=>h.sz z ((m z).mp B),fun k z B=>?_,?_]
 .intro k z B;rw[t,t];exact h.cv (i+k) z ((m z).mp B)
 .intro k;rw[t,t];exact h.ne (i+k)
 .obtain⟨a,b,c,ha,hb,J,q⟩:=h.nc;exact#[a,b,c,(m a).mpr ha,(m b).mpr hb,(m c).mpr J,q]
 .rw[t,t];exact h.st (i+k) z ((m z).mp B)
 .have e:K.take i++K.drop i=K:=LB i K;have q:=h.nd;rw[<-e] at q;exact List.perm_append_comm.nodup_iff.mp q
def netsI:List (Int × Int × Int × Int):=[(1,0,0,1),(1,-1,1,1),(3,-4,4,3),(1,1,0,1),(0,-1,1,0),(2,1,1,1)]
def q4 (q:Int × Int × Int × Int):D:=.tup [.int q.1,.int q.2.1,.int q.2.2.1,.int q.2.2.2]
def GU:∀q∈netsI,(0<=q.1/\q.1<=3)/\(-4<=q.2.1/\q.2.1<=1)/\(0<=q.2.2.1/\q.2.2.1<=4)/\(0<=q.2.2.2/\q.2.2.2<=3)/\0<q.1*q.2.2.2 - q.2.1*q.2.2.1:=by decide
abbrev dh:a9:=vj G3
def Ae {f:FS}(h:Fd4 n f) (hn:n<2 ^ 28):∃t f',dh [.feed] (some f)=some (G5 t,some f')/\NtOk t/\Fd4 (n+4) f':=by
 obtain⟨r1,f1,e1,a1,a2,h1⟩:=N8 6 h;obtain⟨z,hz,hq⟩:=mX (xs:=netsI.map q4) a1 (by show r1<6;exact a2);obtain⟨q,U,rfl⟩:=Ik.mp hz;obtain⟨B,f2,e2,b1,b2,h2⟩:=N8 19 h1;obtain⟨J,f3,e3,c1,c2,h3⟩:=N8 19 h2;obtain⟨Z,W,e4,d1,d2,h4⟩:=N8 4 h3;obtain⟨w,hw,hr⟩:=mX (xs:=[(1:Int),2,3,7].map D.int) d1 (by show Z<4;exact d2);obtain⟨l,hl,rfl⟩:=Ik.mp hw;obtain⟨g1,g2,Y,g4,g5⟩:=GU q U;have lb:1<=l/\l<=7:=(by decide:∀l∈[(1:Int),2,3,7],1<=l/\l<=7) l hl;refine#[#[q.1,q.2.1,q.2.2.1,q.2.2.2,B - 9,J - 9,l],W,u9 (s:=#[[.v .feed,.own (netsI.map q4),.v (q4 q),.v (.int (B - 9)),.v (.int (J - 9))],some W]) ?_,#[g1,g2,Y,g4,by show -9<=B - 9/\B - 9<=9;omega,by show -9<=J - 9/\J - 9<=9;omega,lb,g5],h4];show fQ G3 #[[.v .feed,.no,.no,.no,.no],some f]=_;unfold fQ;refine l8 (s1:=#[[.v .feed,.own (netsI.map q4),.no,.no,.no],some f]) (W7 (i:=1) (s1:=#[[.v .feed,.no,.no,.no,.no],some f]) (ds:=netsI.map q4) rfl (by show 1<5;decide)) ?_;refine l8 (s1:=#[[.v .feed,.own (netsI.map q4),.v (q4 q),.no,.no],some f1]) (B1 (c8 rfl (K8 rfl e1) (cA hq)) rfl) ?_;refine l8 (s1:=#[[.v .feed,.own (netsI.map q4),.v (q4 q),.v (.int (B - 9)),.no],some f2]) (B1 (c8 (K8 rfl e2) rfl rfl) rfl) ?_;refine l8 (s1:=#[[.v .feed,.own (netsI.map q4),.v (q4 q),.v (.int (B - 9)),.v (.int (J - 9))],some f3]) (B1 (c8 (K8 rfl e3) rfl rfl) rfl) ?_;exact B0 (c8 (x:=q4 q) (y:=.tup [.int (B - 9),.int (J - 9),.int l]) rfl (fw (G4 rfl (G4 rfl (G4 (c8 (x:=.lst ([(1:Int),2,3,7].map D.int)) rfl (K8 rfl e4) (cA hr)) rfl))) (by show 3<=sizeLine;decide)) rfl)
abbrev aV:a9:=sU ai
def cY {i j:Int}(hi:i.natAbs<2 ^ 10) (B:j.natAbs<2 ^ 10):j9 (.int i) (.int j)=some (.int (i*j)):=D8 (Bd.bits (k:=10) hi #[]) (Bd.bits (k:=10) B #[])
def Cy {t:Nt}(B:NtOk t) (hz:InU z) (fs:vO_):aV [G5 t,.int z.1,.int z.2] fs=some (pt (nP t z),fs):=by
 have hu:=hz.u;have hv:=hz.v;have hl:=B.l;have m1:=cY (i:=t.a) (j:=z.1) (by have:=B.a;omega) ∅;have m2:=cY (i:=t.b) (j:=z.2) (by have:=B.b;omega) ∅;have m3:=cY (i:=t.c) (j:=z.1) (by have:=B.c;omega) ∅;have m4:=cY (i:=t.d) (j:=z.2) (by have:=B.d;omega) ∅;have w:=jO (k:=8) (nX t z) (nY t z) t.l fs ∅ (show t.l.natAbs<2 ^ 8 by omega) #[];have Y:d5 (G5 t) (.int 0)=some (.int t.a):=rfl;have i1:d5 (G5 t) (.int 1)=some (.int t.b):=rfl;have i2:d5 (G5 t) (.int 2)=some (.int t.c):=rfl;have W:d5 (G5 t) (.int 3)=some (.int t.d):=rfl;have Z:d5 (G5 t) (.int 4)=some (.int t.x):=rfl;have J:d5 (G5 t) (.int 5)=some (.int t.y):=rfl;have U:d5 (G5 t) (.int 6)=some (.int t.l):=rfl;generalize G5 t=N at *;refine u9 (s:=#[[.v N,.v (.int z.1),.v (.int z.2),.v (.int (nX t z))],fs]) ?_;show gQ ai #[[.v N,.v (.int z.1),.v (.int z.2),.no],fs]=_;unfold gQ;exact l8 (s1:=#[[.v N,.v (.int z.1),.v (.int z.2),.v (.int (nX t z))],fs]) (B1 (c8 (c8 (c8 (c8 rfl rfl Y) rfl m1) (c8 (c8 rfl rfl i1) rfl m2) rfl) (c8 rfl rfl Z) rfl) rfl)
  (B0 (r8 (f7 rfl (f7 (c8 (c8 (c8 (c8 rfl rfl i2) rfl m3) (c8 (c8 rfl rfl W) rfl m4) rfl) (c8 rfl rfl J) rfl) (f7 (c8 rfl rfl U) rfl))) w))
def X8 (z:IP):D:=.tup [.int z.1,.int z.2]
def A7 (F:List IP):D:=.tup (F.map X8)
abbrev aR:a9:=oE G3
def wK {p:D->D->Option (List D)}{a b:DE}{s:DS}{x y:D}{z:vD_}(h1:a s=some (x,s1)) (h2:b s1=some (y,s2)) (B:p x y=some z):dW p a b s=some (z,s2):=by
 unfold dW;rw[h1,td,h2,td,B];rfl
def DU {f:FS}(h:Fd4 n f) (hn:n<2 ^ 28):∃F f',aR [.feed] (some f)=some (A7 F,some f')/\be F=true/\Fd4 (n+3) f':=by
 obtain⟨B,f1,e1,a1,a2,h1⟩:=N8 4 h;obtain⟨U,J,e2,b1,b2,h2⟩:=N8 4 h1;obtain⟨r3,Y,e3,c1,c2,h3⟩:=N8 8 h2;obtain⟨z,hz,W⟩:=mX (xs:=(F5 (1+B) (1+U)).map A7) c1 (by show r3<8;exact c2);obtain⟨F,hF,rfl⟩:=Ik.mp hz;refine#[F,Y,?_,xU ∅ ∅ hF,h3];have m1:=cY (i:=2) (j:=1+B) #[] ∅;have m2:=cY (i:=2) (j:=1+U) #[] ∅;have hf:(F5 (1+B) (1+U)).map A7=((F5 (1+B) (1+U)).take 6).map A7++[A7 [(0,1+U),(1+B,0),(2*(1+B),1+U),(1+B,2*(1+U))]]++[A7 [(0,1),(1,0),(1+B+1,0),(1+B+2,1),(1+B+1,2),(1,2)]]:=rfl;rw[hf] at W;have Z:∀s,A6 1 2 (a0 (a7 k9 (Od 1) (d8 G3 (a0 (dV 0) (a0 (Od 4) b9)))) (a0 (a7 k9 (Od 1) (d8 G3 (a0 (dV 0) (a0 (Od 4) b9)))) b9)) #[[.v .feed,.no,.no,s],some f]=some (.next,#[[.v .feed,.v (.int (1+B)),.v (.int (1+U)),s],some J]):=fun s=>vf (G4 (c8 rfl (K8 rfl e1) rfl) (G4 (c8 rfl (K8 rfl e2) rfl) rfl)) rfl
 generalize 1+B=w at *;generalize 1+U=v at *;refine u9 (s:=#[[.v .feed,.v (.int w),.v (.int v),.own (((F5 w v).take 6).map A7++[A7 [(0,v),(w,0),(2*w,v),(w,2*v)]]++[A7 [(0,1),(1,0),(w+1,0),(w+2,1),(w+1,2),(1,2)]])],some Y]) ?_;show gN G3 #[[.v .feed,.no,.no,.no],some f]=_;unfold gN;refine l8 (Z _) ?_;refine l8 (s1:=#[[.v .feed,.v (.int w),.v (.int v),.own (((F5 w v).take 3).map A7)],some J]) (W7 (i:=3) (s1:=#[[.v .feed,.v (.int w),.v (.int v),.no],some J]) (ds:=((F5 w v).take 3).map A7) rfl (by show 3<4;decide)) ?_;refine l8 (s1:=#[[.v .feed,.v (.int w),.v (.int v),.own (((F5 w v).take 6).map A7)],some J]) (W7 (i:=3) (s1:=#[[.v .feed,.v (.int w),.v (.int v),.own (((F5 w v).take 3).map A7)],some J]) (ds:=((F5 w v).take 6).map A7) (wK (x:=.lst (((F5 w v).take 3).map A7)) (y:=.lst (((F5 w v).drop 3).take 3 |>.map A7)) rfl rfl rfl) (by show 3<4;decide)) ?_;refine l8 (s1:=#[[.v .feed,.v (.int w),.v (.int v),.own (((F5 w v).take 6).map A7++[A7 [(0,v),(w,0),(2*w,v),(w,2*v)]])],some J]) (W8 (i:=3) (s:=#[[.v .feed,.v (.int w),.v (.int v),.own (((F5 w v).take 6).map A7)],some J]) (s1:=#[[.v .feed,.v (.int w),.v (.int v),.own (((F5 w v).take 6).map A7)],some J]) (ds:=((F5 w v).take 6).map A7) (ds0:=((F5 w v).take 6).map A7) (d:=A7 [(0,v),(w,0),(2*w,v),(w,2*v)]) rfl
  (fw (f7 (x:=X8 (0,v)) rfl (f7 (x:=X8 (w,0)) rfl (f7 (x:=X8 (2*w,v)) (lE (c8 rfl rfl m1) rfl) (f7 (x:=X8 (w,2*v)) (lE rfl (c8 rfl rfl m2)) rfl)))) (by show 4<=sizeLine;decide)) rfl (by show 6<sizeLine;decide)) ?_
 refine l8 (s1:=#[[.v .feed,.v (.int w),.v (.int v),.own (((F5 w v).take 6).map A7++[A7 [(0,v),(w,0),(2*w,v),(w,2*v)]]++[A7 [(0,1),(1,0),(w+1,0),(w+2,1),(w+1,2),(1,2)]])],some J]) (W8 (i:=3) (s:=#[[.v .feed,.v (.int w),.v (.int v),.own (((F5 w v).take 6).map A7++[A7 [(0,v),(w,0),(2*w,v),(w,2*v)]])],some J]) (s1:=#[[.v .feed,.v (.int w),.v (.int v),.own (((F5 w v).take 6).map A7++[A7 [(0,v),(w,0),(2*w,v),(w,2*v)]])],some J]) (ds:=((F5 w v).take 6).map A7++[A7 [(0,v),(w,0),(2*w,v),(w,2*v)]]) (ds0:=((F5 w v).take 6).map A7++[A7 [(0,v),(w,0),(2*w,v),(w,2*v)]]) (d:=A7 [(0,1),(1,0),(w+1,0),(w+2,1),(w+1,2),(1,2)]) rfl rfl rfl (by show 7<sizeLine;decide)) ?_;exact B0 (c8 rfl (K8 rfl e3) (cA W))
abbrev ft:a9:=uX aJ
def wq {f:DE}{lo hi:DO}{s B:DS}{ds:List DL.D}{l h:Option Int}(e:f s=some (.lst ds,s1)) (U:lo s1=some (l,s2)) (J:hi s2=some (h,B)):L9 f lo hi s=some (.lst (F7 ds l h),B):=by
 unfold L9;rw[e,td,U,td,J];rfl
def uW {K:vT_}(U:∀z∈K,Ps 8 z) (h3:3<=K.length) (h6:K.length<=6) (fs:vO_):∃i,i<K.length/\ft [.lst (K.map pt)] fs=some (i7 (K.drop i++K.take i),fs):=by
 obtain⟨s',e,i,B,y2,rfl⟩:=cy (t:=e7 2) (b:=qC aJ) (fun _ s=>∃i:Nat,i<K.length/\∃x2,s=#[[.v (.lst (K.map pt)),.v (.int (i:Int)),x2],fs]) (B7 0 K.length) 0 #[[.v (.lst (K.map pt)),.v (.int ((0:Nat):Int)),.no],fs] #[0,by omega,_,rfl] (by
  rintro j d s W ⟨i,B,x2,rfl⟩;obtain⟨rfl,J⟩:=fM W;rw[Nh];have gi:d5 (.lst (K.map pt)) (.int (i:Int))=some (pt K[i]):=cA (Y7 (by rw[IT,Jg B];rfl));have gj:d5 (.lst (K.map pt)) (.int (j:Int))=some (pt K[j]):=cA (Y7 (by rw[IT,Jg J];rfl));have w:=cU (k:=8) K[j] K[i] fs (U _ (KO J)) (U _ (KO B)) #[];generalize j6 K[j] K[i]=b at *;have c:o7 (d8 aJ (a0 (a7 d5 (dL 0) (dL 2)) (a0 (a7 d5 (dL 0) (dL 1)) b9))) #[[.v (.lst (K.map pt)),.v (.int (i:Int)),.v (.int (j:Int))],fs]=some (b,#[[.v (.lst (K.map pt)),.v (.int (i:Int)),.v (.int (j:Int))],fs]):=R4 (r8 (f7 (c8 rfl rfl gj) (f7 (c8 rfl rfl gi) rfl)) w);cases b with
  |true=>exact#[_,#[[.v (.lst (K.map pt)),.v (.int (j:Int)),.v (.int (j:Int))],fs],rfl,.inl ((P8 c).trans (B1 rfl rfl)),j,J,_,rfl]
  |false=>exact#[_,_,rfl,.inl (Y5 c),i,B,_,rfl])
 have r:T7 [.int (K.length:Int)]=some (B7 0 K.length):=eQ ∅;have ln:one o6 [.lst (K.map pt)]=some (.int (K.length:Int)):=by
  show some (D.int ((K.map pt).length:Int))=_;rw[xo]
 have Y:F7 (K.map pt) (some (i:Int)) none=(K.drop i).map pt:=by
  unfold F7;rw[HT.sIx_nat,HT.sIx_none,xo,Ks ∅,LC (by rw[IL,xo];omega),KW]
 have c2:F7 (K.map pt) none (some (i:Int))=(K.take i).map pt:=by
  unfold F7;rw[HT.sIx_nat,HT.sIx_none,xo,Ks ∅,Lj,Kq,Ng]
 have Z:k9 (.lst ((K.drop i).map pt)) (.lst ((K.take i).map pt))=some (.lst ((K.drop i++K.take i).map pt)):=by
  show (if ((K.drop i).map pt).length+((K.take i).map pt).length<=sizeLine then some (D.lst ((K.drop i).map pt++(K.take i).map pt)) else none)=_;rw[xo,xo,IL,Jz,fx (Ij (by omega:_<=12) #[]),JN]
 refine#[i,B,u9 (s:=#[[.v (.lst (K.map pt)),.v (.int (i:Int)),y2],fs]) ?_];show iD aJ #[[.v (.lst (K.map pt)),.no,.no],fs]=_;unfold iD;refine l8 (s1:=#[[.v (.lst (K.map pt)),.v (.int ((0:Nat):Int)),.no],fs]) (B1 rfl rfl) ?_;refine l8 ((iJ (s1:=#[[.v (.lst (K.map pt)),.v (.int ((0:Nat):Int)),.no],fs]) (f7 (aj rfl ln) rfl) r).trans e) ?_;exact B0 (aj (f7 (c8 (x:=.lst ((K.drop i).map pt)) (y:=.lst ((K.take i).map pt)) (by rw[<-Y];exact wq rfl rfl rfl) (by rw[<-c2];exact wq rfl rfl rfl) Z) rfl) rfl)
abbrev dc:a9:=nE G3 ft aR aV
def Dv {A:vT_}(h:ShC A):Ok 2 24 (i7 A):=by
 have:=OkL.all (k:=1) (n:=3) (ds:=A.map pt) fun d B=>by
  obtain⟨z,J,rfl⟩:=Ik.mp B;exact Ok.pt (h.ps z J)
 refine(Ok.tup this).mono #[] ?_;have:=h.hi;rw[xo];omega
def Be (h:∀A∈Ss,ShC A):OkL 2 (Ss.length*25) (Ss.map i7):=by
 have:=OkL.all (k:=2) (n:=24) (ds:=Ss.map i7) fun d B=>by
  obtain⟨z,J,rfl⟩:=Ik.mp B;exact Dv (h z J)
 rw[xo] at this;exact this
def HL (h:u3 (.lst (d::ds))=true):J6 (.lst (d::ds)) (.lst [])=some (.bl true):=by
 show (if u3 (.lst (d::ds))&&u3 (.lst []) then some (D.bl (!PyData.eqv (D.lst (d::ds)).py (D.lst []).py)) else none)=_;rw[h,fx (show (true&&u3 (.lst []))=true from rfl)];rfl
theorem ww {t:Nt}(J:NtOk t) {x:Int}(U:0<=x/\x<=19) (W:0<=y/\y<=5) (hs:K2 [1,6,7] sl=[.v (G5 t),.v (.int x),.v (.int y)]) (fs:vO_):∀F:List IP,(∀z∈F,(0<=z.1/\z.1<=8)/\(0<=z.2/\z.2<=8))->A3 (P7 [1,6,7] sl) A5 (d8 aV (a0 (dV 2) (a0 (a7 k9 (dL 0) (dL 3)) (a0 (a7 k9 (dL 1) (dL 4)) b9)))) (F.map X8) fs=some ((F.map (L4 t x y)).map pt,fs)
 |[],_=>rfl
 |z::r,h=>by
  have B:=h z (iR ..);have e:=Cy J (z:=cj x y z) #[by show 0<=z.1+x/\z.1+x<=27;omega,by show 0<=z.2+y/\z.2+y<=13;omega] fs;have i:=ww J U W hs fs r fun z B=>h z (iU _ B)
  have m:P7 [1,6,7] sl (X8 z)=some [.v (.int z.1),.v (.int z.2),.v (G5 t),.v (.int x),.v (.int y)]:=by
   show some (Sl.v (.int z.1) :: .v (.int z.2)::K2 [1,6,7] sl)=_;rw[hs]
  rw[Iv,A3,m,td,show A5 #[[.v (.int z.1),.v (.int z.2),.v (G5 t),.v (.int x),.v (.int y)],fs]=some (true,#[[.v (.int z.1),.v (.int z.2),.v (G5 t),.v (.int x),.v (.int y)],fs]) from rfl,td,fx rfl,r8 (f7 rfl (f7 (c8 rfl rfl rfl) (f7 (c8 rfl rfl rfl) rfl))) e,td,i];rfl
abbrev D7 (t:Nt) (x2:Sl) (far:Int) (Ss:List (List Pt)) (x5 x6 x7 x8:Sl) (f:FS):DS:=#[[.v .feed,.v (G5 t),x2,.v (.int far),.own (Ss.map i7),x5,x6,x7,x8],some f]
def Bq {F:List IP}(h:be F=true):F.length<=6/\∀z∈F,(0<=z.1/\z.1<=8)/\(0<=z.2/\z.2<=8):=by
 unfold be at h;simp only[Iq,LG] at h;refine#[h.1.1.1.1.2,fun z B=>?_];have q:=JI.mp h.2 z B;simp only[Iq,LG] at q;omega
def xA {f:FS}(h:Fd4 n f) (hn:n<2 ^ 27) {t:Nt}(ht:NtOk t) {far:Int}(hf:0<=far/\far<=14) (hS:∀A∈Ss,ShC A) (hl:Ss.length<=9) (x2 x5 x6 x7 x8:Sl) :
  ∃A y6 y7 y8 f',ShC A/\bJ G3 ft aR aV (D7 t x2 far Ss x5 x6 x7 x8 f)=some (.next,D7 t x2 far (Ss++[A]) x5 y6 y7 y8 f')/\Fd4 (n+6) f':=by
 obtain⟨U,f1,e1,a1,a2,h1⟩:=N8 6 h;obtain⟨J,f2,e2,b1,b2,h2⟩:=N8 6 h1;obtain⟨F,W,e3,hF,h3⟩:=DU h2 ∅;obtain⟨r4,Z,e4,d1,d2,h4⟩:=N8 9 h3;obtain⟨l6,hz⟩:=Bq hF;have sc:=ET (x:=far+U) (y:=J) ht hF ∅ ∅;have K3:=sc.lo;have K6:=sc.hi;obtain⟨i,il,bg⟩:=uW (K:=F.map (L4 t (far+U) J)) (fun z hz=>(sc.sz z hz).1) K3 K6 (some W);obtain⟨i',il',bg'⟩:=uW (K:=F.map (L4 t (far+U) J)) (fun z hz=>(sc.sz z hz).1) K3 K6 (some Z);have row:=ww ht (x:=far+U) (y:=J) ∅ ∅ (sl:=[.v .feed,.v (G5 t),x2,.v (.int far),.own (Ss.map i7),x5,.v (.int (far+U)),.v (.int J),x8]) rfl (some W) F hz;generalize hK:F.map (L4 t (far+U) J)=K at *;have s1:i8 (i9 (a0 (a7 k9 (dL 3) (d8 G3 (a0 (dV 0) (a0 (Od 6) b9)))) (a0 (d8 G3 (a0 (dV 0) (a0 (Od 6) b9))) b9))) (w8 2 (t6 (e7 6) (t6 (e7 7) A1))) (D7 t x2 far Ss x5 x6 x7 x8 f)=some (.next,D7 t x2 far Ss x5 (.v (.int (far+U))) (.v (.int J)) x8 f2):=
  B1 (lE (c8 rfl (K8 rfl e1) rfl) (K8 rfl e2)) rfl
 have it:E7 (d8 aR (a0 (dV 0) b9)) (D7 t x2 far Ss x5 (.v (.int (far+U))) (.v (.int J)) x8 f2)=some (F.map X8,D7 t x2 far Ss x5 (.v (.int (far+U))) (.v (.int J)) x8 W):=by
  unfold E7;rw[K8 rfl e3];rfl
 have lz:(F.map X8).length<=sizeLine:=by rw[xo];exact Ij l6 #[]
 have s2:G6 8 (R3 [1,6,7] (E7 (d8 aR (a0 (dV 0) b9))) A5 (d8 aV (a0 (dV 2) (a0 (a7 k9 (dL 0) (dL 3)) (a0 (a7 k9 (dL 1) (dL 4)) b9))))) (D7 t x2 far Ss x5 (.v (.int (far+U))) (.v (.int J)) x8 f2)=some (.next,D7 t x2 far Ss x5 (.v (.int (far+U))) (.v (.int J)) (.own (K.map pt)) W):=
  W7 (i:=8) (s1:=D7 t x2 far Ss x5 (.v (.int (far+U))) (.v (.int J)) x8 W) (ds:=K.map pt) (dJ it lz row) (by show 8<9;decide)
 generalize Sl.v (.int (far+U))=X at *;generalize Sl.v (.int J)=Y at *;have lsz:∀m:Nat,(Ss.map i7).length<sizeLine:=fun _=>by rw[xo];exact Ja hl #[]
 have apd:∀A,Ss.map i7++[i7 A]=(Ss++[A]).map i7:=fun A=>by rw[JN];rfl
 cases Ss with
 |nil=>
  refine#[K.drop i++K.take i,X,Y,.v (.lst (K.map pt)),W,ub sc i il,?_,h3.mono ∅];unfold bJ;refine l8 s1 (l8 s2 ?_);rw[N3 (bv (J0 (c8 (x:=.lst []) (y:=.lst []) rfl rfl rfl)))];exact W8 (i:=4) (s:=D7 t x2 far [] x5 X Y (.own (K.map pt)) W) (s1:=D7 t x2 far [] x5 X Y (.v (.lst (K.map pt))) W) (ds:=[]) (ds0:=[]) (d:=i7 (K.drop i++K.take i)) rfl (iX rfl bg) rfl (by show 0<sizeLine;decide)
 |cons B r=>
  have ne:=HL (d:=i7 B) (ds:=r.map i7) (Ok.eq (Ok.lst (Be hS)) #[]);have cq:dB (a7 J6 (dL 4) (p9 (u7 b9))) (D7 t x2 far (B::r) x5 X Y (.own (K.map pt)) W)=some (true,D7 t x2 far (B::r) x5 X Y (.own (K.map pt)) W):=J0 (c8 (x:=.lst (i7 B::r.map i7)) (y:=.lst []) rfl rfl ne);have c9:dB (a7 E6 (d8 G3 (a0 (dV 0) (a0 (Od 9) b9))) (Od 0)) (D7 t x2 far (B::r) x5 X Y (.own (K.map pt)) W)=some (decide (r4=0),D7 t x2 far (B::r) x5 X Y (.own (K.map pt)) Z):=J0 (c8 (K8 rfl e4) rfl (bi r4 0));by_cases z:r4=0
  .rw[IH z] at c9;refine#[B,X,Y,.own (K.map pt),Z,hS B (iR ..),?_,h4.mono ∅];unfold bJ;refine l8 s1 (l8 s2 ?_);rw[P8 (X6 cq c9)];refine Eq.trans (W8 (i:=4) (s:=D7 t x2 far (B::r) x5 X Y (.own (K.map pt)) Z) (s1:=D7 t x2 far (B::r) x5 X Y (.own (K.map pt)) Z) (ds:=(B::r).map i7) (ds0:=(B::r).map i7) (d:=i7 B) rfl (c8 rfl rfl (cA (Y7 (j:=0) rfl))) rfl (lsz 0)) ?_;show some (Fl.next,(#[[.v .feed,.v (G5 t),x2,.v (.int far),.own ((B::r).map i7++[i7 B]),x5,X,Y,.own (K.map pt)],some Z]:DS))=_;rw[apd]
  .rw[Jc z] at c9;refine#[K.drop i'++K.take i',X,Y,.v (.lst (K.map pt)),Z,ub sc i' il',?_,h4.mono ∅];unfold bJ;refine l8 s1 (l8 s2 ?_);rw[N3 (X6 cq c9)];refine Eq.trans (W8 (i:=4) (s:=D7 t x2 far (B::r) x5 X Y (.own (K.map pt)) Z) (s1:=D7 t x2 far (B::r) x5 X Y (.v (.lst (K.map pt))) Z) (ds:=(B::r).map i7) (ds0:=(B::r).map i7) (d:=i7 (K.drop i'++K.take i')) rfl (iX rfl bg') rfl (lsz 0)) ?_;show some (Fl.next,(#[[.v .feed,.v (G5 t),x2,.v (.int far),.own ((B::r).map i7++[i7 (K.drop i'++K.take i')]),x5,X,Y,.v (.lst (K.map pt))],some Z]:DS))=_;rw[apd]
def iB {x b:Int}{y:Rat}(hb:b≠0) (h:y*(b:Rat)=(x:Rat)):Rat.divInt x b=y:=by
 have B:(b:Rat)≠0:=fun z=>hb (KP.mp z)
 rw[Kc,<-h,Ji,KZ,Mp _ B,LD]
theorem Y1 (a b c d:Pt) (s t:Rat):a8 c d (c7 a b s) - a8 c d (c7 a b t)=(s - t)*(a8 a b c - a8 a b d):=by
 unfold a8 c7;grind
theorem ge (a b c d:Pt):j8 (d6 a b) (d6 c d)=a8 a b d - a8 a b c:=by
 unfold j8 d6 a8;grind
theorem S7 (a b c d:Pt) (t:Rat):a8 a b (c7 c d t)=(1 - t)*a8 a b c+t*a8 a b d:=by
 unfold a8 c7;grind
theorem T5 {b c d:Pt}(h:a8 a b c*a8 a b d<0):∃t:Rat,0<t/\t<1/\J7 a b c d=c7 c d t/\a8 a b (J7 a b c d)=0:=by
 have Y:a8 a b c - a8 a b d≠0:=fun e=>by
  have e:a8 a b d=a8 a b c:=by grind
  rw[e] at h;by_cases z:0<=a8 a b c
  .have:=Ie z z;grind
  .have:=xr (show 0 < -a8 a b c by grind) (show 0 < -a8 a b c by grind);grind
 have J:a8 a b (c7 c d (a8 a b c / (a8 a b c - a8 a b d)))=0:=by
  rw[S7];generalize a8 a b c=x at *;generalize a8 a b d=y at *;grind
 have ex:J7 a b c d=c7 c d (a8 a b c / (a8 a b c - a8 a b d)):=FH (by rw[ge];grind) J (P9 _ _ _);refine#[_,?_,?_,ex,by rw[ex];exact J]
 .generalize a8 a b c=x at *;generalize a8 a b d=y at *;by_cases c:0<x
  .have U:y<0:=by
    refine IM.mp fun z=>?_
    have:=Ie (II c) z;grind
   rw[Ji];exact xr c (LF.mpr (by grind))
  .have W:x<0:=by
    have:x≠0:=fun z=>by rw[z] at h;grind
    grind
   have B:0<y:=by
    refine IM.mp fun z=>?_
    have:=Ie (show 0 <= -x by grind) (show 0 <= -y by grind);grind
   have:x / (x - y)=(-x) / (y - x):=by grind
   rw[this,Ji];exact xr (by grind) (LF.mpr (by grind))
 .generalize a8 a b c=x at *;generalize a8 a b d=y at *;have e:1 - x / (x - y)=(-y) / (x - y):=by grind
  have:0<1 - x / (x - y):=by
   rw[e];by_cases c:0<x
   .have U:y<0:=by
     refine IM.mp fun z=>?_
     have:=Ie (II c) z;grind
    rw[Ji];exact xr (by grind) (LF.mpr (by grind))
   .have W:x<0:=by
     have:x≠0:=fun z=>by rw[z] at h;grind
     grind
    have B:0<y:=by
     refine IM.mp fun z=>?_
     have:=Ie (show 0 <= -x by grind) (show 0 <= -y by grind);grind
    have:(-y) / (x - y)=y / (y - x):=by grind
    rw[this,Ji];exact xr B (LF.mpr (by grind))
  grind
def C5 (a b:Pt) (C:vT_) (p:Pt):Prop:=(∃k,p=tk C k/\a8 a b p=0)\/∃i,a8 a b (tk C i)*a8 a b (tk C (i+1))<0/\p=J7 a b (tk C i) (tk C (i+1))
section
variable {b:Pt}(hC:ShC C)
include hC
theorem v7:0<C.length:=by have:=hC.lo;omega
theorem V5 (h:C5 a b C p):a8 a b p=0:=by
 rcases h with ⟨k,_,e⟩ | ⟨i,h,rfl⟩
 .exact e
 .obtain⟨_,_,_,_,e⟩:=T5 h;exact e
theorem aP (h:C5 a b C p) (i:Nat):0<=a8 (tk C i) (tk C (i+1)) p:=by
 rcases h with ⟨k,rfl,e⟩ | ⟨j,h,rfl⟩
 .exact hC.cv i _ (o9 k (v7 hC))
 .obtain⟨t,B,J,e,_⟩:=T5 h;rw[e,S7];have x:=Ie (show 0<=1 - t by grind) (hC.cv i _ (o9 j (v7 hC)));have y:=Ie (II B) (hC.cv i _ (o9 (j+1) (v7 hC)));grind
theorem wN (h1:a8 a b (tk C i)<0) (h2:0<=a8 a b (tk C (i+1))):∃p,C5 a b C p/\a8 (tk C i) (tk C (i+1)) p=0:=by
 by_cases z:a8 a b (tk C (i+1))=0
 .exact#[_,.inl #[i+1,rfl,z],by unfold a8;grind]
 .have h:a8 a b (tk C i)*a8 a b (tk C (i+1))<0:=by
   have:=xr (show 0 < -a8 a b (tk C i) by grind) (show 0<a8 a b (tk C (i+1)) by grind);grind
  obtain⟨t,_,_,e,_⟩:=T5 h;exact#[_,.inr #[i,h,rfl],by rw[e];exact P9 _ _ _]
theorem Gy (h1:0<=a8 a b (tk C i)) (h2:a8 a b (tk C (i+1))<0):∃p,C5 a b C p/\a8 (tk C i) (tk C (i+1)) p=0:=by
 by_cases z:a8 a b (tk C i)=0
 .exact#[_,.inl #[i,rfl,z],by unfold a8;grind]
 .have h:a8 a b (tk C i)*a8 a b (tk C (i+1))<0:=by
   have:=xr (show 0<a8 a b (tk C i) by grind) (show 0 < -a8 a b (tk C (i+1)) by grind);grind
  obtain⟨t,_,_,e,_⟩:=T5 h;exact#[_,.inr #[i,h,rfl],by rw[e];exact P9 _ _ _]
theorem im (k:Nat):∃i,tk C (i+1)=tk C k/\tk C (i+1+1)=tk C (k+1):=by
 have l:=hC.lo;refine#[k+C.length - 1,?_,?_]
 .rw[show k+C.length - 1+1=k+C.length by omega,<-K0,Ki,K0]
 .rw[show k+C.length - 1+1+1=k+1+C.length by omega,<-K0,Ki,K0]
theorem U9 (h:tk C i=tk C j):i % C.length=j % C.length:=by
 have l:=v7 hC;have x:=gP (l:=C) (i:=i) l;have y:=gP (l:=C) (i:=j) l;rw[h] at x;exact(List.getElem?_inj (IV _ l) hC.nd).mp (x.trans y.symm)
theorem ag (i:Nat):0<a8 (tk C i) (tk C (i+1)) (tk C (i+1+1)):=by
 have l:=hC.lo;rcases hC.st i _ (o9 (i+1+1) (v7 hC)) with e | e | e
 .have:=U9 hC e;have h1:=IV i (show 0<C.length by omega);have h2:=Mt i C.length;have J:=Mt (i+1+1) C.length;have h4:C.length*((i+1+1) / C.length)=C.length*(i / C.length)+2:=by omega
  have B:(i+1+1) / C.length>i / C.length:=by
   refine Nat.lt_of_not_le fun z=>?_
   have:=Mu C.length z;omega
  have:=Mu C.length B;rw[Nat.mul_succ] at this;omega
 .exact absurd e (hC.ne (i+1))
 .exact e
theorem mt (hab:a≠b) {s s1 s2:Rat}(h:C5 a b C (c7 a b s)) (l1:s1<s) (l2:s<s2) (i1:∀i,0<=a8 (tk C i) (tk C (i+1)) (c7 a b s1)) (i2:∀i,0<=a8 (tk C i) (tk C (i+1)) (c7 a b s2)):False:=by
 have B:∀i,a8 (tk C i) (tk C (i+1)) (c7 a b s)=0->a8 a b (tk C i)=a8 a b (tk C (i+1)):=fun i e=>by
  have q1:=Y1 a b (tk C i) (tk C (i+1)) s1 s;have q2:=Y1 a b (tk C i) (tk C (i+1)) s2 s;have Y:=i1 i;have W:=i2 i;rw[e] at q1 q2;generalize hD:a8 a b (tk C i) - a8 a b (tk C (i+1))=D at *;have d0:D=0:=by
   rcases(show D<0\/D=0\/0<D by grind) with z | z | z
   .have:=xr (show 0<s2 - s by grind) (show 0 < -D by grind);grind
   .exact z
   .have:=xr (show 0<s - s1 by grind) z;grind
  grind
 rcases h with ⟨k,e,z⟩ | ⟨i,h,e⟩
 .obtain⟨i,J,e2⟩:=im hC k;have f1:=B i (by rw[e,<-J];unfold a8;grind);have Z:=B (i+1) (by rw[e,<-J];unfold a8;grind);rw[e,<-J] at z;have t:=ag hC i;rw[z] at f1 Z;have p1:=J8 hab f1;have p2:=J8 hab z;have U:=J8 hab Z.symm;obtain⟨Y,p1⟩:=p1;obtain⟨W,p2⟩:=p2;obtain⟨r3,U⟩:=U;rw[p1,p2,U] at t;have:a8 (c7 a b Y) (c7 a b W) (c7 a b r3)=0:=by unfold a8 c7;grind
  grind
 .obtain⟨t,_,_,e2,_⟩:=T5 h;have f:=B i (by rw[e,e2];exact P9 _ _ _);rw[f] at h;by_cases z:0<=a8 a b (tk C (i+1))
  .have:=Ie z z;grind
  .have:=xr (show 0 < -a8 a b (tk C (i+1)) by grind) (show 0 < -a8 a b (tk C (i+1)) by grind);grind
end
theorem uh (Q:Nat->Prop):∀(d i:Nat),Q i->¬ Q (i+d)->∃k,Q k/\¬ Q (k+1)
 |0,i,h,n=>absurd h n
 |d+1,i,h,n=>by
  by_cases c:Q (i+1)
  .exact uh Q d (i+1) c (by rwa [show i+1+d=i+(d+1) by omega])
  .exact#[i,h,c]
section
variable {b:Pt}(hC:ShC C)
include hC
theorem DY (i m:Nat):tk C (i+C.length*m)=tk C i:=by
 rw[<-K0,Nat.add_mul_mod_self_left,K0]
theorem uT {P:Pt->Prop}{z w:Pt}(hz:z∈C) (B:w∈C) (p:P z) (n:¬ P w):∃i,P (tk C i)/\¬ P (tk C (i+1)):=by
 obtain⟨i,U,rfl⟩:=jk hz;obtain⟨j,J,rfl⟩:=jk B;have l:=v7 hC;refine uh (fun k=>P (tk C k)) (j+C.length*(i+1) - i) i p ?_;have:i<=C.length*(i+1):=by
  have:=Nat.mul_le_mul_right (i+1) (show 1<=C.length by omega);omega
 rw[show i+(j+C.length*(i+1) - i)=j+C.length*(i+1) by omega,DY hC];exact n
def M0 (a b:Pt) (C:vT_) (m:Pt):Prop:=∀i,0<a8 (tk C i) (tk C (i+1)) m\/(a8 (tk C i) (tk C (i+1)) m=0/\A0 (d6 (tk C i) (tk C (i+1))) (d6 a b)<=0)
theorem dk {b:Pt}(hab:a≠b):0<(b.1 - a.1)*(b.1 - a.1)+(b.2 - a.2)*(b.2 - a.2):=by
 have s1:=N5 (b.1 - a.1);have s2:=N5 (b.2 - a.2);refine IM.mp fun z=>hab ?_
 have J:(b.1 - a.1)*(b.1 - a.1)=0:=by grind
 have B:(b.2 - a.2)*(b.2 - a.2)=0:=by grind
 have U:b.1 - a.1=0:=by rcases IB.mp J with q | q <;> exact q
 have W:b.2 - a.2=0:=by rcases IB.mp B with q | q <;> exact q
 exact Il (by grind) (by grind)
theorem eW {m:Pt}(h:M0 a b C m) (i:Nat):0<=a8 (tk C i) (tk C (i+1)) m:=by
 rcases h i with q | q
 .exact II q
 .rw[q.1];exact Kg
theorem sY {m:Pt}(h:M0 a b C m):Ip C m:=om hC.cv hC.ne hC.nc fun i=>eW hC h i
theorem lJ (hab:a≠b) {s:Rat}(h1:a8 a b (tk C i)=0) (h2:a8 a b (tk C (i+1))=0) (W:∀z∈C,0<=a8 a b z) (h:M0 a b C (c7 a b s)):False:=by
 obtain⟨J,p1⟩:=J8 hab h1;obtain⟨B,p2⟩:=J8 hab h2;have t:=ag hC i;have g:=W _ (o9 (i+1+1) (v7 hC));have q:=h i;rw[p1,p2] at t q;generalize tk C (i+1+1)=z at *;have U:a8 (c7 a b J) (c7 a b B) z=(B - J)*a8 a b z:=by unfold a8 c7;grind
 have e2:a8 (c7 a b J) (c7 a b B) (c7 a b s)=0:=by unfold a8 c7;grind
 have Y:A0 (d6 (c7 a b J) (c7 a b B)) (d6 a b)=(B - J)*((b.1 - a.1)*(b.1 - a.1)+(b.2 - a.2)*(b.2 - a.2)):=by unfold A0 d6 c7;grind
 rw[U] at t;have Z:0<B - J:=by
  refine IM.mp fun y=>?_
  have:=Ie (show 0 <= -(B - J) by grind) g;grind
 have:=xr Z (dk hC hab);rw[e2,Y] at q;rcases q with q | q
 .exact absurd q Jk
 .grind
theorem GL (hab:a≠b) {s lo hi:Rat}(h:M0 a b C (c7 a b s)) (l1:lo<s) (l2:s<hi) (nm:∀r,C5 a b C (c7 a b r)->¬ (lo<r/\r<hi)):∃z∈C,a8 a b z<0:=by
 refine Jp fun hn=>?_
 have J:∀z∈C,0<=a8 a b z:=fun z hz=>Im.mp fun y=>hn #[z,hz,y]
 obtain⟨w,W,hq⟩:=sY hC h (b.2 - a.2) (-(b.1 - a.1));have e:a8 a b (c7 a b s)=0:=P9 a b s;have B:a8 a b w=0:=by
  have:=J w W;have:a8 a b w = -((b.2 - a.2)*(w.1 - (c7 a b s).1) + -(b.1 - a.1)*(w.2 - (c7 a b s).2)):=by
   have:a8 a b w - a8 a b (c7 a b s) = -((b.2 - a.2)*(w.1 - (c7 a b s).1) + -(b.1 - a.1)*(w.2 - (c7 a b s).2)):=by unfold a8;grind
   grind
  grind
 obtain⟨k,kl,rfl⟩:=jk W;obtain⟨i,U,e2⟩:=im hC k;by_cases Y:a8 a b (tk C i)=0
 .exact lJ hC hab Y (by rw[U];exact B) J h
 by_cases c2:a8 a b (tk C (k+1))=0
 .exact lJ hC hab B c2 J h
 obtain⟨r,pr⟩:=J8 hab B;have g1:=J _ (o9 i (v7 hC));have g2:=J _ (o9 (k+1) (v7 hC));have f1:=eW hC h i;have f2:=eW hC h k;have q1:=Y1 a b (tk C i) (tk C (i+1)) s r;have q2:=Y1 a b (tk C k) (tk C (k+1)) s r;have z1:a8 (tk C i) (tk C (i+1)) (c7 a b r)=0:=by rw[<-pr,U];unfold a8;grind
 have Z:a8 (tk C k) (tk C (k+1)) (c7 a b r)=0:=by rw[<-pr];unfold a8;grind
 rw[z1,U,B] at q1;rw[Z,B] at q2;have a1:0<=s - r:=by
  refine Im.mp fun y=>?_
  have:=xr (show 0 < -(s - r) by grind) (show 0<a8 a b (tk C i) by grind);rw[U] at f1;grind
 have a2:s - r<=0:=by
  refine Im.mp fun y=>?_
  have:=xr y (show 0<a8 a b (tk C (k+1)) by grind);grind
 have es:r=s:=by grind
 refine nm r (.inl #[k,pr.symm,P9 a b r]) ?_;rw[es];exact#[l1,l2]
theorem lq (hab:a≠b) {s lo hi:Rat}(h:M0 a b C (c7 a b s)) (l1:lo<s) (l2:s<hi) (nm:∀r,C5 a b C (c7 a b r)->¬ (lo<r/\r<hi)) :
  (∃z∈C,a8 a b z<0)/\∃s1 s2,C5 a b C (c7 a b s1)/\C5 a b C (c7 a b s2)/\s2<=lo/\hi<=s1/\∀r,C5 a b C (c7 a b r)->r=s1\/r=s2:=by
 obtain⟨z,W,U⟩:=GL hC hab h l1 l2 nm;refine#[#[z,W,U],?_];obtain⟨w,hw,hq⟩:=sY hC h (-(b.2 - a.2)) (b.1 - a.1);have w0:0<=a8 a b w:=by
  have e:a8 a b (c7 a b s)=0:=P9 a b s;have:a8 a b w - a8 a b (c7 a b s) = -(b.2 - a.2)*(w.1 - (c7 a b s).1)+(b.1 - a.1)*(w.2 - (c7 a b s).2):=by unfold a8;grind
  grind
 obtain⟨i,i1,i2⟩:=uT hC (P:=fun p=>a8 a b p<0) W hw U (Im.mpr w0);obtain⟨j,j1,J⟩:=uT hC (P:=fun p=>0<=a8 a b p) hw W w0 (IM.mpr U);have i2:=Im.mp i2;have J:=IM.mp J;obtain⟨p,mp,ep⟩:=wN hC i1 i2;obtain⟨q,B,eq⟩:=Gy hC j1 J;obtain⟨s1,rfl⟩:=J8 hab (V5 hC mp);obtain⟨s2,rfl⟩:=J8 hab (V5 hC B);have f1:=eW hC h i;have f2:=eW hC h j;have q1:=Y1 a b (tk C i) (tk C (i+1)) s s1;have q2:=Y1 a b (tk C j) (tk C (j+1)) s s2;rw[ep] at q1;rw[eq] at q2;have b1:s<=s1:=by
  refine Im.mp fun y=>?_
  have:=xr (show 0<s - s1 by grind) (show 0<a8 a b (tk C (i+1)) - a8 a b (tk C i) by grind);grind
 have b2:s2<=s:=by
  refine Im.mp fun y=>?_
  have:=xr (show 0<s2 - s by grind) (show 0<a8 a b (tk C j) - a8 a b (tk C (j+1)) by grind);grind
 have c1:hi<=s1:=Im.mp fun y=>nm s1 mp #[by grind,y]
 have c2:s2<=lo:=Im.mp fun y=>nm s2 B #[y,by grind]
 refine#[s1,s2,mp,B,c2,c1,fun r hr=>?_];have Y:=aP hC hr;have Z:=aP hC mp;have iq:=aP hC B;rcases(show r=s1\/r=s2\/r<s2\/(s2<r/\r<s1)\/s1<r by grind) with y | y | y | y | y
 .exact .inl y
 .exact .inr y
 .exact(mt hC hab B y (show s2<s1 by grind) Y Z).elim
 .exact(mt hC hab hr y.1 y.2 iq Z).elim
 .exact(mt hC hab mp (show s2<s1 by grind) y iq Y).elim
theorem mr (hab:a≠b) {s s1 s2:Rat}(h1:C5 a b C (c7 a b s1)) (h2:C5 a b C (c7 a b s2)) (l2:s2<s) (l1:s<s1) (hz:z∈C) (zn:a8 a b z<0):M0 a b C (c7 a b s):=by
 intro i;have f1:=aP hC h1 i;have f2:=aP hC h2 i;have q1:=Y1 a b (tk C i) (tk C (i+1)) s1 s;have q2:=Y1 a b (tk C i) (tk C (i+1)) s2 s;have key:0<=a8 (tk C i) (tk C (i+1)) (c7 a b s):=by
  refine Im.mp fun y=>?_
  rcases(show a8 a b (tk C i) - a8 a b (tk C (i+1))<=0\/0<=a8 a b (tk C i) - a8 a b (tk C (i+1)) by grind) with d | d
  .have:=Ie (show 0<=s1 - s by grind) (show 0 <= -(a8 a b (tk C i) - a8 a b (tk C (i+1))) by grind);grind
  .have:=Ie (show 0<=s - s2 by grind) d;grind
 by_cases e:a8 (tk C i) (tk C (i+1)) (c7 a b s)=0
 .refine .inr #[e,?_];have U:a8 a b (tk C i)=a8 a b (tk C (i+1)):=by
   rw[e] at q1 q2;generalize hD:a8 a b (tk C i) - a8 a b (tk C (i+1))=D at *;rcases(show D<0\/D=0\/0<D by grind) with d | d | d
   .have:=xr (show 0<s1 - s by grind) (show 0 < -D by grind);grind
   .grind
   .have:=xr (show 0<s - s2 by grind) d;grind
  have cz:=hC.cv i z hz;have Y:((b.1 - a.1,b.2 - a.2):Pt)≠(0,0):=fun q=>hab (Il (by have:b.1 - a.1=0:=congrArg Prod.fst q;grind) (by have:b.2 - a.2=0:=congrArg Prod.snd q;grind))
  obtain⟨k,hk⟩:=ki (v:=((tk C (i+1)).1 - (tk C i).1,(tk C (i+1)).2 - (tk C i).2)) Y (by
   have:a8 a b (tk C (i+1)) - a8 a b (tk C i)=(b.1 - a.1)*((tk C (i+1)).2 - (tk C i).2) - (b.2 - a.2)*((tk C (i+1)).1 - (tk C i).1):=by unfold a8;grind
   unfold gv;show (b.1 - a.1)*((tk C (i+1)).2 - (tk C i).2) - (b.2 - a.2)*((tk C (i+1)).1 - (tk C i).1)=0;grind)
  have B:(tk C (i+1)).1 - (tk C i).1=k*(b.1 - a.1):=congrArg Prod.fst hk;have J:(tk C (i+1)).2 - (tk C i).2=k*(b.2 - a.2):=congrArg Prod.snd hk;have kn:k≠0:=fun y=>hC.ne i (Il (by rw[y] at B;grind) (by rw[y] at J;grind))
  have W:∀p:Pt,a8 (tk C i) (tk C (i+1)) p=k*(a8 a b p - a8 a b (tk C i)):=fun p=>by
   have:a8 (tk C i) (tk C (i+1)) p=((tk C (i+1)).1 - (tk C i).1)*(p.2 - (tk C i).2) - ((tk C (i+1)).2 - (tk C i).2)*(p.1 - (tk C i).1):=rfl;rw[this,B,J];unfold a8;grind
  have e0:a8 a b (tk C i)=0:=by
   rw[W,P9] at e;rcases IB.mp e with y | y
   .exact absurd y kn
   .grind
  rw[W,e0] at cz;have kn2:k<=0:=by
   refine Im.mp fun y=>?_
   have:=xr y (show 0 < -a8 a b z by grind);grind
  have Z:A0 (d6 (tk C i) (tk C (i+1))) (d6 a b)=k*((b.1 - a.1)*(b.1 - a.1)+(b.2 - a.2)*(b.2 - a.2)):=by
   show ((tk C (i+1)).1 - (tk C i).1)*(b.1 - a.1)+((tk C (i+1)).2 - (tk C i).2)*(b.2 - a.2)=_;rw[B,J];grind
  rw[Z];have:=Ie (show 0 <= -k by grind) (II (dk hC hab));grind
 .exact .inl (by grind)
end
def M9 (a b:Pt) (C:vT_) (k:Nat):Option Pt:=if A9 (a8 a b (tk C k))=0 then some (tk C k) else if A9 (a8 a b (tk C k))+A9 (a8 a b (tk C (k+C.length - 1)))=0 then some (J7 a b (tk C (k+C.length - 1)) (tk C k)) else none
def C4 (a b:Pt) (C:vT_):List Pt:=(List.range C.length).filterMap (M9 a b C)
theorem sgn0F {x:Rat}:A9 x=0↔x=0:=by
 unfold A9;by_cases h1:0<x
 .rw[fx h1];constructor <;> intro h <;> grind
 .by_cases h2:x<0
  .rw[fI h1,fx h2];constructor <;> intro h <;> grind
  .rw[fI h1,fI h2];constructor <;> intro h <;> grind
theorem kU {x y:Rat}(U:x≠0):A9 x+A9 y=0↔y*x<0:=by
 have px:∀{u v:Rat},0<u->0<v->¬ u*v<0:=fun h1 h2 h=>by have:=xr h1 h2;grind
 unfold A9;by_cases h1:0<x
 .by_cases h2:0<y
  .rw[fx h1,fx h2];exact#[fun h=>by omega,fun h=>absurd h (px h2 h1)]
  .by_cases B:y<0
   .rw[fx h1,fI h2,fx B];exact#[fun _=>by have:=xr h1 (show 0 < -y by grind);grind,fun _=>by omega]
   .rw[fx h1,fI h2,fI B];have:y=0:=by grind
    subst this;exact#[fun h=>by omega,fun h=>by grind]
 .have J:x<0:=by grind
  by_cases h2:0<y
  .rw[fI h1,fx J,fx h2];exact#[fun _=>by have:=xr (show 0 < -x by grind) h2;grind,fun _=>by omega]
  .by_cases B:y<0
   .rw[fI h1,fx J,fI h2,fx B];exact#[fun h=>by omega,fun h=>by have:=xr (show 0 < -x by grind) (show 0 < -y by grind);grind]
   .rw[fI h1,fx J,fI h2,fI B];have:y=0:=by grind
    subst this;exact#[fun h=>by omega,fun h=>by grind]
section
variable {b:Pt}(hC:ShC C)
include hC
theorem FE (k:Nat):tk C (k+C.length - 1+1)=tk C k:=by
 have l:=hC.lo;rw[show k+C.length - 1+1=k+C.length by omega,<-K0,Ki,K0]
theorem Fe (i:Nat):tk C ((i+1) % C.length+C.length - 1)=tk C i:=by
 have l:=hC.lo;rw[<-K0,show (i+1) % C.length+C.length - 1=(i+1) % C.length+(C.length - 1) by omega,Kv,show i+1+(C.length - 1)=i+C.length by omega,Ki,K0]
theorem iu (h:M9 a b C k=some p):(p=tk C k/\a8 a b (tk C k)=0)\/(a8 a b (tk C (k+C.length - 1))*a8 a b (tk C (k+C.length - 1+1))<0/\p=J7 a b (tk C (k+C.length - 1)) (tk C (k+C.length - 1+1))):=by
 rw[FE hC];unfold M9 at h;by_cases c:A9 (a8 a b (tk C k))=0
 .rw[fx c] at h;cases h;exact .inl #[rfl,sgn0F.mp c]
 .rw[fI c] at h;by_cases d:A9 (a8 a b (tk C k))+A9 (a8 a b (tk C (k+C.length - 1)))=0
  .rw[fx d] at h;cases h;exact .inr #[(kU fun z=>c (sgn0F.mpr z)).mp d,rfl]
  .rw[fI d] at h;cases h
theorem X3 :p∈C4 a b C↔C5 a b C p:=by
 have l:=v7 hC;unfold C4;rw[My];constructor
 .rintro⟨k,_,h⟩;rcases iu hC h with ⟨rfl,e⟩ | ⟨e,rfl⟩
  .exact .inl #[k,rfl,e]
  .exact .inr #[_,e,rfl]
 .rintro(⟨k,rfl,e⟩ | ⟨i,e,rfl⟩)
  .refine#[k % C.length,JD.mpr (IV _ l),?_];unfold M9;rw[K0,fx (sgn0F.mpr e)]
  .refine#[(i+1) % C.length,JD.mpr (IV _ l),?_];unfold M9;rw[Fe hC,K0];have B:a8 a b (tk C (i+1))≠0:=fun z=>by rw[z] at e;grind
   rw[fI (fun z=>B (sgn0F.mp z)),fx ((kU B).mpr e)]
theorem yR {t u:Rat}(t0:0<t) (t1:t<1) (Z:0<u) (u1:u<1) (e:c7 (tk C i) (tk C (i+1)) t=c7 (tk C j) (tk C (j+1)) u):i % C.length=j % C.length:=by
 have l:=v7 hC;have z:a8 (tk C i) (tk C (i+1)) (c7 (tk C j) (tk C (j+1)) u)=0:=by rw[<-e];exact P9 _ _ _
 rw[S7] at z;have g1:=hC.cv i _ (o9 j l);have g2:=hC.cv i _ (o9 (j+1) l);have m1:=Ie (show 0<=1 - u by grind) g1;have m2:=Ie (II Z) g2;have z1:a8 (tk C i) (tk C (i+1)) (tk C j)=0:=by
  refine Jp fun n=>?_
  have:=xr (show 0<1 - u by grind) (show 0<a8 (tk C i) (tk C (i+1)) (tk C j) by grind);grind
 have z2:a8 (tk C i) (tk C (i+1)) (tk C (j+1))=0:=by
  refine Jp fun n=>?_
  have:=xr Z (show 0<a8 (tk C i) (tk C (i+1)) (tk C (j+1)) by grind);grind
 have B:=hC.st i _ (o9 j l);have J:=hC.st i _ (o9 (j+1) l);rw[z1] at B;rw[z2] at J;have U:¬ (0:Rat)<0:=by grind
 have lo:=hC.lo;rcases B with B | B | B
 .exact(U9 hC B).symm
 .rcases J with J | J | J
  .have W:=U9 hC B;have Y:=U9 hC J;exfalso;have q3:(j+1+1) % C.length=(i+1) % C.length:=by rw[JP (j+1) 1,Y,<-JP]
   rw[<-W] at q3;have h2:=Mt j C.length;have h3:=Mt (j+1+1) C.length;have h4:C.length*((j+1+1) / C.length)=C.length*(j / C.length)+2:=by omega
   have h5:(j+1+1) / C.length>j / C.length:=by
    refine Nat.lt_of_not_le fun z=>?_
    have:=Mu C.length z;omega
   have:=Mu C.length h5;rw[Nat.mul_succ] at this;omega
  .have W:=U9 hC B;have Y:=U9 hC J;rw[<-W] at Y;exact absurd J fun w=>by
    have:=hC.ne j;rw[w,B] at this;exact this rfl
  .exact absurd J U
 .exact absurd B U
theorem Gw (hk:k<C.length) (Z:j<C.length) (h1:M9 a b C k=some p) (h2:M9 a b C j=some p):k=j:=by
 have l:=v7 hC;have Y:∀{x y:Nat},x % C.length=y % C.length->x<C.length->y<C.length->x=y:=fun h hx hy=>by rwa [JV hx,JV hy] at h
 have W:∀{k j:Nat},a8 a b (tk C k)=0->a8 a b (tk C j)*a8 a b (tk C (j+1))<0->tk C k=J7 a b (tk C j) (tk C (j+1))->False:=fun {k j} J B e=>by
  obtain⟨t,_,_,ex,_⟩:=T5 B;have z:a8 (tk C j) (tk C (j+1)) (tk C k)=0:=by rw[e,ex];exact P9 _ _ _
  rcases hC.st j _ (o9 k l) with w | w | w
  .rw[<-w,J] at B;grind
  .rw[<-w,J] at B;grind
  .grind
 rcases iu hC h1 with ⟨rfl,J⟩ | ⟨J,rfl⟩
 .rcases iu hC h2 with ⟨B,U⟩ | ⟨B,U⟩
  .exact Y (U9 hC B) hk Z
  .exact(W J B U).elim
 .rcases iu hC h2 with ⟨B,U⟩ | ⟨B,U⟩
  .exact(W U J B.symm).elim
  .obtain⟨t,t0,t1,x1,_⟩:=T5 J;obtain⟨u,u0,u1,x2,_⟩:=T5 B;have q:=yR hC t0 t1 u0 u1 (by rw[<-x1,U,x2]);have lo:=hC.lo;have r:(k+C.length - 1+1) % C.length=(j+C.length - 1+1) % C.length:=by rw[JP,q,<-JP]
   rw[show k+C.length - 1+1=k+C.length by omega,show j+C.length - 1+1=j+C.length by omega,Ki,Ki] at r;exact Y r hk Z
theorem ym:(C4 a b C).Nodup:=by
 unfold C4;have r:(List.range C.length).Pairwise fun i j=>i<C.length/\j<C.length/\i≠j:=by
  refine(List.pairwise_lt_range (n:=C.length)).imp_of_mem fun {i j} hi B h=>?_
  exact#[JD.mp hi,JD.mp B,Ir h]
 refine List.Pairwise.filterMap _ (fun i j ⟨hi,B,h⟩ p hp q J e=>?_) r;subst e;exact h (Gw hC hi B hp J)
end
section
variable {α:Type}{en:α->DL.D}{lt:α->α->Bool}{P:α->Prop}{mL mR:a9}{nm:Str}
 (hm:∀(s:DS) (t:DA),s.sl[2]? = some (.v (.fn nm))->W4 2 [("is_lesser",mL),("row_goes_ahead",mR)] t s=d8 m t s)
 (hk:∀(x y:α) (fs:vO_),P x->P y->m [en y,en x] fs=some (.bl (lt y x),fs)) (as zs:List α) (fs:vO_)
abbrev B5 (en:α->DL.D) (nm:Str) (as zs:List α) (fs:vO_) (acc:List DL.D) (t:Nat) (x:Sl):DS:=#[[.v (.lst (as.map en)),.v (.lst (zs.map en)),.v (.fn nm),.own acc,.v (.int (t:Int)),x],fs]
abbrev lU (mL mR:a9):DT:=u4 (dB (a7 (p8 (fun i j=>decide (i<j))) (dL 4) (l7 (one o6) (a0 (dL 1) b9)))) (o7 (W4 2 [("is_lesser",mL),("row_goes_ahead",mR)] (a0 (a7 d5 (dL 1) (dL 4)) (a0 (dV 5) b9))))
include hm hk
theorem Ef (acc:List DL.D) (t:Nat) (x:Sl) (h:zs.length<=t):(lU mL mR) (B5 en nm as zs fs acc t x)=some (false,B5 en nm as zs fs acc t x):=by
 refine bv (J0 ?_);refine ae (s1:=B5 en nm as zs fs acc t x) (x:=.int (t:Int)) rfl (aU (s1:=B5 en nm as zs fs acc t x) (x:=.lst (zs.map en)) rfl rfl) ?_;rw[fU,Jc (by rw[xo];omega)]
theorem Cc {x y:α}(acc:List DL.D) (t:Nat) (B:P x) (J:P y) (h:zs[t]? = some y):(lU mL mR) (B5 en nm as zs fs acc t (.v (en x)))=some (lt y x,B5 en nm as zs fs acc t (.v (en x))):=by
 have U:t<zs.length:=(IK.mp h).1;refine X6 (s1:=B5 en nm as zs fs acc t (.v (en x))) (J0 ?_) (R4 ?_)
 .refine ae (s1:=B5 en nm as zs fs acc t (.v (en x))) (x:=.int (t:Int)) rfl (aU (s1:=B5 en nm as zs fs acc t (.v (en x))) (x:=.lst (zs.map en)) rfl rfl) ?_;rw[fU,IH (by rw[xo];omega)]
 .rw[hm _ _ rfl];refine r8 (xs:=[en y,en x]) (G4 (ae (s1:=B5 en nm as zs fs acc t (.v (en x))) (x:=.lst (zs.map en)) (y:=.int (t:Int)) rfl rfl (re (nC (by rw[IT,h];rfl)))) (G4 rfl rfl)) ?_;exact hk x y fs B J
theorem nA (x:α) (U:P x) (hz:∀z∈zs,P z):∀(ys pre:List α) (acc:List DL.D),zs=pre++ys->acc.length+ys.length<sizeLine ->
  O0 (lU mL mR) (mY mL mR) (B5 en nm as zs fs acc pre.length (.v (en x)))=some (.next,B5 en nm as zs fs (acc++(ys.takeWhile (fun y=>lt y x)).map en) (pre.length+(ys.takeWhile (fun y=>lt y x)).length) (.v (en x)))
 |[],pre,acc,e,l=>by
  refine(gm (Ef hm hk as zs fs acc pre.length _ (by rw[e];simp))).trans ?_;simp
 |y::ys,pre,acc,e,l=>by
  have W:zs[pre.length]? = some y:=by rw[e,Kx (tx _),Nat.sub_self];rfl
  have J:P y:=hz y (by rw[e];simp);have T:=Cc hm hk as zs fs acc pre.length U J W;cases q:lt y x with
  |false=>
   rw[q] at T;refine(gm T).trans ?_;rw[Nd,q];simp
  |true=>
   rw[q] at T;have Z:acc.length<sizeLine:=by simp only[Iu] at l;omega
   have B:mY mL mR (B5 en nm as zs fs acc pre.length (.v (en x)))=some (.next,B5 en nm as zs fs (acc++[en y]) (pre++[y]).length (.v (en x))):=by
    refine(B6 (s1:=B5 en nm as zs fs (acc++[en y]) pre.length (.v (en x))) (W8 (i:=3) (s:=B5 en nm as zs fs acc pre.length (.v (en x))) (s1:=B5 en nm as zs fs acc pre.length (.v (en x))) (ds:=acc) (ds0:=acc) (d:=en y) rfl (ae (s1:=B5 en nm as zs fs acc pre.length (.v (en x))) (x:=.lst (zs.map en)) (y:=.int (pre.length:Int)) rfl rfl (re (nC (by rw[IT,W];rfl)))) rfl Z)).trans ?_;refine B1 (ae (x:=.int (pre.length:Int)) (y:=.int 1) rfl rfl rfl) ?_;rw[IQ];rfl
   have Y:=nA x U hz ys (pre++[y]) (acc++[en y]) (by rw[e];simp) (by simp only[IQ,Iu,JJ] at l ⊢;omega);refine(kH T B Y).trans ?_;rw[Nd,q,fx rfl,Iv,LN,List.singleton_append,Iu,IQ,MD];rw[show pre.length+1+(ys.takeWhile (fun y=>lt y x)).length=pre.length+((ys.takeWhile (fun y=>lt y x)).length+1) by omega]
theorem tY (hz:∀z∈zs,P z):∀(xs ys pre:List α) (acc:List DL.D) (x5:Sl),(∀z∈xs,P z)->zs=pre++ys->acc.length+xs.length+ys.length<sizeLine ->
  ∃(A:List α) (t:Nat) (x5':Sl),A2 (e7 5) (jy mL mR) (xs.map en) (B5 en nm as zs fs acc pre.length x5)=some (.next,B5 en nm as zs fs (acc++A.map en) t x5')/\A++zs.drop t=M8 lt xs ys
 |[],ys,pre,acc,x5,hxs,e,l=>#[[],pre.length,x5,by simp[A2],by rw[e];simp[M8]]
 |x::xs,ys,pre,acc,x5,hxs,e,l=>by
  have J:=hxs x (iR ..);have W:=nA hm hk as zs fs x J hz ys pre acc e (by simp only[Iu] at l;omega);have tl:=congrArg List.length (KU (p:=fun y=>lt y x) (l:=ys));rw[IQ] at tl;have B:jy mL mR (B5 en nm as zs fs acc pre.length (.v (en x)))=some (.next,B5 en nm as zs fs (acc++(ys.takeWhile (fun y=>lt y x)).map en++[en x]) (pre++ys.takeWhile (fun y=>lt y x)).length (.v (en x))):=by
   refine(B6 W).trans ?_;rw[IQ];exact W8 (i:=3) (s:=B5 en nm as zs fs (acc++(ys.takeWhile (fun y=>lt y x)).map en) (pre.length+(ys.takeWhile (fun y=>lt y x)).length) (.v (en x))) (s1:=B5 en nm as zs fs (acc++(ys.takeWhile (fun y=>lt y x)).map en) (pre.length+(ys.takeWhile (fun y=>lt y x)).length) (.v (en x))) (ds:=acc++(ys.takeWhile (fun y=>lt y x)).map en) (d:=en x) rfl rfl rfl (by simp only[IQ,xo,Iu] at l ⊢;omega)
  obtain⟨A,t,x5',h1,h2⟩:=tY hz xs (ys.dropWhile (fun y=>lt y x)) (pre++ys.takeWhile (fun y=>lt y x)) (acc++(ys.takeWhile (fun y=>lt y x)).map en++[en x]) (.v (en x)) (fun z h=>hxs z (iU _ h))
   (by rw[e,LN,KU]) (by simp only[IQ,xo,Iu,JJ] at l ⊢;omega)
  refine#[ys.takeWhile (fun y=>lt y x)++x::A,t,x5',?_,?_]
  .rw[Iv,Q3 (s1:=B5 en nm as zs fs acc pre.length (.v (en x))) rfl B,h1];simp
  .simp only[M8];rw[<-h2];simp
theorem HE (ha:∀z∈as,P z) (hz:∀z∈zs,P z) (l:as.length+zs.length<sizeLine):di mL mR [.lst (as.map en),.lst (zs.map en),.fn nm] fs=some (.lst ((M8 lt as zs).map en),fs):=by
 obtain⟨A,t,B,h1,h2⟩:=tY hm hk as zs fs hz as zs [] [] .no ha rfl (by simpa using l);refine u9 (s:=B5 en nm as zs fs ([]++A.map en) t B) ?_;show jW mL mR #[[.v (.lst (as.map en)),.v (.lst (zs.map en)),.v (.fn nm),.no,.no,.no],fs]=_;unfold jW;rw[B6 (s1:=#[[.v (.lst (as.map en)),.v (.lst (zs.map en)),.v (.fn nm),.own [],.no,.no],fs]) (W7 (i:=3) (s1:=#[[.v (.lst (as.map en)),.v (.lst (zs.map en)),.v (.fn nm),.no,.no,.no],fs]) (ds:=[]) rfl (by show 3<6;decide))];rw[B6 (s1:=B5 en nm as zs fs [] 0 .no) (B1 rfl rfl)];rw[B6 (s1:=B5 en nm as zs fs ([]++A.map en) t B) ((bS (ds:=as.map en) rfl).trans h1)];have hl:A.length+(zs.drop t).length<sizeLine:=by
  have e:=congrArg List.length h2;rw[IQ,jZ] at e;omega
 refine B0 ?_;refine ae (s1:=B5 en nm as zs fs ([]++A.map en) t B) (x:=.lst ([]++A.map en)) rfl (mw (s1:=B5 en nm as zs fs ([]++A.map en) t B) (ds:=zs.map en) rfl (l:=some (t:Int)) (s2:=B5 en nm as zs fs ([]++A.map en) t B) rfl rfl) ?_;rw[vU,<-h2,JN,<-KW,LO];refine fx ?_;rw[xo,xo];omega
end
section
variable {α:Type}{en:α->DL.D}{lt:α->α->Bool}{P:α->Prop}{mL mR:a9}{nm:Str}
 (hm:∀(s:DS) (t:DA),s.sl[2]? = some (.v (.fn nm))->W4 2 [("is_lesser",mL),("row_goes_ahead",mR)] t s=d8 m t s)
 (hk:∀(x y:α) (fs:vO_),P x->P y->m [en y,en x] fs=some (.bl (lt y x),fs))
include hm hk
theorem jb:∀(n:Nat) (l:List α) (fs:vO_),(∀z∈l,P z)->l.length<=2 ^ n->l.length<2 ^ 20->dD (di mL mR) (n+1) [.lst (l.map en),.fn nm] fs=some (.lst ((L1 lt (n+1) l).map en),fs)
 |n,l,fs,hl,h2,h3=>by
  have B:∀x2:Sl,l7 (one o6) (a0 (dL 0) b9) #[[.v (.lst (l.map en)),.v (.fn nm),x2],fs]=some (.int (l.length:Int),#[[.v (.lst (l.map en)),.v (.fn nm),x2],fs]):=fun x2=>by
   refine aU (x:=.lst (l.map en)) rfl ?_;show some (D.int ((l.map en).length:Nat))=_;rw[xo]
  by_cases hs:l.length<2
  .refine u9 (s:=#[[.v (.lst (l.map en)),.v (.fn nm),.no],fs]) ?_;show eA _ _ #[[.v (.lst (l.map en)),.v (.fn nm),.no],fs]=_;unfold eA;refine aQ ?_;rw[P8 (s1:=#[[.v (.lst (l.map en)),.v (.fn nm),.no],fs]) (J0 (ae (B _) rfl (by rw[fU,IH ∅])))];rw[L1,fx hs];rfl
  .cases n with
   |zero=>exact absurd h2 ∅
   |succ n=>
    have p2:2 ^ (n+1)=2 ^ n+2 ^ n:=by rw[MW];omega
    have U:=jb n (l.take (l.length / 2)) fs (fun z h=>hl z (LA h)) (by rw[Jz];omega) (by rw[Jz];omega);have W:=jb n (l.drop (l.length / 2)) fs (fun z h=>hl z (Kt h)) (by rw[IL];omega) (by rw[IL];omega);refine u9 (s:=#[[.v (.lst (l.map en)),.v (.fn nm),.v (.int ((l.length / 2:Nat):Int))],fs]) ?_;show eA (di mL mR) (dD (di mL mR) (n+1)) #[[.v (.lst (l.map en)),.v (.fn nm),.no],fs]=_;unfold eA;rw[B6 (s1:=#[[.v (.lst (l.map en)),.v (.fn nm),.no],fs]) (Y5 (J0 (ae (B _) rfl (by rw[fU,Jc ∅]))))];rw[B6 (s1:=#[[.v (.lst (l.map en)),.v (.fn nm),.v (.int ((l.length / 2:Nat):Int))],fs]) (B1 (ae (B _) rfl (GC _ #[])) (by
     rw[show ((l.length:Int).fdiv 2)=((l.length / 2:Nat):Int) by rw[Mq _ #[]];rfl];rfl))]
    rw[L1,fI hs];refine B0 ?_;have J:a0 (dV 1) b9 #[[.v (.lst (l.map en)),.v (.fn nm),.v (.int ((l.length / 2:Nat):Int))],fs]=some ([.fn nm],#[[.v (.lst (l.map en)),.v (.fn nm),.v (.int ((l.length / 2:Nat):Int))],fs]):=rfl;refine r8 (xs:=[.lst ((L1 lt (n+1) (l.take (l.length / 2))).map en),.lst ((L1 lt (n+1) (l.drop (l.length / 2))).map en),.fn nm]) (f7 ?_ (f7 ?_ J)) ?_
    .refine r8 (xs:=[.lst ((l.take (l.length / 2)).map en),.fn nm]) (f7 ?_ J) U;rw[Ng,<-AK];exact mw (ds:=l.map en) rfl (l:=none) rfl (h:=some ((l.length / 2:Nat):Int)) rfl
    .refine r8 (xs:=[.lst ((l.drop (l.length / 2)).map en),.fn nm]) (f7 ?_ J) W;rw[KW,<-vU];exact mw (ds:=l.map en) rfl (l:=some ((l.length / 2:Nat):Int)) rfl (h:=none) rfl
    .refine HE hm hk _ _ fs (fun z h=>hl z (LA (V7 _ h))) (fun z h=>hl z (Kt (V7 _ h))) ?_;rw[cC,cC,Jz,IL];have:sizeLine=2 ^ 24:=rfl;omega
end
def zL {ds:List DL.D}{d:DL.D}(h:(R7 ds)[i]? = some d):∃x,ds[i]? = some x/\d = .tup [.int (i:Int),x]:=by
 unfold R7 at h;rw[IT,List.getElem?_zipIdx,La] at h;cases e:ds[i]? with
 |none=>rw[e] at h;cases h
 |some x=>rw[e] at h;cases h;exact#[x,rfl,rfl]
def nN {β:Type}(g:Pt->β) (hi:i<C.length):v5 (C.map g) ((i:Int) - 1)=some (g (tk C (i+C.length - 1))):=by
 cases i with
 |zero=>
  refine mV ?_;rw[xo,IT,aB (show C.length - 1<C.length by omega),La];rfl
 |succ i=>
  rw[show ((i+1:Nat):Int) - 1=(i:Int) by omega];refine Y7 ?_;rw[IT,aB (show i<C.length by omega),show i+1+C.length - 1=i+C.length by omega,<-K0 (i+C.length),Ki,K0];rfl
def CH {β:Type}(g:Pt->β) (hi:i<C.length):v5 (C.map g) (i:Int)=some (g (tk C i)):=Y7 (by rw[IT,aB hi];rfl)
def Fq {t:D->DS->Option DS}{b:DM}{s:DS}{ds:List DL.D}(h:f s=some ([.lst ds],s1)):dU f t b s=A2 t b (R7 ds) s1:=by
 unfold dU;rw[h];rfl
abbrev bC:a9:=tS dG T6
def w6 (a b:Pt) (c:Pt):DL.D:=.int (A9 (a8 a b c))
section
variable {b:Pt}(ha:Ps 8 a) (hb:Ps 8 b) (hC:ShC C) (fs:vO_)
abbrev cS (a b:Pt) (C:vT_) (fs:vO_) (acc:vT_) (x4 x5:Sl):DS:=#[[.v (o8 a b),.v (i7 C),.v (.lst (C.map (w6 a b))),.own (acc.map pt),x4,x5],fs]
include ha hb hC
theorem AQ (hi:i<C.length) {acc:vT_}(hl:acc.length<1000):eS dG T6 (cS a b C fs acc (.v (.int (i:Int))) (.v (w6 a b (tk C i))))=some (.next,cS a b C fs (acc++(M9 a b C i).toList) (.v (.int (i:Int))) (.v (w6 a b (tk C i)))):=by
 have sz:(acc.map pt).length<sizeLine:=by rw[xo];exact Iy hl #[]
 have B:∀p:Pt,acc.map pt++[pt p]=(acc++[p]).map pt:=fun p=>by rw[JN];rfl
 have ps:∀k,Ps 8 (tk C k):=fun k=>(hC.sz _ (o9 k (v7 hC))).1
 have J:d5 (i7 C) (.int (i:Int))=some (pt (tk C i)):=(Y8 _ _).trans (CH pt hi);have i1:d5 (i7 C) (.int ((i:Int) - 1))=some (pt (tk C (i+C.length - 1))):=(Y8 _ _).trans (nN pt hi);have i2:d5 (.lst (C.map (w6 a b))) (.int ((i:Int) - 1))=some (w6 a b (tk C (i+C.length - 1))):=(U6 _ _).trans (nN (w6 a b) hi);have W:∀z:A9 (a8 a b (tk C i))≠0,A9 (a8 a b (tk C i))+A9 (a8 a b (tk C (i+C.length - 1)))=0->j8 (d6 a b) (d6 (tk C (i+C.length - 1)) (tk C i))≠0:=fun z y w=>by
  rw[ge] at w;have h:=(kU (fun q=>z (sgn0F.mpr q))).mp y;have e:a8 a b (tk C (i+C.length - 1))=a8 a b (tk C i):=by grind
  rw[e] at h;have:=N5 (a8 a b (tk C i));grind
 have Y:M9 a b C i=if A9 (a8 a b (tk C i))=0 then some (tk C i) else if A9 (a8 a b (tk C i))+A9 (a8 a b (tk C (i+C.length - 1)))=0 then some (J7 a b (tk C (i+C.length - 1)) (tk C i)) else none:=rfl
 have st:=fun k=>rO (k:=8) (a:=tk C (i+C.length - 1)) (b:=tk C i) fs (ps _) (ps _) k
 have U:=fun k w=>BS (k:=8) (a:=a) (b:=b) (c:=tk C (i+C.length - 1)) (d:=tk C i) fs ha hb (ps _) (ps _) k w
 unfold cS w6 at *;generalize o8 a b=L at *;generalize o8 (tk C (i+C.length - 1)) (tk C i)=M at *;generalize i7 C=S at *;generalize C.map (fun c=>D.int (A9 (a8 a b c)))=Q at *;generalize J7 a b (tk C (i+C.length - 1)) (tk C i)=X at *;generalize tk C (i+C.length - 1)=u at *;generalize tk C i=v at *;generalize A9 (a8 a b v)=sv at *;generalize A9 (a8 a b u)=su at *;rw[Y];by_cases z:sv=0
 .rw[fx z];unfold eS;rw[P8 (s1:=#[[.v L,.v S,.v (.lst Q),.own (acc.map pt),.v (.int (i:Int)),.v (.int sv)],fs]) (J0 (c8 rfl rfl (by rw[bi,IH z])))];refine(W8 (i:=3) (ds0:=acc.map pt) (ds:=acc.map pt) (s1:=#[[.v L,.v S,.v (.lst Q),.own (acc.map pt),.v (.int (i:Int)),.v (.int sv)],fs]) rfl (c8 rfl rfl J) rfl sz).trans ?_;rw[B];rfl
 .rw[fI z];unfold eS;rw[N3 (s1:=#[[.v L,.v S,.v (.lst Q),.own (acc.map pt),.v (.int (i:Int)),.v (.int sv)],fs]) (J0 (c8 rfl rfl (by rw[bi,Jc z])))];have t:dB (a7 E6 (a7 k9 (dL 5) (a7 d5 (dL 2) (a7 u5 (dL 4) (Od 1)))) (Od 0)) #[[.v L,.v S,.v (.lst Q),.own (acc.map pt),.v (.int (i:Int)),.v (.int sv)],fs]=some (decide (sv+su=0),#[[.v L,.v S,.v (.lst Q),.own (acc.map pt),.v (.int (i:Int)),.v (.int sv)],fs]):=
   J0 (c8 (c8 rfl (c8 rfl (c8 rfl rfl rfl) i2) rfl) rfl (bi _ _))
  by_cases y:sv+su=0
  .rw[IH y] at t;rw[P8 t,fx y];refine(W8 (i:=3) (ds0:=acc.map pt) (ds:=acc.map pt) (d:=pt X) (s1:=#[[.v L,.v S,.v (.lst Q),.own (acc.map pt),.v (.int (i:Int)),.v (.int sv)],fs]) rfl
    (r8 (f7 rfl (f7 (r8 (f7 (c8 rfl (c8 rfl rfl rfl) i1) (f7 (c8 rfl rfl J) rfl)) (st #[])) rfl)) (U #[] (W z y))) rfl sz).trans ?_
   rw[B];rfl
  .rw[Jc y] at t;rw[N3 t,fI y];show _=some (Fl.next,(#[[.v L,.v S,.v (.lst Q),.own ((acc++[]).map pt),.v (.int (i:Int)),.v (.int sv)],fs]:DS));rw[JR];rfl
theorem zH:bC [o8 a b,i7 C,.lst (C.map (w6 a b))] fs=some (.lst ((C4 a b C).map pt),fs):=by
 have B:∀n,((List.range n).filterMap (M9 a b C)).length<=n:=fun n=>Ij (NV ..) (by rw[Mr];exact tx _)
 obtain⟨s',e,x4,J,hs⟩:=cy (t:=w8 2 (t6 (e7 4) (t6 (e7 5) A1))) (b:=eS dG T6) (fun i s=>∃x4 J,s=cS a b C fs ((List.range i).filterMap (M9 a b C)) x4 J) (R7 (C.map (w6 a b))) 0 (cS a b C fs [] .no .no) #[_,_,rfl] (by
  rintro i d s W ⟨x4,J,rfl⟩;obtain⟨x,U,rfl⟩:=zL W;have hi:i<C.length:=by have:=(IK.mp U).1;rwa [xo] at this
  rw[IT,aB hi] at U;cases U;rw[La];have t:=AQ ha hb hC fs hi (acc:=(List.range i).filterMap (M9 a b C)) (Ja (B i) (by have:=hC.hi;omega));have e:(List.range i).filterMap (M9 a b C)++(M9 a b C i).toList=(List.range (i+1)).filterMap (M9 a b C):=by
   rw[List.range_succ,List.filterMap_append];cases h:M9 a b C i <;> simp[LJ,h]
  rw[e] at t;exact#[_,_,rfl,.inl t,.v (.int (i:Int)),.v (w6 a b (tk C i)),rfl])
 subst hs;have Y:(R7 (C.map (w6 a b))).length=C.length:=by unfold R7;rw[xo,List.length_zipIdx,xo]
 rw[Y,La] at e;refine u9 (s:=#[[.v (o8 a b),.v (i7 C),.v (.lst (C.map (w6 a b))),.v (.lst ((C4 a b C).map pt)),x4,J],fs]) ?_;show jr dG T6 #[[.v (o8 a b),.v (i7 C),.v (.lst (C.map (w6 a b))),.no,.no,.no],fs]=_;unfold jr;refine l8 (s1:=cS a b C fs [] .no .no) (W7 (i:=3) (s1:=#[[.v (o8 a b),.v (i7 C),.v (.lst (C.map (w6 a b))),.no,.no,.no],fs]) (ds:=[]) rfl (by show 3<6;decide)) ?_;refine l8 ((Fq (ds:=C.map (w6 a b)) rfl).trans e) ?_;exact B0 rfl
end
abbrev V1:a9:=qB E1
def R6 (u c:Pt × Pt):Bool:=!j6 u.1 c.1 && !j6 c.2 u.2
theorem qW (hk:k<=2000) (h1:Ps k u.1) (h2:Ps k u.2) (fs:vO_) (x1:Sl):∀(Cv:List (Pt × Pt)) (x2 x3:Sl),(∀c∈Cv,Ps k c.1/\Ps k c.2) ->
  ∃y2 y3,A2 (w8 2 (t6 (e7 2) (t6 (e7 3) A1))) (qN E1) (Cv.map d7) #[[.v (d7 u),x1,x2,x3],fs]=some (if Cv.any (R6 u) then .ret (.bl true) else .next,#[[.v (d7 u),x1,y2,y3],fs])
 |[],x2,x3,_=>#[x2,x3,rfl]
 |c::r,x2,x3,h=>by
  obtain⟨J,c2⟩:=h c (iR ..);have U:=aH u.1 c.1 fs h1 J hk;have Z:=aH c.2 u.2 fs c2 h2 hk;have t:u4 (v4 (o7 (d8 E1 (a0 (Oe 0 0) (a0 (dV 2) b9))))) (v4 (o7 (d8 E1 (a0 (dV 3) (a0 (Oe 0 1) b9))))) #[[.v (d7 u),x1,.v (pt c.1),.v (pt c.2)],fs]=some (R6 u c,#[[.v (d7 u),x1,.v (pt c.1),.v (pt c.2)],fs]):=by
   have B:v4 (o7 (d8 E1 (a0 (Oe 0 0) (a0 (dV 2) b9)))) #[[.v (d7 u),x1,.v (pt c.1),.v (pt c.2)],fs]=some (!j6 u.1 c.1,#[[.v (d7 u),x1,.v (pt c.1),.v (pt c.2)],fs]):=fu (R4 (r8 (f7 (c8 rfl rfl rfl) (f7 rfl rfl)) U));have W:v4 (o7 (d8 E1 (a0 (dV 3) (a0 (Oe 0 1) b9)))) #[[.v (d7 u),x1,.v (pt c.1),.v (pt c.2)],fs]=some (!j6 c.2 u.2,#[[.v (d7 u),x1,.v (pt c.1),.v (pt c.2)],fs]):=fu (R4 (r8 (f7 rfl (f7 (c8 rfl rfl rfl) rfl)) Z));unfold R6;cases q:j6 u.1 c.1 with
   |true=>rw[q] at B;exact bv B
   |false=>rw[q] at B;exact X6 B W
  rw[Iv,Ku];cases q:R6 u c with
  |true=>
   rw[q] at t;exact#[_,_,lK (s1:=#[[.v (d7 u),x1,.v (pt c.1),.v (pt c.2)],fs]) rfl ((P8 t).trans rfl)]
  |false=>
   rw[q] at t;obtain⟨y2,y3,e⟩:=qW hk h1 h2 fs x1 r (.v (pt c.1)) (.v (pt c.2)) (fun z Y=>h z (iU _ Y));exact#[y2,y3,(Q3 (s1:=#[[.v (d7 u),x1,.v (pt c.1),.v (pt c.2)],fs]) rfl ((N3 t).trans rfl)).trans (by rw[Bool.false_or];exact e)]
def yX (hk:k<=2000) (h1:Ps k u.1) (h2:Ps k u.2) (fs:vO_) (h:∀c∈Cv,Ps k c.1/\Ps k c.2):V1 [d7 u,.lst (Cv.map d7)] fs=some (.bl (Cv.any (R6 u)),fs):=by
 obtain⟨J,B,e⟩:=qW hk h1 h2 fs (.v (.lst (Cv.map d7))) Cv .no .no h;refine u9 (s:=#[[.v (d7 u),.v (.lst (Cv.map d7)),J,B],fs]) ?_;show fO E1 #[[.v (d7 u),.v (.lst (Cv.map d7)),.no,.no],fs]=_;unfold fO;cases q:Cv.any (R6 u) with
 |true=>
  rw[q] at e;exact aQ ((bS (ds:=Cv.map d7) rfl).trans e)
 |false=>
  rw[q] at e;exact l8 ((bS (ds:=Cv.map d7) rfl).trans e) rfl
def kP (p:Pt):List A8:=bH [pX p,pY p,pL p]
def sG (p:Pt):N9 (pt p)=some (kP p):=rfl
def jc {q:Pt}(h:kP p=kP q):p=q:=by
 have e:=Hj h;simp only[Mk] at e;exact gL e.1 e.2.1 e.2.2.1
theorem uu:∀L:List Pt,J2 N9 (L.map pt)=some (L.map kP)
 |[]=>rfl
 |p::r=>by
  show (N9 (pt p)).bind _=_;rw[sG,td,uu r];rfl
def Fc (h:L.Nodup):(L.map kP).Nodup:=Nk _ (fun a b n e=>n (jc e)) h
def M5 (L:vT_) (p:Pt):List Pt:=if p∈L then L else L++[p]
def ud (L:vT_) (p:Pt):J4 (L.map kP) (kP p) (L.map pt) (pt p)=(M5 L p).map pt:=by
 have m:kP p∈L.map kP↔p∈L:=by
  rw[Ik];exact#[fun ⟨q,B,e⟩=>jc e▸B,fun h=>#[p,h,rfl]]
 unfold J4 M5;by_cases c:p∈L
 .rw[fx c,fx (m.mpr c)]
 .rw[fI c,fI (fun z=>c (m.mp z)),JN];rfl
def pK (h:L.Nodup):(M5 L p).Nodup:=by
 unfold M5;by_cases c:p∈L
 .rw[fx c];exact h
 .rw[fI c];refine Mc.mpr #[h,by simp,fun x J y B=>?_];simp at B;subst B;exact fun e=>c (e▸J)
def qI (L:vT_) (p:Pt):(M5 L p).length<=L.length+1:=by
 unfold M5;split <;> simp
def AR {q:Pt}:q∈M5 L p↔q∈L\/q=p:=by
 unfold M5;by_cases c:p∈L
 .rw[fx c];exact#[.inl,fun h=>h.elim id fun e=>e▸c]
 .rw[fI c,IJ,IA]
def O6 (lo hi p:Pt):Bool:=j6 lo p&&j6 p hi
def Q4 (lo hi:Pt):List Pt->List Pt->List Pt
 |[],L=>L
 |p::r,L=>Q4 lo hi r (if O6 lo hi p then M5 L p else L)
theorem ji (lo hi:Pt):∀(ms L:vT_),L.Nodup->(Q4 lo hi ms L).Nodup
 |[],L,h=>h
 |p::r,L,h=>by
  unfold Q4;by_cases c:O6 lo hi p=true
  .rw[fx c];exact ji lo hi r _ (pK h)
  .rw[fI c];exact ji lo hi r _ h
theorem gI (lo hi:Pt):∀(ms L:vT_),(Q4 lo hi ms L).length<=L.length+ms.length
 |[],L=>tx _
 |p::r,L=>by
  unfold Q4;have a:=qI L p;by_cases c:O6 lo hi p=true
  .rw[fx c];have:=gI lo hi r (M5 L p);simp only[Iu];omega
  .rw[fI c];have:=gI lo hi r L;simp only[Iu];omega
theorem ku (lo hi:Pt):∀(ms L:vT_) (q:Pt),q∈Q4 lo hi ms L↔q∈L\/(q∈ms/\O6 lo hi q=true)
 |[],L,q=>#[.inl,fun h=>h.elim id fun h=>nomatch h.1]
 |p::r,L,q=>by
  unfold Q4;rw[ku lo hi r];by_cases c:O6 lo hi p=true
  .rw[fx c,AR];constructor
   .rintro((h | rfl) | h)
    .exact .inl h
    .exact .inr #[iR ..,c]
    .exact .inr #[iU _ h.1,h.2]
   .rintro(h | ⟨h,w⟩)
    .exact .inl (.inl h)
    .rcases iO.mp h with rfl | h
     .exact .inl (.inr rfl)
     .exact .inr #[h,w]
  .rw[fI c];constructor
   .rintro(h | h)
    .exact .inl h
    .exact .inr #[iU _ h.1,h.2]
   .rintro(h | ⟨h,w⟩)
    .exact .inl h
    .rcases iO.mp h with rfl | h
     .exact absurd w c
     .exact .inr #[h,w]
abbrev iz:a9:=sK E1
abbrev O9:a9:=dD (di E1 iz) 64
abbrev rG:DM:=vG V1 T4 O9 X5 E1 bC au T6
abbrev kA:DM:=fV V1 T4 O9 X5 E1 bC au T6
abbrev Z9:a9:=ul V1 T4 O9 X5 E1 bC au T6
abbrev w5 (x0 x1 x2:Sl) (lo hi:Pt) (x4:Sl) (L:vT_) (Cv:List (Pt × Pt)) (x7 x8 x9 x10 x11 x12:Sl) (fs:vO_):DS:=#[[x0,x1,x2,.v (d7 (lo,hi)),x4,.dct (L.map pt),.own (Cv.map d7),x7,x8,x9,x10,x11,x12],fs]
section
variable {lo hi:Pt}(h1:Ps 70 lo) (h2:Ps 70 hi) (fs:vO_) (x0 x1 x2 x4 x7 x8 x9 x11 x12:Sl)
include h1 h2
theorem DC (hp:Ps 70 p) (Y:L.Nodup) (hl:L.length<=1000):rG (w5 x0 x1 x2 lo hi x4 L Cv x7 x8 x9 (.v (pt p)) x11 x12 fs)=some (.next,w5 x0 x1 x2 lo hi x4 (if O6 lo hi p then M5 L p else L) Cv x7 x8 x9 (.v (pt p)) x11 x12 fs):=by
 have J:=aH lo p fs h1 hp #[];have W:=aH p hi fs hp h2 #[];have B:o7 (d8 E1 (a0 (Oe 3 0) (a0 (dV 10) b9))) (w5 x0 x1 x2 lo hi x4 L Cv x7 x8 x9 (.v (pt p)) x11 x12 fs)=some (j6 lo p,w5 x0 x1 x2 lo hi x4 L Cv x7 x8 x9 (.v (pt p)) x11 x12 fs):=R4 (r8 (f7 (c8 rfl rfl rfl) (f7 rfl rfl)) J);have U:o7 (d8 E1 (a0 (dV 10) (a0 (Oe 3 1) b9))) (w5 x0 x1 x2 lo hi x4 L Cv x7 x8 x9 (.v (pt p)) x11 x12 fs)=some (j6 p hi,w5 x0 x1 x2 lo hi x4 L Cv x7 x8 x9 (.v (pt p)) x11 x12 fs):=R4 (r8 (f7 rfl (f7 (c8 rfl rfl rfl) rfl)) W);have t:u4 (o7 (d8 E1 (a0 (Oe 3 0) (a0 (dV 10) b9)))) (o7 (d8 E1 (a0 (dV 10) (a0 (Oe 3 1) b9)))) (w5 x0 x1 x2 lo hi x4 L Cv x7 x8 x9 (.v (pt p)) x11 x12 fs)=some (O6 lo hi p,w5 x0 x1 x2 lo hi x4 L Cv x7 x8 x9 (.v (pt p)) x11 x12 fs):=by
  unfold O6;cases q:j6 lo p with
  |false=>rw[q] at B;exact bv B
  |true=>rw[q] at B;exact X6 B U
 cases q:O6 lo hi p with
 |false=>
  rw[q] at t;rw[fI (by simp)];exact(N3 t).trans rfl
 |true=>
  rw[q] at t;rw[fx rfl];refine(P8 t).trans ?_;show (J2 N9 (L.map pt)).bind _=_;rw[uu,td,sG,td,fx #[Fc Y,by rw[xo];exact Ij hl #[]],ud];rfl
theorem qU :∀(ms L:vT_) (x10:Sl),(∀p∈ms,Ps 70 p)->L.Nodup->L.length+ms.length<=1000->∃y10,A2 (e7 10) rG (ms.map pt) (w5 x0 x1 x2 lo hi x4 L Cv x7 x8 x9 x10 x11 x12 fs)=some (.next,w5 x0 x1 x2 lo hi x4 (Q4 lo hi ms L) Cv x7 x8 x9 y10 x11 x12 fs)
 |[],L,x10,_,_,_=>#[x10,rfl]
 |p::r,L,x10,h,nd,hl=>by
  simp only[Iu] at hl;have e:=DC h1 h2 fs x0 x1 x2 x4 x7 x8 x9 x11 x12 (Cv:=Cv) (h p (iR ..)) nd ∅;have B:(if O6 lo hi p then M5 L p else L).Nodup:=by
   split
   .exact pK nd
   .exact nd
  have U:(if O6 lo hi p then M5 L p else L).length<=L.length+1:=by
   split
   .exact qI L p
   .omega
  obtain⟨y10,f⟩:=qU r (if O6 lo hi p then M5 L p else L) (.v (pt p)) (fun z J=>h z (iU _ J)) B ∅;exact#[y10,(Q3 rfl e).trans f]
end
def S4 (a b:Pt) (C:vT_):Bool:=C.any fun z=>decide (A9 (a8 a b z) = -1)
def K1 (a b:Pt) (C:vT_):List (Pt × Pt):=match C4 a b C with
 |[p,q]=>if S4 a b C then [j4 p q] else []
 |_=>[]
def Gk (a b:Pt) (C:vT_):N6 (.int (-1)) (.lst (C.map (w6 a b)))=some (.bl (S4 a b C)):=by
 have h1:u3 (.int (-1))=true:=rfl;have h2:u3 (.lst (C.map (w6 a b)))=true:=by
  have:=Ok.lst (OkL.all (k:=0) (n:=0) (ds:=C.map (w6 a b)) (fun d U=>by
   obtain⟨z,_,rfl⟩:=Ik.mp U;refine Ok.int ?_;show Bd 1920 (A9 (a8 a b z));unfold A9 Bd;split
   .exact Nat.one_lt_two_pow #[]
   .split
    .exact Nat.one_lt_two_pow #[]
    .exact Nat.two_pow_pos 1920))
  exact this.eq
 have J:Q5 (.int (-1)) (C.map (w6 a b))=S4 a b C:=by
  unfold S4;clear h2;induction C with
  |nil=>rfl
  |cons c r B=>
   simp only[Iv,Q5,D.pys,D.py,Ku,w6] at B ⊢;rw[B];congr 1
 simp only[N6,Y0,h1,h2,Js,IC,id,J]
theorem iH {b:Pt}(ha:Ps 8 a) (hb:Ps 8 b) (hC:ShC C):∀p∈C4 a b C,Ps 70 p:=fun p hp=>by
 rcases(X3 hC).mp hp with ⟨k,rfl,_⟩ | ⟨i,h,rfl⟩
 .exact hC.ps _ (o9 k (v7 hC))
 .refine(zo (k:=8) ha hb (hC.sz _ (o9 i (v7 hC))).1 (hC.sz _ (o9 (i+1) (v7 hC))).1 ?_).ps;rw[ge];intro z;have e:a8 a b (tk C (i+1))=a8 a b (tk C i):=by grind
  rw[e] at h;have:=N5 (a8 a b (tk C i));grind
def ke {b:Pt}(ha:Ps k a) (hb:Ps k b):Ps k (j4 a b).1/\Ps k (j4 a b).2:=by
 unfold j4;split
 .exact#[ha,hb]
 .exact#[hb,ha]
def Fa {b:Pt}(ha:Ps 8 a) (hb:Ps 8 b) (hC:ShC C):∀c∈K1 a b C,Ps 70 c.1/\Ps 70 c.2:=fun c B=>by
 have J:=iH ha hb hC;unfold K1 at B;split at B
 .next p q e=>
  rw[e] at J;split at B
  .rw[IA] at B;subst B;exact ke (J p (iR ..)) (J q (iU _ (iR ..)))
  .cases B
 .cases B
def kC {b:Pt}:(C4 a b C).length<=C.length:=Ij (NV ..) (by rw[Mr];exact tx _)
def BR {b:Pt}:(K1 a b C).length<=1:=by
 unfold K1;split
 .split <;> simp
 .simp
section
variable {b:Pt}(ha:Ps 8 a) (hb:Ps 8 b) (fs:vO_) (x0 x1 x2 x11 x12:Sl)
include ha hb
theorem zX (hC:ShC C) (lo hi:Pt) (x8 x9 B:Sl):G6 8 (F9 [4] (E7 (dV 7)) A5 (d8 au (a0 (dV 1) (a0 (dV 0) b9)))) (w5 x0 x1 x2 lo hi (.v (o8 a b)) L Cv (.v (i7 C)) x8 x9 B x11 x12 fs)=some (.next,w5 x0 x1 x2 lo hi (.v (o8 a b)) L Cv (.v (i7 C)) (.own (C.map (w6 a b))) x9 B x11 x12 fs):=by
 have r:=yg (caps:=[.v (o8 a b)]) (fe:=d8 au (a0 (dV 1) (a0 (dV 0) b9))) fs pt (w6 a b) C fun z J=>r8 (f7 rfl (f7 rfl rfl)) (EU (k:=8) fs ha hb (hC.sz z J).1 #[])
 exact W7 (i:=8) (s1:=w5 x0 x1 x2 lo hi (.v (o8 a b)) L Cv (.v (i7 C)) x8 x9 B x11 x12 fs) (ds:=C.map (w6 a b)) (eC (idx:=[4]) (s1:=w5 x0 x1 x2 lo hi (.v (o8 a b)) L Cv (.v (i7 C)) x8 x9 B x11 x12 fs) (ds:=C.map pt) rfl (by rw[xo];exact Ij hC.hi #[]) r) (by show 8<13;decide)
theorem zK (hC:ShC C) (lo hi:Pt) (B:Sl) (hl:Cv.length<=1000) :
  o0 (u4 (dB (a7 E6 (l7 (one o6) (a0 (dL 9) b9)) (Od 2))) (dB (a7 N6 (u6 u8 (Od 1)) (dL 8)))) (K7 6 (d8 X5 (a0 (Oe 9 0) (a0 (Oe 9 1) b9)))) p7 (w5 x0 x1 x2 lo hi (.v (o8 a b)) L Cv (.v (i7 C)) (.v (.lst (C.map (w6 a b)))) (.v (.lst ((C4 a b C).map pt))) B x11 x12 fs)
   = some (.next,w5 x0 x1 x2 lo hi (.v (o8 a b)) L (Cv++K1 a b C) (.v (i7 C)) (.v (.lst (C.map (w6 a b)))) (.v (.lst ((C4 a b C).map pt))) B x11 x12 fs):=by
 have mp:=iH ha hb hC;have iN:=Gk a b C;have Z:∀M:List Pt,M.length≠2->dB (a7 E6 (l7 (one o6) (a0 (dL 9) b9)) (Od 2)) (w5 x0 x1 x2 lo hi (.v (o8 a b)) L Cv (.v (i7 C)) (.v (.lst (C.map (w6 a b)))) (.v (.lst (M.map pt))) B x11 x12 fs)=some (false,w5 x0 x1 x2 lo hi (.v (o8 a b)) L Cv (.v (i7 C)) (.v (.lst (C.map (w6 a b)))) (.v (.lst (M.map pt))) B x11 x12 fs):=fun M h=>by
  refine J0 (c8 (aj (xs:=[.lst (M.map pt)]) rfl rfl) rfl ?_);rw[bi,Jc];rw[xo];omega
 have J:∀M:List Pt,M.length≠2->K1 a b C=[]->o0 (u4 (dB (a7 E6 (l7 (one o6) (a0 (dL 9) b9)) (Od 2))) (dB (a7 N6 (u6 u8 (Od 1)) (dL 8)))) (K7 6 (d8 X5 (a0 (Oe 9 0) (a0 (Oe 9 1) b9)))) p7 (w5 x0 x1 x2 lo hi (.v (o8 a b)) L Cv (.v (i7 C)) (.v (.lst (C.map (w6 a b)))) (.v (.lst (M.map pt))) B x11 x12 fs)
   = some (.next,w5 x0 x1 x2 lo hi (.v (o8 a b)) L (Cv++K1 a b C) (.v (i7 C)) (.v (.lst (C.map (w6 a b)))) (.v (.lst (M.map pt))) B x11 x12 fs):=fun M h e=>by
  rw[N3 (bv (Z M h)),e,JR];rfl
 have two:∀p q,C4 a b C=[p,q]->K1 a b C=if S4 a b C then [j4 p q] else []:=fun p q e=>by unfold K1;rw[e]
 have U:∀M,C4 a b C=M->M.length≠2->K1 a b C=[]:=fun M e h=>by
  unfold K1;rw[e];split
  .exact absurd rfl h
  .rfl
 generalize W:C4 a b C=M at *
 match M,W with
 |[],W=>exact J [] #[] (U _ rfl #[])
 |[p],W=>exact J [p] (by simp) (U _ rfl (by simp))
 |p::q::r::t,W=>exact J _ (by simp) (U _ rfl (by simp))
 |[p,q],W=>
  have sp:=vR (k:=70) (a:=p) (b:=q) fs (mp p (iR ..)) (mp q (iU _ (iR ..))) #[];have t1:dB (a7 E6 (l7 (one o6) (a0 (dL 9) b9)) (Od 2)) (w5 x0 x1 x2 lo hi (.v (o8 a b)) L Cv (.v (i7 C)) (.v (.lst (C.map (w6 a b)))) (.v (.lst ([p,q].map pt))) B x11 x12 fs)=some (true,w5 x0 x1 x2 lo hi (.v (o8 a b)) L Cv (.v (i7 C)) (.v (.lst (C.map (w6 a b)))) (.v (.lst ([p,q].map pt))) B x11 x12 fs):=
   J0 (c8 (aj (xs:=[.lst ([p,q].map pt)]) rfl rfl) rfl rfl)
  have Y:dB (a7 N6 (u6 u8 (Od 1)) (dL 8)) (w5 x0 x1 x2 lo hi (.v (o8 a b)) L Cv (.v (i7 C)) (.v (.lst (C.map (w6 a b)))) (.v (.lst ([p,q].map pt))) B x11 x12 fs)=some (S4 a b C,w5 x0 x1 x2 lo hi (.v (o8 a b)) L Cv (.v (i7 C)) (.v (.lst (C.map (w6 a b)))) (.v (.lst ([p,q].map pt))) B x11 x12 fs):=
   J0 (c8 (x:=.int (-1)) rfl rfl iN)
  rw[two p q rfl];cases q0:S4 a b C with
  |false=>
   rw[q0] at Y;rw[N3 (X6 t1 Y),fI (by simp),JR];rfl
  |true=>
   rw[q0] at Y;rw[P8 (X6 t1 Y),fx rfl];refine(W8 (i:=6) (ds0:=Cv.map d7) (ds:=Cv.map d7) (d:=d7 (j4 p q)) (s1:=w5 x0 x1 x2 lo hi (.v (o8 a b)) L Cv (.v (i7 C)) (.v (.lst (C.map (w6 a b)))) (.v (.lst ([p,q].map pt))) B x11 x12 fs) rfl (r8 (xs:=[pt p,pt q]) (f7 (c8 rfl rfl rfl) (f7 (c8 rfl rfl rfl) rfl)) sp) rfl (by rw[xo];exact Ja hl #[])).trans ?_;rw[show Cv.map d7++[d7 (j4 p q)]=(Cv++[j4 p q]).map d7 by rw[JN];rfl];rfl
theorem CU (hC:ShC C) (x8 x9 B:Sl) (Y:L.Nodup) (hl:L.length<=900) (hc:Cv.length<=900) :
  ∃y8 y9 y10,kA (w5 x0 x1 x2 (j4 a b).1 (j4 a b).2 (.v (o8 a b)) L Cv (.v (i7 C)) x8 x9 B x11 x12 fs)=some (.next,w5 x0 x1 x2 (j4 a b).1 (j4 a b).2 (.v (o8 a b)) (Q4 (j4 a b).1 (j4 a b).2 (C4 a b C) L) (Cv++K1 a b C) (.v (i7 C)) y8 y9 y10 x11 x12 fs):=by
 have J:=iH ha hb hC;have s2:=ke (ha.mono (show 8<=70 by decide)) (hb.mono (show 8<=70 by decide));have ml:=kC (a:=a) (b:=b) (C:=C);have c6:=hC.hi;have U:=zX ha hb fs x0 x1 x2 x11 x12 hC (L:=L) (Cv:=Cv) (j4 a b).1 (j4 a b).2 x8 x9 B;have Z:i8 (d8 bC (a0 (dV 4) (a0 (dV 7) (a0 (dV 8) b9)))) (e7 9) (w5 x0 x1 x2 (j4 a b).1 (j4 a b).2 (.v (o8 a b)) L Cv (.v (i7 C)) (.own (C.map (w6 a b))) x9 B x11 x12 fs)=some (.next,w5 x0 x1 x2 (j4 a b).1 (j4 a b).2 (.v (o8 a b)) L Cv (.v (i7 C)) (.v (.lst (C.map (w6 a b)))) (.v (.lst ((C4 a b C).map pt))) B x11 x12 fs):=
  B1 (d:=.lst ((C4 a b C).map pt)) (iX (xs:=[o8 a b,i7 C,.lst (C.map (w6 a b))]) rfl (zH ha hb hC fs)) rfl
 obtain⟨y10,e3⟩:=qU s2.1 s2.2 fs x0 x1 x2 (.v (o8 a b)) (.v (i7 C)) (.v (.lst (C.map (w6 a b)))) (.v (.lst ((C4 a b C).map pt))) x11 x12 (Cv:=Cv) (C4 a b C) L B J Y ∅;have W:=zK ha hb fs x0 x1 x2 x11 x12 hC (L:=Q4 (j4 a b).1 (j4 a b).2 (C4 a b C) L) (Cv:=Cv) (j4 a b).1 (j4 a b).2 y10 ∅;refine#[.v (.lst (C.map (w6 a b))),.v (.lst ((C4 a b C).map pt)),y10,?_];show fV V1 T4 O9 X5 E1 bC au T6 _=_;unfold fV;exact l8 U (l8 Z (l8 ((bS (ds:=(C4 a b C).map pt) rfl).trans e3) W))
def F3 (a b:Pt):List (List Pt)->List Pt->List Pt
 |[],L=>L
 |C::r,L=>F3 a b r (Q4 (j4 a b).1 (j4 a b).2 (C4 a b C) L)
def F8 (a b:Pt) (Ss:List (List Pt)):List (Pt × Pt):=Ss.flatMap (K1 a b)
theorem tZ:∀(Ss:List (List Pt)) (L:vT_) (Cv:List (Pt × Pt)) (x7 x8 x9 x10:Sl),(∀C∈Ss,ShC C)->L.Nodup->L.length+6*Ss.length<=900->Cv.length+Ss.length<=900 ->
  ∃y7 y8 y9 y10,A2 (e7 7) kA (Ss.map i7) (w5 x0 x1 x2 (j4 a b).1 (j4 a b).2 (.v (o8 a b)) L Cv x7 x8 x9 x10 x11 x12 fs)=some (.next,w5 x0 x1 x2 (j4 a b).1 (j4 a b).2 (.v (o8 a b)) (F3 a b Ss L) (Cv++F8 a b Ss) y7 y8 y9 y10 x11 x12 fs)
 |[],L,Cv,x7,x8,x9,x10,_,_,_,_=>#[x7,x8,x9,x10,by unfold F3 F8;rw[List.flatMap_nil,JR];rfl]
 |C::r,L,Cv,x7,x8,x9,x10,hS,nd,hl,hc=>by
  simp only[Iu] at hl hc;have hC:=hS C (iR ..);obtain⟨y8,y9,y10,e⟩:=CU ha hb fs x0 x1 x2 x11 x12 hC x8 x9 x10 (L:=L) (Cv:=Cv) nd ∅ ∅;have Z:=kC (a:=a) (b:=b) (C:=C);have sl:=gI (j4 a b).1 (j4 a b).2 (C4 a b C) L;have c6:=hC.hi;have cl:=BR (a:=a) (b:=b) (C:=C);obtain⟨Y,W,J,B,f⟩:=tZ r (Q4 (j4 a b).1 (j4 a b).2 (C4 a b C) L) (Cv++K1 a b C) (.v (i7 C)) y8 y9 y10 (fun z U=>hS z (iU _ U)) (ji _ _ _ _ nd) ∅ (by rw[IQ];omega);refine#[Y,W,J,B,(Q3 rfl e).trans (f.trans ?_)];rw[show F8 a b (C::r)=K1 a b C++F8 a b r by unfold F8;rw[Lb],<-LN];rfl
end
theorem vH {α:Type}{caps:List Sl}(fs:vO_) (A:α->DL.D) (g:α->Bool):∀l:List α,(∀z∈l,fc #[.v (A z)::caps,fs]=some (g z,#[.v (A z)::caps,fs]))->A3 (fun d=>some (.v d::caps)) fc (dV 0) (l.map A) fs=some ((l.filter g).map A,fs)
 |[],_=>rfl
 |z::r,h=>by
  have e:=h z (iR ..);have B:=vH fs A g r fun x J=>h x (iU _ J)
  rw[Iv,A3,td,e,td];cases q:g z with
  |true=>
   rw[fx rfl,show dV 0 #[.v (A z)::caps,fs]=some (A z,#[.v (A z)::caps,fs]) from rfl,td,B,NW q];rfl
  |false=>
   rw[fI (by simp),B,NX (by rw[q];simp)]
def xW (l:vT_):(f8 false (l.map pt)).map S6=(f8 false l).map d7:=by
 unfold f8;rw[fI (by simp),fI (by simp),<-KW,Nf,KN];rfl
def E2 (a b:Pt) (Ss:List (List Pt)):List Pt:=L1 j6 64 (F3 a b Ss [a,b])
def O8 (a b:Pt) (Ss:List (List Pt)):List (Pt × Pt):=(f8 false (E2 a b Ss)).filter fun u=>!(F8 a b Ss).any (R6 u)
def fZ (u:Pt × Pt):Pt × Pt:=(u.2,u.1)
def E9 (a b:Pt) (Ss:List (List Pt)):List (Pt × Pt):=if j6 a b then O8 a b Ss else (O8 a b Ss).map fZ
def Dw (hk:k<=2000) {l:vT_}(fs:vO_) (h:∀z∈l,Ps k z) (hl:l.length<=1000):O9 [.lst (l.map pt),.fn "is_lesser"] fs=some (.lst ((L1 j6 64 l).map pt),fs):=
 jb (en:=pt) (lt:=j6) (P:=Ps k) (m:=E1) (fun s t e=>AN e) (fun x y fs B J=>aH y x fs J B hk) 63 l fs h (Ij hl #[]) (Ja hl #[])
theorem kN {b:Pt}(ha:Ps 8 a) (hb:Ps 8 b):∀(Ss:List (List Pt)) (L:vT_),(∀C∈Ss,ShC C)->(∀p∈L,Ps 70 p)->∀p∈F3 a b Ss L,Ps 70 p
 |[],L,_,h=>h
 |C::r,L,hS,h=>kN ha hb r _ (fun z B=>hS z (iU _ B)) fun p hp=>by
  rcases(ku _ _ _ _ _).mp hp with q | q
  .exact h p q
  .exact iH ha hb (hS C (iR ..)) p q.1
theorem tN {b:Pt}:∀(Ss:List (List Pt)) (L:vT_),L.Nodup->(F3 a b Ss L).Nodup
 |[],L,h=>h
 |C::r,L,h=>tN r _ (ji _ _ _ _ h)
theorem gE {a b:Pt}:∀(Ss:List (List Pt)) (L:vT_),(∀C∈Ss,ShC C)->(F3 a b Ss L).length<=L.length+6*Ss.length
 |[],L,_=>tx _
 |C::r,L,hS=>by
  have U:=gE (a:=a) (b:=b) r (Q4 (j4 a b).1 (j4 a b).2 (C4 a b C) L) fun z B=>hS z (iU _ B)
  have W:=gI (j4 a b).1 (j4 a b).2 (C4 a b C) L;have Y:=kC (a:=a) (b:=b) (C:=C);have J:=(hS C (iR ..)).hi;simp only[Iu];unfold F3;omega
def Dj {b:Pt}(ha:Ps 8 a) (hb:Ps 8 b) (hS:∀C∈Ss,ShC C):∀c∈F8 a b Ss,Ps 70 c.1/\Ps 70 c.2:=fun c B=>by
 obtain⟨C,hC,h⟩:=Jl.mp B;exact Fa ha hb (hS C hC) c h
def qu {b:Pt}(hS:∀C∈Ss,ShC C):(E2 a b Ss).length<=2+6*Ss.length:=by
 unfold E2;rw[cC];exact gE Ss [a,b] hS
def jv {b:Pt}(ha:Ps 8 a) (hb:Ps 8 b) (hS:∀C∈Ss,ShC C):∀u∈f8 false (E2 a b Ss),Ps 70 u.1/\Ps 70 u.2:=fun u B=>by
 have h:∀p∈E2 a b Ss,Ps 70 p:=fun p hp=>kN ha hb Ss [a,b] hS (fun z J=>by
  rcases iO.mp J with rfl | J
  .exact ha.mono #[]
  .rw[IA] at J;subst J;exact hb.mono #[]) p (V7 _ hp)
 unfold f8 at B;rw[fI (by simp)] at B;exact#[h _ (JS B).1,h _ (Kt (JS B).2)]
def FI {κ:Type}[DecidableEq κ] {dec:DL.D->Option κ}{s:DS}{a b:Nat}{d d':DL.D}{k k':κ}(h1:s.sl[a]? = some (.v d)) (h2:s.sl[b]? = some (.v d')) (q1:dec d=some k) (q2:dec d'=some k') (hl:i<s.sl.length):bF dec i a b s=some (.next,{ s with sl:=s.sl.set i (.dct (J4 [k] k' [d] d')) }):=by
 unfold bF;rw[h1,h2];simp only[q1,q2,td,fx hl]
theorem qH (fs:vO_):∀l:List (Pt × Pt),A3 (P7 [] []) A5 (i9 (a0 (dV 1) (a0 (dV 0) b9))) (l.map d7) fs=some ((l.map fZ).map d7,fs)
 |[]=>rfl
 |u::r=>by
  rw[Iv,A3,show P7 [] [] (d7 u)=some [.v (pt u.1),.v (pt u.2)] from rfl,td,show A5 #[[.v (pt u.1),.v (pt u.2)],fs]=some (true,#[[.v (pt u.1),.v (pt u.2)],fs]) from rfl,td,fx rfl,show i9 (a0 (dV 1) (a0 (dV 0) b9)) #[[.v (pt u.1),.v (pt u.2)],fs]=some (d7 (fZ u),#[[.v (pt u.1),.v (pt u.2)],fs]) from fw (f7 rfl (f7 rfl rfl)) (by show 2<=sizeLine;decide),td,qH fs r];rfl
section
variable {b:Pt}(ha:Ps 8 a) (hb:Ps 8 b) (hab:a≠b) (hS:∀C∈Ss,ShC C) (hl:Ss.length<=10) (fs:vO_)
def xh:Z9 [pt a,pt b,.tup (Ss.map i7)] fs=some (.lst ((E9 a b Ss).map d7),fs):=by
 have sp:=vR (k:=8) (a:=a) (b:=b) fs ha hb #[];have st:=rO (k:=8) (a:=a) (b:=b) fs ha hb #[];obtain⟨J,W,U,B,lp⟩:=tZ ha hb fs (.v (pt a)) (.v (pt b)) (.v (.tup (Ss.map i7))) .no .no Ss [a,b] [] .no .no .no .no hS (by simp[hab]) (by simp only[Iu,JJ];omega) (by simp only[JJ];omega);rw[LO] at lp;have pl:=kN ha hb Ss [a,b] hS (fun z Z=>by
  rcases iO.mp Z with rfl | Z
  .exact ha.mono #[]
  .rw[IA] at Z;subst Z;exact hb.mono #[])
 have ll:=gE (a:=a) (b:=b) Ss [a,b] hS;simp only[Iu,JJ] at ll;have io:=Dw #[] fs pl ∅;have rl:=qu (a:=a) (b:=b) hS;have ne:=Fr ((E2 a b Ss).map pt) false fs (by rw[xo];exact Ij (show (E2 a b Ss).length+1<=100 by omega) #[]);rw[xW] at ne;have s5:(F3 a b Ss [a,b]).length<=1000:=by omega
 have pp:=jv ha hb hS;have cp:=Dj ha hb hS;have nl:(f8 false (E2 a b Ss)).length<=100:=by
  unfold f8;rw[fI (by simp),KY];omega
 have hB:O8 a b Ss=(f8 false (E2 a b Ss)).filter fun u=>!(F8 a b Ss).any (R6 u):=rfl
 have hE:E9 a b Ss=if j6 a b then O8 a b Ss else (O8 a b Ss).map fZ:=rfl
 have Y:=Fy (a:=(j4 a b).1) (b:=a) (ke ha hb).1 ha;have e0:decide ((j4 a b).1=a)=j6 a b:=by
  unfold j4;cases q:j6 a b with
  |true=>simp
  |false=>simp[xu hab]
 rw[e0] at Y;have ad:J4 [kP a] (kP b) [pt a] (pt b)=[a,b].map pt:=by
  have:=ud [a] b;rw[show M5 [a] b=[a,b] by unfold M5;rw[fI (by simp[xu hab])];rfl] at this;exact this
 have c1:∀(x:Sl) y11,iL [6] (F9 [6] (E7 (dV 11)) (v4 (o7 (d8 V1 (a0 (dV 0) (a0 (dV 1) b9))))) (dV 0)) #[[.v (pt a),.v (pt b),.v (.tup (Ss.map i7)),.v (d7 (j4 a b)),.v (o8 a b),x,.own ((F8 a b Ss).map d7),J,W,U,B,y11,.no],fs]=F9 [6] (E7 (dV 11)) (v4 (o7 (d8 V1 (a0 (dV 0) (a0 (dV 1) b9))))) (dV 0) #[[.v (pt a),.v (pt b),.v (.tup (Ss.map i7)),.v (d7 (j4 a b)),.v (o8 a b),x,.v (.lst ((F8 a b Ss).map d7)),J,W,U,B,y11,.no],fs]:=fun _ _=>rfl
 have fr:=vH (caps:=[.v (.lst ((F8 a b Ss).map d7))]) (fc:=v4 (o7 (d8 V1 (a0 (dV 0) (a0 (dV 1) b9))))) fs d7 (fun u=>!(F8 a b Ss).any (R6 u)) (f8 false (E2 a b Ss)) fun u hu=>fu (R4 (r8 (f7 rfl (f7 rfl rfl)) (yX #[] (pp u hu).1 (pp u hu).2 fs cp)))
 rw[<-hB] at fr;have bl:(O8 a b Ss).length<=100:=Ij (by rw[hB];exact NY ..) nl;have sw:=qH fs (O8 a b Ss);generalize hq:DL.D.tup (Ss.map i7)=Q at *;have fin:∃s,jI V1 T4 O9 X5 E1 bC au T6 #[[.v (pt a),.v (pt b),.v Q,.no,.no,.no,.no,.no,.no,.no,.no,.no,.no],fs]=some (.ret (.lst ((E9 a b Ss).map d7)),s)/\s.fs=fs:=by
  unfold jI;have g1:i8 (d8 X5 (a0 (dV 0) (a0 (dV 1) b9))) (e7 3) #[[.v (pt a),.v (pt b),.v Q,.no,.no,.no,.no,.no,.no,.no,.no,.no,.no],fs]=some (.next,#[[.v (pt a),.v (pt b),.v Q,.v (d7 (j4 a b)),.no,.no,.no,.no,.no,.no,.no,.no,.no],fs]):=B1 (r8 (f7 rfl (f7 rfl rfl)) sp) rfl;have g2:i8 (d8 T6 (a0 (dV 0) (a0 (dV 1) b9))) (e7 4) #[[.v (pt a),.v (pt b),.v Q,.v (d7 (j4 a b)),.no,.no,.no,.no,.no,.no,.no,.no,.no],fs]=some (.next,#[[.v (pt a),.v (pt b),.v Q,.v (d7 (j4 a b)),.v (o8 a b),.no,.no,.no,.no,.no,.no,.no,.no],fs]):=B1 (r8 (f7 rfl (f7 rfl rfl)) st) rfl;have g3:bF N9 5 0 1 #[[.v (pt a),.v (pt b),.v Q,.v (d7 (j4 a b)),.v (o8 a b),.no,.no,.no,.no,.no,.no,.no,.no],fs]=some (.next,#[[.v (pt a),.v (pt b),.v Q,.v (d7 (j4 a b)),.v (o8 a b),.dct ([a,b].map pt),.no,.no,.no,.no,.no,.no,.no],fs]):=by
   refine(FI (d:=pt a) (d':=pt b) (k:=kP a) (k':=kP b) rfl rfl rfl rfl (by show 5<13;decide)).trans ?_;rw[ad];rfl
  have g4:G6 6 (u7 b9) #[[.v (pt a),.v (pt b),.v Q,.v (d7 (j4 a b)),.v (o8 a b),.dct ([a,b].map pt),.no,.no,.no,.no,.no,.no,.no],fs]=some (.next,w5 (.v (pt a)) (.v (pt b)) (.v Q) (j4 a b).1 (j4 a b).2 (.v (o8 a b)) [a,b] [] .no .no .no .no .no .no fs):=W7 (i:=6) (s1:=#[[.v (pt a),.v (pt b),.v Q,.v (d7 (j4 a b)),.v (o8 a b),.dct ([a,b].map pt),.no,.no,.no,.no,.no,.no,.no],fs]) (ds:=[]) rfl (by show 6<13;decide);have g5:M6 (dV 2) (e7 7) kA (w5 (.v (pt a)) (.v (pt b)) (.v Q) (j4 a b).1 (j4 a b).2 (.v (o8 a b)) [a,b] [] .no .no .no .no .no .no fs)=some (.next,w5 (.v (pt a)) (.v (pt b)) (.v Q) (j4 a b).1 (j4 a b).2 (.v (o8 a b)) (F3 a b Ss [a,b]) (F8 a b Ss) J W U B .no .no fs):=by
   subst hq;exact(fE (ds:=Ss.map i7) rfl).trans lp
  have g6:i8 (d8 T4 (a0 (d8 O9 (a0 (p9 (aK 5)) (a0 (dC (.fn "is_lesser")) b9))) (a0 (dC (.bl false)) b9))) (e7 11) (w5 (.v (pt a)) (.v (pt b)) (.v Q) (j4 a b).1 (j4 a b).2 (.v (o8 a b)) (F3 a b Ss [a,b]) (F8 a b Ss) J W U B .no .no fs)=some (.next,w5 (.v (pt a)) (.v (pt b)) (.v Q) (j4 a b).1 (j4 a b).2 (.v (o8 a b)) (F3 a b Ss [a,b]) (F8 a b Ss) J W U B (.v (.lst ((f8 false (E2 a b Ss)).map d7))) .no fs):=by
   have ld:aK 5 (w5 (.v (pt a)) (.v (pt b)) (.v Q) (j4 a b).1 (j4 a b).2 (.v (o8 a b)) (F3 a b Ss [a,b]) (F8 a b Ss) J W U B .no .no fs)=some ((F3 a b Ss [a,b]).map pt,w5 (.v (pt a)) (.v (pt b)) (.v Q) (j4 a b).1 (j4 a b).2 (.v (o8 a b)) (F3 a b Ss [a,b]) (F8 a b Ss) J W U B .no .no fs):=fx (by rw[xo];exact Ij s5 #[]);exact B1 (r8 (f7 (r8 (f7 (mh ld) (f7 rfl rfl)) io) (f7 rfl rfl)) ne) rfl
  have g7:G6 12 (iL [6] (F9 [6] (E7 (dV 11)) (v4 (o7 (d8 V1 (a0 (dV 0) (a0 (dV 1) b9))))) (dV 0))) (w5 (.v (pt a)) (.v (pt b)) (.v Q) (j4 a b).1 (j4 a b).2 (.v (o8 a b)) (F3 a b Ss [a,b]) (F8 a b Ss) J W U B (.v (.lst ((f8 false (E2 a b Ss)).map d7))) .no fs)=some (.next,#[[.v (pt a),.v (pt b),.v Q,.v (d7 (j4 a b)),.v (o8 a b),.dct ((F3 a b Ss [a,b]).map pt),.v (.lst ((F8 a b Ss).map d7)),J,W,U,B,.v (.lst ((f8 false (E2 a b Ss)).map d7)),.own ((O8 a b Ss).map d7)],fs]):=
   W7 (i:=12) (ds:=(O8 a b Ss).map d7) (s1:=#[[.v (pt a),.v (pt b),.v Q,.v (d7 (j4 a b)),.v (o8 a b),.dct ((F3 a b Ss [a,b]).map pt),.v (.lst ((F8 a b Ss).map d7)),J,W,U,B,.v (.lst ((f8 false (E2 a b Ss)).map d7)),.no],fs]) (eC (idx:=[6]) (s1:=#[[.v (pt a),.v (pt b),.v Q,.v (d7 (j4 a b)),.v (o8 a b),.dct ((F3 a b Ss [a,b]).map pt),.v (.lst ((F8 a b Ss).map d7)),J,W,U,B,.v (.lst ((f8 false (E2 a b Ss)).map d7)),.no],fs]) (ds:=(f8 false (E2 a b Ss)).map d7) rfl (by rw[xo];exact Ij nl #[]) fr) (by show 12<13;decide)
  have t:∀x5 x6 x11 x12:Sl,dB (a7 E6 (Oe 3 0) (dL 0)) #[[.v (pt a),.v (pt b),.v Q,.v (d7 (j4 a b)),.v (o8 a b),x5,x6,J,W,U,B,x11,x12],fs]=some (j6 a b,#[[.v (pt a),.v (pt b),.v Q,.v (d7 (j4 a b)),.v (o8 a b),x5,x6,J,W,U,B,x11,x12],fs]):=fun _ _ _ _=>J0 (c8 (x:=pt (j4 a b).1) (c8 rfl rfl rfl) rfl Y)
  rw[hE];have bz:((O8 a b Ss).map d7).length<=sizeLine:=by rw[xo];exact Ij bl #[]
  cases q:j6 a b with
  |true=>
   rw[q] at t;exact#[_,l8 g1 (l8 g2 (l8 g3 (l8 g4 (l8 g5 (l8 g6 (l8 g7 (aQ ((P8 (t _ _ _ _)).trans (B0 rfl))))))))),rfl]
  |false=>
   rw[q] at t;exact#[_,l8 g1 (l8 g2 (l8 g3 (l8 g4 (l8 g5 (l8 g6 (l8 g7 (l8 ((N3 (t _ _ _ _)).trans rfl) (B0 (mh (dJ (idx:=[]) (ds:=(O8 a b Ss).map d7) rfl bz sw)))))))))),rfl]
 obtain⟨s,e,ef⟩:=fin;exact(u9 e).trans (by rw[ef])
end
def eM (u v:Pt × Pt):Bool:=if u.1=v.1 then (if u.2=v.2 then false else j6 u.2 v.2) else j6 u.1 v.1
def yJ (hk:k<=1920) {v:Pt × Pt}(h1:Ps k u.1) (h2:Ps k u.2) (Z:Ps k v.1) (h4:Ps k v.2) (fs:vO_):iz [d7 u,d7 v] fs=some (.bl (eM u v),fs):=by
 have l1:=aH u.1 v.1 fs h1 Z ∅;have l2:=aH u.2 v.2 fs h2 h4 ∅;have B:=uf h1 Z hk hk;have U:=uf h2 h4 hk hk;have t:∀(x y:Pt) (b:Bool),J6 (pt x) (pt y)=some (.bl b)->dB (a7 J6 (dL 2) (dL 3)) #[[.v (d7 u),.v (d7 v),.v (pt x),.v (pt y)],fs]=some (b,#[[.v (d7 u),.v (d7 v),.v (pt x),.v (pt y)],fs]):=fun x y b h=>J0 (c8 rfl rfl h)
 have z:∀s,iC (a0 (dV 0) (a0 (dV 1) b9)) (w8 2 (t6 (e7 2) (t6 (e7 3) A1))) s (#[[.v (d7 u),.v (d7 v),.no,.no],fs]:DS)=A2 (w8 2 (t6 (e7 2) (t6 (e7 3) A1))) s [.tup [pt u.1,pt v.1],.tup [pt u.2,pt v.2]] #[[.v (d7 u),.v (d7 v),.no,.no],fs]:=fun _=>rfl
 have Y:∃s,mv E1 #[[.v (d7 u),.v (d7 v),.no,.no],fs]=some (.ret (.bl (eM u v)),s)/\s.fs=fs:=by
  unfold mv eM;by_cases J:u.1=v.1
  .rw[fx J];rw[show (!decide (u.1=v.1))=false by simp[J]] at B;by_cases W:u.2=v.2
   .rw[fx W];rw[show (!decide (u.2=v.2))=false by simp[W]] at U;exact#[#[[.v (d7 u),.v (d7 v),.v (pt u.2),.v (pt v.2)],fs],l8 ((z _).trans ((Q3 (s1:=#[[.v (d7 u),.v (d7 v),.v (pt u.1),.v (pt v.1)],fs]) rfl ((N3 (t _ _ _ B)).trans rfl)).trans ((Q3 (s1:=#[[.v (d7 u),.v (d7 v),.v (pt u.2),.v (pt v.2)],fs]) rfl ((N3 (t _ _ _ U)).trans rfl)).trans rfl))) (B0 (c8 (x:=.int 2) (y:=.int 2) rfl rfl rfl)),rfl]
   .rw[fI W];rw[show (!decide (u.2=v.2))=true by simp[W]] at U;exact#[#[[.v (d7 u),.v (d7 v),.v (pt u.2),.v (pt v.2)],fs],aQ ((z _).trans ((Q3 (s1:=#[[.v (d7 u),.v (d7 v),.v (pt u.1),.v (pt v.1)],fs]) rfl ((N3 (t _ _ _ B)).trans rfl)).trans (lK (s1:=#[[.v (d7 u),.v (d7 v),.v (pt u.2),.v (pt v.2)],fs]) rfl ((P8 (t _ _ _ U)).trans (B0 (r8 (f7 rfl (f7 rfl rfl)) l2)))))),rfl]
  .rw[fI J];rw[show (!decide (u.1=v.1))=true by simp[J]] at B;exact#[#[[.v (d7 u),.v (d7 v),.v (pt u.1),.v (pt v.1)],fs],aQ ((z _).trans (lK (s1:=#[[.v (d7 u),.v (d7 v),.v (pt u.1),.v (pt v.1)],fs]) rfl ((P8 (t _ _ _ B)).trans (B0 (r8 (f7 rfl (f7 rfl rfl)) l1))))),rfl]
 obtain⟨s,e,ef⟩:=Y;exact(u9 e).trans (by rw[ef])
def kQ (u:Pt × Pt):List (List A8):=[kP u.1,kP u.2]
def vQ {v:Pt × Pt}(h:kQ u=kQ v):u=v:=by
 unfold kQ at h;simp only[Mk] at h;exact Il (jc h.1) (jc h.2.1)
def uJ (u:Pt × Pt):br (d7 u)=some (kQ u):=rfl
theorem vk:∀L:List (Pt × Pt),J2 br (L.map d7)=some (L.map kQ)
 |[]=>rfl
 |p::r=>by
  show (br (d7 p)).bind _=_;rw[uJ,td,vk r];rfl
def O7 (L:List (Pt × Pt)) (u:Pt × Pt):List (Pt × Pt):=if u∈L then L else L++[u]
def E3:List (Pt × Pt)->List (Pt × Pt)->List (Pt × Pt)
 |[],L=>L
 |u::r,L=>E3 r (O7 L u)
def Hk (L:List (Pt × Pt)) (u:Pt × Pt):J4 (L.map kQ) (kQ u) (L.map d7) (d7 u)=(O7 L u).map d7:=by
 have m:kQ u∈L.map kQ↔u∈L:=by
  rw[Ik];exact#[fun ⟨q,B,e⟩=>vQ e▸B,fun h=>#[u,h,rfl]]
 unfold J4 O7;by_cases c:u∈L
 .rw[fx c,fx (m.mpr c)]
 .rw[fI c,fI (fun z=>c (m.mp z)),JN];rfl
def vP {L:List (Pt × Pt)}(h:L.Nodup):(O7 L u).Nodup:=by
 unfold O7;by_cases c:u∈L
 .rw[fx c];exact h
 .rw[fI c];refine Mc.mpr #[h,by simp,fun x J y B=>?_];simp at B;subst B;exact fun e=>c (e▸J)
theorem lY:∀(us L:List (Pt × Pt)),L.Nodup->(E3 us L).Nodup
 |[],L,h=>h
 |u::r,L,h=>lY r _ (vP h)
theorem bV:∀(us L:List (Pt × Pt)),(E3 us L).length<=L.length+us.length
 |[],L=>tx _
 |u::r,L=>by
  have a:=bV r (O7 L u);have b:(O7 L u).length<=L.length+1:=by unfold O7;split <;> simp
  unfold E3;simp only[Iu];omega
theorem jo:∀(us L:List (Pt × Pt)) (q:Pt × Pt),q∈E3 us L↔q∈L\/q∈us
 |[],L,q=>#[.inl,fun h=>h.elim id fun h=>nomatch h]
 |u::r,L,q=>by
  have m:q∈O7 L u↔q∈L\/q=u:=by
   unfold O7;by_cases c:u∈L
   .rw[fx c];exact#[.inl,fun h=>h.elim id fun e=>e▸c]
   .rw[fI c,IJ,IA]
  unfold E3;rw[jo r,m,iO,or_assoc]
theorem kX:∀(us vs L:List (Pt × Pt)),E3 (us++vs) L=E3 vs (E3 us L)
 |[],vs,L=>rfl
 |u::r,vs,L=>kX r vs (O7 L u)
abbrev cJ:a9:=qO O9 Z9 Y3
abbrev L5 (Ss:List (List Pt)) (L:List (Pt × Pt)) (x2 x3 x4 x5:Sl) (fs:vO_):DS:=#[[.v (.tup (Ss.map i7)),.dct (L.map d7),x2,x3,x4,x5],fs]
theorem sZ (Ss:List (List Pt)) (x2 B x4:Sl) (fs:vO_):∀(us L:List (Pt × Pt)) (x5:Sl),L.Nodup->L.length+us.length<=2000->∃y5,A2 (e7 5) (kv O9 Z9 Y3) (us.map d7) (L5 Ss L x2 B x4 x5 fs)=some (.next,L5 Ss (E3 us L) x2 B x4 y5 fs)
 |[],L,x5,_,_=>#[x5,rfl]
 |u::r,L,x5,nd,hl=>by
  simp only[Iu] at hl;have b:(O7 L u).length<=L.length+1:=by unfold O7;split <;> simp
  have e:kv O9 Z9 Y3 (L5 Ss L x2 B x4 (.v (d7 u)) fs)=some (.next,L5 Ss (O7 L u) x2 B x4 (.v (d7 u)) fs):=by
   show (J2 br (L.map d7)).bind _=_;rw[vk,td,uJ,td,fx #[Nk _ (fun a b n e=>n (vQ e)) nd,by rw[xo];exact Ij (show L.length<=2000 by omega) #[]],Hk];rfl
  obtain⟨y5,f⟩:=sZ Ss x2 B x4 fs r (O7 L u) (.v (d7 u)) (vP nd) ∅;exact#[y5,(Q3 rfl e).trans f]
def N7 (Ss:List (List Pt)) (es:List (Pt × Pt)):List (Pt × Pt):=es.flatMap fun e=>E9 e.1 e.2 Ss
def D6 (Ss B:List (List Pt)):List (Pt × Pt):=B.flatMap fun A=>N7 Ss (f8 true A)
def B4 (Ss:List (List Pt)):List (Pt × Pt):=L1 eM 64 (E3 (D6 Ss Ss) [])
def kz {b:Pt}(hS:∀C∈Ss,ShC C) (h4:Ss.length<=4):(E9 a b Ss).length<=26:=by
 have B:=qu (a:=a) (b:=b) hS;have fl:(O8 a b Ss).length<=26:=by
  refine Ij (NY ..) ?_;unfold f8;rw[fI (by simp),KY];omega
 unfold E9;split
 .exact fl
 .rw[xo];exact fl
def hJ {A:vT_}(hA:ShC A):∀e∈f8 true A,Ps 8 e.1/\Ps 8 e.2/\e.1≠e.2:=fun e B=>by
 obtain⟨i,_,rfl⟩:=eB B;exact#[(hA.sz _ (o9 i (v7 hA))).1,(hA.sz _ (o9 (i+1) (v7 hA))).1,xu (hA.ne i)]
def dt (A:vT_):(f8 true A).length<=A.length:=by
 unfold f8;rw[fx rfl,KY];exact KC ..
def Bc (A:vT_):(f8 true (A.map pt)).map S6=(f8 true A).map d7:=vy A
section
variable (hS:∀C∈Ss,ShC C) (h4:Ss.length<=4) (fs:vO_)
include hS h4
theorem qM (x2:Sl):∀(es L:List (Pt × Pt)) (x3 x4 x5:Sl),(∀e∈es,Ps 8 e.1/\Ps 8 e.2/\e.1≠e.2)->L.Nodup->L.length+26*es.length<=2000 ->
  ∃y3 y4 y5,A2 (w8 2 (t6 (e7 3) (t6 (e7 4) A1))) (lw O9 Z9 Y3) (es.map d7) (L5 Ss L x2 x3 x4 x5 fs)=some (.next,L5 Ss (E3 (N7 Ss es) L) x2 y3 y4 y5 fs)
 |[],L,x3,x4,x5,_,_,_=>#[x3,x4,x5,rfl]
 |e::r,L,x3,x4,x5,h,nd,hl=>by
  simp only[Iu] at hl;obtain⟨Y,B,q3⟩:=h e (iR ..);have bl:=kz (a:=e.1) (b:=e.2) hS h4;obtain⟨y5,f⟩:=sZ Ss x2 (.v (pt e.1)) (.v (pt e.2)) fs (E9 e.1 e.2 Ss) L x5 nd ∅;have p:=xh Y B q3 hS ∅ fs;have t:lw O9 Z9 Y3 (L5 Ss L x2 (.v (pt e.1)) (.v (pt e.2)) x5 fs)=some (.next,L5 Ss (E3 (E9 e.1 e.2 Ss) L) x2 (.v (pt e.1)) (.v (pt e.2)) y5 fs):=(bS (ds:=(E9 e.1 e.2 Ss).map d7) (s1:=L5 Ss L x2 (.v (pt e.1)) (.v (pt e.2)) x5 fs) (r8 (f7 rfl (f7 rfl (f7 rfl rfl))) p)).trans f;have al:=bV (E9 e.1 e.2 Ss) L;obtain⟨Z,J,U,g⟩:=qM x2 r (E3 (E9 e.1 e.2 Ss) L) (.v (pt e.1)) (.v (pt e.2)) y5 (fun z W=>h z (iU _ W)) (lY _ _ nd) ∅;refine#[Z,J,U,(Q3 rfl t).trans (g.trans ?_)];rw[show N7 Ss (e::r)=E9 e.1 e.2 Ss++N7 Ss r by unfold N7;rw[Lb],kX]
theorem qP:∀(Rs:List (List Pt)) (L:List (Pt × Pt)) (x2 x3 x4 x5:Sl),(∀A∈Rs,ShC A)->L.Nodup->L.length+156*Rs.length<=2000 ->
  ∃y2 y3 y4 y5,A2 (e7 2) (jN O9 Z9 Y3) (Rs.map i7) (L5 Ss L x2 x3 x4 x5 fs)=some (.next,L5 Ss (E3 (D6 Ss Rs) L) y2 y3 y4 y5 fs)
 |[],L,x2,x3,x4,x5,_,_,_=>#[x2,x3,x4,x5,rfl]
 |A::r,L,x2,x3,x4,x5,h,nd,hl=>by
  simp only[Iu] at hl;have hA:=h A (iR ..);have a6:=hA.hi;have nl:=dt A;have B:=Bt (A.map pt) fs (by rw[xo];exact Ij (show A.length+1<=7 by omega) #[]);rw[Bc] at B;obtain⟨y3,y4,y5,f⟩:=qM hS h4 fs (.v (i7 A)) (f8 true A) L x3 x4 x5 (hJ hA) nd ∅;have t:jN O9 Z9 Y3 (L5 Ss L (.v (i7 A)) x3 x4 x5 fs)=some (.next,L5 Ss (E3 (N7 Ss (f8 true A)) L) (.v (i7 A)) y3 y4 y5 fs):=(bS (ds:=(f8 true A).map d7) (s1:=L5 Ss L (.v (i7 A)) x3 x4 x5 fs) (r8 (f7 rfl rfl) B)).trans f;have al:=bV (N7 Ss (f8 true A)) L;have el:(N7 Ss (f8 true A)).length<=26*(f8 true A).length:=by
   unfold N7;generalize f8 true A=es;induction es with
   |nil=>exact tx _
   |cons e r ih=>
    rw[Lb,IQ,Iu];have:=kz (a:=e.1) (b:=e.2) hS h4;omega
  obtain⟨U,Z,W,J,g⟩:=qP r (E3 (N7 Ss (f8 true A)) L) (.v (i7 A)) y3 y4 y5 (fun z Y=>h z (iU _ Y)) (lY _ _ nd) ∅;refine#[U,Z,W,J,(Q3 rfl t).trans (g.trans ?_)];rw[show D6 Ss (A::r)=N7 Ss (f8 true A)++D6 Ss r by unfold D6;rw[Lb],kX]
theorem FY {b:Pt}(ha:Ps 8 a) (hb:Ps 8 b):∀u∈E9 a b Ss,Ps 70 u.1/\Ps 70 u.2:=fun u B=>by
 have p:=jv ha hb hS;unfold E9 at B;split at B
 .exact p u (Jq.mp B).1
 .obtain⟨w,J,rfl⟩:=Ik.mp B;exact#[(p w (Jq.mp J).1).2,(p w (Jq.mp J).1).1]
theorem rP:∀u∈D6 Ss Ss,Ps 70 u.1/\Ps 70 u.2:=fun u B=>by
 obtain⟨A,hA,h⟩:=Jl.mp B;obtain⟨e,U,h⟩:=Jl.mp h;obtain⟨J,W,_⟩:=hJ (hS A hA) e U;exact FY hS h4 J W u h
theorem lh:(D6 Ss Ss).length<=624:=by
 have:∀B:List (List Pt),(∀A∈B,ShC A)->(D6 Ss B).length<=156*B.length:=fun B=>by
  induction B with
  |nil=>intro _;exact tx _
  |cons A r J=>
   intro h;have Y:=dt A;have W:=(h A (iR ..)).hi;have Z:(N7 Ss (f8 true A)).length<=26*(f8 true A).length:=by
    unfold N7;generalize f8 true A=es;induction es with
    |nil=>exact tx _
    |cons e r J=>
     rw[Lb,IQ,Iu];have:=kz (a:=e.1) (b:=e.2) hS h4;omega
   have:=J fun z U=>h z (iU _ U)
   rw[show D6 Ss (A::r)=N7 Ss (f8 true A)++D6 Ss r by unfold D6;rw[Lb],IQ,Iu];omega
 have:=this Ss hS;omega
theorem Hf:cJ [.tup (Ss.map i7)] fs=some (.lst ((B4 Ss).map d7),fs):=by
 obtain⟨Y,B,U,W,e⟩:=qP hS h4 fs Ss [] .no .no .no .no hS LS (by simp only[JJ];omega);have al:=bV (D6 Ss Ss) [];have bl:=lh hS h4;simp only[JJ] at al;have J:(E3 (D6 Ss Ss) []).length<=1000:=by omega
 have ps:∀u∈E3 (D6 Ss Ss) [],Ps 70 u.1/\Ps 70 u.2:=fun u hu=>by
  rcases(jo _ _ _).mp hu with q | q
  .cases q
  .exact rP hS h4 u q
 have io:=jb (en:=d7) (lt:=eM) (P:=fun u=>Ps 70 u.1/\Ps 70 u.2) (m:=iz) (mL:=E1) (mR:=iz) (nm := "row_goes_ahead") (fun s t e=>by unfold W4;rw[e];rfl) (fun x y fs hx Z=>yJ #[] Z.1 Z.2 hx.1 hx.2 fs) 63 (E3 (D6 Ss Ss) []) fs ps (Ij J #[]) (Ja J #[]);refine u9 (s:=L5 Ss (E3 (D6 Ss Ss) []) Y B U W fs) ?_;show jJ O9 Z9 Y3 #[[.v (.tup (Ss.map i7)),.no,.no,.no,.no,.no],fs]=_;unfold jJ;refine l8 (s1:=L5 Ss [] .no .no .no .no fs) rfl ?_;refine l8 ((fE (ds:=Ss.map i7) rfl).trans e) ?_;have ld:aK 1 (L5 Ss (E3 (D6 Ss Ss) []) Y B U W fs)=some ((E3 (D6 Ss Ss) []).map d7,L5 Ss (E3 (D6 Ss Ss) []) Y B U W fs):=fx (by rw[xo];exact Ij J #[]);exact B0 (r8 (f7 (mh ld) (f7 rfl rfl)) io)
end
def kB (a b:Pt):PyData.eqv (pt a).py (pt b).py=decide (a=b):=by
 unfold pt;simp only[D.py,D.pys,PyData.eqv,PyData.eqvAll,Lw,Mo];rw[JG];simp only[Iq,Jb];constructor
 .rintro⟨h1,h2,B⟩;exact gL h1 h2 B
 .rintro rfl;exact#[rfl,rfl,rfl]
variable {c:Bool}{ps:vT_}{m:Nat}{S:Nat->Rat}{Q:Nat->Pt × Pt}{T:List Rat}
end T
namespace T
open PySem L2 DL
variable {c:Bool}{ps:vT_}{m:Nat}{S:Nat->Rat}{Q:Nat->Pt × Pt}{T:List Rat}
end T
namespace T
open PySem L2 DL
section
variable {α:Type}{lt:α->α->Bool}
def cW (lt:α->α->Bool) (F:List α) (x:α):List α:=F.take (F.filter (lt · x)).length++x::F.drop (F.filter (lt · x)).length
theorem vw (O:Ord lt) (x:α):∀{F:List α},N0 lt F->F.filter (fun y=>lt y x)=F.takeWhile (fun y=>lt y x)
 |[],_=>rfl
 |a::r,h=>by
  obtain⟨h1,h2⟩:=Jn.mp h;cases q:lt a x with
  |true=>rw[NW (p:=fun y=>lt y x) q,NZ (p:=fun y=>lt y x) q,vw O x h2]
  |false=>
   have B:¬ (fun y=>lt y x) a=true:=by show ¬ lt a x=true;rw[q];simp
   rw[NX (p:=fun y=>lt y x) B,Oa (p:=fun y=>lt y x) B];refine List.filter_eq_nil_iff.mpr fun y J e=>?_
   have:=O.tr _ _ _ (h1 y J) e;rw[q] at this;cases this
def Af (O:Ord lt) {F:List α}(h:N0 lt F) (x:α):cW lt F x=F.takeWhile (fun y=>lt y x)++x::F.dropWhile (fun y=>lt y x):=by
 have k:∀A B:List α,A++B=F->F.take A.length=A/\F.drop A.length=B:=by rintro A B rfl;simp
 obtain⟨J,U⟩:=k _ _ (KU (p:=fun y=>lt y x) (l:=F));unfold cW;rw[vw O x h,J,U]
def CY (lt:α->α->Bool) (F:List α) (x y:α):y∈cW lt F x↔y∈F\/y=x:=by
 unfold cW;generalize (F.filter (lt · x)).length=k;rw[IJ,iO];have e:=LB k F;constructor
 .rintro(h | h | h)
  .exact .inl (LA h)
  .exact .inr h
  .exact .inl (Kt h)
 .rintro(h | h)
  .rw[<-e] at h;rcases IJ.mp h with q | q
   .exact .inl q
   .exact .inr (.inr q)
  .exact .inr (.inl h)
def zj (O:Ord lt) {F:List α}(h:N0 lt F) {x:α}(n:x ∉ F):N0 lt (cW lt F x):=by
 rw[Af O h];induction F with
 |nil=>exact Jn.mpr #[fun _ h=>(nomatch h),List.Pairwise.nil]
 |cons a r W=>
  obtain⟨h1,h2⟩:=Jn.mp h;have Y:x ∉ r:=fun z=>n (iU _ z)
  cases q:lt a x with
  |true=>
   rw[NZ (p:=fun y=>lt y x) q,List.dropWhile_cons_of_pos (p:=fun y=>lt y x) q];refine Jn.mpr #[fun z B=>?_,W h2 Y];rcases IJ.mp B with w | w
   .exact h1 z ((List.takeWhile_sublist _).subset w)
   .rcases iO.mp w with rfl | w
    .exact q
    .exact h1 z ((List.dropWhile_sublist _).subset w)
  |false=>
   have U:¬ (fun y=>lt y x) a=true:=by show ¬ lt a x=true;rw[q];simp
   rw[Oa (p:=fun y=>lt y x) U,List.dropWhile_cons_of_neg (p:=fun y=>lt y x) U];have J:lt x a=true:=O.tot _ _ q fun e=>n (by rw[e];exact iR ..)
   refine Jn.mpr #[fun z B=>?_,h];rcases iO.mp B with rfl | B
   .exact J
   .exact O.tr _ _ _ J (h1 z B)
end
def Eu (a b c d:DL.D):PyData.eqv (DL.D.tup [a,b]).py (DL.D.tup [c,d]).py=(PyData.eqv a.py c.py&&PyData.eqv b.py d.py):=by
 simp only[D.py,D.pys,PyData.eqv,PyData.eqvAll,Mo]
def zA (u v:Pt × Pt):PyData.eqv (d7 u).py (d7 v).py=decide (u=v):=by
 rw[Eu,kB,kB,JG];simp only[Iq,Jb];exact#[fun h=>Il h.1 h.2,fun h=>#[congrArg Prod.fst h,congrArg Prod.snd h]]
def cX:List Pt->List Pt->List Pt
 |[],F=>F
 |p::r,F=>cX r (if p∈F then F else cW j6 F p)
theorem eT:∀(ms F:vT_),N0 j6 F->N0 j6 (cX ms F)
 |[],F,h=>h
 |p::r,F,h=>by
  unfold cX;by_cases c:p∈F
  .rw[fx c];exact eT r F h
  .rw[fI c];exact eT r _ (zj lsB_ord h c)
theorem fB:∀(ms F:vT_) (q:Pt),q∈cX ms F↔q∈F\/q∈ms
 |[],F,q=>#[.inl,fun h=>h.elim id fun h=>nomatch h]
 |p::r,F,q=>by
  unfold cX;rw[fB r];by_cases c:p∈F
  .rw[fx c,iO];exact#[fun h=>h.elim .inl fun h=>.inr (.inr h),fun h=>h.elim .inl fun h=>h.elim (fun e=>.inl (e▸c)) .inr]
  .rw[fI c,CY,iO,or_assoc]
def eR (a b c d:Pt):List Pt:=if a8 a b c=0/\a8 a b d=0 then [c,d].filter (B3 a b) else if 0<a8 a b c*a8 a b d then [] else if B3 a b (xq a b c d) then [xq a b c d] else []
def wg {b c d:Pt}(h:a8 a b c=0):xq a b c d=c:=by
 unfold xq;rw[h,Ji,Ke];exact M3 c d
theorem Ai {b c d:Pt}(h:a8 a b d=0) (B:a8 a b c≠0):xq a b c d=d:=by
 unfold xq;rw[h,show a8 a b c - 0=a8 a b c by grind,Ji,Mp _ B];exact Q0 c d
theorem du {b:Pt}(hC:ShC C) (p:Pt):p∈((f8 true C).flatMap fun e=>eR a b e.1 e.2)↔C5 a b C p/\B3 a b p=true:=by
 have l:=v7 hC;have W:∀i,a8 a b (tk C i)*a8 a b (tk C (i+1))<0->J7 a b (tk C i) (tk C (i+1))=xq a b (tk C i) (tk C (i+1)):=fun i h=>(HI h).2
 rw[Jl];constructor
 .rintro⟨e,Y,h⟩;obtain⟨i,_,rfl⟩:=eB Y;unfold eR at h;split at h
  .next q=>
   obtain⟨h,o⟩:=Jq.mp h;rcases iO.mp h with rfl | h
   .exact#[.inl #[i,rfl,q.1],o]
   .rw[IA] at h;subst h;exact#[.inl #[i+1,rfl,q.2],o]
  .next q=>
   split at h
   .cases h
   .next n=>
    split at h
    .next o=>
     rw[IA] at h;subst h;refine#[?_,o];show C5 a b C (xq a b (tk C i) (tk C (i+1)));have n:¬ 0<a8 a b (tk C i)*a8 a b (tk C (i+1)):=n;have q:¬ (a8 a b (tk C i)=0/\a8 a b (tk C (i+1))=0):=q;by_cases B:a8 a b (tk C i)=0
     .rw[wg B];exact .inl #[i,rfl,B]
     by_cases J:a8 a b (tk C (i+1))=0
     .rw[Ai J B];exact .inl #[i+1,rfl,J]
     have lt:a8 a b (tk C i)*a8 a b (tk C (i+1))<0:=by
      have:a8 a b (tk C i)*a8 a b (tk C (i+1))≠0:=fun z=>by
       rcases IB.mp z with y | y
       .exact B y
       .exact J y
      grind
     exact .inr #[i,lt,(W i lt).symm]
    .cases h
 .have U:∀i,(tk C i,tk C (i+1))∈f8 true C:=fun i=>by
   have h:=bh (A:=C) (IV i l);have e:tk C (i % C.length+1)=tk C (i+1):=by unfold tk;rw[Kv]
   rw[K0,e] at h;exact Ju h
  rintro⟨⟨k,rfl,B⟩ | ⟨i,lt,rfl⟩,o⟩
  .refine#[_,U k,?_];unfold eR;show tk C k∈if a8 a b (tk C k)=0/\a8 a b (tk C (k+1))=0 then [tk C k,tk C (k+1)].filter (B3 a b) else if 0<a8 a b (tk C k)*a8 a b (tk C (k+1)) then [] else if B3 a b (xq a b (tk C k) (tk C (k+1))) then [xq a b (tk C k) (tk C (k+1))] else []
   by_cases J:a8 a b (tk C (k+1))=0
   .rw[fx #[B,J]];exact Jq.mpr #[iR ..,o]
   .rw[fI (fun z=>J z.2),fI (by rw[B];grind),wg B,fx o];exact IA.mpr rfl
  .refine#[_,U i,?_];rw[W i lt] at o ⊢;unfold eR;show xq a b (tk C i) (tk C (i+1))∈if a8 a b (tk C i)=0/\a8 a b (tk C (i+1))=0 then [tk C i,tk C (i+1)].filter (B3 a b) else if 0<a8 a b (tk C i)*a8 a b (tk C (i+1)) then [] else if B3 a b (xq a b (tk C i) (tk C (i+1))) then [xq a b (tk C i) (tk C (i+1))] else []
   rw[fI (fun z=>by rw[z.1] at lt;grind),fI (by grind),fx o];exact IA.mpr rfl
def D4 (u v:Pt):Pt:=c7 u v (1 / 2)
theorem fJ {u v:Pt}(B:Ps k u) (J:Ps k v) (hk:k<=100) (fs:vO_):af [pt u,pt v] fs=some (pt (D4 u v),fs)/\Ps (2*k+2) (D4 u v):=by
 have la:=V2 u;have lb:=V2 v;have lu:=E5 u;have lv:=E5 v;have W:Bd 2 2:=Bd.lit #[];have m1:=D8 (B.x.bits ∅) (J.l.bits ∅);have m2:=D8 (J.x.bits ∅) (B.l.bits ∅);have m3:=D8 (B.y.bits ∅) (J.l.bits ∅);have m4:=D8 (J.y.bits ∅) (B.l.bits ∅);have m5:=D8 (W.bits #[]) (B.l.bits ∅);have b3:=W.mul B.l;have m6:=D8 (b3.bits ∅) (J.l.bits ∅);have bX:Bd (2*k+2) (pX u*pL v+pX v*pL u):=((B.x.mul J.l).add (J.x.mul B.l)).mono ∅;have bY:Bd (2*k+2) (pY u*pL v+pY v*pL u):=((B.y.mul J.l).add (J.y.mul B.l)).mono ∅;have Z:Bd (2*k+2) (2*pL u*pL v):=(b3.mul J.l).mono ∅;have dp:0<2*pL u*pL v:=Lc ∅ ∅;have wp:=jO (pX u*pL v+pX v*pL u) (pY u*pL v+pY v*pL u) (2*pL u*pL v) fs ∅ Z ∅;have c2:((2:Int):Rat)=2:=rfl;have h2:(1 / 2:Rat)+1 / 2=1:=by grind
 have x1:Rat.divInt (pX u*pL v+pX v*pL u) (2*pL u*pL v)=(D4 u v).1:=by
  refine iB ∅ ?_;rw[JO,Ih,Ih,Ih,Ih,K5,K5,c2];show (u.1+1 / 2*(v.1 - u.1))*_=_;generalize (pL u:Rat)=U at *;generalize (pL v:Rat)=V at *;grind
 have x2:Rat.divInt (pY u*pL v+pY v*pL u) (2*pL u*pL v)=(D4 u v).2:=by
  refine iB ∅ ?_;rw[JO,Ih,Ih,Ih,Ih,K4,K4,c2];show (u.2+1 / 2*(v.2 - u.2))*_=_;generalize (pL u:Rat)=U at *;generalize (pL v:Rat)=V at *;grind
 have pe:(Rat.divInt (pX u*pL v+pX v*pL u) (2*pL u*pL v),Rat.divInt (pY u*pL v+pY v*pL u) (2*pL u*pL v))=D4 u v:=Il x1 x2;obtain⟨l1,l2,Y⟩:=Gx (pX u*pL v+pX v*pL u) (pY u*pL v+pY v*pL u) (d:=2*pL u*pL v) ∅;rw[pe] at wp l1 l2 Y;refine#[?_,#[Ja l1 bX,Ja l2 bY,Ja Y Z]];unfold pt at *;refine u9 (s:=#[[.v (.tup [.int (pX u),.int (pY u),.int (pL u)]),.v (.tup [.int (pX v),.int (pY v),.int (pL v)]),.v (.int (pX u*pL v+pX v*pL u))],fs]) ?_;show ja ai #[[.v (.tup [.int (pX u),.int (pY u),.int (pL u)]),.v (.tup [.int (pX v),.int (pY v),.int (pL v)]),.no],fs]=_;unfold ja;refine l8 (s1:=#[[.v (.tup [.int (pX u),.int (pY u),.int (pL u)]),.v (.tup [.int (pX v),.int (pY v),.int (pL v)]),.v (.int (pX u*pL v+pX v*pL u))],fs]) (B1 (c8 (c8 (c8 rfl rfl rfl) (c8 rfl rfl rfl) m1) (c8 (c8 rfl rfl rfl) (c8 rfl rfl rfl) m2) rfl) rfl) ?_;exact B0 (r8 (f7 rfl (f7 (c8 (c8 (c8 rfl rfl rfl) (c8 rfl rfl rfl) m3) (c8 (c8 rfl rfl rfl) (c8 rfl rfl rfl) m4) rfl) (f7 (c8 (c8 rfl (c8 rfl rfl rfl) m5) (c8 rfl rfl rfl) m6) rfl))) wp)
def aO (a b:Pt):Int:=pX b*pL a - pX a*pL b
def bA (a b:Pt):Int:=pY b*pL a - pY a*pL b
def P6:Int:=10 ^ 60
def bZ (a b p:Pt) (s:Int):Int:=pX p*P6 - s*bA a b*pL p
def cf (a b p:Pt) (s:Int):Int:=pY p*P6+s*aO a b*pL p
def cH (p:Pt):Int:=pL p*P6
def P1 (a b p:Pt) (s:Int):DL.D:=.tup [.int (bZ a b p s),.int (cf a b p s),.int (cH p)]
def far_bd:Bd 200 P6:=by show (10 ^ 60:Int).natAbs<2 ^ 200;decide +kernel
section
variable {b:Pt}(ha:Ps 8 a) (hb:Ps 8 b) (hp:Ps 142 p) {s:Int}(hs:Bd 2 s)
include ha hb
theorem GN:Bd 17 (aO a b)/\Bd 17 (bA a b):=#[((hb.x.mul ha.l).sub (ha.x.mul hb.l)).mono #[],((hb.y.mul ha.l).sub (ha.y.mul hb.l)).mono #[]]
include hp hs
end
def J3 (a b c d:Pt):Int:=aO a b*(pL c*pX d - pX c*pL d)+bA a b*(pL c*pY d - pY c*pL d)
def D1 (a b p:Pt) (s:Int) (e:Pt × Pt):Int:=pX e.1*(pY e.2*cH p - pL e.2*cf a b p s) - pY e.1*(pX e.2*cH p - pL e.2*bZ a b p s)+pL e.1*(pX e.2*cf a b p s - pY e.2*bZ a b p s)
theorem ss (a b p:Pt) (s:Int) (e:Pt × Pt):D1 a b p s e=P6*V9 e.1 e.2 p+s*(pL p*J3 a b e.1 e.2):=by
 unfold D1 bZ cf cH J3 V9;generalize P6=F;grind
theorem pJ (a b c d:Pt):((J3 a b c d:Int):Rat)=A0 (d6 c d) (d6 a b)*((pL a:Rat)*pL b*pL c*pL d):=by
 unfold J3 aO bA A0 d6;simp only[JO,JL,Ih,K5,K4];grind
section
variable {b:Pt}(ha:Ps 8 a) (hb:Ps 8 b) (hp:Ps 142 p)
include ha hb hp
theorem AB {c d:Pt}(J:Ps 8 c) (B:Ps 8 d):(pL p*J3 a b c d).natAbs<2 ^ 180:=by
 obtain⟨W,Y⟩:=GN ha hb;have U:Bd 17 (pL c*pX d - pX c*pL d):=((J.l.mul B.x).sub (J.x.mul B.l)).mono #[];have Z:Bd 17 (pL c*pY d - pY c*pL d):=((J.l.mul B.y).sub (J.y.mul B.l)).mono #[];have:Bd 180 (pL p*J3 a b c d):=(hp.l.mul ((W.mul U).add (Y.mul Z))).mono #[];exact this
theorem oJ {c d:Pt}(hc:Ps 8 c) (U:Ps 8 d):0<=D1 a b p (-1) (c,d)↔0<a8 c d p\/(a8 c d p=0/\A0 (d6 c d) (d6 a b)<=0):=by
 have e:=ss a b p (-1) (c,d);have hk:=AB ha hb hp hc U;have J:=fK (jF c d p);have Y:=pJ a b c d;have Z:=E5 a;have W:=E5 b;have lc:=E5 c;have ld:=E5 d;have lp:=V2 p;have fb:(2 ^ 180:Int)<P6:=by decide +kernel
 have B:0<(pL a:Rat)*pL b*pL c*pL d:=W0 (W0 (W0 Z W) lc) ld;have e:D1 a b p (-1) (c,d)=P6*V9 c d p - pL p*J3 a b c d:=by rw[e];grind
 have kn:J3 a b c d<=0↔A0 (d6 c d) (d6 a b)<=0:=by
  rw[show J3 a b c d<=0↔((J3 a b c d:Int):Rat)<=0 from (by exact_mod_cast Iff.rfl),Y];constructor
  .intro h;refine Im.mp fun z=>?_
   have:=xr z B;grind
  .intro h;have:=Ie (show 0 <= -A0 (d6 c d) (d6 a b) by grind) (II B);grind
 rw[e,<-J.2.2,<-J.2.1,<-kn];generalize V9 c d p=D at *;generalize J3 a b c d=K at *;generalize hF:P6=F at *;have h1:-(2 ^ 180:Int)<pL p*K/\pL p*K<2 ^ 180:=by
  have:((2 ^ 180:Nat):Int)=2 ^ 180:=by decide
  omega
 rcases(show D<0\/D=0\/0<D by omega) with q | q | q
 .have:F*D <= -F:=by
   have:=KS (show D <= -1 by omega) (show 0<=F by omega);rw[Mv,Ld] at this;exact this
  constructor
  .intro h;omega
  .rintro(h | h) <;> omega
 .rw[q,Nl];constructor
  .intro h;refine .inr #[rfl,Int.not_lt.mp fun z=>?_];have:=Lc (show 0<pL p by omega) z;omega
  .rintro(h | h)
   .omega
   .have:=MZ (show 0<=pL p by omega) (show 0 <= -K by omega);rw[Mv] at this;omega
 .have:F<=F*D:=by
   have:=KS (show 1<=D by omega) (show 0<=F by omega);rw[Ld] at this;exact this
  constructor
  .intro _;exact .inl q
  .intro _;omega
def bE (a b p:Pt) (C:vT_):Bool:=decide (0<=N2 ((f8 true C).map (D1 a b p (-1))))
theorem iY (hC:ShC C):bE a b p C=true↔M0 a b C p:=by
 have l:=v7 hC;have Y:=lm hC.lo;have J:(0<=N2 ((f8 true C).map (D1 a b p (-1))))↔∀e∈f8 true C,0<=D1 a b p (-1) e:=by
  have hm:=vY (is:=(f8 true C).map (D1 a b p (-1))) (by rw[xo];exact Y);constructor
  .intro h e B;have:N2 ((f8 true C).map (D1 a b p (-1)))<=D1 a b p (-1) e:=by
    have U:D1 a b p (-1) e∈(f8 true C).map (D1 a b p (-1)):=Ik.mpr #[e,B,rfl];generalize (f8 true C).map (D1 a b p (-1))=is at *;cases is with
    |nil=>cases U
    |cons i r=>
     show r.foldl min i<=_;have q:=(eE r i).2;rcases iO.mp U with z | z
     .rw[z];exact q.1
     .exact q.2 _ z
   omega
  .intro h;obtain⟨e,B,q⟩:=Ik.mp hm;rw[<-q];exact h e B
 unfold bE;rw[Jb,J];have ps:∀i,Ps 8 (tk C i):=fun i=>(hC.sz _ (o9 i l)).1
 constructor
 .intro h i;have W:(tk C i,tk C (i+1))∈f8 true C:=by
   have h:=bh (A:=C) (IV i l);have e:tk C (i % C.length+1)=tk C (i+1):=by unfold tk;rw[Kv]
   rw[K0,e] at h;exact Ju h
  exact(oJ ha hb hp (ps i) (ps (i+1))).mp (h _ W)
 .intro h e B;obtain⟨i,_,rfl⟩:=eB B;exact(oJ ha hb hp (ps i) (ps (i+1))).mpr (h i)
end
def xO (a b:Pt) (es:List (Pt × Pt)):List Pt:=es.flatMap fun e=>eR a b e.1 e.2
def wL (a b:Pt) (B:List (List Pt)):List Pt:=B.flatMap fun C=>xO a b (f8 true C)
def gc (h1:Ps 70 u.1) (h2:Ps 70 u.2):Ok 2 8 (d7 u):=(Ok.tup (OkL.cons (Ok.pt h1 #[]) (OkL.cons (Ok.pt h2 #[]) OkL.nil))).mono #[] #[]
def W9 (a b:Pt) (B:List (List Pt)):List Pt:=cX ([a,b]++wL a b B) []
def V6 (a b:Pt) (B:List (List Pt)):List Pt:=if j6 a b then W9 a b B else (W9 a b B).reverse
def C9 (Ss:List (List Pt)) (k:Nat):List (List Pt):=Ss.take k++Ss.drop (k+1)
def d9 (Ss:List (List Pt)) (k:Nat):List Pt:=Ss[k]?.getD []
def cO (h:k<Ss.length):Ss[k]? = some (d9 Ss k):=by
 unfold d9;rw[Jg h];rfl
def M2 (h:k<Ss.length):d9 Ss k∈Ss:=Ju (cO h)
def U7 :∀C∈C9 Ss k,C∈Ss:=fun C h=>by
 rcases IJ.mp h with q | q
 .exact LA q
 .exact Kt q
theorem gJ {b:Pt}(hab:a≠b) (s t:Rat):j6 (c7 a b s) (c7 a b t)=true↔(if j6 a b then s<t else t<s):=by
 have J:¬ (b.1 - a.1=0/\b.2 - a.2=0):=fun h=>hab (Il (by grind) (by grind))
 have U:(c7 a b t).1 - (c7 a b s).1=(t - s)*(b.1 - a.1):=by unfold c7;grind
 have Y:(c7 a b t).2 - (c7 a b s).2=(t - s)*(b.2 - a.2):=by unfold c7;grind
 rw[S9,U,Y];rcases oK _ _ J with h | h
 .rw[fx ((S9 a b).mpr h),jn h];constructor <;> intro z <;> grind
 .have B:¬ j6 a b=true:=fun z=>mH _ _ ((S9 a b).mp z) h
  rw[fI B];have W:(t - s)*(b.1 - a.1)=(s - t) * -(b.1 - a.1):=by grind
  have Z:(t - s)*(b.2 - a.2)=(s - t) * -(b.2 - a.2):=by grind
  rw[W,Z,jn h];constructor <;> intro z <;> grind
theorem uM:∀{R:vT_},N0 j6 R->∀{w:Pt × Pt},w∈f8 false R->j6 w.1 w.2=true/\w.1∈R/\w.2∈R/\∀p∈R,¬ (j6 w.1 p=true/\j6 p w.2=true)
 |[],_,w,h=>by cases h
 |[a],_,w,h=>by cases h
 |a::b::r,hs,w,h=>by
  have O:=lsB_ord;obtain⟨h1,h2⟩:=Jn.mp hs;have U:f8 false (a::b::r)=(a,b)::f8 false (b::r):=rfl;rw[U] at h;rcases iO.mp h with rfl | h
  .refine#[h1 b (iR ..),iR ..,iU _ (iR ..),fun p hp ⟨B,J⟩=>?_];rcases iO.mp hp with rfl | hp
   .rw[O.irr] at B;cases B
   .rcases iO.mp hp with rfl | hp
    .rw[O.irr] at J;cases J
    .have:=O.tr _ _ _ J ((Jn.mp h2).1 p hp);rw[O.irr] at this;cases this
  .obtain⟨i1,i2,W,Y⟩:=uM h2 h;refine#[i1,iU _ i2,iU _ W,fun p hp ⟨B,J⟩=>?_];rcases iO.mp hp with rfl | hp
   .have:=O.tr _ _ _ (h1 w.1 i2) B;rw[O.irr] at this;cases this
   .exact Y p hp #[B,J]
def EA {α:Type}:∀{R:List α}{u:α × α},u∈f8 false R.reverse↔(u.2,u.1)∈f8 false R:=by
 have f:∀{R:List α}{u:α × α},u∈f8 false R↔∃i,R[i]? = some u.1/\R[i+1]? = some u.2:=fun {R u}=>by
  have e:f8 false R=R.zip (R.drop 1):=by unfold f8;rw[fI (by simp)]
  rw[e];constructor
  .intro h;obtain⟨i,hi⟩:=Kb h;rw[Ls] at hi;refine#[i,hi.1,?_];have:=hi.2;rw[Kf] at this
   rwa [JU] at this
  .rintro⟨i,h1,h2⟩;refine Ju (i:=i) ?_;rw[Ls,Kf,JU];exact#[h1,h2]
 intro R u;rw[f,f];have B:∀{i:Nat}{x:α},R.reverse[i]? = some x↔i<R.length/\R[R.length - 1 - i]? = some x:=fun {i x}=>by
  by_cases h:i<R.length
  .rw[List.getElem?_reverse h];exact#[fun z=>#[h,z],fun z=>z.2]
  .rw[Ni (by rw[List.length_reverse];omega)];exact#[fun z=>(by cases z),fun z=>absurd z.1 h]
 constructor
 .rintro⟨i,h1,h2⟩;obtain⟨l1,J⟩:=B.mp h1;obtain⟨l2,U⟩:=B.mp h2;refine#[R.length - 1 - (i+1),U,?_];rw[show R.length - 1 - (i+1)+1=R.length - 1 - i by omega];exact J
 .rintro⟨i,h1,h2⟩;have l2:=(IK.mp h2).1;refine#[R.length - 1 - (i+1),B.mpr #[by omega,?_],B.mpr #[by omega,?_]]
  .rw[show R.length - 1 - (R.length - 1 - (i+1))=i+1 by omega];exact h2
  .rw[show R.length - 1 - (R.length - 1 - (i+1)+1)=i by omega];exact h1
theorem nU {A:vT_}(hA:ShC A) (h:C5 (tk A i) (tk A (i+1)) A p):p=tk A i\/p=tk A (i+1):=by
 have l:=v7 hA;rcases h with ⟨k,rfl,e⟩ | ⟨j,h,_⟩
 .rcases hA.st i _ (o9 k l) with q | q | q
  .exact .inl q
  .exact .inr q
  .rw[e] at q;exact absurd q Jk
 .have:=Ie (hA.cv i _ (o9 j l)) (hA.cv i _ (o9 (j+1) l));grind
def CV {A:vT_}(hA:ShC A) (i:Nat):K1 (tk A i) (tk A (i+1)) A=[]:=by
 have r:S4 (tk A i) (tk A (i+1)) A=false:=by
  unfold S4;rw[LH];intro z B;have:=hA.cv i z B;rw[Jb,kS];exact Im.mpr this
 unfold K1;split
 .rw[r];rfl
 .rfl
def cZ {b:Pt}(h:a8 a b p=0):B3 a b p=true↔j6 p (j4 a b).1=false/\j6 (j4 a b).2 p=false:=by
 unfold B3 j4;rw[IH h,Lv];split
 .rw[Iq,JK,JK]
 .rw[Iq,JK,JK]
def oh (a b:Pt):((j4 a b).1=a/\(j4 a b).2=b)\/((j4 a b).1=b/\(j4 a b).2=a):=by
 unfold j4;split
 .exact .inl #[rfl,rfl]
 .exact .inr #[rfl,rfl]
theorem kY {b:Pt}:∀(Ss:List (List Pt)) (L:vT_) (q:Pt),q∈F3 a b Ss L↔q∈L\/∃C∈Ss,q∈C4 a b C/\O6 (j4 a b).1 (j4 a b).2 q=true
 |[],L,q=>#[.inl,fun h=>h.elim id fun ⟨C,hC,_⟩=>nomatch hC]
 |C::r,L,q=>by
  unfold F3;rw[kY r,ku];constructor
  .rintro((h | h) | ⟨D,hD,h⟩)
   .exact .inl h
   .exact .inr #[C,iR ..,h]
   .exact .inr #[D,iU _ hD,h]
  .rintro(h | ⟨D,hD,h⟩)
   .exact .inl (.inl h)
   .rcases iO.mp hD with rfl | hD
    .exact .inl (.inr h)
    .exact .inr #[D,hD,h]
def ga (hk:k<Ss.length) (h:C∈Ss):C=d9 Ss k\/C∈C9 Ss k:=by
 obtain⟨j,B⟩:=Kb h;have J:=(IK.mp B).1;by_cases e:j=k
 .subst e;rw[cO hk] at B;exact .inl (Jj B).symm
 .refine .inr ?_;unfold C9;rw[IJ];by_cases c:j<k
  .refine .inl (Ju (i:=j) ?_);rw[Lg c];exact B
  .refine .inr (Ju (i:=j - (k+1)) ?_);rw[Kf,show k+1+(j - (k+1))=j by omega];exact B
section
variable (hS:∀C∈Ss,ShC C) (h4:Ss.length<=4) (hk:k<Ss.length) (i:Nat)
include hS h4 hk
theorem lx:E2 (tk (d9 Ss k) i) (tk (d9 Ss k) (i+1)) Ss=W9 (tk (d9 Ss k) i) (tk (d9 Ss k) (i+1)) (C9 Ss k):=by
 have hA:=hS _ (M2 hk);have hab:tk (d9 Ss k) i≠tk (d9 Ss k) (i+1):=xu (hA.ne i);have U:∀p,C5 (tk (d9 Ss k) i) (tk (d9 Ss k) (i+1)) (d9 Ss k) p->p=tk (d9 Ss k) i\/p=tk (d9 Ss k) (i+1):=fun p=>nU hA
 have Y:=fun C h=>ga hk (C:=C) h
 generalize hz:d9 Ss k=A at *;generalize tk A i=a at *;generalize tk A (i+1)=b at *;have sl:=gE (a:=a) (b:=b) Ss [a,b] hS;simp only[Iu,JJ] at sl;refine sE lsB_ord (mW lsB_ord 63 _ (Ij (show _<=100 by omega) #[]) (tN Ss [a,b] (by simp[hab]))) (eT _ [] List.Pairwise.nil) fun p=>?_
 have m1:p∈L1 j6 64 (F3 a b Ss [a,b])↔p∈F3 a b Ss [a,b]:=#[V7 _,gx _]
 unfold E2;rw[m1,kY];unfold W9;rw[fB,IJ];have sp:=oh a b;constructor
 .rintro(h | ⟨C,hC,h,w⟩)
  .exact .inr (.inl h)
  .have hm:=(X3 (hS C hC)).mp h;rcases Y C hC with e | e
   .subst e;rcases U p hm with rfl | rfl
    .exact .inr (.inl (iR ..))
    .exact .inr (.inl (iU _ (iR ..)))
   .refine .inr (.inr (Jl.mpr #[C,e,?_]));refine(du (hS C hC) p).mpr #[hm,(cZ (V5 (hS C hC) hm)).mpr ?_];unfold O6 at w;rw[Iq] at w;constructor
    .refine Kj.mpr fun z=>?_
     have:=lsB_ord.tr _ _ _ w.1 z;rw[lsB_ord.irr] at this;cases this
    .refine Kj.mpr fun z=>?_
     have:=lsB_ord.tr _ _ _ w.2 z;rw[lsB_ord.irr] at this;cases this
 .rintro(h | h | h)
  .cases h
  .exact .inl h
  .obtain⟨C,hC,h⟩:=Jl.mp h;have J:=hS C (U7 C hC);obtain⟨hm,o⟩:=(du J p).mp h;obtain⟨Z,o2⟩:=(cZ (V5 J hm)).mp o;by_cases B:p=(j4 a b).1
   .refine .inl ?_;rcases sp with q | q
    .rw[B,q.1];exact iR ..
    .rw[B,q.1];exact iU _ (iR ..)
   by_cases W:p=(j4 a b).2
   .refine .inl ?_;rcases sp with q | q
    .rw[W,q.2];exact iU _ (iR ..)
    .rw[W,q.2];exact iR ..
   refine .inr #[C,U7 C hC,(X3 J).mpr hm,?_];unfold O6;rw[lsB_ord.tot _ _ Z B,lsB_ord.tot _ _ o2 (xu W)];rfl
end
theorem ao (a b:Pt) (s t:Rat):D4 (c7 a b s) (c7 a b t)=c7 a b ((s+t) / 2):=by
 have h:(1 / 2:Rat)+1 / 2=1:=by grind
 unfold D4 c7;refine Il ?_ ?_
 .show a.1+s*(b.1 - a.1)+1 / 2*(a.1+t*(b.1 - a.1) - (a.1+s*(b.1 - a.1)))=a.1+(s+t) / 2*(b.1 - a.1);grind
 .show a.2+s*(b.2 - a.2)+1 / 2*(a.2+t*(b.2 - a.2) - (a.2+s*(b.2 - a.2)))=a.2+(s+t) / 2*(b.2 - a.2);grind
def Eo {α:Type}{L:List α}{p q:α}(J:L.Nodup) (n:p≠q) (hp:p∈L) (B:q∈L) (h:∀x∈L,x=p\/x=q):L=[p,q]\/L=[q,p]:=by
 match L,J,hp,B,h with
 |[],_,hp,_,_=>cases hp
 |[x],_,hp,B,_=>
  rw[IA] at hp B;exact absurd (hp.trans B.symm) n
 |[x,y],J,hp,B,h=>
  have U:x≠y:=by
   have:=(IE.mp J).1;rw[IA] at this;exact this
  rcases h x (iR ..) with rfl | rfl
  .rcases h y (iU _ (iR ..)) with rfl | rfl
   .exact absurd rfl U
   .exact .inl rfl
  .rcases h y (iU _ (iR ..)) with rfl | rfl
   .exact .inr rfl
   .exact absurd rfl U
 |x::y::z::r,J,_,_,h=>
  obtain⟨W,Z⟩:=IE.mp J;obtain⟨n3,_⟩:=IE.mp Z;exfalso;have hx:=h x (iR ..);have Y:=h y (iU _ (iR ..));have hz:=h z (iU _ (iU _ (iR ..)));have U:x≠y:=fun e=>W (e▸iR ..)
  have xz:x≠z:=fun e=>W (e▸iU _ (iR ..))
  have yz:y≠z:=fun e=>n3 (e▸iR ..)
  rcases hx with rfl | rfl <;> rcases Y with rfl | rfl <;> rcases hz with rfl | rfl <;> simp at *
theorem fN {b:Pt}(hab:a≠b) {s t:Rat}(h:s<t):j4 (c7 a b s) (c7 a b t)=(if j6 a b then (c7 a b s,c7 a b t) else (c7 a b t,c7 a b s))/\j4 (c7 a b t) (c7 a b s)=(if j6 a b then (c7 a b s,c7 a b t) else (c7 a b t,c7 a b s)):=by
 have B:=gJ hab s t;have J:=gJ hab t s;unfold j4;cases q:j6 a b with
 |true=>
  rw[q] at B J;simp only[IC] at B J ⊢;have n:¬ j6 (c7 a b t) (c7 a b s)=true:=fun z=>by have:=J.mp z;grind
  rw[fx (B.mpr h),fI n];exact#[rfl,rfl]
 |false=>
  rw[q] at B J;simp only[IW,IG] at B J ⊢;have n:¬ j6 (c7 a b s) (c7 a b t)=true:=fun z=>by have:=B.mp z;grind
  rw[fI n,fx (J.mpr h)];exact#[rfl,rfl]
theorem vO {b:Pt}(hab:a≠b) (hC:ShC C) {x y:Pt}(hx:a8 a b x=0) (hy:a8 a b y=0) (Y:j6 x y=true) (nb:∀p,C5 a b C p->¬ (j6 x p=true/\j6 p y=true)) :
  (K1 a b C).any (R6 (x,y))=true↔M0 a b C (D4 x y):=by
 obtain⟨W,rfl⟩:=J8 hab hx;obtain⟨U,rfl⟩:=J8 hab hy;rw[ao];have L:=fun s t=>gJ hab s t
 rw[L] at Y;have nb:∀r,C5 a b C (c7 a b r)->¬ (j6 (c7 a b W) (c7 a b r)=true/\j6 (c7 a b r) (c7 a b U)=true):=fun r h=>nb _ h
 have nd:=ym hC (a:=a) (b:=b);obtain⟨lo,hi,l1,l2,eo⟩:∃lo hi:Rat,lo<(W+U) / 2/\(W+U) / 2<hi/\((j6 a b=true/\W=lo/\U=hi)\/(j6 a b=false/\U=lo/\W=hi)):=by
  cases q:j6 a b with
  |true=>
   rw[q] at Y;simp only[IC] at Y;exact#[W,U,by grind,by grind,.inl #[rfl,rfl,rfl]]
  |false=>
   rw[q] at Y;simp only[IW,IG] at Y;exact#[U,W,by grind,by grind,.inr #[rfl,rfl,rfl]]
 have nm:∀r,C5 a b C (c7 a b r)->¬ (lo<r/\r<hi):=fun r h hQ__=>by
  obtain⟨q1,q2⟩:=hQ__;refine nb r h ?_;rw[L,L];rcases eo with ⟨e,rfl,rfl⟩ | ⟨e,rfl,rfl⟩
  .rw[e];simp only[IC];exact#[q1,q2]
  .rw[e];simp only[IW,IG];exact#[q2,q1]
 have rg:S4 a b C=true↔∃z∈C,a8 a b z<0:=by
  unfold S4;rw[Kk];constructor
  .rintro⟨z,Z,h⟩;exact#[z,Z,(kS _).mp (JC h)]
  .rintro⟨z,Z,h⟩;exact#[z,Z,IH ((kS _).mpr h)]
 have cv:∀s2 s1:Rat,s2<s1->(R6 (c7 a b W,c7 a b U) (if j6 a b then (c7 a b s2,c7 a b s1) else (c7 a b s1,c7 a b s2))=true↔s2<=lo/\hi<=s1):=fun s2 s1 h=>by
  unfold R6;rcases eo with ⟨e,rfl,rfl⟩ | ⟨e,rfl,rfl⟩
  .rw[e,fx rfl,Iq,JK,JK];have B:=L W s2;have J:=L s1 U;rw[e] at B J;simp only[IC] at B J;rw[Kj,Kj];show (¬ j6 (c7 a b W) (c7 a b s2)=true/\¬ j6 (c7 a b s1) (c7 a b U)=true)↔_;rw[B,J,Im,Im]
  .rw[e,fI (by simp),Iq,JK,JK];have B:=L W s1;have J:=L s2 U;rw[e] at B J;simp only[IW,IG] at B J;rw[Kj,Kj];show (¬ j6 (c7 a b W) (c7 a b s1)=true/\¬ j6 (c7 a b s2) (c7 a b U)=true)↔_;rw[B,J,Im,Im];exact And.comm
 constructor
 .intro h;rw[Kk] at h;obtain⟨c,hc,h⟩:=h;unfold K1 at hc;split at hc
  .next p q e=>
   split at hc
   .next r=>
    rw[IA] at hc;subst hc;obtain⟨z,Z,zn⟩:=rg.mp r;have mp:=(X3 hC (p:=p)).mp (by rw[e];exact iR ..);have mq:=(X3 hC (p:=q)).mp (by rw[e];exact iU _ (iR ..));obtain⟨sp,rfl⟩:=J8 hab (V5 hC mp);obtain⟨sq,rfl⟩:=J8 hab (V5 hC mq);rw[e] at nd;have ne:sp≠sq:=fun z=>by
     have:=(IE.mp nd).1;rw[z] at this;exact this (iR ..)
    rcases(show sp<sq\/sq<sp by grind) with d | d
    .rw[(fN hab d).1] at h;obtain⟨q1,q2⟩:=(cv _ _ d).mp h;exact mr hC hab mq mp (by grind) (by grind) Z zn
    .rw[(fN hab d).2] at h;obtain⟨q1,q2⟩:=(cv _ _ d).mp h;exact mr hC hab mp mq (by grind) (by grind) Z zn
   .cases hc
  .cases hc
 .intro h;obtain⟨Z,s1,s2,m1,m2,b2,b1,al⟩:=lq hC hab h l1 l2 nm;have d:s2<s1:=by grind
  have ne:c7 a b s2≠c7 a b s1:=fun z=>by
   have B:=L s2 s1;rw[z] at B;have irr:=lsB_ord.irr (c7 a b s1);have J:=L s1 s2;rw[z] at J;rw[irr] at B J;cases q:j6 a b with
   |true=>rw[q] at B;simp only[IC] at B;exact absurd (B.mpr d) (by simp)
   |false=>rw[q] at J;simp only[IW,IG] at J;exact absurd (J.mpr d) (by simp)
  have two:=Eo nd ne ((X3 hC).mpr m2) ((X3 hC).mpr m1) fun p hp=>by
   have mp:=(X3 hC).mp hp;obtain⟨r,rfl⟩:=J8 hab (V5 hC mp);rcases al r mp with rfl | rfl
   .exact .inr rfl
   .exact .inl rfl
  have r:=rg.mpr Z;unfold K1;rcases two with e | e
  .rw[e];show (if S4 a b C then [j4 (c7 a b s2) (c7 a b s1)] else []).any _=true;rw[fx r,Ku,Nm,Lo,(fN hab d).1];exact(cv _ _ d).mpr #[b2,b1]
  .rw[e];show (if S4 a b C then [j4 (c7 a b s1) (c7 a b s2)] else []).any _=true;rw[fx r,Ku,Nm,Lo,(fN hab d).2];exact(cv _ _ d).mpr #[b2,b1]
theorem uC (u v:Pt):D4 u v=D4 v u:=by
 have h:(1 / 2:Rat)+1 / 2=1:=by grind
 unfold D4 c7;refine Il ?_ ?_
 .show u.1+1 / 2*(v.1 - u.1)=v.1+1 / 2*(u.1 - v.1);grind
 .show u.2+1 / 2*(v.2 - u.2)=v.2+1 / 2*(u.2 - v.2);grind
section
variable (hS:∀C∈Ss,ShC C) (h4:Ss.length<=4) (hk:k<Ss.length) (i:Nat)
include hS h4 hk
theorem xI {w:Pt × Pt}(hw:w∈f8 false (E2 (tk (d9 Ss k) i) (tk (d9 Ss k) (i+1)) Ss)):(F8 (tk (d9 Ss k) i) (tk (d9 Ss k) (i+1)) Ss).any (R6 w)=(C9 Ss k).any (bE (tk (d9 Ss k) i) (tk (d9 Ss k) (i+1)) (D4 w.1 w.2)):=by
 have hA:=hS _ (M2 hk);have lA:=v7 hA;have hab:tk (d9 Ss k) i≠tk (d9 Ss k) (i+1):=xu (hA.ne i);have Y:=CV hA i;have ha:=(hA.sz _ (o9 i lA)).1;have hb:=(hA.sz _ (o9 (i+1) lA)).1;have rs:=lx hS h4 hk i;have Z:=fun C h=>ga hk (C:=C) h
 have pp:=jv ha hb hS;generalize hz:d9 Ss k=A at *;generalize tk A i=a at *;generalize tk A (i+1)=b at *;have O:=lsB_ord;have sr:N0 j6 (E2 a b Ss):=by rw[rs];exact eT _ [] List.Pairwise.nil
 obtain⟨w1,w2,w3,w4⟩:=uM sr hw;obtain⟨p1,p2⟩:=pp w hw;have sp:=oh a b;have J:∀p∈E2 a b Ss,a8 a b p=0/\j6 p (j4 a b).1=false/\j6 (j4 a b).2 p=false:=fun p hp=>by
  rw[rs] at hp;unfold W9 at hp;rcases(fB _ _ _).mp hp with h | h
  .cases h
  .rcases IJ.mp h with h | h
   .have ca:a8 a b a=0:=by unfold a8;grind
    have cb:a8 a b b=0:=by unfold a8;grind
    have oa:B3 a b a=true:=CF hab;have ob:B3 a b b=true:=GM hab;rcases iO.mp h with rfl | h
    .exact#[ca,(cZ ca).mp oa]
    .rw[IA] at h;subst h;exact#[cb,(cZ cb).mp ob]
   .obtain⟨C,hC,h⟩:=Jl.mp h;obtain⟨hm,o⟩:=(du (hS C (U7 C hC)) p).mp h;have:=V5 (hS C (U7 C hC)) hm;exact#[this,(cZ this).mp o]
 obtain⟨x0,x1,x2⟩:=J _ w2;obtain⟨y0,y1,y2⟩:=J _ w3;have m2:=(fJ p1 p2 #[] none).2;have nb:∀C∈C9 Ss k,∀p,C5 a b C p->¬ (j6 w.1 p=true/\j6 p w.2=true):=fun C hC p hm W=>by
  obtain⟨q1,q2⟩:=W;have U:=hS C (U7 C hC);refine w4 p ?_ #[q1,q2];rw[rs];unfold W9;refine(fB _ _ _).mpr (.inr (IJ.mpr (.inr (Jl.mpr #[C,hC,?_]))));refine(du U p).mpr #[hm,(cZ (V5 U hm)).mpr #[?_,?_]]
  .refine Kj.mpr fun z=>?_
   have:=O.tr _ _ _ q1 z;rw[x1] at this;cases this
  .refine Kj.mpr fun z=>?_
   have:=O.tr _ _ _ z q2;rw[y2] at this;cases this
 rw[JG,Kk,Kk];constructor
 .rintro⟨c,B,h⟩;obtain⟨C,hC,B⟩:=Jl.mp B;rcases Z C hC with e | e
  .subst e;rw[Y] at B;cases B
  .refine#[C,e,(iY ha hb m2 (hS C hC)).mpr ((vO hab (hS C hC) x0 y0 w1 (nb C e)).mp ?_)];exact Kk.mpr #[c,B,h]
 .rintro⟨C,hC,h⟩;have U:=hS C (U7 C hC);have:=(vO hab U x0 y0 w1 (nb C hC)).mpr ((iY ha hb m2 U).mp h);obtain⟨c,B,q⟩:=Kk.mp this;exact#[c,Jl.mpr #[C,U7 C hC,B],q]
theorem Ax (u:Pt × Pt):u∈E9 (tk (d9 Ss k) i) (tk (d9 Ss k) (i+1)) Ss↔u∈f8 false (V6 (tk (d9 Ss k) i) (tk (d9 Ss k) (i+1)) (C9 Ss k))/\(C9 Ss k).any (bE (tk (d9 Ss k) i) (tk (d9 Ss k) (i+1)) (D4 u.1 u.2))=false:=by
 have cl:=fun w J=>xI hS h4 hk i (w:=w) J
 have U:=lx hS h4 hk i;generalize tk (d9 Ss k) i=a at *;generalize tk (d9 Ss k) (i+1)=b at *;have B:∀w,w∈O8 a b Ss↔w∈f8 false (E2 a b Ss)/\(C9 Ss k).any (bE a b (D4 w.1 w.2))=false:=fun w=>by
  unfold O8;rw[Jq,JK];constructor
  .rintro⟨h,q⟩;exact#[h,by rw[<-cl w h];exact q]
  .rintro⟨h,q⟩;exact#[h,by rw[cl w h];exact q]
 unfold E9 V6;rw[<-U];cases q:j6 a b with
 |true=>rw[fx rfl,fx rfl];exact B u
 |false=>
  rw[fI (by simp),fI (by simp),EA,Ik];constructor
  .rintro⟨w,J,rfl⟩;obtain⟨h1,h2⟩:=(B w).mp J;refine#[h1,?_];show (C9 Ss k).any (bE a b (D4 w.2 w.1))=false;rw[uC];exact h2
  .rintro⟨h1,h2⟩;refine#[(u.2,u.1),(B _).mpr #[h1,?_],rfl];show (C9 Ss k).any (bE a b (D4 u.2 u.1))=false;rw[uC];exact h2
end
def EW {us:List (Pt × Pt)}(h:∀u∈us,Ps 70 u.1/\Ps 70 u.2) (hl:us.length<=800):Ok 3 7300 (.lst (us.map d7)):=by
 have:=OkL.all (k:=2) (n:=8) (ds:=us.map d7) fun d J=>by
  obtain⟨z,B,rfl⟩:=Ik.mp J;exact gc (h z B).1 (h z B).2
 refine(Ok.lst this).mono #[] ?_;rw[xo];omega
def nL (h:u∈B4 Ss):u∈D6 Ss Ss:=by
 unfold B4 at h;rcases(jo _ _ _).mp (V7 _ h) with q | q
 .cases q
 .exact q
def qX (Ss:List (List Pt)):(B4 Ss).length<=(D6 Ss Ss).length:=by
 have B:=bV (D6 Ss Ss) [];unfold B4;rw[cC];simp only[JJ] at B;omega
def jM {x m:Int}(hm:m≠0):x.natAbs<=(x*m).natAbs:=by
 rw[Mm];exact Nat.le_mul_of_pos_right _ ∅
theorem Ps.com1 {x d:Int}(W:0<d) (U:(x:Rat)=a.1*(d:Rat)) (J:(y:Rat)=a.2*(d:Rat)) (Z:Bd k x) (bz:Bd k y) (Y:Bd k d):Ps k a:=by
 obtain⟨c1,e1,f1⟩:=gC W U;obtain⟨c2,e2,f2⟩:=gC W J;obtain⟨D,rfl⟩:=KR (show 0<=d by omega);obtain⟨m,hm⟩:Nat.lcm a.1.den a.2.den∣D:=Nat.lcm_dvd (KQ.mp #[c1,e1]) (KQ.mp #[c2,e2]);have hl:((D:Nat):Int)=pL a*(m:Int):=by
  show _=((Nat.lcm a.1.den a.2.den:Nat):Int)*(m:Int)
  exact_mod_cast hm
 have B:(m:Int)≠0:=fun z=>by rw[z,Nl] at hl;omega
 have ex:x=pX a*(m:Int):=by
  have e:=K5 a;rw[hl,Ih] at U;have:(x:Rat)=((pX a*(m:Int):Int):Rat):=by
   rw[Ih,e,U];grind
  exact_mod_cast this
 have ey:y=pY a*(m:Int):=by
  have e:=K4 a;rw[hl,Ih] at J;have:(y:Rat)=((pY a*(m:Int):Int):Rat):=by
   rw[Ih,e,J];grind
  exact_mod_cast this
 rw[ex] at Z;rw[ey] at bz;rw[hl] at Y;exact#[Ja (jM B) Z,Ja (jM B) bz,Ja (jM B) Y]
theorem Ps.com {x d:Int}(J:d≠0) (W:Bd k x) (Y:Bd k y) (B:Bd k d):Ps k (Rat.divInt x d,Rat.divInt y d):=by
 have U:(d:Rat)≠0:=fun h=>J (KP.mp h)
 have ex:(x:Rat)=Rat.divInt x d*(d:Rat):=by rw[Kc,Jm U]
 have Z:(y:Rat)=Rat.divInt y d*(d:Rat):=by rw[Kc,Jm U]
 rcases Int.lt_or_gt_of_ne J with h | h
 .refine Ps.com1 (x:=-x) (y:=-y) (d:=-d) ∅ ?_ ?_ (by unfold Bd;rw[Lx];exact W) (by unfold Bd;rw[Lx];exact Y) (by unfold Bd;rw[Lx];exact B)
  .rw[Kd,Kd];show -(x:Rat)=Rat.divInt x d * -(d:Rat);grind
  .rw[Kd,Kd];show -(y:Rat)=Rat.divInt y d * -(d:Rat);grind
 .exact Ps.com1 h ex Z W Y B
def xB {b c d:Pt}(ha:Ps k a) (hb:Ps k b) (hc:Ps k c) (Y:Ps k d) (Z:j8 (d6 a b) (d6 c d)≠0):Ps (4*k+3) (J7 a b c d):=by
 obtain⟨h1,h2,J⟩:=bb ha hb;obtain⟨U,W,B⟩:=bb hc Y;obtain⟨hz,q⟩:=lI Z;rw[<-q];exact Ps.com hz (((h2.mul B).sub (J.mul W)).mono ∅) (((J.mul U).sub (h1.mul B)).mono ∅) (((h1.mul W).sub (h2.mul U)).mono ∅)
theorem xP {b:Pt}(ha:Ps 8 a) (hb:Ps 8 b) (hC:ShC C):∀p∈C4 a b C,Ps 35 p:=fun p hp=>by
 rcases(X3 hC).mp hp with ⟨k,rfl,_⟩ | ⟨i,h,rfl⟩
 .exact(hC.sz _ (o9 k (v7 hC))).1.mono #[]
 .refine xB (k:=8) ha hb (hC.sz _ (o9 i (v7 hC))).1 (hC.sz _ (o9 (i+1) (v7 hC))).1 ?_;rw[ge];intro z;have e:a8 a b (tk C (i+1))=a8 a b (tk C i):=by grind
  rw[e] at h;have:=N5 (a8 a b (tk C i));grind
def ue {b:Pt}(ha:Ps 8 a) (hb:Ps 8 b) (hS:∀C∈Ss,ShC C):∀p∈E2 a b Ss,Ps 35 p:=fun p hp=>by
 unfold E2 at hp;rcases(kY _ _ _).mp (V7 _ hp) with q | ⟨C,hC,q,_⟩
 .rcases iO.mp q with rfl | q
  .exact ha.mono #[]
  .rw[IA.mp q];exact hb.mono #[]
 .exact xP ha hb (hS C hC) p q
def jB {b:Pt}(ha:Ps 8 a) (hb:Ps 8 b) (hS:∀C∈Ss,ShC C):∀u∈E9 a b Ss,Ps 35 u.1/\Ps 35 u.2:=fun u J=>by
 have p:=ue ha hb hS;have q:∀w∈O8 a b Ss,Ps 35 w.1/\Ps 35 w.2:=fun w B=>by
  have:=(Jq.mp B).1;unfold f8 at this;rw[fI (by simp)] at this;exact#[p _ (JS this).1,p _ (Kt (JS this).2)]
 unfold E9 at J;split at J
 .exact q u J
 .obtain⟨w,B,rfl⟩:=Ik.mp J;exact#[(q w B).2,(q w B).1]
theorem dM {l:Nat}{u v:Pt}(B:Ps k u) (J:Ps l v):Ps (k+l+2) (D4 u v):=by
 have Y:=V2 u;have Z:=V2 v;have W:((2:Int):Rat)=2:=rfl;have h2:(1 / 2:Rat)+1 / 2=1:=by grind
 refine Ps.com1 (x:=pX u*pL v+pX v*pL u) (y:=pY u*pL v+pY v*pL u) (d:=2*(pL u*pL v)) (Lc ∅ (Lc Y Z)) ?_ ?_ (((B.x.mul J.l).add (J.x.mul B.l)).mono ∅) (((B.y.mul J.l).add (J.y.mul B.l)).mono ∅) (((Bd.lit (k:=2) #[]).mul (B.l.mul J.l)).mono ∅)
 .rw[JO,Ih,Ih,Ih,Ih,K5,K5,W];show _=(u.1+1 / 2*(v.1 - u.1))*_;generalize (pL u:Rat)=U at *;generalize (pL v:Rat)=V at *;grind
 .rw[JO,Ih,Ih,Ih,Ih,K4,K4,W];show _=(u.2+1 / 2*(v.2 - u.2))*_;generalize (pL u:Rat)=U at *;generalize (pL v:Rat)=V at *;grind
def pT {s:Int}(hs:s=1\/s = -1):Bd 2 s:=by
 rcases hs with rfl | rfl <;> exact Bd.lit #[]
def Z7 (a b p:Pt) (s:Int) (C:vT_):Bool:=decide (0<=N2 ((f8 true C).map (D1 a b p s)))
def U2 (a b:Pt) (C:vT_) (s:Int) (m:Pt):Prop:=∀i,0<a8 (tk C i) (tk C (i+1)) m\/(a8 (tk C i) (tk C (i+1)) m=0/\0<=(s:Rat)*A0 (d6 (tk C i) (tk C (i+1))) (d6 a b))
section
variable {b:Pt}(ha:Ps 35 a) (hb:Ps 35 b) (hp:Ps 109 p) {s:Int}(hs:s=1\/s = -1)
include ha hb
theorem kM:Bd 71 (aO a b)/\Bd 71 (bA a b):=#[((hb.x.mul ha.l).sub (ha.x.mul hb.l)).mono #[],((hb.y.mul ha.l).sub (ha.y.mul hb.l)).mono #[]]
include hp hs
theorem Hz:Bd 350 (bZ a b p s)/\Bd 350 (cf a b p s)/\Bd 350 (cH p):=by
 have B:=pT hs;obtain⟨J,U⟩:=kM ha hb;exact#[((hp.x.mul far_bd).sub ((B.mul U).mul hp.l)).mono #[],((hp.y.mul far_bd).add ((B.mul J).mul hp.l)).mono #[],(hp.l.mul far_bd).mono #[]]
theorem kO (fs:vO_):F1 [pt a,pt b,pt p,.int s] fs=some (P1 a b p s,fs):=by
 have B:=pT hs;obtain⟨J,U⟩:=kM ha hb;have W:aW (.int 10) (.int 60)=some (.int P6):=rfl;have m1:=D8 (hb.x.bits #[]) (ha.l.bits #[]);have m2:=D8 (ha.x.bits #[]) (hb.l.bits #[]);have m3:=D8 (hb.y.bits #[]) (ha.l.bits #[]);have m4:=D8 (ha.y.bits #[]) (hb.l.bits #[]);have m5:=D8 (hp.x.bits #[]) (far_bd.bits #[]);have m6:=D8 (B.bits #[]) (U.bits #[]);have m7:=D8 ((B.mul U).bits #[]) (hp.l.bits #[]);have m8:=D8 (hp.y.bits #[]) (far_bd.bits #[]);have m9:=D8 (B.bits #[]) (J.bits #[]);have n1:=D8 ((B.mul J).bits #[]) (hp.l.bits #[]);have n2:=D8 (hp.l.bits #[]) (far_bd.bits #[]);generalize Z:P6=F at *;have hX:aO a b=pX b*pL a - pX a*pL b:=rfl;have hY:bA a b=pY b*pL a - pY a*pL b:=rfl;unfold P1 bZ cf cH;rw[Z];generalize aO a b=X at *;generalize bA a b=Y at *;unfold pt;refine u9 (s:=#[[.v (.tup [.int (pX a),.int (pY a),.int (pL a)]),.v (.tup [.int (pX b),.int (pY b),.int (pL b)]),.v (.tup [.int (pX p),.int (pY p),.int (pL p)]),.v (.int s),.v (.int F),.v (.int X),.v (.int Y)],fs]) ?_;show gF #[[.v (.tup [.int (pX a),.int (pY a),.int (pL a)]),.v (.tup [.int (pX b),.int (pY b),.int (pL b)]),.v (.tup [.int (pX p),.int (pY p),.int (pL p)]),.v (.int s),.no,.no,.no],fs]=_;unfold gF;refine l8 (s1:=#[[.v (.tup [.int (pX a),.int (pY a),.int (pL a)]),.v (.tup [.int (pX b),.int (pY b),.int (pL b)]),.v (.tup [.int (pX p),.int (pY p),.int (pL p)]),.v (.int s),.v (.int F),.no,.no],fs]) (B1 (c8 rfl rfl W) rfl) ?_;refine l8 (s1:=#[[.v (.tup [.int (pX a),.int (pY a),.int (pL a)]),.v (.tup [.int (pX b),.int (pY b),.int (pL b)]),.v (.tup [.int (pX p),.int (pY p),.int (pL p)]),.v (.int s),.v (.int F),.v (.int X),.no],fs]) (B1 (c8 (c8 (c8 rfl rfl rfl) (c8 rfl rfl rfl) m1) (c8 (c8 rfl rfl rfl) (c8 rfl rfl rfl) m2) (by rw[hX];rfl)) rfl) ?_;refine l8 (s1:=#[[.v (.tup [.int (pX a),.int (pY a),.int (pL a)]),.v (.tup [.int (pX b),.int (pY b),.int (pL b)]),.v (.tup [.int (pX p),.int (pY p),.int (pL p)]),.v (.int s),.v (.int F),.v (.int X),.v (.int Y)],fs]) (B1 (c8 (c8 (c8 rfl rfl rfl) (c8 rfl rfl rfl) m3) (c8 (c8 rfl rfl rfl) (c8 rfl rfl rfl) m4) (by rw[hY];rfl)) rfl) ?_;exact B0 (fw (f7 (c8 (c8 (c8 rfl rfl rfl) rfl m5) (c8 (c8 rfl rfl m6) (c8 rfl rfl rfl) m7) rfl) (f7 (c8 (c8 (c8 rfl rfl rfl) rfl m8) (c8 (c8 rfl rfl m9) (c8 rfl rfl rfl) n1) rfl) (f7 (c8 (c8 rfl rfl rfl) rfl n2) rfl))) (by show 3<=sizeLine;decide))
theorem zu {c d:Pt}(J:Ps 8 c) (B:Ps 8 d):(pL p*(s*J3 a b c d)).natAbs<2 ^ 199:=by
 obtain⟨W,Y⟩:=kM ha hb;have U:Bd 17 (pL c*pX d - pX c*pL d):=((J.l.mul B.x).sub (J.x.mul B.l)).mono #[];have Z:Bd 17 (pL c*pY d - pY c*pL d):=((J.l.mul B.y).sub (J.y.mul B.l)).mono #[];have:Bd 199 (pL p*J3 a b c d):=(hp.l.mul ((W.mul U).add (Y.mul Z))).mono #[];rcases hs with rfl | rfl
 .rw[Int.one_mul];exact this
 .rw[show pL p*(-1*J3 a b c d) = -(pL p*J3 a b c d) by grind,Lx];exact this
theorem wB {c d:Pt}(hc:Ps 8 c) (U:Ps 8 d):0<=D1 a b p s (c,d)↔0<a8 c d p\/(a8 c d p=0/\0<=(s:Rat)*A0 (d6 c d) (d6 a b)):=by
 have e:=ss a b p s (c,d);have hk:=zu ha hb hp hs hc U;have J:=fK (jF c d p);have Y:=pJ a b c d;have Z:=E5 a;have W:=E5 b;have lc:=E5 c;have ld:=E5 d;have lp:=V2 p;have fb:(2 ^ 199:Int)<P6:=by decide +kernel
 have B:0<(pL a:Rat)*pL b*pL c*pL d:=W0 (W0 (W0 Z W) lc) ld;have e:D1 a b p s (c,d)=P6*V9 c d p+pL p*(s*J3 a b c d):=by rw[e];grind
 have kn:0<=s*J3 a b c d↔0<=(s:Rat)*A0 (d6 c d) (d6 a b):=by
  rw[show 0<=s*J3 a b c d↔0<=((s*J3 a b c d:Int):Rat) from (by exact_mod_cast Iff.rfl),Ih,Y];constructor
  .intro h;refine Im.mp fun z=>?_
   have:=xr (show 0 < -((s:Rat)*A0 (d6 c d) (d6 a b)) by grind) B;grind
  .intro h;have:=Ie h (II B);grind
 rw[e,<-J.2.2,<-J.2.1,<-kn];generalize V9 c d p=D at *;generalize s*J3 a b c d=K at *;generalize hF:P6=F at *;have h1:-(2 ^ 199:Int)<pL p*K/\pL p*K<2 ^ 199:=by
  have:((2 ^ 199:Nat):Int)=2 ^ 199:=by decide
  omega
 rcases(show D<0\/D=0\/0<D by omega) with q | q | q
 .have:F*D <= -F:=by
   have:=KS (show D <= -1 by omega) (show 0<=F by omega);rw[Mv,Ld] at this;exact this
  constructor
  .intro h;omega
  .rintro(h | h) <;> omega
 .rw[q,Nl];constructor
  .intro h;refine .inr #[rfl,Int.not_lt.mp fun z=>?_];have:=Lc (show 0<pL p by omega) (show 0 < -K by omega);rw[Mv] at this;omega
  .rintro(h | h)
   .omega
   .have:=MZ (show 0<=pL p by omega) h.2;omega
 .have:F<=F*D:=by
   have:=KS (show 1<=D by omega) (show 0<=F by omega);rw[Ld] at this;exact this
  constructor
  .intro _;exact .inl q
  .intro _;omega
theorem mP (hC:ShC C):Z7 a b p s C=true↔U2 a b C s p:=by
 have l:=v7 hC;have Y:=lm hC.lo;have J:(0<=N2 ((f8 true C).map (D1 a b p s)))↔∀e∈f8 true C,0<=D1 a b p s e:=by
  have hm:=vY (is:=(f8 true C).map (D1 a b p s)) (by rw[xo];exact Y);constructor
  .intro h e B;have:N2 ((f8 true C).map (D1 a b p s))<=D1 a b p s e:=by
    have U:D1 a b p s e∈(f8 true C).map (D1 a b p s):=Ik.mpr #[e,B,rfl];generalize (f8 true C).map (D1 a b p s)=is at *;cases is with
    |nil=>cases U
    |cons i r=>
     show r.foldl min i<=_;have q:=(eE r i).2;rcases iO.mp U with z | z
     .rw[z];exact q.1
     .exact q.2 _ z
   omega
  .intro h;obtain⟨e,B,q⟩:=Ik.mp hm;rw[<-q];exact h e B
 unfold Z7;rw[Jb,J];have ps:∀i,Ps 8 (tk C i):=fun i=>(hC.sz _ (o9 i l)).1
 constructor
 .intro h i;have W:(tk C i,tk C (i+1))∈f8 true C:=by
   have h:=bh (A:=C) (IV i l);have e:tk C (i % C.length+1)=tk C (i+1):=by unfold tk;rw[Kv]
   rw[K0,e] at h;exact Ju h
  exact(wB ha hb hp hs (ps i) (ps (i+1))).mp (h _ W)
 .intro h e B;obtain⟨i,_,rfl⟩:=eB B;exact(wB ha hb hp hs (ps i) (ps (i+1))).mpr (h i)
theorem pV (x0:Sl) (fs:vO_):∀es:List (Pt × Pt),(∀e∈es,Ps 8 e.1/\Ps 8 e.2)->A3 (P7 [1] [x0,.v (P1 a b p s)]) A5 (d8 av (a0 (dV 0) (a0 (dV 1) (a0 (dV 2) b9)))) (es.map d7) fs=some ((es.map (D1 a b p s)).map DL.D.int,fs)
 |[],_=>rfl
 |e::r,h=>by
  obtain⟨h1,h2⟩:=h e (iR ..);obtain⟨B,U,J⟩:=Hz ha hb hp hs;have m:∀{q:Pt},Ps 8 q->Ps 350 q:=fun h=>h.mono #[]
  have w:av [pt e.1,pt e.2,P1 a b p s] fs=some (.int (D1 a b p s e),fs):=uq (j:=350) #[] (m h1).x (m h1).y (m h1).l (m h2).x (m h2).y (m h2).l B U J fs;have i:=pV x0 fs r fun z W=>h z (iU _ W)
  generalize P1 a b p s=T at *;rw[Iv,A3,show P7 [1] [x0,.v T] (d7 e)=some [.v (pt e.1),.v (pt e.2),.v T] from rfl,td,show A5 #[[.v (pt e.1),.v (pt e.2),.v T],fs]=some (true,#[[.v (pt e.1),.v (pt e.2),.v T],fs]) from rfl,td,fx rfl,r8 (f7 rfl (f7 rfl (f7 rfl rfl))) w,td,i];rfl
theorem xR (hC:ShC C) (fs:vO_):fR [i7 C,P1 a b p s] fs=some (.bl (Z7 a b p s C),fs):=by
 have hi:=hC.hi;have U:=wo C fs ∅;have W:=lm hC.lo;have c:=pV ha hb hp hs (.v (i7 C)) fs (f8 true C) fun e B=>#[(hJ hC e B).1,(hJ hC e B).2.1]
 have Y:=Es (is:=(f8 true C).map (D1 a b p s)) (by rw[xo];exact W);have J:((f8 true C).map d7).length<=sizeLine:=by
  rw[xo];exact Ij (Ij (dt C) hi) #[]
 unfold Z7;generalize P1 a b p s=T at *;refine u9 (s:=#[[.v (i7 C),.v T],fs]) ?_;show lW aN av #[[.v (i7 C),.v T],fs]=_;unfold lW;have it:E7 (d8 aN (a0 (dV 0) b9)) #[[.v (i7 C),.v T],fs]=some ((f8 true C).map d7,#[[.v (i7 C),.v T],fs]):=by
  unfold E7;rw[r8 rfl U];rfl
 exact B0 (c8 (aj (f7 (aS (dJ it J c)) rfl) Y) rfl rfl)
theorem lC {B:List (List Pt)}(hS:∀A∈B,ShC A) (hl:B.length<=50) (fs:vO_):F2 [.tup (B.map i7),P1 a b p s] fs=some (.bl (B.any (Z7 a b p s)),fs):=by
 have W:=fun A hA=>xR ha hb hp hs (C:=A) hA fs
 generalize P1 a b p s=T at *;have c:∀B:List (List Pt),(∀A∈B,ShC A)->A3 (fun d=>some (.v d::[.v T])) A5 (d8 fR (a0 (dV 0) (a0 (dV 1) b9))) (B.map i7) fs=some ((B.map (Z7 a b p s)).map D.bl,fs):=fun B=>by
  induction B with
  |nil=>exact fun _=>rfl
  |cons A r U=>
   intro h;have e:=W A (h A (iR ..));have i:=U fun z Y=>h z (iU _ Y)
   rw[Iv,A3,td,show A5 #[[.v (i7 A),.v T],fs]=some (true,#[[.v (i7 A),.v T],fs]) from rfl,td,fx rfl,r8 rfl e,td,i];rfl
 have t:=tm (B.map (Z7 a b p s));rw[List.any_map] at t;have J:(B.map i7).length<=sizeLine:=by rw[xo];exact Ij hl #[]
 have c:=c B hS;refine u9 (s:=#[[.v (.tup (B.map i7)),.v T],fs]) ?_;show ju fR #[[.v (.tup (B.map i7)),.v T],fs]=_;unfold ju;exact B0 (c8 rfl (aS (eC (idx:=[1]) (s1:=#[[.v (.tup (B.map i7)),.v T],fs]) rfl J c)) t)
end
def aF (a b:Pt) (Os:List (List Pt)) (r:Rat):Prop:=0<=r/\r<=1/\(r=0\/r=1\/∃C∈Os,C5 a b C (c7 a b r))
structure El (a b:Pt) (Os:List (List Pt)) (s t:Rat):Prop where
 c1:aF a b Os s
 c2:aF a b Os t
 lt:s<t
 no:∀r,aF a b Os r->¬ (s<r/\r<t)
theorem my {b:Pt}(hab:a≠b) (hO:∀C∈Os,ShC C) (p:Pt):p∈W9 a b Os↔∃r,p=c7 a b r/\aF a b Os r:=by
 have U:∀r,B3 a b (c7 a b r)=true↔0<=r/\r<=1:=fun r=>by
  rw[eG hab,Iq,Jb,Jb]
 unfold W9;rw[fB,IJ];constructor
 .rintro(h | h | h)
  .cases h
  .rcases iO.mp h with rfl | h
   .exact#[0,(M3 _ _).symm,by grind,by grind,.inl rfl]
   .rw[IA.mp h];exact#[1,(Q0 _ _).symm,by grind,by grind,.inr (.inl rfl)]
  .obtain⟨C,hC,h⟩:=Jl.mp h;obtain⟨hm,o⟩:=(du (hO C hC) p).mp h;obtain⟨r,rfl⟩:=J8 hab (V5 (hO C hC) hm);obtain⟨J,B⟩:=(U r).mp o;exact#[r,rfl,J,B,.inr (.inr #[C,hC,hm])]
 .rintro⟨r,rfl,J,B,h⟩;rcases h with rfl | rfl | ⟨C,hC,h⟩
  .rw[M3];exact .inr (.inl (iR ..))
  .rw[Q0];exact .inr (.inl (iU _ (iR ..)))
  .exact .inr (.inr (Jl.mpr #[C,hC,(du (hO C hC) _).mpr #[h,(U r).mpr #[J,B]]]))
theorem wj {b:Pt}:∀{L:vT_},(∀p∈L,∃r,p=c7 a b r)->∃S:List Rat,L=S.map (c7 a b)
 |[],_=>#[[],rfl]
 |p::r,h=>by
  obtain⟨s,rfl⟩:=h p (iR ..);obtain⟨S,e⟩:=wj fun z B=>h z (iU _ B)
  exact#[s::S,by rw[e];rfl]
def ly {b:Pt}(hab:a≠b) (hO:∀C∈Os,ShC C):∃S:List Rat,V6 a b Os=S.map (c7 a b)/\S.Pairwise (· < ·)/\∀r,r∈S↔aF a b Os r:=by
 have U:=my hab hO;have J:N0 j6 (W9 a b Os):=eT _ [] List.Pairwise.nil;have B:∀p,p∈V6 a b Os↔p∈W9 a b Os:=fun p=>by
  unfold V6;split
  .exact Iff.rfl
  .exact List.mem_reverse
 obtain⟨S,e⟩:=wj (L:=V6 a b Os) fun p hp=>by
  obtain⟨r,h,_⟩:=(U p).mp ((B p).mp hp);exact#[r,h]
 refine#[S,e,?_,fun r=>?_]
 .have L:=fun s t=>gJ hab s t
  cases q:j6 a b with
  |true=>
   unfold V6 at e;rw[fx q] at e;rw[e] at J;refine(MM.mp J).imp fun {s t} h=>?_
   have:=(L s t).mp h;rw[q] at this;simpa using this
  |false=>
   unfold V6 at e;rw[fI (by rw[q];simp)] at e;have:=List.pairwise_reverse.mpr J;rw[e] at this;refine(MM.mp this).imp fun {s t} h=>?_
   have:=(L t s).mp h;rw[q] at this;simpa using this
 .constructor
  .intro h;obtain⟨W,h1,h2⟩:=(U _).mp ((B _).mp (show c7 a b r∈V6 a b Os by rw[e];exact Ik.mpr #[r,h,rfl]));rw[W6 hab h1];exact h2
  .intro h;have:=(B _).mpr ((U _).mpr #[r,rfl,h]);rw[e] at this;obtain⟨W,h1,h2⟩:=Ik.mp this;rw[<-W6 hab h2];exact h1
theorem fA:∀{S:List Rat},S.Pairwise (· < ·)->∀{x y:Rat},(x,y)∈f8 false S↔x∈S/\y∈S/\x<y/\∀r∈S,¬ (x<r/\r<y)
 |[],_,x,y=>#[fun h=>(by cases h),fun h=>(by cases h.1)]
 |[a],_,x,y=>by
  refine#[fun h=>(by cases h),fun ⟨h1,h2,Z,_⟩=>?_];rw[IA] at h1 h2;rw[h1,h2] at Z;exact absurd Z Jk
 |a::b::r,hs,x,y=>by
  obtain⟨h1,h2⟩:=Jn.mp hs;have ih:=fA h2 (x:=x) (y:=y);have ab:=h1 b (iR ..);have hb:=(Jn.mp h2).1;rw[show f8 false (a::b::r)=(a,b)::f8 false (b::r) from rfl,iO,ih];constructor
  .rintro(h | ⟨W,J,Y,U⟩)
   .cases h;refine#[iR ..,iU _ (iR ..),ab,fun z B ⟨l1,l2⟩=>?_];rcases iO.mp B with rfl | B
    .exact Jk l1
    .rcases iO.mp B with rfl | B
     .exact Jk l2
     .have:=hb z B;grind
   .refine#[iU _ W,iU _ J,Y,fun z B ⟨l1,l2⟩=>?_];rcases iO.mp B with rfl | B
    .have:=h1 x W;grind
    .exact U z B #[l1,l2]
  .rintro⟨W,J,Y,U⟩;rcases iO.mp W with rfl | q5
   .rcases iO.mp J with rfl | J
    .exact absurd Y Jk
    .rcases iO.mp J with rfl | J
     .exact .inl rfl
     .exact absurd #[ab,hb y J] (U b (iU _ (iR ..)))
   .rcases iO.mp J with rfl | q6
    .have:=h1 x q5;grind
    .exact .inr #[q5,q6,Y,fun z B=>U z (iU _ B)]
theorem pE:∀{S:List Rat},S.Pairwise (· < ·)->∀{x y r:Rat},x∈S->y∈S->x<=r->r<y->∃s t,(s,t)∈f8 false S/\s<=r/\r<t
 |[],_,_,_,_,h,_,_,_=>by cases h
 |[a],_,x,y,r,hx,B,l1,l2=>by
  rw[IA] at hx B;rw[hx] at l1;rw[B] at l2;grind
 |a::b::q,hs,x,y,r,hx,B,l1,l2=>by
  obtain⟨h1,h2⟩:=Jn.mp hs;have W:=h1 b (iR ..);have e:f8 false (a::b::q)=(a,b)::f8 false (b::q):=rfl;by_cases c:r<b
  .refine#[a,b,by rw[e];exact iR ..,?_,c];rcases iO.mp hx with rfl | hx
   .exact l1
   .have:=h1 x hx;grind
  .have B:y∈b::q:=by
    rcases iO.mp B with rfl | B
    .grind
    .exact B
   obtain⟨s,t,m,J,U⟩:=pE h2 (iR ..) B (Im.mp c) l2;exact#[s,t,by rw[e];exact iU _ m,J,U]
theorem rD:∀{S:List Rat},S.Pairwise (· < ·)->∀{x y r:Rat},x∈S->y∈S->x<r->r<=y->∃s t,(s,t)∈f8 false S/\s<r/\r<=t
 |[],_,_,_,_,h,_,_,_=>by cases h
 |[a],_,x,y,r,hx,B,l1,l2=>by
  rw[IA] at hx B;rw[hx] at l1;rw[B] at l2;grind
 |a::b::q,hs,x,y,r,hx,B,l1,l2=>by
  obtain⟨h1,h2⟩:=Jn.mp hs;have W:=h1 b (iR ..);have e:f8 false (a::b::q)=(a,b)::f8 false (b::q):=rfl;by_cases c:r<=b
  .refine#[a,b,by rw[e];exact iR ..,?_,c];rcases iO.mp hx with rfl | hx
   .exact l1
   .have:=h1 x hx;grind
  .have B:y∈b::q:=by
    rcases iO.mp B with rfl | B
    .grind
    .exact B
   obtain⟨s,t,m,J,U⟩:=rD h2 (iR ..) B (IM.mp c) l2;exact#[s,t,by rw[e];exact iU _ m,J,U]
section
variable {b:Pt}(hab:a≠b) (hO:∀C∈Os,ShC C)
include hab hO
theorem xg (u:Pt × Pt):u∈f8 false (V6 a b Os)↔∃s t,El a b Os s t/\u=(c7 a b s,c7 a b t):=by
 obtain⟨S,e,as,B⟩:=ly hab hO;rw[e,rZ,Ik];constructor
 .rintro⟨⟨s,t⟩,h,rfl⟩;obtain⟨h1,h2,U,h4⟩:=(fA as).mp h;exact#[s,t,#[(B s).mp h1,(B t).mp h2,U,fun r J=>h4 r ((B r).mpr J)],rfl]
 .rintro⟨s,t,h,rfl⟩;exact#[(s,t),(fA as).mpr #[(B s).mpr h.c1,(B t).mpr h.c2,h.lt,fun r J=>h.no r ((B r).mp J)],rfl]
theorem GS {r:Rat}(J:0<=r) (h1:r<1):∃s t,El a b Os s t/\s<=r/\r<t:=by
 obtain⟨S,e,as,B⟩:=ly hab hO;obtain⟨s,t,m,U,Y⟩:=pE as ((B 0).mpr #[by grind,by grind,.inl rfl]) ((B 1).mpr #[by grind,by grind,.inr (.inl rfl)]) J h1;obtain⟨h1,h2,W,h4⟩:=(fA as).mp m;exact#[s,t,#[(B s).mp h1,(B t).mp h2,W,fun r Z=>h4 r ((B r).mpr Z)],U,Y]
theorem CT {r:Rat}(J:0<r) (h1:r<=1):∃s t,El a b Os s t/\s<r/\r<=t:=by
 obtain⟨S,e,as,B⟩:=ly hab hO;obtain⟨s,t,m,U,Y⟩:=rD as ((B 0).mpr #[by grind,by grind,.inl rfl]) ((B 1).mpr #[by grind,by grind,.inr (.inl rfl)]) J h1;obtain⟨h1,h2,W,h4⟩:=(fA as).mp m;exact#[s,t,#[(B s).mp h1,(B t).mp h2,W,fun r Z=>h4 r ((B r).mpr Z)],U,Y]
end
def fj (hS:∀C∈Ss,ShC C) (h4:Ss.length<=4) (hk:k<Ss.length) (i:Nat) (u:Pt × Pt):u∈E9 (tk (d9 Ss k) i) (tk (d9 Ss k) (i+1)) Ss↔∃s t,El (tk (d9 Ss k) i) (tk (d9 Ss k) (i+1)) (C9 Ss k) s t/\u=(c7 (tk (d9 Ss k) i) (tk (d9 Ss k) (i+1)) s,c7 (tk (d9 Ss k) i) (tk (d9 Ss k) (i+1)) t)/\∀C∈C9 Ss k,¬ M0 (tk (d9 Ss k) i) (tk (d9 Ss k) (i+1)) C (c7 (tk (d9 Ss k) i) (tk (d9 Ss k) (i+1)) ((s+t) / 2)):=by
 have hA:=hS _ (M2 hk);have J:=v7 hA;have hab:tk (d9 Ss k) i≠tk (d9 Ss k) (i+1):=xu (hA.ne i);have ha:=(hA.sz _ (o9 i J)).1;have hb:=(hA.sz _ (o9 (i+1) J)).1;have hO:∀C∈C9 Ss k,ShC C:=fun C h=>hS C (U7 C h)
 have B:=ue ha hb hS;rw[lx hS h4 hk i] at B;rw[Ax hS h4 hk i];generalize tk (d9 Ss k) i=a at *;generalize tk (d9 Ss k) (i+1)=b at *;rw[xg hab hO];have ps:∀{s t:Rat},El a b (C9 Ss k) s t->Ps 142 (D4 (c7 a b s) (c7 a b t)):=fun {s t} h=>(dM (B _ ((my hab hO _).mpr #[_,rfl,h.c1])) (B _ ((my hab hO _).mpr #[_,rfl,h.c2]))).mono #[]
 constructor
 .rintro⟨⟨s,t,h,rfl⟩,n⟩;refine#[s,t,h,rfl,fun C hC z=>?_];rw[<-ao] at z;exact absurd ((iY ha hb (ps h) (hO C hC)).mpr z) (by simpa using LH.mp n C hC)
 .rintro⟨s,t,h,rfl,n⟩;refine#[#[s,t,h,rfl],LH.mpr fun C hC z=>n C hC ?_];rw[<-ao];exact(iY ha hb (ps h) (hO C hC)).mp z
theorem nq (v a b:Pt) (s t:Rat):A0 v (d6 (c7 a b s) (c7 a b t))=(t - s)*A0 v (d6 a b):=by
 unfold A0 d6 c7;grind
theorem tF {b m:Pt}{s t:Rat}(h:s<t) {g:Int}:U2 (c7 a b s) (c7 a b t) C g m↔U2 a b C g m:=by
 unfold U2;refine forall_congr' fun i=>?_
 rw[nq];have e:(g:Rat)*((t - s)*A0 (d6 (tk C i) (tk C (i+1))) (d6 a b))=(t - s)*((g:Rat)*A0 (d6 (tk C i) (tk C (i+1))) (d6 a b)):=by grind
 rw[e];generalize (g:Rat)*A0 (d6 (tk C i) (tk C (i+1))) (d6 a b)=z;have q:0<=(t - s)*z↔0<=z:=by
  constructor
  .intro B;refine Im.mp fun n=>?_
   have:=xr (show 0<t - s by grind) (show 0 < -z by grind);grind
  .intro B;exact Ie (by grind) B
 rw[q]
theorem AJ {b m:Pt}:U2 a b C (-1) m↔M0 a b C m:=by
 unfold U2 M0;refine forall_congr' fun i=>?_
 rw[show ((-1:Int):Rat) = -1 from rfl];generalize A0 (d6 (tk C i) (tk C (i+1))) (d6 a b)=z;have q:0 <= -1*z↔z<=0:=by constructor <;> intro h <;> grind
 rw[q]
theorem tD {b:Pt}(hab:a≠b) (hC:ShC C) {s t r q:Rat}(nm:∀r,C5 a b C (c7 a b r)->¬ (s<r/\r<t)) (J:s<r) (B:r<t) (q1:s<q) (q2:q<t) (h:M0 a b C (c7 a b r)):M0 a b C (c7 a b q):=by
 obtain⟨⟨z,U,W⟩,s1,s2,m1,m2,l1,l2,_⟩:=lq hC hab h J B nm;exact mr hC hab m1 m2 (by grind) (by grind) U W
theorem cw {b:Pt}{s t:Rat}(h:El a b Os s t) (hC:C∈Os):∀r,C5 a b C (c7 a b r)->¬ (s<r/\r<t):=fun r hm q=>h.no r #[by have:=h.c1.1;grind,by have:=h.c2.2.1;grind,.inr (.inr #[C,hC,hm])] q
section
variable {A:vT_}(hA:ShC A) (i:Nat)
include hA
theorem pg {r:Rat}(Y:0<r) (r1:r<1):U2 (tk A i) (tk A (i+1)) A 1 (c7 (tk A i) (tk A (i+1)) r):=fun j=>by
 have l:=v7 hA;have J:=hA.cv j _ (o9 i l);have Z:=hA.cv j _ (o9 (i+1) l);have e:=S7 (tk A j) (tk A (j+1)) (tk A i) (tk A (i+1)) r;have p1:=Ie (show 0<=1 - r by grind) J;have p2:=Ie (show 0<=r by grind) Z;rcases hA.st j _ (o9 i l) with q | q | q
 .have W:A0 (d6 (tk A j) (tk A (j+1))) (d6 (tk A i) (tk A (i+1)))=A0 (d6 (tk A i) (tk A (i+1))) (d6 (tk A i) (tk A (i+1))):=by
   have m:=U9 hA q;have B:tk A (j+1)=tk A (i+1):=by
    unfold tk;rw[show (j+1) % A.length=(i+1) % A.length by rw[JP,<-m,<-JP]]
   rw[B,q]
  have U:0<=A0 (d6 (tk A i) (tk A (i+1))) (d6 (tk A i) (tk A (i+1))):=by
   unfold A0;have a1:=N5 (d6 (tk A i) (tk A (i+1))).1;have a2:=N5 (d6 (tk A i) (tk A (i+1))).2;grind
  rcases(show 0<a8 (tk A j) (tk A (j+1)) (c7 (tk A i) (tk A (i+1)) r)\/a8 (tk A j) (tk A (j+1)) (c7 (tk A i) (tk A (i+1)) r)=0 by grind) with z | z
  .exact .inl z
  .refine .inr #[z,?_];rw[W,show ((1:Int):Rat)=1 from rfl,Rat.one_mul];exact U
 .refine .inl ?_;have m:=U9 hA q;rcases hA.st j _ (o9 (i+1) l) with w | w | w
  .exfalso;have m2:=U9 hA w;have l3:=hA.lo;have:(j+1+1) % A.length=j % A.length:=by rw[JP,<-m,<-JP,m2]
   have B:(j+2) % A.length=(j % A.length+2) % A.length:=by rw[Kv]
   have jl:=IV j l;rw[show j+1+1=j+2 from rfl,B] at this;by_cases c:j % A.length+2<A.length
   .rw[JV c] at this;omega
   .rw[Nat.mod_eq_sub_mod ∅,JV ∅] at this;omega
  .exfalso;exact hA.ne i (w.trans q.symm)
  .have:=xr Y w;grind
 .refine .inl ?_;have:=xr (show 0<1 - r by grind) q;grind
theorem yO {r:Rat}:¬ M0 (tk A i) (tk A (i+1)) A (c7 (tk A i) (tk A (i+1)) r):=fun h=>by
 have B:a8 (tk A i) (tk A (i+1)) (tk A i)=0:=by unfold a8;grind
 have U:a8 (tk A i) (tk A (i+1)) (tk A (i+1))=0:=by unfold a8;grind
 exact lJ hA (xu (hA.ne i)) B U (fun z J=>hA.cv i z J) h
end
theorem yw (hS:∀C∈Ss,ShC C) (hk:k<Ss.length) (i:Nat) {s t r:Rat}(e:El (tk (d9 Ss k) i) (tk (d9 Ss k) (i+1)) (C9 Ss k) s t) (n:∀C∈C9 Ss k,¬ M0 (tk (d9 Ss k) i) (tk (d9 Ss k) (i+1)) C (c7 (tk (d9 Ss k) i) (tk (d9 Ss k) (i+1)) ((s+t) / 2))) (J:s<r) (B:r<t) :
  (∃C∈Ss,U2 (tk (d9 Ss k) i) (tk (d9 Ss k) (i+1)) C 1 (c7 (tk (d9 Ss k) i) (tk (d9 Ss k) (i+1)) r))/\∀C∈Ss,¬ U2 (tk (d9 Ss k) i) (tk (d9 Ss k) (i+1)) C (-1) (c7 (tk (d9 Ss k) i) (tk (d9 Ss k) (i+1)) r):=by
 have hA:=hS _ (M2 hk);refine#[#[_,M2 hk,pg hA i (by have:=e.c1.1;grind) (by have:=e.c2.2.1;grind)],fun C hC h=>?_];rw[AJ] at h;rcases ga hk hC with q | q
 .subst q;exact yO hA i h
 .have:=e.lt;exact n C q (tD (xu (hA.ne i)) (hS C hC) (cw e q) J B (by grind) (by grind) h)
abbrev ah:a9:=pN F2 F1 af
section
variable {S u v:DL.D}{M:DL.D}{fs:vO_}
abbrev V3 (S u v:DL.D) (x3 x4:Sl) (fs:vO_):DS:=#[[.v S,.v u,.v v,x3,x4],fs]
def kJ {p B J:DL.D}(U:F1 [u,v,p,.int 1] fs=some (B,fs)) (Y:F1 [u,v,p,.int (-1)] fs=some (J,fs)) (W:F2 [S,B] fs=some (.bl true,fs)) (Z:F2 [S,J] fs=some (.bl false,fs)) :
  nF F2 F1 af (V3 S u v x3 (.v p) fs)=some (.next,V3 S u v x3 (.v p) fs):=by
 refine l8 (s1:=V3 S u v x3 (.v p) fs) (Y5 (fu (b:=true) (R4 (r8 (f7 rfl (f7 (r8 (f7 rfl (f7 rfl (f7 rfl (f7 rfl rfl)))) U) rfl)) W)))) ?_;exact Y5 (R4 (r8 (f7 rfl (f7 (r8 (f7 rfl (f7 rfl (f7 rfl (f7 rfl rfl)))) Y) rfl)) Z))
def Gg {p1 p2 B W U Z J c2 Y:DL.D}(m1:af [u,v] fs=some (p1,fs)) (m2:af [u,p1] fs=some (p2,fs)) (m3:af [p1,v] fs=some (B,fs))
  (e1:F1 [u,v,p1,.int 1] fs=some (W,fs)) (e2:F1 [u,v,p1,.int (-1)] fs=some (J,fs)) (a1:F2 [S,W] fs=some (.bl true,fs)) (a2:F2 [S,J] fs=some (.bl false,fs))
  (e3:F1 [u,v,p2,.int 1] fs=some (U,fs)) (e4:F1 [u,v,p2,.int (-1)] fs=some (c2,fs)) (a3:F2 [S,U] fs=some (.bl true,fs)) (a4:F2 [S,c2] fs=some (.bl false,fs))
  (e5:F1 [u,v,B,.int 1] fs=some (Z,fs)) (e6:F1 [u,v,B,.int (-1)] fs=some (Y,fs)) (a5:F2 [S,Z] fs=some (.bl true,fs)) (a6:F2 [S,Y] fs=some (.bl false,fs)) :
  ah [S,u,v] fs=some (.bl true,fs):=by
 refine u9 (s:=V3 S u v (.v p1) (.v B) fs) ?_;show gD F2 F1 af (V3 S u v .no .no fs)=_;unfold gD;refine l8 (s1:=V3 S u v (.v p1) .no fs) (B1 (r8 (f7 rfl (f7 rfl rfl)) m1) rfl) ?_;refine l8 (s1:=V3 S u v (.v p1) (.v B) fs) ((fE (ds:=[p1,p2,B]) (fw (f7 rfl (f7 (r8 (f7 rfl (f7 rfl rfl)) m2) (f7 (r8 (f7 rfl (f7 rfl rfl)) m3) rfl))) (by show 3<=sizeLine;decide))).trans ?_) rfl;refine(Q3 (s1:=V3 S u v (.v p1) (.v p1) fs) rfl (kJ e1 e2 a1 a2)).trans ?_;refine(Q3 (s1:=V3 S u v (.v p1) (.v p2) fs) rfl (kJ e3 e4 a3 a4)).trans ?_;exact Q3 (s1:=V3 S u v (.v p1) (.v B) fs) rfl (kJ e5 e6 a5 a6)
end
theorem An (hS:∀C∈Ss,ShC C) (h4:Ss.length<=4) (hk:k<Ss.length) (i:Nat) (hu:u∈E9 (tk (d9 Ss k) i) (tk (d9 Ss k) (i+1)) Ss) (fs:vO_):ah [.tup (Ss.map i7),pt u.1,pt u.2] fs=some (.bl true,fs):=by
 have hA:=hS _ (M2 hk);have lA:=v7 hA;have ha:=(hA.sz _ (o9 i lA)).1;have hb:=(hA.sz _ (o9 (i+1) lA)).1;obtain⟨J,U⟩:=jB ha hb hS u hu;obtain⟨s,t,e,rfl,n⟩:=(fj hS h4 hk i u).mp hu;have W:=fun r=>yw hS hk i (r:=r) e n
 generalize tk (d9 Ss k) i=a at *;generalize tk (d9 Ss k) (i+1)=b at *;have st:=e.lt;have Y:=dM J U;have p2:=dM J Y;have p3:=dM Y U;have m1:=(fJ J U #[] fs).1;have m2:=(fJ (k:=72) (J.mono #[]) (Y.mono #[]) #[] fs).1;have m3:=(fJ (k:=72) (Y.mono #[]) (U.mono #[]) #[] fs).1;have B:∀{p:Pt},Ps 109 p->∀r,p=c7 a b r->s<r->r<t->F2 [.tup (Ss.map i7),P1 (c7 a b s) (c7 a b t) p 1] fs=some (.bl true,fs)/\F2 [.tup (Ss.map i7),P1 (c7 a b s) (c7 a b t) p (-1)] fs=some (.bl false,fs):=fun {p} hp r hr r1 r2=>by
  obtain⟨⟨C,hC,g1⟩,g2⟩:=W r r1 r2;have w1:=lC J U hp (s:=1) (.inl rfl) hS ∅ fs;have w2:=lC J U hp (s:=-1) (.inr rfl) hS ∅ fs;have t1:Ss.any (Z7 (c7 a b s) (c7 a b t) p 1)=true:=Kk.mpr #[C,hC,(mP J U hp (.inl rfl) (hS C hC)).mpr ((tF st).mpr (by rw[hr];exact g1))];have t2:Ss.any (Z7 (c7 a b s) (c7 a b t) p (-1))=false:=LH.mpr fun C hC z=>g2 C hC (by rw[<-hr];exact(tF st).mp ((mP J U hp (.inr rfl) (hS C hC)).mp z))
  rw[t1] at w1;rw[t2] at w2;exact#[w1,w2]
 have Z:∀{p:Pt},Ps 109 p->F1 [pt (c7 a b s),pt (c7 a b t),pt p,.int 1] fs=some (P1 (c7 a b s) (c7 a b t) p 1,fs)/\F1 [pt (c7 a b s),pt (c7 a b t),pt p,.int (-1)] fs=some (P1 (c7 a b s) (c7 a b t) p (-1),fs):=fun hp=>#[kO J U hp (.inl rfl) fs,kO J U hp (.inr rfl) fs]
 have M:Ps 109 (D4 (c7 a b s) (c7 a b t)):=Y.mono #[];obtain⟨l1,l2⟩:=B M _ (ao ..) (by grind) (by grind);obtain⟨l3,l4⟩:=B (p2.mono #[]) ((s+(s+t) / 2) / 2) (by rw[ao,ao]) (by grind) (by grind);obtain⟨l5,l6⟩:=B (p3.mono #[]) (((s+t) / 2+t) / 2) (by rw[ao,ao]) (by grind) (by grind);obtain⟨b1,b2⟩:=Z M;obtain⟨b3,b4⟩:=Z (p2.mono #[]);obtain⟨b5,b6⟩:=Z (p3.mono #[]);exact Gg m1 m2 m3 b1 b2 l1 l2 b3 b4 l3 l4 b5 b6 l5 l6
theorem mO {D:Rat}(Y:0<D):∀L:List (Rat × Rat),(∀z∈L,0<z.1\/(z.1=0/\0<=z.2))->∃δ,0<δ/\δ<=D/\∀z∈L,0<=z.1+δ*z.2
 |[],_=>#[D,Y,Kg,fun z h=>nomatch h]
 |(x,y)::r,h=>by
  obtain⟨δ,h1,h2,W⟩:=mO Y r fun z B=>h z (iU _ B)
  have J:=h (x,y) (iR ..);simp only at J;obtain⟨ε,e1,e2⟩:∃ε:Rat,0<ε/\∀q,0<=q->q<=ε->0<=x+q*y:=by
   by_cases c:0<=y
   .exact#[1,by grind,fun q U _=>by
     have:=Ie U c;rcases J with g | g <;> grind]
   .have Z:0 < -y:=by grind
    have xp:0<x:=by rcases J with g | g <;> grind
    have yz:-y≠0:=by grind
    have ee:=Jm (a:=x) yz;have ep:0<x / -y:=by
     refine IM.mp fun z=>?_
     have:=Ie (show 0 <= -(x / -y) by grind) (II Z);grind
    refine#[x / -y,ep,fun q U q1=>?_];have:=Ie (show 0<=x / -y - q by grind) (II Z);grind
  by_cases c:δ<=ε
  .refine#[δ,h1,h2,fun z B=>?_];rcases iO.mp B with rfl | B
   .exact e2 δ (II h1) c
   .exact W z B
  .refine#[ε,e1,by grind,fun z B=>?_];rcases iO.mp B with rfl | B
   .exact e2 ε (II e1) Kg
   .have b:=W z B;rcases h z (iU _ B) with g | g
    .by_cases s:0<=z.2
     .have:=Ie (II e1) s;grind
     .have:=Ie (show 0<=δ - ε by grind) (show 0 <= -z.2 by grind);grind
    .have:=Ie (II e1) g.2;grind
theorem oo {t:Rat}(t0:0<t):∀L:List (Rat × Rat),(∀z∈L,0<=(1 - t)*z.1+t*z.2)->(∃z∈L,z.1<0)->∃q,0<q/\q<=t/\(∀z∈L,0<=(1 - q)*z.1+q*z.2)/\∃z∈L,z.1<0/\(1 - q)*z.1+q*z.2=0
 |[],_,h=>by obtain⟨z,B,_⟩:=h;cases B
 |(x,y)::r,h,hn=>by
  have Z:=h (x,y) (iR ..);simp only at Z;have J:∀{q p:Rat}(z:Rat × Rat),0<=(1 - q)*z.1+q*z.2->0<=(1 - t)*z.1+t*z.2->q<=p->p<=t->0<=(1 - p)*z.1+p*z.2:=fun {q p} z g1 g2 l1 l2=>by
   by_cases c:q=t
   .have:p=t:=by grind
    rw[this];exact g2
   .have qt:0<t - q:=by grind
    have a1:=Ie (show 0<=t - p by grind) g1;have a2:=Ie (show 0<=p - q by grind) g2;refine Im.mp fun n=>?_
    have:=xr qt (show 0 < -((1 - p)*z.1+p*z.2) by grind);grind
  by_cases c:∃z∈r,z.1<0
  .obtain⟨q,q1,q2,q3,w,hw,w1,w2⟩:=oo t0 r (fun z B=>h z (iU _ B)) c;by_cases d:0<=(1 - q)*x+q*y
   .refine#[q,q1,q2,fun z B=>?_,w,iU _ hw,w1,w2];rcases iO.mp B with rfl | B
    .exact d
    .exact q3 z B
   .have d:=IM.mp d;have xn:x<0:=by
     refine IM.mp fun n=>?_
     have:=J (q:=0) (p:=q) (x,y) (by simp only;grind) Z (II q1) q2;simp only at this;grind
    have U:y - x≠0:=fun z=>by
     have e:y=x:=by grind
     rw[e] at Z;grind
    have e0:=Jm (a:=-x) U;have Y:0<y - x:=by
     refine IM.mp fun n=>?_
     have:=Ie (show 0<=t by grind) (show 0 <= -(y - x) by grind);grind
    have pl:q < -x / (y - x):=by
     refine IM.mp fun n=>?_
     have:=Ie (show 0<=q - -x / (y - x) by grind) (II Y);grind
    have W:-x / (y - x)<=t:=by
     refine Im.mp fun n=>?_
     have:=xr (show 0 < -x / (y - x) - t by grind) Y;grind
    refine#[-x / (y - x),by grind,W,fun z B=>?_,(x,y),iR ..,xn,by simp only;grind];rcases iO.mp B with rfl | B
    .simp only;grind
    .exact J z (q3 z B) (h z (iU _ B)) (II pl) W
  .have xn:x<0:=by
    obtain⟨z,B,zn⟩:=hn;rcases iO.mp B with rfl | B
    .exact zn
    .exact absurd #[z,B,zn] c
   have U:y - x≠0:=fun z=>by
    have e:y=x:=by grind
    rw[e] at Z;grind
   have e0:=Jm (a:=-x) U;have Y:0<y - x:=by
    refine IM.mp fun n=>?_
    have:=Ie (show 0<=t by grind) (show 0 <= -(y - x) by grind);grind
   have p0:0 < -x / (y - x):=by
    refine IM.mp fun n=>?_
    have:=Ie (show 0 <= -(-x / (y - x)) by grind) (II Y);grind
   have W:-x / (y - x)<=t:=by
    refine Im.mp fun n=>?_
    have:=xr (show 0 < -x / (y - x) - t by grind) Y;grind
   refine#[-x / (y - x),p0,W,fun z B=>?_,(x,y),iR ..,xn,by simp only;grind];rcases iO.mp B with rfl | B
   .simp only;grind
   .refine J (q:=0) z ?_ (h z (iU _ B)) (II p0) W;have:¬ z.1<0:=fun n=>c #[z,B,n]
    have:=Im.mp this;grind
theorem jU:∀L:List Rat,L≠[]->∃x∈L,∀y∈L,x<=y
 |[],h=>absurd rfl h
 |[x],_=>#[x,iR ..,fun y h=>by rw[IA.mp h];exact Kg]
 |x::z::r,_=>by
  obtain⟨m,hm,h⟩:=jU (z::r) (by simp);by_cases c:x<=m
  .refine#[x,iR ..,fun y B=>?_];rcases iO.mp B with rfl | B
   .exact Kg
   .have:=h y B;grind
  .refine#[m,iU _ hm,fun y B=>?_];rcases iO.mp B with rfl | B
   .grind
   .exact h y B
def Cn (C:vT_) (p d:Pt):Prop:=∀j,0<a8 (tk C j) (tk C (j+1)) p\/(a8 (tk C j) (tk C (j+1)) p=0/\0<=j8 (d6 (tk C j) (tk C (j+1))) d)
def Q6 (d m:Pt) (t:Rat):Pt:=((1 - t)*d.1+t*m.1,(1 - t)*d.2+t*m.2)
theorem cg (e d m:Pt) (t:Rat):j8 e (Q6 d m t)=(1 - t)*j8 e d+t*j8 e m:=by
 unfold j8 Q6;grind
def gw (C:vT_) (p:Pt):List Nat:=(List.range C.length).filter fun j=>decide (a8 (tk C j) (tk C (j+1)) p=0)
section
variable (hC:ShC C)
include hC
theorem bI (j:Nat):tk C (j % C.length)=tk C j/\tk C (j % C.length+1)=tk C (j+1):=by
 unfold tk;rw[Nat.mod_mod,Kv];exact#[rfl,rfl]
theorem iV (h:a8 (tk C j) (tk C (j+1)) p=0):j % C.length∈gw C p:=by
 have l:=v7 hC;obtain⟨J,B⟩:=bI hC j;refine Jq.mpr #[JD.mpr (IV j l),IH ?_];rw[J,B];exact h
theorem BK {d m:Pt}{t:Rat}(t0:0<t) (h:Cn C p (Q6 d m t)) (n:¬ Cn C p d):∃q,0<q/\q<=t/\Cn C p (Q6 d m q)/\∃j,a8 (tk C j) (tk C (j+1)) p=0/\j8 (d6 (tk C j) (tk C (j+1))) d<0/\j8 (d6 (tk C j) (tk C (j+1))) (Q6 d m q)=0:=by
 have Z:∀j,0<=a8 (tk C j) (tk C (j+1)) p:=fun j=>by rcases h j with q | q <;> grind
 obtain⟨j,z1,z2⟩:∃j,a8 (tk C j) (tk C (j+1)) p=0/\j8 (d6 (tk C j) (tk C (j+1))) d<0:=by
  refine Jp fun c=>n fun j=>?_
  by_cases z:a8 (tk C j) (tk C (j+1)) p=0
  .exact .inr #[z,Im.mp fun q=>c #[j,z,q]]
  .exact .inl (by have:=Z j;grind)
 have B:∀z∈(gw C p).map (fun j=>(j8 (d6 (tk C j) (tk C (j+1))) d,j8 (d6 (tk C j) (tk C (j+1))) m)),0<=(1 - t)*z.1+t*z.2:=fun z hz=>by
  obtain⟨j,W,rfl⟩:=Ik.mp hz;have U:=JC (Jq.mp W).2;rcases h j with q | q
  .rw[U] at q;exact absurd q Jk
  .have:=q.2;rw[cg] at this;exact this
 obtain⟨q,q1,q2,q3,w,hw,w1,w2⟩:=oo t0 _ B (by
  obtain⟨J,Y⟩:=bI hC j;refine#[_,Ik.mpr #[_,iV hC z1,rfl],?_];simp only;rw[J,Y];exact z2)
 refine#[q,q1,q2,fun j=>?_,?_]
 .by_cases z:a8 (tk C j) (tk C (j+1)) p=0
  .refine .inr #[z,?_];obtain⟨J,Y⟩:=bI hC j;have:=q3 _ (Ik.mpr #[_,iV hC z,rfl]);simp only at this;rw[J,Y] at this;rw[cg];exact this
  .exact .inl (by have:=Z j;grind)
 .obtain⟨j,W,rfl⟩:=Ik.mp hw;have U:=JC (Jq.mp W).2;exact#[j,U,w1,by rw[cg];exact w2]
theorem BU {b:Pt}(hab:a≠b) {s t r L D:Rat}{w:Pt}(sr:s<=r) (rt:r<=t) (st:s<t) (hL:(0<L/\r<t)\/(L<0/\s<r)) (nm:∀r,C5 a b C (c7 a b r)->¬ (s<r/\r<t)) (hi:M0 a b C (c7 a b ((s+t) / 2))) (hw:j8 (d6 a b) w<0) (hD:0<D) :
  ∃δ,0<δ/\δ<=D/\Cn C (c7 a b r) (L*(d6 a b).1+δ*w.1,L*(d6 a b).2+δ*w.2):=by
 obtain⟨⟨z,hz,zn⟩,s1,s2,m1,m2,l1,l2,_⟩:=lq hC hab hi (by grind) (by grind) nm;have B:∀(j:Nat) (x y:Rat),a8 (tk C j) (tk C (j+1)) (c7 a b x) - a8 (tk C j) (tk C (j+1)) (c7 a b y)=(x - y)*j8 (d6 (tk C j) (tk C (j+1))) (d6 a b):=fun j x y=>by
  rw[Y1];unfold a8 j8 d6;grind
 have U:∀(j:Nat) (x:Rat),s2<=x->x<=s1->0<=a8 (tk C j) (tk C (j+1)) (c7 a b x):=fun j x x1 x2=>by
  have f1:=aP hC m1 j;have f2:=aP hC m2 j;have e1:=B j s1 x;have e2:=B j x s2;have a1:=Ie (show 0<=x - s2 by grind) f1;have a2:=Ie (show 0<=s1 - x by grind) f2;have id:(s1 - s2)*a8 (tk C j) (tk C (j+1)) (c7 a b x)=(x - s2)*a8 (tk C j) (tk C (j+1)) (c7 a b s1)+(s1 - x)*a8 (tk C j) (tk C (j+1)) (c7 a b s2):=by
   generalize a8 (tk C j) (tk C (j+1)) (c7 a b x)=X at *;generalize a8 (tk C j) (tk C (j+1)) (c7 a b s1)=Y at *;generalize a8 (tk C j) (tk C (j+1)) (c7 a b s2)=Z at *;generalize j8 (d6 (tk C j) (tk C (j+1))) (d6 a b)=K at *;have y:Y=X+(s1 - x)*K:=by grind
   have z:Z=X - (x - s2)*K:=by grind
   rw[y,z];grind
  refine Im.mp fun n=>?_
  have:=xr (show 0<s1 - s2 by grind) (show 0 < -a8 (tk C j) (tk C (j+1)) (c7 a b x) by grind);grind
 have J:∀j,a8 (tk C j) (tk C (j+1)) (c7 a b r)=0->0<L*j8 (d6 (tk C j) (tk C (j+1))) (d6 a b)\/(L*j8 (d6 (tk C j) (tk C (j+1))) (d6 a b)=0/\0<=j8 (d6 (tk C j) (tk C (j+1))) w):=fun j z=>by
  have gt:=U j t (by grind) l2;have gs:=U j s l1 (by grind);have et:=B j t r;have es:=B j r s;have em:=B j ((s+t) / 2) r;have hm:=hi j;generalize hk:j8 (d6 (tk C j) (tk C (j+1))) (d6 a b)=K at *;by_cases W:K=0
  .right;have mz:a8 (tk C j) (tk C (j+1)) (c7 a b ((s+t) / 2))=0:=by rw[W] at em;grind
   have dn:A0 (d6 (tk C j) (tk C (j+1))) (d6 a b)<=0:=by
    rcases hm with q | q
    .rw[mz] at q;exact absurd q Jk
    .exact q.2
   refine#[by rw[W];grind,?_];have id:((d6 a b).1*(d6 a b).1+(d6 a b).2*(d6 a b).2)*j8 (d6 (tk C j) (tk C (j+1))) w=A0 (d6 (tk C j) (tk C (j+1))) (d6 a b)*j8 (d6 a b) w+j8 (d6 (tk C j) (tk C (j+1))) (d6 a b)*A0 (d6 a b) w:=by
    unfold j8 A0;grind
   rw[hk,W] at id;have sp:0<(d6 a b).1*(d6 a b).1+(d6 a b).2*(d6 a b).2:=dk hC hab;have pr:=Ie (show 0 <= -A0 (d6 (tk C j) (tk C (j+1))) (d6 a b) by grind) (show 0 <= -j8 (d6 a b) w by grind);refine Im.mp fun n=>?_
   have:=xr sp (show 0 < -j8 (d6 (tk C j) (tk C (j+1))) w by grind);grind
  .left;rcases hL with ⟨L0,rt⟩ | ⟨L0,sr⟩
   .refine xr L0 ?_;refine IM.mp fun n=>?_
    have:=xr (show 0<t - r by grind) (show 0 < -K by grind);grind
   .have:0 < -K:=by
     refine IM.mp fun n=>?_
     have:=xr (show 0<r - s by grind) (show 0<K by grind);grind
    have:=xr (show 0 < -L by grind) this;grind
 obtain⟨δ,d1,d2,d3⟩:=mO hD ((gw C (c7 a b r)).map fun j=>(L*j8 (d6 (tk C j) (tk C (j+1))) (d6 a b),j8 (d6 (tk C j) (tk C (j+1))) w)) (fun x hx=>by
  obtain⟨j,hj,rfl⟩:=Ik.mp hx;exact J j (JC (Jq.mp hj).2))
 refine#[δ,d1,d2,fun j=>?_];by_cases z:a8 (tk C j) (tk C (j+1)) (c7 a b r)=0
 .refine .inr #[z,?_];obtain⟨e1,e2⟩:=bI hC j;have:=d3 _ (Ik.mpr #[_,iV hC z,rfl]);simp only at this;rw[e1,e2] at this;have e:j8 (d6 (tk C j) (tk C (j+1))) (L*(d6 a b).1+δ*w.1,L*(d6 a b).2+δ*w.2)=L*j8 (d6 (tk C j) (tk C (j+1))) (d6 a b)+δ*j8 (d6 (tk C j) (tk C (j+1))) w:=by
   unfold j8;grind
  rw[e];exact this
 .exact .inl (by have:=U j r (by grind) (by grind);grind)
end
theorem DQ {b v:Pt}(hab:a≠b) (h:j8 (d6 a b) v=0):∃L,v=(L*(d6 a b).1,L*(d6 a b).2):=by
 have sp:0<(d6 a b).1*(d6 a b).1+(d6 a b).2*(d6 a b).2:=by
  have s1:=N5 (d6 a b).1;have s2:=N5 (d6 a b).2;refine IM.mp fun n=>hab ?_
  have W:(d6 a b).1*(d6 a b).1=0:=by grind
  have U:(d6 a b).2*(d6 a b).2=0:=by grind
  have Y:b.1 - a.1=0:=by rcases IB.mp W with z | z <;> exact z
  have Z:b.2 - a.2=0:=by rcases IB.mp U with z | z <;> exact z
  exact Il (by grind) (by grind)
 generalize d6 a b=u at *;have B:u.1*u.1+u.2*u.2≠0:=by grind
 have e:=Jm (a:=u.1*v.1+u.2*v.2) B;generalize (u.1*v.1+u.2*v.2) / (u.1*u.1+u.2*u.2)=L at *;unfold j8 at h;have c:∀x:Rat,(u.1*u.1+u.2*u.2)*x=0->x=0:=fun x J=>by
  rcases IB.mp J with z | z
  .exact absurd z B
  .exact z
 have q1:=c (v.1 - L*u.1) (by grind);have q2:=c (v.2 - L*u.2) (by grind);exact#[L,Il (by grind) (by grind)]
section
variable (hC:ShC C)
include hC
theorem zE (h:∀j,0<=a8 (tk C j) (tk C (j+1)) p) (z:a8 (tk C j) (tk C (j+1)) p=0):∃r,p=c7 (tk C j) (tk C (j+1)) r/\0<=r/\r<=1:=by
 obtain⟨r,rfl⟩:=J8 (xu (hC.ne j)) z;refine#[r,rfl,?_,?_]
 .obtain⟨i,B,J⟩:=im hC j;have t:=ag hC i;have c:=S7 (tk C i) (tk C (i+1)) (tk C j) (tk C (j+1)) r;have g:=h i;rw[J] at t;rw[c,B] at g;rw[B] at t;have y:a8 (tk C i) (tk C j) (tk C j)=0:=by unfold a8;grind
  rw[y] at g;refine Im.mp fun n=>?_
  have:=xr (show 0 < -r by grind) t;grind
 .have t:=ag hC j;have c:=S7 (tk C (j+1)) (tk C (j+1+1)) (tk C j) (tk C (j+1)) r;have g:=h (j+1);rw[c] at g;have y:a8 (tk C (j+1)) (tk C (j+1+1)) (tk C (j+1))=0:=by unfold a8;grind
  have U:a8 (tk C (j+1)) (tk C (j+1+1)) (tk C j)=a8 (tk C j) (tk C (j+1)) (tk C (j+1+1)):=by unfold a8;grind
  rw[y,U] at g;refine Im.mp fun n=>?_
  have:=xr (show 0<r - 1 by grind) t;grind
theorem FG {r L:Rat}(h:Cn C (c7 (tk C j) (tk C (j+1)) r) (L*(d6 (tk C j) (tk C (j+1))).1,L*(d6 (tk C j) (tk C (j+1))).2)) (l:L≠0) (U:0<=r) (W:r<=1):(0<L/\r<1)\/(L<0/\0<r):=by
 rcases(show 0<L\/L<0 by grind) with p | p
 .refine .inl #[p,IM.mp fun n=>?_];have e:r=1:=by grind
  rw[e,Q0] at h;have t:=ag hC j;rcases h (j+1) with q | q
  .have y:a8 (tk C (j+1)) (tk C (j+1+1)) (tk C (j+1))=0:=by unfold a8;grind
   rw[y] at q;exact Jk q
  .have e:j8 (d6 (tk C (j+1)) (tk C (j+1+1))) (L*(d6 (tk C j) (tk C (j+1))).1,L*(d6 (tk C j) (tk C (j+1))).2) = -(L*a8 (tk C j) (tk C (j+1)) (tk C (j+1+1))):=by
    unfold j8 d6 a8;grind
   have:=xr p t;grind
 .refine .inr #[p,IM.mp fun n=>?_];have e:r=0:=by grind
  rw[e,M3] at h;obtain⟨i,B,J⟩:=im hC j;have t:=ag hC i;rw[J] at t;rcases h i with q | q
  .rw[B] at q;have y:a8 (tk C i) (tk C j) (tk C j)=0:=by unfold a8;grind
   rw[y] at q;exact Jk q
  .rw[B] at q t;have e:j8 (d6 (tk C i) (tk C j)) (L*(d6 (tk C j) (tk C (j+1))).1,L*(d6 (tk C j) (tk C (j+1))).2)=L*a8 (tk C i) (tk C j) (tk C (j+1)):=by
    unfold j8 d6 a8;grind
   have:=xr (show 0 < -L by grind) t;grind
theorem zG {d:Pt}(h:∀j,0<=a8 (tk C j) (tk C (j+1)) p) (Y:¬ (d.1=0/\d.2=0)):∃m,j8 d m≠0/\Cn C p m:=by
 have l:=v7 hC;obtain⟨c,B,n⟩:∃c∈C,j8 d (d6 p c)≠0:=by
  refine Jp fun g=>?_
  have g:∀c∈C,j8 d (d6 p c)=0:=fun c B=>Jp fun q=>g #[c,B,q]
  have U:=g _ (o9 0 l);have J:=g _ (o9 (0+1) l);have W:=g _ (o9 (0+1+1) l);have t:=ag hC 0;generalize tk C 0=x at *;generalize tk C (0+1)=y at *;generalize tk C (0+1+1)=z at *;unfold j8 d6 at U J W;simp only at U J W;have a1:d.1*(y.2 - x.2)=d.2*(y.1 - x.1):=by grind
  have a2:d.1*(z.2 - x.2)=d.2*(z.1 - x.1):=by grind
  have Z:d.1*a8 x y z=0:=by unfold a8;grind
  have k2:d.2*a8 x y z=0:=by unfold a8;grind
  refine Y #[?_,?_]
  .rcases IB.mp Z with q | q
   .exact q
   .rw[q] at t;exact absurd t Jk
  .rcases IB.mp k2 with q | q
   .exact q
   .rw[q] at t;exact absurd t Jk
 refine#[d6 p c,n,fun j=>?_];by_cases z:a8 (tk C j) (tk C (j+1)) p=0
 .refine .inr #[z,?_];have e:j8 (d6 (tk C j) (tk C (j+1))) (d6 p c)=a8 (tk C j) (tk C (j+1)) c - a8 (tk C j) (tk C (j+1)) p:=by unfold j8 d6 a8;grind
  rw[e,z];have:=hC.cv j c B;grind
 .exact .inl (by have:=h j;grind)
end
def aC (Ss:List (List Pt)) (p d m:Pt) (q:Rat):Prop:=0<q/\q<=1/\∃C∈Ss,Cn C p (Q6 d m q)/\∃j,a8 (tk C j) (tk C (j+1)) p=0/\j8 (d6 (tk C j) (tk C (j+1))) d<0/\j8 (d6 (tk C j) (tk C (j+1))) (Q6 d m q)=0
def wn (Ss:List (List Pt)) (p d m:Pt):List Rat:=Ss.flatMap fun C=>(gw C p).map fun j=>j8 (d6 (tk C j) (tk C (j+1))) d / (j8 (d6 (tk C j) (tk C (j+1))) d - j8 (d6 (tk C j) (tk C (j+1))) m)
theorem EY (hS:∀C∈Ss,ShC C) {d m:Pt}{q:Rat}(h:aC Ss p d m q):q∈wn Ss p d m:=by
 obtain⟨Z,W,C,hC,_,j,z,n,e⟩:=h;obtain⟨J,U⟩:=bI (hS C hC) j;refine Jl.mpr #[C,hC,Ik.mpr #[_,iV (hS C hC) z,?_]];rw[J,U];rw[cg] at e;generalize j8 (d6 (tk C j) (tk C (j+1))) d=α at *;generalize j8 (d6 (tk C j) (tk C (j+1))) m=β at *;have B:α - β≠0:=fun y=>by
  have:β=α:=by grind
  rw[this] at e;grind
 have Y:=Jm (a:=α) B;have:(α / (α - β) - q)*(α - β)=0:=by grind
 rcases IB.mp this with y | y
 .grind
 .exact absurd y B
def Fd (hS:∀C∈Ss,ShC C) {d m:Pt}{q:Rat}(h:aC Ss p d m q):∃x,aC Ss p d m x/\∀y,aC Ss p d m y->x<=y:=by
 letI:DecidablePred (aC Ss p d m):=fun _=>Classical.propDecidable _
 have B:∀y,y∈(wn Ss p d m).filter (fun y=>decide (aC Ss p d m y))↔aC Ss p d m y:=fun y=>by
  rw[Jq,Jb];exact#[fun z=>z.2,fun z=>#[EY hS z,z]]
 obtain⟨x,U,hm⟩:=jU _ (Nj ((B q).mpr h));exact#[x,(B x).mp U,fun y J=>hm y ((B y).mpr J)]
def pk (Ss:List (List Pt)) (p:Pt):Prop:=∀k,k<Ss.length->∀(j:Nat) (s t r:Rat),El (tk (d9 Ss k) j) (tk (d9 Ss k) (j+1)) (C9 Ss k) s t->p=c7 (tk (d9 Ss k) j) (tk (d9 Ss k) (j+1)) r->s<=r->r<=t->∃C∈C9 Ss k,M0 (tk (d9 Ss k) j) (tk (d9 Ss k) (j+1)) C (c7 (tk (d9 Ss k) j) (tk (d9 Ss k) (j+1)) ((s+t) / 2))
theorem oO (hS:∀C∈Ss,ShC C) {d:Pt}(np:pk Ss p) {A:vT_}(hA:A∈Ss) (pA:∀j,0<=a8 (tk A j) (tk A (j+1)) p) (hd:¬ (d.1=0/\d.2=0)):∃C∈Ss,Cn C p d:=by
 refine Jp fun n=>?_
 have n:∀C∈Ss,¬ Cn C p d:=fun C hC z=>n #[C,hC,z]
 obtain⟨m,hm,cm⟩:=zG (hS A hA) pA hd;have U:∀{C:vT_},C∈Ss->∀{t:Rat},0<t->t<=1->Cn C p (Q6 d m t)->∃q,q<=t/\aC Ss p d m q:=fun {C} hC {t} t0 t1 h=>by
  obtain⟨q,q0,q1,c,j,z⟩:=BK (hS C hC) t0 h (n C hC);exact#[q,q1,q0,by grind,C,hC,c,j,z]
 have m1:Q6 d m 1=m:=Il (by unfold Q6;simp only;grind) (by unfold Q6;simp only;grind);obtain⟨q0,_,b0⟩:=U hA (t:=1) (by grind) Kg (by rw[m1];exact cm);obtain⟨q,⟨qp,q1,C,hC,cq,j,z,an,eq⟩,B⟩:=Fd hS b0;have sC:=hS C hC;obtain⟨k,hk⟩:=Kb hC;have kl:=(IK.mp hk).1;rw[cO kl] at hk;cases hk;have hab:tk (d9 Ss k) j≠tk (d9 Ss k) (j+1):=xu (sC.ne j);obtain⟨r,hp,r0,r1⟩:=zE sC (fun j=>by rcases cq j with w | w <;> grind) z;obtain⟨L,hL⟩:=DQ hab eq;have lz:L≠0:=fun y=>by
  rw[y] at hL;have e:=cg d d m q;rw[hL] at e;have dd0:j8 d d=0:=by unfold j8;grind
  have:q*j8 d m=0:=by
   unfold j8 at e dd0 ⊢;simp only at e;grind
  rcases IB.mp this with y | y
  .rw[y] at qp;exact Jk qp
  .exact hm y
 have Z:=cq;rw[hL,hp] at Z;have W:=FG sC Z lz r0 r1;have hO:∀C∈C9 Ss k,ShC C:=fun C h=>hS C (U7 C h)
 have bn:j8 (d6 (tk (d9 Ss k) j) (tk (d9 Ss k) (j+1))) (d.1 - m.1,d.2 - m.2)<0:=by
  rw[cg] at eq;have e:j8 (d6 (tk (d9 Ss k) j) (tk (d9 Ss k) (j+1))) (d.1 - m.1,d.2 - m.2)=j8 (d6 (tk (d9 Ss k) j) (tk (d9 Ss k) (j+1))) d - j8 (d6 (tk (d9 Ss k) j) (tk (d9 Ss k) (j+1))) m:=by unfold j8;grind
  rw[e];generalize j8 (d6 (tk (d9 Ss k) j) (tk (d9 Ss k) (j+1))) d=α at *;generalize j8 (d6 (tk (d9 Ss k) j) (tk (d9 Ss k) (j+1))) m=β at *;have y:=Ie (show 0<=1 - q by grind) (show 0 <= -α by grind);refine IM.mp fun w=>?_
  have:=xr qp (show 0 < -β by grind);grind
 have Y:∃s t,El (tk (d9 Ss k) j) (tk (d9 Ss k) (j+1)) (C9 Ss k) s t/\s<=r/\r<=t/\((0<L/\r<t)\/(L<0/\s<r)):=by
  rcases W with ⟨l,w⟩ | ⟨l,w⟩
  .obtain⟨s,t,e,x,y⟩:=GS hab hO r0 w;exact#[s,t,e,x,by grind,.inl #[l,y]]
  .obtain⟨s,t,e,x,y⟩:=CT hab hO w r1;exact#[s,t,e,by grind,y,.inr #[l,x]]
 obtain⟨s,t,el,sr,rt,hl⟩:=Y;obtain⟨C',J,hi⟩:=np k kl j s t r el hp sr rt;obtain⟨δ,d1,d2,c⟩:=BU (hO C' J) hab sr rt el.lt hl (cw el J) hi bn (show 0<q / 2 by grind);have back:Q6 d m (q - δ)=(L*(d6 (tk (d9 Ss k) j) (tk (d9 Ss k) (j+1))).1+δ*(d.1 - m.1),L*(d6 (tk (d9 Ss k) j) (tk (d9 Ss k) (j+1))).2+δ*(d.2 - m.2)):=by
  have y1:=congrArg Prod.fst hL;have y2:=congrArg Prod.snd hL;unfold Q6 at y1 y2 ⊢;simp only at y1 y2;exact Il (by simp only;grind) (by simp only;grind)
 rw[<-hp,<-back] at c;obtain⟨x,xl,hx⟩:=U (U7 C' J) (t:=q - δ) (by grind) (by grind) c;have:=B x hx;grind
theorem HP (hC:ShC C) {d:Pt}(h:Cn C p d):∃δ,0<δ/\Ip C (p.1+δ*d.1,p.2+δ*d.2):=by
 have l:=v7 hC;obtain⟨δ,J,_,W⟩:=mO (show (0:Rat)<1 by grind) ((List.range C.length).map fun j=>(a8 (tk C j) (tk C (j+1)) p,j8 (d6 (tk C j) (tk C (j+1))) d)) (fun x B=>by
  obtain⟨j,_,rfl⟩:=Ik.mp B;exact h j)
 refine#[δ,J,om hC.cv hC.ne hC.nc fun j=>?_];have:=W _ (Ik.mpr #[j % C.length,JD.mpr (IV j l),rfl]);obtain⟨U,Y⟩:=bI hC j;simp only at this;rw[U,Y] at this;have e:a8 (tk C j) (tk C (j+1)) (p.1+δ*d.1,p.2+δ*d.2)=a8 (tk C j) (tk C (j+1)) p+δ*j8 (d6 (tk C j) (tk C (j+1))) d:=by unfold a8 j8 d6;grind
 rw[e];exact this
section
variable (hS:∀C∈Ss,ShC C) (h4:Ss.length<=4)
include hS h4
theorem cG (u:Pt × Pt):u∈B4 Ss↔∃k,k<Ss.length/\∃j,u∈E9 (tk (d9 Ss k) j) (tk (d9 Ss k) (j+1)) Ss:=by
 have Z:=bV (D6 Ss Ss) [];have m:u∈B4 Ss↔u∈D6 Ss Ss:=#[nL,fun h=>by
  unfold B4;exact gx _ ((jo _ _ _).mpr (.inr h))]
 rw[m];unfold D6 N7;simp only[Jl];constructor
 .rintro⟨A,hA,e,W,h⟩;obtain⟨k,hk⟩:=Kb hA;have B:=(IK.mp hk).1;rw[cO B] at hk;cases hk;obtain⟨j,_,rfl⟩:=eB W;exact#[k,B,j,h]
 .rintro⟨k,B,j,h⟩;have hA:=M2 B;have l:=v7 (hS _ hA);obtain⟨U,Y⟩:=bI (hS _ hA) j;have J:=Ju (bh (A:=d9 Ss k) (IV j l));rw[U,Y] at J;exact#[_,hA,_,J,h]
theorem qL (h:∀u∈B4 Ss,B3 u.1 u.2 p=false):pk Ss p:=fun k hk j s t r B hp Y rt=>by
 refine Jp fun n=>?_
 have hA:=hS _ (M2 hk);have hab:tk (d9 Ss k) j≠tk (d9 Ss k) (j+1):=xu (hA.ne j);have b:=h _ ((cG hS h4 _).mpr #[k,hk,j,(fj hS h4 hk j _).mpr #[s,t,B,rfl,fun C hC z=>n #[C,hC,z]]]);have st:=B.lt;generalize tk (d9 Ss k) j=x at *;generalize tk (d9 Ss k) (j+1)=y at *;have U:t - s≠0:=by grind
 have Z:=Jm (a:=r - s) U;have e:p=c7 (c7 x y s) (c7 x y t) ((r - s) / (t - s)):=by
  rw[hp];generalize (r - s) / (t - s)=z at *;unfold c7;have q:r=s+z*(t - s):=by grind
  rw[q];exact Il (by simp only;grind) (by simp only;grind)
 have ne:c7 x y s≠c7 x y t:=fun z=>by have:=W6 hab z;grind
 simp only at b;rw[e,eG ne] at b;have J:0<=(r - s) / (t - s):=by
  refine Im.mp fun w=>?_
  have:=xr (show 0 < -((r - s) / (t - s)) by grind) (show 0<t - s by grind);grind
 have W:(r - s) / (t - s)<=1:=by
  refine Im.mp fun w=>?_
  have:=xr (show 0<(r - s) / (t - s) - 1 by grind) (show 0<t - s by grind);grind
 rw[IH J,IH W] at b;cases b
theorem AY (h1:Ss≠[]):B4 Ss≠[]:=fun z=>by
 have ne:(Ss.flatMap fun C=>C.map Prod.snd)≠[]:=by
  obtain⟨C,r,e⟩:=Ob h1;have hC:=hS C (by rw[e];exact iR ..);exact Nj (Jl.mpr #[C,by rw[e];exact iR ..,Ik.mpr #[_,o9 0 (v7 hC),rfl]])
 obtain⟨y,J,B⟩:=jU _ ne;obtain⟨A,hA,J⟩:=Jl.mp J;obtain⟨p,hp,rfl⟩:=Ik.mp J;obtain⟨C,hC,c⟩:=oO hS (p:=p) (d:=(0,-1)) (qL hS h4 fun u U=>by rw[z] at U;cases U) hA (fun j=>(hS A hA).cv j p hp) (fun w=>by have h:(-1:Rat)=0:=w.2;grind);obtain⟨δ,d1,Y⟩:=HP (hS C hC) c;obtain⟨w,Z,W⟩:=Y 0 (-1);have:=B _ (Jl.mpr #[C,hC,Ik.mpr #[w,Z,rfl]]);simp only at W this;grind
end
theorem zV {b:Pt}(g:Int) (h:Cn C p ((g:Rat) * -(b.2 - a.2),(g:Rat)*(b.1 - a.1))):U2 a b C g p:=fun j=>by
 rcases h j with q | ⟨q,w⟩
 .exact .inl q
 .refine .inr #[q,?_];have e:j8 (d6 (tk C j) (tk C (j+1))) ((g:Rat) * -(b.2 - a.2),(g:Rat)*(b.1 - a.1))=(g:Rat)*A0 (d6 (tk C j) (tk C (j+1))) (d6 a b):=by unfold j8 A0 d6;grind
  rw[<-e];exact w
theorem DN (hS:∀C∈Ss,ShC C) (h4:Ss.length<=4) {A:vT_}(hA:A∈Ss) (i:Nat) {r:Rat}(W:0<=r) (r1:r<=1) (hp:p=c7 (tk A i) (tk A (i+1)) r) (h:∀u∈B4 Ss,B3 u.1 u.2 p=false) {g:Int}(hg:g=1\/g = -1):∃C∈Ss,U2 (tk A i) (tk A (i+1)) C g p:=by
 have B:=hS A hA;have l:=v7 B;have hab:tk A i≠tk A (i+1):=xu (B.ne i);have pA:∀j,0<=a8 (tk A j) (tk A (j+1)) p:=fun j=>by
  have Y:=B.cv j _ (o9 i l);have c2:=B.cv j _ (o9 (i+1) l);have e:=S7 (tk A j) (tk A (j+1)) (tk A i) (tk A (i+1)) r;have p1:=Ie (show 0<=1 - r by grind) Y;have p2:=Ie W c2;rw[hp];grind
 have Z:(g:Rat)=1\/(g:Rat) = -1:=by
  rcases hg with rfl | rfl
  .exact .inl rfl
  .exact .inr rfl
 obtain⟨C,hC,c⟩:=oO hS (p:=p) (d:=((g:Rat) * -((tk A (i+1)).2 - (tk A i).2),(g:Rat)*((tk A (i+1)).1 - (tk A i).1))) (qL hS h4 h) hA pA (fun w=>hab (by
  have J:=w.1;have U:=w.2;simp only at J U;rcases Z with z | z
  .rw[z] at J U;exact Il (by grind) (by grind)
  .rw[z] at J U;exact Il (by grind) (by grind)))
 exact#[C,hC,zV g c]
theorem wQ {b:Pt}(ha:Ps 8 a) (hb:Ps 8 b) {t:Int}(t0:0<=t) (t1:t<13) (fs:vO_):∃p,ai [.int ((12 - t)*pX a*pL b+t*pX b*pL a),.int ((12 - t)*pY a*pL b+t*pY b*pL a),.int (12*pL a*pL b)] fs=some (pt p,fs)/\Ps 24 p/\p=c7 a b ((t:Rat) / 12):=by
 have la:=V2 a;have lb:=V2 b;have Y:0<12*pL a*pL b:=Lc ∅ lb;have J:Bd 4 (12:Int):=Bd.lit #[];have U:Bd 4 t:=by unfold Bd;omega
 have bs:Bd 4 (12 - t):=by unfold Bd;omega
 have Z:Bd 24 (12*pL a*pL b):=((J.mul ha.l).mul hb.l).mono #[];have bX:Bd 24 ((12 - t)*pX a*pL b+t*pX b*pL a):=(((bs.mul ha.x).mul hb.l).add ((U.mul hb.x).mul ha.l)).mono #[];have bY:Bd 24 ((12 - t)*pY a*pL b+t*pY b*pL a):=(((bs.mul ha.y).mul hb.l).add ((U.mul hb.y).mul ha.l)).mono #[];have w:=jO ((12 - t)*pX a*pL b+t*pX b*pL a) ((12 - t)*pY a*pL b+t*pY b*pL a) (12*pL a*pL b) fs ∅ Z #[];refine#[_,w,Ps.com ∅ bX bY Z,?_];have B:((12:Int):Rat)=12:=rfl;have W:(t:Rat) / 12*12=t:=Jm (by grind);refine Il ?_ ?_
 .refine iB (Int.ne_of_gt Y) ?_;show (a.1+(t:Rat) / 12*(b.1 - a.1))*_=_;generalize (t:Rat) / 12=z at *;simp only[JO,JL,Ih,K5,B,<-W];grind
 .refine iB (Int.ne_of_gt Y) ?_;show (a.2+(t:Rat) / 12*(b.2 - a.2))*_=_;generalize (t:Rat) / 12=z at *;simp only[JO,JL,Ih,K4,B,<-W];grind
abbrev df:a9:=wv F2 F1 X2 ai G3 aN
def CC {a b:DM}{s:DS}{d:DL.D}(h:a s=some (.ret d,s1)):f6 a b s=some (.ret d,s1):=by
 unfold f6;rw[h];rfl
theorem kW (hp:Ps 35 p) (hs:K2 [8] sl=[.v (pt p)]) (fs:vO_):∀us:List (Pt × Pt),(∀u∈us,Ps 35 u.1/\Ps 35 u.2)->A3 (P7 [8] sl) A5 (d8 X2 (a0 (dV 0) (a0 (dV 1) (a0 (dV 2) b9)))) (us.map d7) fs=some ((us.map fun u=>B3 u.1 u.2 p).map D.bl,fs)
 |[],_=>rfl
 |u::r,h=>by
  obtain⟨h1,h2⟩:=h u (iR ..);have w:=vV u.1 u.2 p fs h1 h2 hp #[];have i:=kW hp hs fs r fun z B=>h z (iU _ B)
  have m:P7 [8] sl (d7 u)=some [.v (pt u.1),.v (pt u.2),.v (pt p)]:=by
   show some (Sl.v (pt u.1)::Sl.v (pt u.2)::K2 [8] sl)=_;rw[hs]
  rw[Iv,A3,m,td,show A5 #[[.v (pt u.1),.v (pt u.2),.v (pt p)],fs]=some (true,#[[.v (pt u.1),.v (pt u.2),.v (pt p)],fs]) from rfl,td,fx rfl,r8 (f7 rfl (f7 rfl (f7 rfl rfl))) w,td,i];rfl
abbrev Q8 (S P:DL.D) (x3 x4 x5 x6 x7 x8:Sl) (fs:vO_):DS:=#[[.v .feed,.v S,.v P,x3,x4,x5,x6,x7,x8],fs]
def DG {S P a b p B U:DL.D}{fs:vO_}(Y:F1 [a,b,p,.int 1] fs=some (B,fs)) (W:F1 [a,b,p,.int (-1)] fs=some (U,fs)) (Z:F2 [S,B] fs=some (.bl true,fs)) (a2:F2 [S,U] fs=some (.bl true,fs)) :
  j5 (a7 Z2 (dC (.bl false)) (p9 (F9 [1,4,5,8] (E7 (i9 (a0 (Od 1) (a0 (u6 u8 (Od 1)) b9)))) A5 (d8 F2 (a0 (dV 1) (a0 (d8 F1 (a0 (dV 2) (a0 (dV 3) (a0 (dV 4) (a0 (dV 0) b9))))) b9)))))) (Q8 S P x3 (.v a) (.v b) x6 x7 (.v p) fs)=some (.ret (.bl true),Q8 S P x3 (.v a) (.v b) x6 x7 (.v p) fs):=by
 have st:∀(g:Int) (c:DL.D),F1 [a,b,p,.int g] fs=some (c,fs)->F2 [S,c] fs=some (.bl true,fs)->d8 F2 (a0 (dV 1) (a0 (d8 F1 (a0 (dV 2) (a0 (dV 3) (a0 (dV 4) (a0 (dV 0) b9))))) b9)) #[[.v (.int g),.v S,.v a,.v b,.v p],fs]=some (.bl true,#[[.v (.int g),.v S,.v a,.v b,.v p],fs]):=fun g c e w=>r8 (f7 rfl (f7 (r8 (f7 rfl (f7 rfl (f7 rfl (f7 rfl rfl)))) e) rfl)) w
 have J:A3 (fun d=>some (.v d::[.v S,.v a,.v b,.v p])) A5 (d8 F2 (a0 (dV 1) (a0 (d8 F1 (a0 (dV 2) (a0 (dV 3) (a0 (dV 4) (a0 (dV 0) b9))))) b9))) [.int 1,.int (-1)] fs=some ([true,true].map D.bl,fs):=by
  have y:∀s:DS,A5 s=some (true,s):=fun _=>rfl
  rw[A3,td,y,td,fx rfl,st 1 B Y Z,td,A3,td,y,td,fx rfl,st (-1) U W a2,td];rfl
 have it:E7 (i9 (a0 (Od 1) (a0 (u6 u8 (Od 1)) b9))) (Q8 S P x3 (.v a) (.v b) x6 x7 (.v p) fs)=some ([.int 1,.int (-1)],Q8 S P x3 (.v a) (.v b) x6 x7 (.v p) fs):=rfl;exact B0 (c8 rfl (aS (eC it (by show 2<=sizeLine;decide) J)) (pS [true,true]).2)
theorem Gp (hS:∀C∈Ss,ShC C) (h4:Ss.length<=4) (h1:1<=Ss.length) {f:FS}(h:Fd4 n f) (hn:n<2 ^ 28):∃f',df [.feed,.tup (Ss.map i7),.lst ((B4 Ss).map d7)] (some f)=some (.bl true,some f')/\Fd4 (n+3) f':=by
 obtain⟨r1,f1,e1,a1,a2,g1⟩:=N8 (Ss.length:Int) h;obtain⟨k,rfl⟩:=KR a1;have kl:k<Ss.length:=by omega
 have hA:=hS _ (M2 kl);have l3:=hA.lo;have l6:=hA.hi;obtain⟨r2,f2,e2,b1,b2,g2⟩:=N8 ((d9 Ss k).length:Int) g1;obtain⟨j,rfl⟩:=KR b1;have jl:j<(d9 Ss k).length:=by omega
 obtain⟨t,B,e3,c1,c2,g3⟩:=N8 13 g2;have l:=v7 hA;have ha:=(hA.sz _ (o9 j l)).1;have hb:=(hA.sz _ (o9 (j+1) l)).1;obtain⟨p,w,hp,pe⟩:=wQ ha hb c1 c2 (some B);refine#[B,?_,g3];have len1:one o6 [.tup (Ss.map i7)]=some (.int (Ss.length:Int)):=oC (by rw[xo]);have len2:one o6 [i7 (d9 Ss k)]=some (.int ((d9 Ss k).length:Int)):=oC (by rw[xo]);have i0:d5 (.tup (Ss.map i7)) (.int (k:Int))=some (i7 (d9 Ss k)):=(Y8 _ _).trans (Y7 (by rw[IT,cO kl];rfl));have i1:d5 (.lst ((f8 true (d9 Ss k)).map d7)) (.int (j:Int))=some (d7 (tk (d9 Ss k) j,tk (d9 Ss k) (j+1))):=(U6 _ _).trans (Y7 (by rw[IT,bh jl];rfl));have ed:=wo (d9 Ss k) (some f1) ∅;have ps:∀u∈B4 Ss,Ps 35 u.1/\Ps 35 u.2:=fun u hu=>by
  obtain⟨k',kl',j',hj⟩:=(cG hS h4 u).mp hu;have Y:=hS _ (M2 kl');have l':=v7 Y;exact jB (Y.sz _ (o9 j' l')).1 (Y.sz _ (o9 (j'+1) l')).1 hS u hj
 have pl:=qX Ss;have bl:=lh hS h4;have J:=fun (sl:List Sl) (hs:K2 [8] sl=[.v (pt p)])=>kW (hp.mono #[]) hs (some B) (B4 Ss) ps
 have Z:Ps 35 (tk (d9 Ss k) j):=ha.mono #[];have W:Ps 35 (tk (d9 Ss k) (j+1)):=hb.mono #[];have U:Ps 109 p:=hp.mono #[];have ar:(∀u∈B4 Ss,B3 u.1 u.2 p=false)->∀g:Int,g=1\/g = -1->F2 [.tup (Ss.map i7),P1 (tk (d9 Ss k) j) (tk (d9 Ss k) (j+1)) p g] (some B)=some (.bl true,some B):=fun ho g hg=>by
  have tp:(0:Rat)<=(t:Rat):=by exact_mod_cast c1
  have tq:(t:Rat)<=12:=by
   have:t<=12:=by omega
   exact_mod_cast this
  have dv:(t:Rat) / 12*12=t:=Jm (by grind);obtain⟨C,hC,q⟩:=DN hS h4 (M2 kl) j (r:=(t:Rat) / 12) (by grind) (by grind) pe ho hg;have z:=lC Z W U hg hS ∅ (some B);rw[Kk.mpr #[C,hC,(mP Z W U hg (hS C hC)).mpr q]] at z;exact z
 have bs:=fun g hg=>kO Z W U (s:=g) hg (some B)
 have M:∀{x y:Int}{kx ky:Nat},Bd kx x->Bd ky y->kx<=40->ky<=40->j9 (.int x) (.int y)=some (.int (x*y)):=fun hx hy h1 h2=>D8 (hx.bits ∅) (hy.bits ∅)
 have bt:Bd 4 t:=by unfold Bd;omega
 have bq:Bd 4 (12 - t):=by unfold Bd;omega
 have b12:Bd 4 (12:Int):=Bd.lit #[];have m1:=M bq ha.x #[] #[];have m2:=M (bq.mul ha.x) hb.l #[] #[];have m3:=M bt hb.x #[] #[];have m4:=M (bt.mul hb.x) ha.l #[] #[];have m5:=M bq ha.y #[] #[];have m6:=M (bq.mul ha.y) hb.l #[] #[];have m7:=M bt hb.y #[] #[];have m8:=M (bt.mul hb.y) ha.l #[] #[];have m9:=M b12 ha.l #[] #[];have n1:=M (b12.mul ha.l) hb.l #[] #[];clear J;have J:=fun (sl:List Sl) (hs:K2 [8] sl=[.v (pt p)])=>kW (hp.mono #[]) hs (some B) (B4 Ss) ps
 generalize hP:D.lst ((B4 Ss).map d7)=P at *;generalize hSt:D.tup (Ss.map i7)=St at *;generalize hAt:i7 (d9 Ss k)=At at *;generalize tk (d9 Ss k) j=a at *;generalize tk (d9 Ss k) (j+1)=b at *;refine u9 (s:=Q8 St P (.v At) (.v (pt a)) (.v (pt b)) (.v (.int t)) (.v (.int ((12 - t)*pX a*pL b+t*pX b*pL a))) (.v (pt p)) (some B)) ?_;show mM F2 F1 X2 ai G3 aN (Q8 St P .no .no .no .no .no .no (some f))=_;unfold mM;refine l8 (s1:=Q8 St P (.v At) .no .no .no .no .no (some f1)) (B1 (c8 rfl (K8 (f7 rfl (f7 (aj rfl len1) rfl)) e1) i0) rfl) ?_;refine l8 (s1:=Q8 St P (.v At) (.v (pt a)) (.v (pt b)) .no .no .no (some f2)) (B1 (c8 (K8 rfl ed) (K8 (f7 rfl (f7 (aj rfl len2) rfl)) e2) i1) rfl) ?_;refine l8 (s1:=Q8 St P (.v At) (.v (pt a)) (.v (pt b)) (.v (.int t)) .no .no (some B)) (B1 (K8 rfl e3) rfl) ?_;refine l8 (s1:=Q8 St P (.v At) (.v (pt a)) (.v (pt b)) (.v (.int t)) (.v (.int ((12 - t)*pX a*pL b+t*pX b*pL a))) .no (some B)) (B1 (c8 (c8 (c8 (c8 rfl rfl rfl) (c8 rfl rfl (Z3 a)) m1) (c8 rfl rfl (S3 b)) m2) (c8 (c8 rfl (c8 rfl rfl (Z3 b)) m3) (c8 rfl rfl (S3 a)) m4) rfl) rfl) ?_;refine l8 (s1:=Q8 St P (.v At) (.v (pt a)) (.v (pt b)) (.v (.int t)) (.v (.int ((12 - t)*pX a*pL b+t*pX b*pL a))) (.v (pt p)) (some B)) (B1 (r8 (f7 rfl (f7 (c8 (c8 (c8 (c8 rfl rfl rfl) (c8 rfl rfl (X1 a)) m5) (c8 rfl rfl (S3 b)) m6) (c8 (c8 rfl (c8 rfl rfl (X1 b)) m7) (c8 rfl rfl (S3 a)) m8) rfl) (f7 (c8 (c8 rfl (c8 rfl rfl (S3 a)) m9) (c8 rfl rfl (S3 b)) n1) rfl))) w) rfl) ?_;generalize (12 - t)*pX a*pL b+t*pX b*pL a=X at *;have it:E7 (dV 2) (Q8 St P (.v At) (.v (pt a)) (.v (pt b)) (.v (.int t)) (.v (.int X)) (.v (pt p)) (some B))=some ((B4 Ss).map d7,Q8 St P (.v At) (.v (pt a)) (.v (pt b)) (.v (.int t)) (.v (.int X)) (.v (pt p)) (some B)):=by rw[<-hP];rfl
 have lz:((B4 Ss).map d7).length<=sizeLine:=by rw[xo];exact Ij (show _<=1000 by omega) #[]
 have ti:=tm ((B4 Ss).map fun u=>B3 u.1 u.2 p);have c:=J0 (c8 (a:=dC (.bl true)) (p:=N6) rfl (aS (dJ it lz (J _ rfl))) ti);cases q:((B4 Ss).map fun u=>B3 u.1 u.2 p).any id with
 |true=>
  rw[q] at c;exact CC ((P8 c).trans (B0 rfl))
 |false=>
  rw[q] at c;refine l8 (Y5 c) ?_;have ho:∀u∈B4 Ss,B3 u.1 u.2 p=false:=fun u hu=>by
   have:=LH.mp q (B3 u.1 u.2 p) (Ik.mpr #[u,hu,rfl]);simpa using this
  exact DG (bs 1 (.inl rfl)) (bs (-1) (.inr rfl)) (ar ho 1 (.inl rfl)) (ar ho (-1) (.inr rfl))
def Ap {f:FS}(h:Fd4 n f) (hn:n<2 ^ 26) {t:Nt}(ht:NtOk t) {far:Int}(W:0<=far/\far<=14):∃(Ss:List (List Pt)) (f':FS),dc [.feed,G5 t,.int 4,.int far] (some f)=some (.tup (Ss.map i7),some f')/\(∀A∈Ss,ShC A)/\1<=Ss.length/\Ss.length<=4/\Fd4 (n+25) f':=by
 obtain⟨r,f1,Y,Z,a2,h1⟩:=N8 4 h;obtain⟨k,rfl⟩:=KR Z;have el:((1+k:Nat):Int)=1+(k:Int):=by omega
 obtain⟨s',e,Ss,U,J,x7,x8,f',rfl,hS,hl,h'⟩:=cy (t:=e7 5) (b:=bJ G3 ft aR aV) (fun i s=>∃Ss U J x7 x8 f',s=D7 t (.v (.int 4)) far Ss U J x7 x8 f'/\(∀A∈Ss,ShC A)/\Ss.length=i/\Fd4 (n+1+6*i) f') (B7 0 (1+k)) 0
  (D7 t (.v (.int 4)) far [] .no .no .no .no f1) #[[],_,_,_,_,f1,rfl,fun A hA=>(by cases hA),rfl,h1] (by
   rintro i d s hd ⟨Ss,U,J,x7,x8,f2,rfl,hS,hl,h2⟩;obtain⟨rfl,il⟩:=fM hd;rw[La] at *;obtain⟨A,y6,y7,y8,f3,hA,e,h3⟩:=xA h2 ∅ ht W hS ∅ (.v (.int 4)) (.v (.int (0+(i:Int)))) J x7 x8;exact#[D7 t (.v (.int 4)) far Ss (.v (.int (0+(i:Int)))) J x7 x8 f2,_,rfl,.inl e,Ss++[A],_,_,_,_,f3,rfl,fun B hB=>by
    rcases IJ.mp hB with q | q
    .exact hS B q
    .rw[IA.mp q];exact hA,by rw[IQ,MD,hl],h3.mono ∅])
 rw[La,cT] at hl h';have r1:T7 [.int (1+(k:Int))]=some (B7 0 (1+k)):=by rw[<-el];exact eQ ∅
 refine#[Ss,f',u9 (s:=D7 t (.v (.int 4)) far Ss U J x7 x8 f') ?_,hS,by omega,by omega,h'.mono ∅];show kf G3 ft aR aV #[[.v .feed,.v (G5 t),.v (.int 4),.v (.int far),.no,.no,.no,.no,.no],some f]=_;unfold kf;refine l8 (s1:=D7 t (.v (.int 4)) far [] .no .no .no .no f) (W7 (i:=4) (s1:=#[[.v .feed,.v (G5 t),.v (.int 4),.v (.int far),.no,.no,.no,.no,.no],some f]) (ds:=[]) rfl (by show 4<9;decide)) ?_;refine l8 ((iJ (s1:=D7 t (.v (.int 4)) far [] .no .no .no .no f1) (G4 (c8 rfl (K8 rfl Y) rfl) rfl) r1).trans e) ?_;exact B0 (aj rfl rfl)
theorem lM (c d:Pt) (x y r:Rat):c7 (c7 c d x) (c7 c d y) r=c7 c d (x+r*(y - x)):=by
 unfold c7;exact Il (by grind) (by grind)
theorem uo {x:Rat}(h:x≠0):0<x*x:=by
 rcases(show x<0\/0<x by grind) with q | q
 .have:=xr (show 0 < -x by grind) (show 0 < -x by grind);grind
 .exact xr q q
def lP {x y:Rat}(B:x≠0) (h:x*y=0):y=0:=by
 rcases IB.mp h with z | z
 .exact absurd z B
 .exact z
theorem AU {A:vT_}(hA:ShC A) {r q:Rat}(Z:0<=r) (r1:r<=1) (q0:0<q) (q1:q<1) (e:c7 (tk A i) (tk A (i+1)) r=c7 (tk A j) (tk A (j+1)) q):tk A i=tk A j/\tk A (i+1)=tk A (j+1):=by
 have l:=v7 hA;have J:=xu (hA.ne j);have W:=P9 (tk A j) (tk A (j+1)) q;rw[<-e,S7] at W;have c1:=hA.cv j _ (o9 i l);have c2:=hA.cv j _ (o9 (i+1) l);have U:∀{x y:Nat},tk A x=tk A y->tk A (x+1)=tk A (y+1):=fun h=>by
  have m:=U9 hA h;unfold tk;rw[show ∀a b:Nat,a % A.length=b % A.length->(a+1) % A.length=(b+1) % A.length from fun a b h=>by rw[JP,h,<-JP]];exact m
 have nc:∀{p:Pt},p=c7 (tk A j) (tk A (j+1)) q->p≠tk A j:=fun hp h=>by
  rw[h,<-M3 (tk A j) (tk A (j+1)),M3] at hp;have:=W6 J ((M3 _ _).trans hp);grind
 have Y:∀{p:Pt},p=c7 (tk A j) (tk A (j+1)) q->p≠tk A (j+1):=fun hp h=>by
  rw[h] at hp;have:=W6 J ((Q0 _ _).trans hp);grind
 rcases hA.st j _ (o9 i l) with w | w | w
 .exact#[w,U w]
 .exfalso;rcases hA.st j _ (o9 (i+1) l) with w2 | w2 | w2
  .have t:=ag hA j;rw[<-U w,w2] at t;unfold a8 at t;grind
  .exact hA.ne i (w2.trans w.symm)
  .have B:r=0:=by
    refine Jp fun h=>?_
    have p1:=Ie (show 0<=1 - r by grind) c1;have p2:=xr (show 0<r by grind) w2;grind
   rw[B,M3] at e;exact Y e w
 .exfalso;have B:r=1:=by
   refine Jp fun h=>?_
   have p1:=xr (show 0<1 - r by grind) w;have p2:=Ie Z c2;grind
  rw[B] at W;rw[B,Q0] at e;rcases hA.st j _ (o9 (i+1) l) with w2 | w2 | w2
  .exact nc e w2
  .exact Y e w2
  .grind
theorem Bv {A:vT_}(i:Nat) {c d:Pt}{r:Rat}(W:0<=r) (r1:r<=1) (B:a8 c d (c7 (tk A i) (tk A (i+1)) r)=0) (nm:¬ C5 c d A (c7 (tk A i) (tk A (i+1)) r)):0<r/\r<1/\a8 c d (tk A i)=0/\a8 c d (tk A (i+1))=0:=by
 by_cases U:r=0
 .rw[U,M3] at nm B;exact absurd (.inl #[i,rfl,B]) nm
 .by_cases h1:r=1
  .rw[h1,Q0] at nm B;exact absurd (.inl #[i+1,rfl,B]) nm
  .have e:=B;rw[S7] at e;have nz:¬ a8 c d (tk A i)*a8 c d (tk A (i+1))<0:=fun h=>nm (.inr #[i,h,by
    obtain⟨t,_,_,J,Y⟩:=T5 h;rw[J,S7] at Y;rw[J];generalize a8 c d (tk A i)=x at *;generalize a8 c d (tk A (i+1))=y at *;have:(x - y)*(t - r)=0:=by grind
    have xy:x - y≠0:=fun z=>by
     have:x*y=x*x:=by grind
     have:=N5 x;grind
    have:=lP xy this;rw[show r=t by grind]])
   generalize a8 c d (tk A i)=x at *;generalize a8 c d (tk A (i+1))=y at *;have Z:x=0:=by
    refine Jp fun z=>?_
    have p1:=xr (show 0<1 - r by grind) (uo z);have p2:=Ie W (Im.mp nz);have J:x*((1 - r)*x+r*y)=0:=by rw[e,Kh]
    grind
   refine#[by grind,by grind,Z,?_];exact lP U (by grind)
theorem zm {b x y:Pt}(h:a8 a b x*a8 a b y<0) {t:Rat}(e:(1 - t)*a8 a b x+t*a8 a b y=0):J7 a b x y=c7 x y t:=by
 obtain⟨s,_,_,B,U⟩:=T5 h;rw[B,S7] at U;rw[B];generalize a8 a b x=u at *;generalize a8 a b y=v at *;have w:(u - v)*(t - s)=0:=by grind
 have J:u - v≠0:=fun z=>by
  have:u*v=u*u:=by grind
  have:=N5 u;grind
 have:=lP J w;rw[show s=t by grind]
theorem Fs {b c d:Pt}(hab:a≠b) (J:c≠d) (h1:a8 a b c=0) (h2:a8 a b d=0) (h:C5 a b C p):C5 c d C p:=by
 obtain⟨g,rfl⟩:=J8 hab h1;obtain⟨k,rfl⟩:=J8 hab h2;have W:k - g≠0:=fun z=>J (by rw[show g=k by grind])
 have B:∀z,a8 (c7 a b g) (c7 a b k) z=(k - g)*a8 a b z:=fun z=>by unfold a8 c7;grind
 rcases h with ⟨i,e,q⟩ | ⟨i,q,e⟩
 .exact .inl #[i,e,by rw[B,q,Kh]]
 .have s:=uo W;have n:a8 (c7 a b g) (c7 a b k) (tk C i)*a8 (c7 a b g) (c7 a b k) (tk C (i+1))<0:=by
   rw[B,B];have:=xr s (show 0 < -(a8 a b (tk C i)*a8 a b (tk C (i+1))) by grind);grind
  refine .inr #[i,n,?_];obtain⟨t,_,_,U,Y⟩:=T5 q;rw[U,S7] at Y;rw[e,U];exact(zm n (by rw[B,B];grind)).symm
def kZ {l:Nat}(hk:k<Ss.length) (h:k≠l):d9 Ss k∈C9 Ss l:=by
 have e:=cO hk;unfold C9;rw[IJ];by_cases c:k<l
 .exact .inl (Ju (i:=k) (by rw[Lg c];exact e))
 .exact .inr (Ju (i:=k - (l+1)) (by rw[Kf,show l+1+(k - (l+1))=k by omega];exact e))
section
variable (hS:∀C∈Ss,ShC C)
include hS
theorem rN {l:Nat}(hk:k<Ss.length) (hl:l<Ss.length) (Y:k≠l) (h1:a8 (tk (d9 Ss k) i) (tk (d9 Ss k) (i+1)) (tk (d9 Ss l) j)=0) (h2:a8 (tk (d9 Ss k) i) (tk (d9 Ss k) (i+1)) (tk (d9 Ss l) (j+1))=0) {s t q r:Rat}(U:El (tk (d9 Ss l) j) (tk (d9 Ss l) (j+1)) (C9 Ss l) s t) (W:aF (tk (d9 Ss k) i) (tk (d9 Ss k) (i+1)) (C9 Ss k) q) (e:c7 (tk (d9 Ss k) i) (tk (d9 Ss k) (i+1)) q=c7 (tk (d9 Ss l) j) (tk (d9 Ss l) (j+1)) r):¬ (s<r/\r<t):=fun w=>by
 have hA:=hS _ (M2 hk);have hC:=hS _ (M2 hl);have hab:=xu (hA.ne i);have B:=xu (hC.ne j);have J:a8 (tk (d9 Ss l) j) (tk (d9 Ss l) (j+1)) (c7 (tk (d9 Ss k) i) (tk (d9 Ss k) (i+1)) q)=0:=by rw[e];exact P9 _ _ _
 have nm:=cw U (kZ hk Y);obtain⟨_,_,Z⟩:=W;rcases Z with z | z | ⟨D,hD,m⟩
 .refine nm r ?_ w;rw[<-e,z,M3];rw[z,M3] at J;exact .inl #[i,rfl,J]
 .refine nm r ?_ w;rw[<-e,z,Q0];rw[z,Q0] at J;exact .inl #[i+1,rfl,J]
 .have m2:=Fs hab B h1 h2 m;rw[e] at m2;rcases ga hl (U7 D hD) with g | g
  .rw[g] at m2;have e1:=U.c1.1;have e2:=U.c2.2.1;rcases nU hC m2 with f | f
   .have:=W6 B (f.trans (M3 _ _).symm);grind
   .have:=W6 B (f.trans (Q0 _ _).symm);grind
  .exact cw U g r m2 w
theorem Ej (h4:Ss.length<=4) {l:Nat}(hk:k<Ss.length) (hl:l<Ss.length) {v:Pt × Pt}(hu:u∈E9 (tk (d9 Ss k) i) (tk (d9 Ss k) (i+1)) Ss) (hv:v∈E9 (tk (d9 Ss l) j) (tk (d9 Ss l) (j+1)) Ss) {x y:Rat}(x0:0<=x) (x1:x<=1) (y0:0<y) (y1:y<1) (e:c7 u.1 u.2 x=c7 v.1 v.2 y):u=v:=by
 obtain⟨s,t,U,rfl,n⟩:=(fj hS h4 hk i u).mp hu;obtain⟨s',t',B,rfl,n'⟩:=(fj hS h4 hl j v).mp hv;have hA:=hS _ (M2 hk);have hC:=hS _ (M2 hl);have hab:=xu (hA.ne i);have W:=xu (hC.ne j);simp only at e;rw[lM,lM] at e;have st:=U.lt;have st':=B.lt;have s0:=U.c1.1;have t1:=U.c2.2.1;have s0':=B.c1.1;have t1':=B.c2.2.1;have a1:=Ie x0 (show 0<=t - s by grind);have a2:=Ie (show 0<=1 - x by grind) (show 0<=t - s by grind);have a3:=xr y0 (show 0<t' - s' by grind);have a4:=xr (show 0<1 - y by grind) (show 0<t' - s' by grind);have r0:s<=s+x*(t - s):=by grind
 have r1:s+x*(t - s)<=t:=by grind
 have q0:s'<s'+y*(t' - s'):=by grind
 have q1:s'+y*(t' - s')<t':=by grind
 clear a1 a2 a3 a4;generalize s+x*(t - s)=r at *;generalize s'+y*(t' - s')=q at *;by_cases Z:k=l
 .subst Z;obtain⟨g1,g2⟩:=AU hA (by grind) (by grind) (by grind) (by grind) e;rw[g1,g2] at e U;have rq:=W6 W e;rw[g1,g2];have c1:=B.no s U.c1;have c2:=B.no t U.c2;have c3:=U.no s' B.c1;have c4:=U.no t' B.c2;have e1:s=s':=by grind
  have e2:t=t':=by grind
  rw[e1,e2]
 .have nm:=cw B (kZ hk Z);have on:a8 (tk (d9 Ss l) j) (tk (d9 Ss l) (j+1)) (c7 (tk (d9 Ss k) i) (tk (d9 Ss k) (i+1)) r)=0:=by rw[e];exact P9 _ _ _
  obtain⟨p0,p1,ha,hb⟩:=Bv i (by grind) (by grind) on (by rw[e];exact fun m=>nm q m #[q0,q1]);have cf1:=fun w z (c:aF (tk (d9 Ss l) j) (tk (d9 Ss l) (j+1)) (C9 Ss l) w) (g:c7 (tk (d9 Ss l) j) (tk (d9 Ss l) (j+1)) w=c7 (tk (d9 Ss k) i) (tk (d9 Ss k) (i+1)) z)=>rN hS hl hk (xu Z) ha hb U c g
  have lA:=pg hA i p0 p1;have sv:=kZ hk Z;have cf2:=fun h1 h2 w z (c:aF (tk (d9 Ss k) i) (tk (d9 Ss k) (i+1)) (C9 Ss k) w) (g:c7 (tk (d9 Ss k) i) (tk (d9 Ss k) (i+1)) w=c7 (tk (d9 Ss l) j) (tk (d9 Ss l) (j+1)) z)=>rN hS hk hl Z h1 h2 B c g
  have is:=fun h=>tD W hA (C:=d9 Ss k) (cw B sv) q0 q1 (show s'<(s'+t') / 2 by grind) (show (s'+t') / 2<t' by grind) h
  have hn:=n' _ sv;clear n n' on nm hu hv;generalize tk (d9 Ss k) i=a at *;generalize tk (d9 Ss k) (i+1)=b at *;generalize tk (d9 Ss l) j=c at *;generalize tk (d9 Ss l) (j+1)=d at *;obtain⟨f,rfl⟩:=J8 W ha;obtain⟨g,rfl⟩:=J8 W hb;have fg:g - f≠0:=fun z=>hab (by rw[show f=g by grind])
  have Y:=fun w=>lM c d f g w
  rw[Y] at e;have rq:=W6 W e;rcases(show g - f<0\/0<g - f by grind) with z | z
  .exfalso;refine hn (is fun m=>?_);rw[Y,e] at lA;rcases lA m with w | ⟨w1,w2⟩
   .exact .inl w
   .refine .inr #[w1,?_];rw[nq,show ((1:Int):Rat)=1 from rfl,Rat.one_mul] at w2;refine Im.mp fun w3=>?_
    have:=xr (show 0 < -(g - f) by grind) w3;grind
  .have cr0:∀w,a8 (c7 c d f) (c7 c d g) (c7 c d w)=0:=fun w=>by unfold a8 c7;grind
   have h1:=cr0 0;have h2:=cr0 1;rw[M3] at h1;rw[Q0] at h2;have b1:=cf2 h1 h2 s (f+s*(g - f)) U.c1 (Y s);have b2:=cf2 h1 h2 t (f+t*(g - f)) U.c2 (Y t);have dv:∀w,c7 c d w=c7 (c7 c d f) (c7 c d g) ((w - f) / (g - f)):=fun w=>by
    have:=Jm (a:=w - f) fg;rw[Y,show f+(w - f) / (g - f)*(g - f)=w by grind]
   have b3:=cf1 s' _ B.c1 (dv s');have b4:=cf1 t' _ B.c2 (dv t');have d3:=Jm (a:=s' - f) fg;have d4:=Jm (a:=t' - f) fg;have mono:∀{x y:Rat},x<y->f+x*(g - f)<f+y*(g - f):=fun {x y} h=>by
    have:=xr (show 0<y - x by grind) z;grind
   have J:∀{x y:Rat},x<=y->f+x*(g - f)<=f+y*(g - f):=fun {x y} h=>by
    have:=Ie (show 0<=y - x by grind) (II z);grind
   have inv:∀{x y:Rat},f+x*(g - f)<f+y*(g - f)->x<y:=fun {x y} h=>by
    refine IM.mp fun w=>?_
    have:=J w;grind
   have m1:=J r0;have m2:=J r1;have u1:f+s*(g - f)<=s':=by grind
   have u2:t'<=f+t*(g - f):=by grind
   have e3:f+(s' - f) / (g - f)*(g - f)=s':=by grind
   have e4:f+(t' - f) / (g - f)*(g - f)=t':=by grind
   generalize (s' - f) / (g - f)=σ at *;generalize (t' - f) / (g - f)=τ at *;have k1:σ<t:=inv (by grind);have k2:s<τ:=inv (by grind);have k3:¬ s<σ:=fun h=>b3 #[h,k1]
   have k4:¬ τ<t:=fun h=>b4 #[k2,h]
   have k5:=J (Im.mp k3);have k6:=J (Im.mp k4);rw[Y,Y,show f+s*(g - f)=s' by grind,show f+t*(g - f)=t' by grind]
end
abbrev aX:a9:=po X2 af
def FC {v:Pt × Pt}(hp:Ps 72 p) (h1:Ps 70 v.1) (h2:Ps 70 v.2):Z2 (pt p) (d7 v)=some (.bl (!(decide (p=v.1)||decide (p=v.2)))):=by
 have B:=(Ok.pt hp #[]).eq;have U:=(gc h1 h2).eq #[];have J:Q5 (pt p) [pt v.1,pt v.2]=(decide (p=v.1)||decide (p=v.2)):=by
  unfold Q5;rw[JG];simp only[D.pys,Ku,Nm,Lo,kB,Na,Jb];exact#[fun h=>h.imp Eq.symm Eq.symm,fun h=>h.imp Eq.symm Eq.symm]
 show (if u3 (pt p)&&u3 (d7 v) then some (D.bl (!Q5 (pt p) [pt v.1,pt v.2])) else none)=_;rw[B,U,J];rfl
theorem oA {v:Pt × Pt}(h1:Ps 35 v.1) (h2:Ps 35 v.2) (fs:vO_):∀L:List Pt,(∀p∈L,Ps 72 p/\(p=v.1\/p=v.2\/B3 v.1 v.2 p=false))->A3 (fun d=>some (.v d::[.v (d7 v)])) (u4 (dB (a7 Z2 (dL 0) (dL 1))) (o7 (d8 X2 (a0 (Oe 1 0) (a0 (Oe 1 1) (a0 (dV 0) b9)))))) (dV 0) (L.map pt) fs=some ([],fs)
 |[],_=>rfl
 |p::r,h=>by
  obtain⟨hp,B⟩:=h p (iR ..);have i:=oA h1 h2 fs r fun z J=>h z (iU _ J)
  have U:=FC hp (h1.mono #[]) (h2.mono #[]);have w:=vV v.1 v.2 p fs (h1.mono (show 35<=72 by decide)) (h2.mono #[]) hp #[];have c:u4 (dB (a7 Z2 (dL 0) (dL 1))) (o7 (d8 X2 (a0 (Oe 1 0) (a0 (Oe 1 1) (a0 (dV 0) b9))))) #[[.v (pt p),.v (d7 v)],fs]=some (false,#[[.v (pt p),.v (d7 v)],fs]):=by
   have e:=J0 (c8 (s:=#[[.v (pt p),.v (d7 v)],fs]) (a:=dL 0) (b:=dL 1) rfl rfl U);cases q:(decide (p=v.1)||decide (p=v.2)) with
   |true=>
    rw[q] at e;exact bv e
   |false=>
    rw[q] at e;refine X6 e ?_;rw[Bool.or_eq_false_iff,Oc,Oc] at q;rcases B with z | z | z
    .exact absurd z q.1
    .exact absurd z q.2
    .rw[z] at w;exact R4 (r8 (f7 (c8 rfl rfl rfl) (f7 (c8 rfl rfl rfl) (f7 rfl rfl))) w)
  rw[Iv,A3,td,c,td,fI Io];exact i
def yA {v:Pt × Pt}(J:Ps 35 u.1) (U:Ps 35 u.2) (h1:Ps 35 v.1) (h2:Ps 35 v.2) (Y:∀p∈[u.1,u.2,D4 u.1 u.2],p=v.1\/p=v.2\/B3 v.1 v.2 p=false) (fs:vO_):aX [d7 u,d7 v] fs=some (.bl false,fs):=by
 have m:=(fJ J U #[] fs).1;have W:=dM J U;have B:=oA h1 h2 fs [u.1,u.2,D4 u.1 u.2] fun p hp=>#[by
  rcases iO.mp hp with rfl | hp
  .exact J.mono #[]
  .rcases iO.mp hp with rfl | hp
   .exact U.mono #[]
   .rw[IA.mp hp];exact W.mono #[],Y p hp]
 refine u9 (s:=#[[.v (d7 u),.v (d7 v),.v (.lst ([u.1,u.2,D4 u.1 u.2].map pt))],fs]) ?_;show mC X2 af #[[.v (d7 u),.v (d7 v),.no],fs]=_;unfold mC;refine l8 (s1:=#[[.v (d7 u),.v (d7 v),.own ([u.1,u.2,D4 u.1 u.2].map pt)],fs]) (HU (s1:=#[[.v (d7 u),.v (d7 v),.no],fs]) (zh (f7 (c8 rfl rfl rfl) (f7 (c8 rfl rfl rfl) (f7 (r8 (f7 (c8 rfl rfl rfl) (f7 (c8 rfl rfl rfl) rfl)) m) rfl))) (by show 3<=sizeLine;decide)) (by show 2<3;decide) rfl) ?_;generalize X2=m1 at *;exact B0 (c8 (x:=.int 0) (aU (x:=.lst []) (aS (eC (idx:=[1]) (s1:=#[[.v (d7 u),.v (d7 v),.v (.lst ([u.1,u.2,D4 u.1 u.2].map pt))],fs]) rfl (by show 3<=sizeLine;decide) B)) rfl) rfl rfl)
section
variable (hS:∀C∈Ss,ShC C) (h4:Ss.length<=4)
include hS h4
theorem iW (B:u∈B4 Ss):Ps 35 u.1/\Ps 35 u.2/\u.1≠u.2:=by
 obtain⟨k,hk,i,h⟩:=(cG hS h4 u).mp B;have hA:=hS _ (M2 hk);have l:=v7 hA;obtain⟨p1,p2⟩:=jB (hA.sz _ (o9 i l)).1 (hA.sz _ (o9 (i+1) l)).1 hS u h;refine#[p1,p2,?_];obtain⟨s,t,e,rfl,_⟩:=(fj hS h4 hk i u).mp h;intro z;have:=W6 (xu (hA.ne i)) z;have:=e.lt;grind
theorem Hy {v:Pt × Pt}(hu:u∈B4 Ss) (U:v∈B4 Ss) (W:u≠v):∀p∈[u.1,u.2,D4 u.1 u.2],p=v.1\/p=v.2\/B3 v.1 v.2 p=false:=fun p hp=>by
 obtain⟨k,hk,i,h⟩:=(cG hS h4 u).mp hu;obtain⟨l,hl,j,g⟩:=(cG hS h4 v).mp U;obtain⟨_,_,J⟩:=iW hS h4 U;have px:∃x,p=c7 u.1 u.2 x/\0<=x/\x<=1:=by
  rcases iO.mp hp with rfl | hp
  .exact#[0,(M3 _ _).symm,by grind,by grind]
  .rcases iO.mp hp with rfl | hp
   .exact#[1,(Q0 _ _).symm,by grind,by grind]
   .rw[IA.mp hp];refine#[1 / 2,?_,by grind,by grind];unfold D4 c7;exact Il (by grind) (by grind)
 obtain⟨x,px,x0,x1⟩:=px;refine Jp fun n=>?_
 rw[JY,JY] at n;obtain⟨n1,Y,n3⟩:=n;have o:B3 v.1 v.2 p=true:=by simpa using n3
 have cr:a8 v.1 v.2 p=0:=by
  have q:=o;unfold B3 at q;rw[Iq,Jb] at q;exact q.1
 obtain⟨y,B⟩:=J8 J cr;rw[B,eG J,Iq,Jb,Jb] at o;have Z:0<y:=by
  refine Jp fun z=>n1 ?_
  rw[B,show y=0 by grind,M3]
 have y1:y<1:=by
  refine Jp fun z=>Y ?_
  rw[B,show y=1 by grind,Q0]
 exact W (Ej hS h4 hk hl h g x0 x1 Z y1 (px.symm.trans B))
theorem Ex {v:Pt × Pt}(B:u∈B4 Ss) (J:v∈B4 Ss) (U:u≠v) (fs:vO_):aX [d7 u,d7 v] fs=some (.bl false,fs):=by
 obtain⟨W,a2,_⟩:=iW hS h4 B;obtain⟨Z,Y,_⟩:=iW hS h4 J;exact yA W a2 Z Y (Hy hS h4 B J U) fs
end
def Bp {v:Pt × Pt}(J:Ps 35 u.1) (W:Ps 35 u.2) (h1:Ps 35 v.1) (h2:Ps 35 v.2):J6 (d7 u) (d7 v)=some (.bl (!decide (u=v))):=by
 have B:=(gc (J.mono #[]) (W.mono #[])).eq #[];have U:=(gc (h1.mono #[]) (h2.mono #[])).eq #[];show (if u3 (d7 u)&&u3 (d7 v) then some (D.bl (!PyData.eqv (d7 u).py (d7 v).py)) else none)=_;rw[B,U,zA];rfl
def yt {d:DL.D}{ds:List DL.D}(h:u3 (.lst (d::ds))=true):E6 (.lst (d::ds)) (.lst [])=some (.bl false):=by
 show (if u3 (.lst (d::ds))&&u3 (.lst []) then some (D.bl (PyData.eqv (D.lst (d::ds)).py (D.lst []).py)) else none)=_;rw[h,fx (show (true&&u3 (.lst []))=true from rfl)];rfl
section
variable {m1 m2 m3 m4 m5 m6 m7 m8:a9}{S P u v:DL.D}{ds:List DL.D}{f f':FS}
abbrev F4 (ns:List Int) (S P:DL.D) (x4 x5 x6:Sl) (fs:vO_):DS:=#[[.v (.scr ns),.v .feed,.v S,.v P,x4,x5,x6],fs]
theorem ny (hs:K2 [2] sl=[.v S]) (fs:vO_):∀us:List (Pt × Pt),(∀u∈us,m4 [S,pt u.1,pt u.2] fs=some (.bl true,fs))->A3 (P7 [2] sl) A5 (d8 m4 (a0 (dV 2) (a0 (dV 0) (a0 (dV 1) b9)))) (us.map d7) fs=some ((us.map fun _=>true).map D.bl,fs)
 |[],_=>rfl
 |u::r,h=>by
  have w:=h u (iR ..);have i:=ny hs fs r fun z B=>h z (iU _ B)
  have m:P7 [2] sl (d7 u)=some [.v (pt u.1),.v (pt u.2),.v S]:=by
   show some (Sl.v (pt u.1)::Sl.v (pt u.2)::K2 [2] sl)=_;rw[hs]
  rw[Iv,A3,m,td,show A5 #[[.v (pt u.1),.v (pt u.2),.v S],fs]=some (true,#[[.v (pt u.1),.v (pt u.2),.v S],fs]) from rfl,td,fx rfl,r8 (f7 rfl (f7 rfl (f7 rfl rfl))) w,td,i];rfl
def AD (h:m3 [.feed,S,P] (some f)=some (.bl true,some f')):iT m1 m2 m3 m4 m5 m6 m7 m8 (F4 ns S P x4 x5 x6 (some f))=some (.next,F4 ns S P x4 x5 x6 (some f')):=
 Y5 (fu (b:=true) (R4 (K8 (f7 rfl (f7 rfl (f7 rfl rfl))) h)))
def Fk {b:Bool}(e:m2 [.feed,.int (ds.length:Int)] (some f)=some (.int (j:Int),some f')) (B:ds[k]? = some u) (Y:ds[j]? = some v) (U:J6 u v=some (.bl b))
  (o:b=true->m1 [u,v] (some f')=some (.bl false,some f')/\m1 [v,u] (some f')=some (.bl false,some f')) :
  iI m1 m2 m3 m4 m5 m6 m7 m8 (F4 ns S (.lst ds) (.v (.int (k:Int))) x5 x6 (some f))=some (.next,F4 ns S (.lst ds) (.v (.int (k:Int))) (.v u) (.v v) (some f')):=by
 have i1:d5 (.lst ds) (.int (k:Int))=some u:=(U6 _ _).trans (Y7 B);have i2:d5 (.lst ds) (.int (j:Int))=some v:=(U6 _ _).trans (Y7 Y);refine l8 (s1:=F4 ns S (.lst ds) (.v (.int (k:Int))) (.v u) (.v v) (some f')) (vf (G4 (c8 rfl rfl i1) (G4 (c8 rfl (K8 (f7 rfl (f7 (aU (x:=.lst ds) rfl rfl) rfl)) e) i2) rfl)) rfl) ?_;have c:=J0 (c8 (s:=F4 ns S (.lst ds) (.v (.int (k:Int))) (.v u) (.v v) (some f')) (a:=dL 5) (b:=dL 6) rfl rfl U);cases b with
 |false=>exact Y5 (bv c)
 |true=>
  obtain⟨J,W⟩:=o rfl;exact Y5 (X6 c (uI (R4 (r8 (f7 rfl (f7 rfl rfl)) J)) (R4 (r8 (f7 rfl (f7 rfl rfl)) W))))
def DZ {N:DL.D}{f1 B:FS}{us:List (Pt × Pt)}(e0:m8 [.scr ns] none=some (.feed,some f)) (e1:m7 [.feed] (some f)=some (N,some f1)) (e2:m6 [.feed,N,.int 4,.int 0] (some f1)=some (S,some B)) (e3:m5 [S] (some B)=some (.lst (us.map d7),some B))
  (hq:∀u∈us,m4 [S,pt u.1,pt u.2] (some B)=some (.bl true,some B)) (hl:us.length<=700) (Z:E6 (.lst (us.map d7)) (.lst [])=some (.bl false))
  (U:A2 (e7 4) (iT m1 m2 m3 m4 m5 m6 m7 m8) (B7 0 8) (F4 ns S (.lst (us.map d7)) .no .no .no (some B))=some (.next,F4 ns S (.lst (us.map d7)) x4 .no .no (some f')))
  
  (hO:A2 (e7 4) (iI m1 m2 m3 m4 m5 m6 m7 m8) (B7 0 us.length) (F4 ns S (.lst (us.map d7)) x4 .no .no (some f'))=some (.next,F4 ns S (.lst (us.map d7)) z4 z5 z6 (some f3))) :
  gR m1 m2 m3 m4 m5 m6 m7 m8 [.scr ns] none=some (.bl true,some f3):=by
 refine u9 (s:=F4 ns S (.lst (us.map d7)) z4 z5 z6 (some f3)) ?_;show mF m1 m2 m3 m4 m5 m6 m7 m8 #[[.v (.scr ns),.no,.no,.no,.no,.no,.no],none]=_;unfold mF;refine l8 (s1:=#[[.v (.scr ns),.v .feed,.no,.no,.no,.no,.no],some f]) (B1 (fS (s1:=#[[.v (.scr ns),.no,.no,.no,.no,.no,.no],none]) rfl e0) rfl) ?_;refine l8 (s1:=#[[.v (.scr ns),.v .feed,.v S,.no,.no,.no,.no],some B]) (B1 (iX (G4 rfl (G4 (K8 rfl e1) rfl)) e2) rfl) ?_;refine l8 (s1:=F4 ns S (.lst (us.map d7)) .no .no .no (some B)) (B1 (r8 rfl e3) rfl) ?_;have J:=ny (m4:=m4) (S:=S) (sl:=(F4 ns S (.lst (us.map d7)) .no .no .no (some B)).sl) rfl (some B) us hq;have fa:=(pS (us.map fun _=>true)).1;have W:(us.map fun _=>true).all id=true:=by
  rw[List.all_map];exact JI.mpr fun _ _=>rfl
 rw[W] at fa;refine l8 (s1:=F4 ns S (.lst (us.map d7)) .no .no .no (some B)) (Y5 (uI (J0 (c8 rfl (aS (dJ (s1:=F4 ns S (.lst (us.map d7)) .no .no .no (some B)) (ds:=us.map d7) rfl (by rw[xo];exact Ij hl #[]) J)) fa)) (J0 (c8 rfl rfl Z)))) ?_;refine l8 (s1:=F4 ns S (.lst (us.map d7)) x4 .no .no (some f')) (by rw[iJ (xs:=[.int 8]) rfl (eQ (n:=8) #[])];exact U) ?_;have Y:T7 [.int ((us.map d7).length:Int)]=some (B7 0 us.length):=by rw[xo];exact eQ ∅
 refine l8 (s1:=F4 ns S (.lst (us.map d7)) z4 z5 z6 (some f3)) (by rw[iJ (xs:=[.int ((us.map d7).length:Int)]) (f7 (aU (x:=.lst (us.map d7)) rfl rfl) rfl) Y];exact hO) ?_;rfl
end
def math (ns:List Int) (hl:ns.length<=63):∃fs',gR aX G3 df ah cJ dc dh aY [.scr ns] none=some (.bl true,fs'):=by
 obtain⟨t,f1,e1,ht,h1⟩:=Ae (Fd4.zero ns) ∅;obtain⟨Ss,J,e2,hS,lo,h4,h2⟩:=Ap h1 ∅ ht (far:=0) #[];have bl:(B4 Ss).length<=700:=by
  have:=qX Ss;have:=lh hS h4;omega
 have hq:∀u∈B4 Ss,ah [.tup (Ss.map i7),pt u.1,pt u.2] (some J)=some (.bl true,some J):=fun u B=>by
  obtain⟨k,hk,i,h⟩:=(cG hS h4 u).mp B;exact An hS h4 hk i h (some J)
 have Z:E6 (.lst ((B4 Ss).map d7)) (.lst [])=some (.bl false):=by
  have ok:=EW (us:=B4 Ss) (fun u B=>rP hS h4 u (nL B)) ∅;obtain⟨u,r,e⟩:=Ob (AY hS h4 (Ss:=Ss) fun z=>by rw[z] at lo;exact absurd lo #[]);rw[e] at ok ⊢;exact yt (ok.eq #[])
 have ps:=fun u B=>iW hS h4 (u:=u) B
 have ov:=fun u v B hv U fs=>Ex hS h4 (u:=u) (v:=v) B hv U fs
 have ed:=fun {n:Nat}{f:FS}(h:Fd4 n f) Z=>Gp hS h4 lo h Z
 have bp:=Hf hS h4 (some J);generalize B4 Ss=us at *;generalize D.tup (Ss.map i7)=S at *;obtain⟨s3,hE,x4,f3,rfl,h3⟩:=cy (t:=e7 4) (b:=iT aX G3 df ah cJ dc dh aY) (fun i s=>∃x4 f,s=F4 ns S (.lst (us.map d7)) x4 .no .no (some f)/\Fd4 (30+3*i) f) (B7 0 8) 0
  (F4 ns S (.lst (us.map d7)) .no .no .no (some J)) #[_,_,rfl,h2.mono ∅] (by
   rintro i d s W ⟨x4,f,rfl,Y⟩;obtain⟨rfl,hi⟩:=fM W;obtain⟨f',e,h'⟩:=ed Y ∅;exact#[F4 ns S (.lst (us.map d7)) (.v (.int (0+(i:Int)))) .no .no (some f),_,rfl,.inl (AD e),_,f',rfl,h'.mono ∅])
 obtain⟨s4,hO,z4,z5,z6,f4,rfl,h5⟩:=cy (t:=e7 4) (b:=iI aX G3 df ah cJ dc dh aY) (fun i s=>∃x4 x5 x6 f,s=F4 ns S (.lst (us.map d7)) x4 x5 x6 (some f)/\Fd4 (100+i) f) (B7 0 us.length) 0
  (F4 ns S (.lst (us.map d7)) x4 .no .no (some f3)) #[_,_,_,_,rfl,h3.mono (by rw[cT];omega)] (by
   rintro i d s W ⟨x4,x5,x6,f,rfl,Y⟩;obtain⟨rfl,hi⟩:=fM W;obtain⟨r,f',e,a1,a2,h'⟩:=N8 ((us.map d7).length:Int) Y (by rw[xo];omega) ∅ (by rw[xo];omega);obtain⟨j,rfl⟩:=KR a1;have jl:j<us.length:=by rw[xo] at a2;omega
   have g1:us[i]? = some us[i]:=Jg hi;have g2:us[j]? = some us[j]:=Jg jl;have m1:us[i]∈us:=KO hi;have m2:us[j]∈us:=KO jl;generalize us[i]=u at *;generalize us[j]=v at *;obtain⟨p1,p2,_⟩:=ps u m1;obtain⟨q1,q2,_⟩:=ps v m2;have tu:=Fk (m1:=aX) (m2:=G3) (m3:=df) (m4:=ah) (m5:=cJ) (m6:=dc) (m7:=dh) (m8:=aY) (S:=S) (ns:=ns) (k:=i) (x5:=x5) (x6:=x6) e (u:=d7 u) (v:=d7 v) (by rw[IT,g1];rfl) (by rw[IT,g2];rfl) (Bp p1 p2 q1 q2) (fun b=>by
    have U:u≠v:=by simpa using b
    exact#[ov u v m1 m2 U _,ov v u m2 m1 (xu U) _])
   rw[Nh];exact#[F4 ns S (.lst (us.map d7)) (.v (.int (i:Int))) x5 x6 (some f),_,rfl,.inl tu,_,_,_,f',rfl,h'.mono ∅])
 exact#[some f4,DZ (Dt ns hl) e1 e2 bp hq bl Z hE hO]
end T
namespace T
open PySem PySem.Spec L2 DL
local macro_rules | `(tactic| wtm_at "c")=>`(tactic| first | with_reducible exact Fu | with_reducible exact uR | with_reducible exact vD | (with_reducible apply Cf);exact T1 (by assumption) | (with_reducible apply Fx);exact T1 (by assumption) | (with_reducible apply gA);exact T1 (by assumption) | (with_reducible apply vN);exact T1 (by assumption))
local macro_rules | `(tactic| wtm_at "o")=>`(tactic| first | with_reducible exact Fo | with_reducible exact xL | with_reducible exact AX | with_reducible exact Gr | with_reducible exact yD | with_reducible exact wP | with_reducible exact mK)
local macro_rules | `(tactic| wtm_at "q")=>`(tactic| first | with_reducible exact Ca | with_reducible exact HS | with_reducible exact zy | with_reducible exact xN | with_reducible exact AI | with_reducible exact Df | with_reducible exact EG)
local macro_rules | `(tactic| wtm_at "r")=>`(tactic| first | with_reducible exact mZ _ | with_reducible exact Ah | with_reducible exact Bi | with_reducible exact gf | with_reducible exact tw)
local macro_rules | `(tactic| wtm_at "k")=>`(tactic| first | with_reducible exact sW | with_reducible exact yE | with_reducible exact ua | with_reducible exact(vZ rfl))
local macro_rules | `(tactic| wtm_at "m")=>`(tactic| first | with_reducible exact tQ | with_reducible exact FK | with_reducible exact nM | with_reducible exact sm)
local macro_rules | `(tactic| wtm_at "b")=>`(tactic| first | exact Blt.abs (by assumption) | exact Blt.enumerate (by assumption) | exact Blt.int (by assumption) | exact Blt.len (by assumption) | exact Blt.list (by assumption) | exact Blt.min (by assumption) | exact Blt.range (by assumption) | exact Blt.tuple (by assumption) | exact Blt.zip (by assumption))
local macro_rules | `(tactic| wtm_at "t")=>`(tactic| first | exact Br | exact nk | exact pD | exact jH | exact tP | exact pC)
local macro_rules | `(tactic| wtm_at "n")=>`(tactic| first | exact eK | (refine Y9 ?_);wtm_at "n")
local macro_rules | `(tactic| wtm_at "l")=>`(tactic| first | exact Or.inl rfl | exact Or.inr rfl)
local macro_rules | `(tactic| wtm_at "x")=>`(tactic| first | exact rfl | exact Or.inl rfl | exact Or.inr rfl | decide | (intro _;rfl))
local macro_rules | `(tactic| wtm_at "S")=>`(tactic| first | (focus (with_reducible apply cR);all_goals wtm_at "x") | (focus (with_reducible apply G9);wtm_at "s";all_goals wtm_at "x") | (focus (with_reducible apply v3);wtm_at "s";wtm_at "S";all_goals wtm_at "x"))
local macro_rules | `(tactic| wtm_at "s")=>`(tactic| first | (focus (with_reducible apply uU);assumption;exact rfl;wtm_at "l";wtm_at "E";all_goals wtm_at "x") | (focus (with_reducible apply O5);wtm_at "E";all_goals wtm_at "x") | (focus (with_reducible apply bN);wtm_at "T";wtm_at "S";wtm_at "S";all_goals wtm_at "x") | (focus (with_reducible apply Aw);wtm_at "E";wtm_at "G";all_goals wtm_at "x") | (focus (with_reducible apply yC);exact pv _;wtm_at "E";all_goals wtm_at "x") | (focus (with_reducible apply ya);assumption;exact rfl;wtm_at "l";wtm_at "F";all_goals wtm_at "x") | (focus (with_reducible apply bo);exact Jw;exact rfl;wtm_at "E";wtm_at "G";wtm_at "S";all_goals wtm_at "x") | (focus (with_reducible apply ur);exact Jw;wtm_at "T";wtm_at "S";all_goals wtm_at "x") | (focus (with_reducible apply vc);exact Jw;exact rfl;exact rfl;exact Blt.range (by assumption);wtm_at "E";wtm_at "G";wtm_at "S";all_goals wtm_at "x") | (focus (with_reducible apply EH);exact pv _;wtm_at "E";all_goals wtm_at "x") | (focus (with_reducible apply Ga);exact rfl;assumption;exact rfl;exact rfl;decide;exact rfl;exact rfl;wtm_at "A";exact rfl;all_goals wtm_at "x"))
local macro_rules | `(tactic| wtm_at "B")=>`(tactic| first | (focus (with_reducible apply xc);exact pv _;all_goals wtm_at "x") | (focus (with_reducible apply EO.b);wtm_at "E";all_goals wtm_at "x"))
local macro_rules | `(tactic| wtm_at "E")=>`(tactic| first | (focus (with_reducible apply N4);exact pv _;all_goals wtm_at "x") | (focus (with_reducible apply jR);all_goals wtm_at "x") | (focus (with_reducible apply Gv);exact yL;exact GV;wtm_at "B";wtm_at "B";exact fun _ _=>rfl;all_goals wtm_at "x") | (focus (with_reducible apply Bn);rotate_left;wtm_at "q";rotate_right;wtm_at "o";wtm_at "B";wtm_at "B";all_goals wtm_at "x") | (focus (with_reducible apply je);assumption;assumption;(first | decide | exact tx _ | exact Ij (by decide) (Nat.le_add_right _ _));exact rfl;wtm_at "A";wtm_at "n";all_goals wtm_at "x") | (focus (with_reducible apply Hr);wtm_at "A";all_goals wtm_at "x") | (focus (with_reducible apply aG);all_goals wtm_at "x") | (focus (with_reducible apply Ba);exact BF;exact Dc;wtm_at "B";all_goals wtm_at "x") | (focus (with_reducible apply FO.v);wtm_at "F";all_goals wtm_at "x") | (focus (with_reducible apply eZ);rotate_left;wtm_at "r";rotate_right;wtm_at "c";wtm_at "B";wtm_at "B";(first | exact dY _ | exact rfl);all_goals wtm_at "x") | (focus (with_reducible apply xw);wtm_at "T";wtm_at "E";wtm_at "E";all_goals wtm_at "x") | (focus (with_reducible apply Fh);wtm_at "B";wtm_at "O";wtm_at "O";all_goals wtm_at "x") | (focus (with_reducible apply DJ);wtm_at "E";all_goals wtm_at "x") | (focus (with_reducible apply mf);rotate_left;wtm_at "m";rotate_right;wtm_at "k";exact rfl;wtm_at "b";wtm_at "t";wtm_at "a";all_goals wtm_at "x") | (focus (with_reducible apply wx);rotate_left;wtm_at "m";rotate_right;wtm_at "k";exact rfl;wtm_at "b";wtm_at "t";wtm_at "a";all_goals wtm_at "x") | (focus (with_reducible apply FQ);exact pv _;all_goals wtm_at "x") | (focus (with_reducible apply Hi);wtm_at "E";all_goals wtm_at "x") | (focus (with_reducible apply zS);wtm_at "E";wtm_at "E";all_goals wtm_at "x") | (focus (with_reducible apply BI);wtm_at "E";wtm_at "E";all_goals wtm_at "x"))
local macro_rules | `(tactic| wtm_at "A")=>`(tactic| first | (focus (with_reducible apply ac);wtm_at "E";wtm_at "A";all_goals wtm_at "x") | (focus (with_reducible apply bR);all_goals wtm_at "x"))
local macro_rules | `(tactic| wtm_at "a")=>`(tactic| first | (focus (with_reducible apply bc);wtm_at "B";wtm_at "a";all_goals wtm_at "x") | (focus (with_reducible apply jd);all_goals wtm_at "x"))
local macro_rules | `(tactic| wtm_at "T")=>`(tactic| first | (focus (with_reducible apply jX);rotate_left;wtm_at "r";rotate_right;wtm_at "c";wtm_at "B";wtm_at "B";(first | exact dY _ | exact rfl);all_goals wtm_at "x") | (focus (with_reducible apply WO.t);wtm_at "W";all_goals wtm_at "x") | (focus (with_reducible apply HQ);wtm_at "T";all_goals wtm_at "x") | (focus (with_reducible apply sM);wtm_at "B";all_goals wtm_at "x"))
local macro_rules | `(tactic| wtm_at "W")=>`(tactic| first | (focus (with_reducible apply nv);wtm_at "T";wtm_at "W";all_goals wtm_at "x") | (focus (with_reducible apply vM);wtm_at "T";all_goals wtm_at "x") | (focus (with_reducible apply pZ);wtm_at "T";wtm_at "W";all_goals wtm_at "x") | (focus (with_reducible apply yV);wtm_at "T";all_goals wtm_at "x"))
local macro_rules | `(tactic| wtm_at "O")=>`(tactic| first | (focus (with_reducible apply xT);all_goals wtm_at "x") | (focus (with_reducible apply zN);wtm_at "B";all_goals wtm_at "x"))
local macro_rules | `(tactic| wtm_at "F")=>`(tactic| first | (focus (with_reducible apply HM);wtm_at "A";all_goals wtm_at "x") | (focus (with_reducible apply yY);rotate_left;wtm_at "q";rotate_right;wtm_at "o";wtm_at "B";wtm_at "B";all_goals wtm_at "x"))
local macro_rules | `(tactic| wtm_at "G")=>`(tactic| first | (focus (with_reducible apply Hx);wtm_at "h";all_goals wtm_at "x") | (focus (with_reducible apply xm);exact rfl;wtm_at "g";all_goals wtm_at "x"))
local macro_rules | `(tactic| wtm_at "h")=>`(tactic| first | (focus (with_reducible apply R9);assumption;exact rfl;wtm_at "l";all_goals wtm_at "x"))
local macro_rules | `(tactic| wtm_at "g")=>`(tactic| first | (focus (with_reducible apply Dq);wtm_at "G";wtm_at "g";all_goals wtm_at "x") | (focus (with_reducible apply BT);all_goals wtm_at "x"))
local macro_rules | `(tactic| wtm_at "R")=>`(tactic| first | (refine G9 ?_;wtm_at "s") | (refine v3 ?_ ?_;wtm_at "s";wtm_at "S"))
local macro_rules | `(tactic| wtm_at "p")=>`(tactic| first | exact fun _ _ _ _ _ _=>EQ fun _=>rfl | exact fun _ _ _ _ _ _=>jY fun _ _=>rfl | exact fun _ _ _ _ _ _=>Dm fun _ _ _=>rfl | exact fun _ _ _ _ _ _=>DX fun _ _ _ _=>rfl | exact fun _ _ _ _ _ _=>on5 fun _ _ _ _ _=>rfl | exact fun _ _ _ _ _ _=>on0 rfl)
local macro_rules | `(tactic| wtm_at "f")=>`(tactic| exact⟨rfl,rfl,rfl,by decide +kernel,rfl,by decide +kernel,by decide +kernel⟩)
local macro_rules | `(tactic| wtm_at "M")=>`(tactic| (intro nd _ _ _ _ _ _ _ hr;wtm_at "R"))
def j7 (i:Nat):Stmt:=PySem.Challenge.pw_widelines_k24_whole_area_to_the_left_alo.main.body.getD i (.Pass #[0,0,0,0])
section
variable (P:Program) (w:World) (K:vF_) (mg:vG_) (base:Heap)
abbrev qS:=Cal P w K mg base 1 "_law_tape" ["_law_script"]
abbrev bK:=Cal P w K mg base 1 "_law_draw" ["_law_tape_here", "_law_many"]
abbrev uD:=Cal P w K mg base 1 "_law_common" ["_law_one", "_law_other"]
abbrev ig:=Cal P w K mg base 2 "_law_place" ["_law_x", "_law_y", "_law_bottom"]
abbrev vE:=Cal P w K mg base 3 "_law_laid" ["_law_net_here", "_law_u", "_law_v"]
abbrev sB:=Cal P w K mg base 2 "_law_form" ["_law_tape_here"]
abbrev jw:=Cal P w K mg base 1 "_law_less" ["_law_one", "_law_other"]
abbrev qi:=Cal P w K mg base 2 "_law_begun" ["_law_corners"]
abbrev nZ:=Cal P w K mg base 4 "_law_shapes" ["_law_tape_here", "_law_net_here", "_law_most", "_law_far"]
abbrev bT:=Cal P w K mg base 1 "is_lesser" ["one", "other"]
abbrev qD:=Cal P w K mg base 2 "row_goes_ahead" ["one", "other"]
abbrev uy:=Cal P w K mg base 3 "merged" ["ones", "others", "goes_ahead"]
abbrev lj:=Cal P w K mg base 1 "neighbours" ["row", "closed"]
abbrev pc:=Cal P w K mg base 2 "edges" ["corners"]
abbrev vS:=Cal P w K mg base 2 "span" ["a", "b"]
abbrev jQ:=Cal P w K mg base 1 "upright" ["one", "other"]
abbrev jL:=Cal P w K mg base 2 "straight" ["a", "b"]
abbrev tG:=Cal P w K mg base 1 "divisor_of_two" ["one", "other"]
abbrev qd:=Cal P w K mg base 2 "divisor" ["parts"]
abbrev uB:=Cal P w K mg base 3 "lowest" ["parts"]
abbrev rV:=Cal P w K mg base 4 "crossing" ["line", "other"]
abbrev nG:=Cal P w K mg base 5 "places_on" ["line", "shape", "sides"]
abbrev qF:=Cal P w K mg base 1 "sign" ["number"]
abbrev tO:=Cal P w K mg base 2 "side_of" ["line", "one"]
abbrev oH:=Cal P w K mg base 2 "is_covered" ["part", "covers"]
abbrev vp:=Cal P w K mg base 67 "in_order" ["some", "goes_ahead"]
abbrev ou:=Cal P w K mg base 68 "bare_parts_of_edge" ["a", "b", "shapes"]
abbrev rF:=Cal P w K mg base 69 "bare_parts" ["shapes"]
abbrev ug:=Cal P w K mg base 2 "_law_net" ["_law_tape_here"]
abbrev js:=Cal P w K mg base 1 "_law_edges" ["_law_ring"]
abbrev lV:=Cal P w K mg base 1 "_law_det" ["_law_a", "_law_b", "_law_c"]
abbrev md:=Cal P w K mg base 2 "_law_on" ["_law_a", "_law_b", "_law_p"]
abbrev sQ:=Cal P w K mg base 2 "_law_in" ["_law_shape", "_law_p"]
abbrev lr:=Cal P w K mg base 3 "_law_area" ["_law_shapes_here", "_law_p"]
abbrev jx:=Cal P w K mg base 1 "_law_beside" ["_law_a", "_law_b", "_law_p", "_law_side"]
abbrev nK:=Cal P w K mg base 4 "_law_edge_right" ["_law_tape_here", "_law_shapes_here", "_law_parts"]
abbrev kK:=Cal P w K mg base 3 "_law_midst" ["_law_one", "_law_other"]
abbrev qY:=Cal P w K mg base 4 "_law_part_right" ["_law_shapes_here", "_law_begin", "_law_end"]
abbrev uE:=Cal P w K mg base 4 "_law_over" ["_law_one", "_law_other"]
end
variable {f:Addr}
section
variable {P:Program}{w:World}{K:vF_}
def xx (B:Blt mg) (F:GF K mg "_law_tape" (j7 24) f fd):qS P w K mg base (aY):=
 w9 [] F (by wtm_at "p") (by wtm_at "f") fun U _ _ _ _ _ _ g J=>
 (G9 (O5 (BX (T1 J) (pv 0) (pv 0) (by rfl) B.list jH (by rfl) B.int nk)))
def yQ (B:Blt mg) (F:GF K mg "_law_draw" (j7 25) f fd):bK P w K mg base (tf):=
 w9 ["_law_digit", "_law_spot", "_law_cell", "_law_mixed"] F (by wtm_at "p") (by wtm_at "f") (by unfold ap;wtm_at "M")
def Fz (B:Blt mg) (F:GF K mg "_law_common" (j7 26) f fd):uD P w K mg base (ix):=
 w9 [] F (by wtm_at "p") (by wtm_at "f") (by unfold oz;wtm_at "M")
def EI (J:uD P w K mg base m0y) (B:Blt mg) (F:GF K mg "_law_place" (j7 27) f fd):ig P w K mg base (rH m0y):=
 w9 ["_law_by"] F (by wtm_at "p") (by wtm_at "f") (by unfold gu;wtm_at "M")
def Cz (J:ig P w K mg base m03) (B:Blt mg) (F:GF K mg "_law_laid" (j7 34) f fd):vE P w K mg base (sU m03):=
 w9 ["_law_x"] F (by wtm_at "p") (by wtm_at "f") (by unfold gQ;wtm_at "M")
def Hg (J:bK P w K mg base m00) (B:Blt mg) (F:GF K mg "_law_form" (j7 32) f fd):sB P w K mg base (oE m00):=
 w9 ["_law_w", "_law_h", "_law_some"] F (by wtm_at "p") (by wtm_at "f") (by unfold gN;wtm_at "M")
def ye (B:Blt mg) (F:GF K mg "_law_less" (j7 29) f fd):jw P w K mg base (aJ):=
 w9 ["_law_first"] F (by wtm_at "p") (by wtm_at "f") (by unfold gb;wtm_at "M")
def zv (J:jw P w K mg base m06) (B:Blt mg) (F:GF K mg "_law_begun" (j7 31) f fd):qi P w K mg base (uX m06):=
 w9 ["_law_at", "_law_k"] F (by wtm_at "p") (by wtm_at "f") (by unfold iD;wtm_at "M")
def zi (Y:bK P w K mg base m00) (W:qi P w K mg base m0t) (U:sB P w K mg base m0u) (Z:vE P w K mg base m0v) (B:Blt mg) (F:GF K mg "_law_shapes" (j7 35) f fd):nZ P w K mg base (nE m00 m0t m0u m0v):=
 w9 ["_law_found", "_law_k", "_law_x", "_law_y", "_law_corners"] F (by wtm_at "p") (by wtm_at "f") fun J _ _ _ _ _ _ g hr=>
 (v3 (by wtm_at "s") (v3 (vc Jw rfl (by rfl) B.range (by wtm_at "E") (by wtm_at "G") (v3 (by wtm_at "s") (v3 (kg (i:=8) J rfl (by first | exact Or.inl rfl | exact Or.inr rfl) (zF (caps:=["_law_net_here", "_law_x", "_law_y"]) (idx:=[1,6,7]) rfl (eu (by rfl) (.cons rfl (.cons rfl (.cons rfl .nil))) (by decide +kernel) rfl (by decide +kernel) (by rfl) (.cons rfl (by first | exact Or.inl rfl | exact Or.inr rfl) (by first | exact Or.inl rfl | exact Or.inr rfl) (.cons rfl (by first | exact Or.inl rfl | exact Or.inr rfl) (by first | exact Or.inl rfl | exact Or.inr rfl) (.cons rfl (by first | exact Or.inl rfl | exact Or.inr rfl) (by first | exact Or.inl rfl | exact Or.inr rfl) .nil)))) (T9 (by wtm_at "E")) (show List.Nodup (["_law_u", "_law_v", "_law_net_here", "_law_x", "_law_y"]:List Str) by decide +kernel) (fun _ _ _ _=>rfl) (fun _ _ _ _=>rfl) (fun _ _ _ _ _=>W2) (fun _ _ _ _ _=>(by wtm_at "E")))) (by wtm_at "S")))) (by wtm_at "S")))
def yK (B:Blt mg) (F:GF K mg "is_lesser" (j7 5) f fd):bT P w K mg base (E1):=
 w9 ["here", "there"] F (by wtm_at "p") (by wtm_at "f") (by unfold dS;wtm_at "M")
def Ds (J:bT P w K mg base m01) (B:Blt mg) (F:GF K mg "row_goes_ahead" (j7 12) f fd):qD P w K mg base (sK m01):=
 w9 ["here", "there"] F (by wtm_at "p") (by wtm_at "f") fun U _ _ _ _ _ _ g W=>
 (v3 (Ep Jw rfl (by rfl) B.zip (by wtm_at "A") (by wtm_at "G") (by wtm_at "S")) (by wtm_at "S"))
def xH (U:bT P w K mg base m01) (J:qD P w K mg base m0i) (B:Blt mg) (F:GF K mg "merged" (j7 11) f fd):uy P w K mg base (di m01 m0i):=
 w9 ["told", "taken", "one"] F (by wtm_at "p") (by wtm_at "f") fun Y _ _ _ _ _ _ g W=>
 (v3 (by wtm_at "s") (v3 (by wtm_at "s") (v3 (bo Jw rfl (N4 (pv 0)) (by wtm_at "G") (v3 (ur Jw (WO.t (nv (by wtm_at "T") (vM (sM (EO.b (GD (uV U #[] rfl (uV J #[] rfl wH)) W (pv 2) (by wtm_at "A") (Y9 (Y9 eK)))))))) (by wtm_at "S")) (by wtm_at "S"))) (by wtm_at "S"))))
def u00:FnScope ["some", "goes_ahead", "middle"] ["some", "goes_ahead"] (D5 (j7 10)):=by wtm_at "f"
theorem nJ (U:uy P w K mg base m0x) (B:Blt mg) (F:GF K mg "in_order" (j7 10) f fd):∀n:Nat,Cal P w K mg base (3+n) "in_order" ["some", "goes_ahead"] (dD m0x n)
 |0=>#[f,fd,wI,F.m,F.F.kp,F.F.binds (fun _ _ _ _ _ _=>jY fun _ _=>rfl)]
 |n+1=>
  have W:=nJ U B F n
  uF F (fun _ _ _ _ _ _=>jY fun _ _=>rfl) u00 fun Y A J s H E g Z=>
  have nd:=u00.nd
  (v3 (bN (by wtm_at "T") (G9 (O5 (FO.v (Bz vo yy (by rfl) B.list jH (by wtm_at "a"))))) cR) (by wtm_at "S"))
def CL (B:Blt mg) (F:GF K mg "neighbours" (j7 8) f fd):lj P w K mg base (T4):=
 w9 [] F (by wtm_at "p") (by wtm_at "f") fun J _ _ _ _ _ _ g U=>
 (v3 (bN (by wtm_at "T") (G9 (O5 (FO.v (wE rfl (by rfl) B.list (by rfl) B.zip (by wtm_at "a"))))) cR) (G9 (O5 (FO.v (wE rfl (by rfl) B.list (by rfl) B.zip (by wtm_at "a"))))))
def yU (J:lj P w K mg base m05) (B:Blt mg) (F:GF K mg "edges" (j7 9) f fd):pc P w K mg base (sT m05):=
 w9 [] F (by wtm_at "p") (by wtm_at "f") (by unfold gU;wtm_at "M")
def yZ (J:bT P w K mg base m01) (B:Blt mg) (F:GF K mg "span" (j7 13) f fd):vS P w K mg base (jg m01):=
 w9 [] F (by wtm_at "p") (by wtm_at "f") (by unfold lL;wtm_at "M")
def CP (B:Blt mg) (F:GF K mg "upright" (j7 14) f fd):jQ P w K mg base (ij):=
 w9 [] F (by wtm_at "p") (by wtm_at "f") (by unfold uY;wtm_at "M")
def Cr (J:jQ P w K mg base m0b) (B:Blt mg) (F:GF K mg "straight" (j7 15) f fd):jL P w K mg base (sS m0b):=
 w9 [] F (by wtm_at "p") (by wtm_at "f") (by unfold sH;wtm_at "M")
def Ce (B:Blt mg) (F:GF K mg "divisor_of_two" (j7 1) f fd):tG P w K mg base (T2):=
 w9 ["greater", "rest", "left_over"] F (by wtm_at "p") (by wtm_at "f") (by unfold gY;wtm_at "M")
def Cg (J:tG P w K mg base m0s) (B:Blt mg) (F:GF K mg "divisor" (j7 2) f fd):qd P w K mg base (bM m0s):=
 w9 ["shared", "part"] F (by wtm_at "p") (by wtm_at "f") (by unfold gy;wtm_at "M")
def zq (J:qd P w K mg base m0z) (B:Blt mg) (F:GF K mg "lowest" (j7 3) f fd):uB P w K mg base (uc m0z):=
 w9 ["shared"] F (by wtm_at "p") (by wtm_at "f") fun U _ _ _ _ _ _ g W=>
 (v3 (by wtm_at "s") (v3 (by wtm_at "s") (G9 (O5 (wx ua nM (by rfl) B.tuple pC (bc (EO.b (FO.v (fL (N':=["part", "shared"]) (idx:=[1]) rfl (bw (by rfl) (.cons rfl .nil) (by decide +kernel) rfl (by decide +kernel) (by rfl) (.cons rfl (by first | exact Or.inl rfl | exact Or.inr rfl) (by first | exact Or.inl rfl | exact Or.inr rfl) .nil)) (T9 (N4 (pv 0))) (fun _ _ _ _=>R9 (i:=0) (show List.Nodup (["part", "shared"]:List Str) by decide +kernel) rfl (Or.inl rfl)) (fun _ _ _ _ _=>W2) (fun _ _ _ _ _=>(by wtm_at "E"))))) jd))))))
def zJ (U:uB P w K mg base m0B) (J:jQ P w K mg base m0b) (B:Blt mg) (F:GF K mg "crossing" (j7 17) f fd):rV P w K mg base (uw m0B m0b):=
 w9 [] F (by wtm_at "p") (by wtm_at "f") (by unfold wc;wtm_at "M")
def wR (U:rV P w K mg base m0w) (J:jL P w K mg base m04) (B:Blt mg) (F:GF K mg "places_on" (j7 21) f fd):nG P w K mg base (tS m0w m04):=
 w9 ["met", "k", "side"] F (by wtm_at "p") (by wtm_at "f") fun W _ _ _ _ _ _ g Y=>
 (v3 (by wtm_at "s") (v3 (Fw Jw rfl (by rfl) B.enumerate (by wtm_at "A") (by wtm_at "G") (by wtm_at "S")) (by wtm_at "S")))
def yu (B:Blt mg) (F:GF K mg "sign" (j7 6) f fd):qF P w K mg base (lR):=
 w9 [] F (by wtm_at "p") (by wtm_at "f") (by unfold cB;wtm_at "M")
def AE (J:qF P w K mg base m0A) (B:Blt mg) (F:GF K mg "side_of" (j7 16) f fd):tO P w K mg base (nB m0A):=
 w9 [] F (by wtm_at "p") (by wtm_at "f") (by unfold ph;wtm_at "M")
def EL (J:bT P w K mg base m01) (B:Blt mg) (F:GF K mg "is_covered" (j7 22) f fd):oH P w K mg base (qB m01):=
 w9 ["low", "high"] F (by wtm_at "p") (by wtm_at "f") (by unfold fO;wtm_at "M")
def DK (C0p:oH P w K mg base m0j) (Z:lj P w K mg base m05) (Y:vp P w K mg base m02) (C0q:vS P w K mg base m0g) (C00:bT P w K mg base m01) (C0r:nG P w K mg base m0k) (C0s:tO P w K mg base m0l) (C07:jL P w K mg base m04) (J:FnV K mg "is_lesser") (B:Blt mg) (F:GF K mg "bare_parts_of_edge" (j7 20) f fd):ou P w K mg base (ul m0j m05 m02 m0g m01 m0k m0l m04):=
 w9 ["ends", "line", "splits", "covers", "shape", "sides", "met", "one", "parts", "bare"] F (by wtm_at "p") (by wtm_at "f") fun U _ _ _ _ _ _ g W=>
 (v3 (by wtm_at "s") (v3 (by wtm_at "s") (v3 (Fm (i:=5) qg (T1 W) U rfl (by first | exact Or.inl rfl | exact Or.inr rfl) (pv 0) (pv 1) eL eL) (v3 (by wtm_at "s") (v3 (bo Jw rfl (N4 (pv 2)) (by wtm_at "G") (v3 (kg (i:=8) U rfl (by first | exact Or.inl rfl | exact Or.inr rfl) (nW (N':=["corner", "line"]) (idx:=[4]) rfl (bw (by rfl) (.cons rfl .nil) (by decide +kernel) rfl (by decide +kernel) (by rfl) (.cons rfl (by first | exact Or.inl rfl | exact Or.inr rfl) (by first | exact Or.inl rfl | exact Or.inr rfl) .nil)) (T9 (N4 (pv 7))) (fun _ _ _ _=>R9 (i:=0) (show List.Nodup (["corner", "line"]:List Str) by decide +kernel) rfl (Or.inl rfl)) (fun _ _ _ _ _=>W2) (fun _ _ _ _ _=>(by wtm_at "E")))) (v3 (by wtm_at "s") (v3 (bo Jw rfl (N4 (pv 9)) (by wtm_at "G") (G9 (bN (by wtm_at "T") (G9 (qe qg (T1 W) (pv 5) (pv 10) eL)) cR))) (by wtm_at "S"))))) (v3 (uU (i:=11) U rfl (by first | exact Or.inl rfl | exact Or.inr rfl) (je Z _ W #[] (by rfl) (ac (je Y _ W #[] (by rfl) (ac (FO.v (oj rfl (by rfl) B.list (pv 5))) (ac (rQ J (by rfl)) bR)) (Y9 (Y9 eK))) (ac aG bR)) (Y9 (Y9 eK)))) (v3 (kg (i:=12) U rfl (by first | exact Or.inl rfl | exact Or.inr rfl) (BV [6] (nW (N':=["part", "covers"]) (idx:=[6]) rfl (bw (by rfl) (.cons rfl .nil) (by decide +kernel) rfl (by decide +kernel) (by rfl) (.cons rfl (by first | exact Or.inl rfl | exact Or.inr rfl) (by first | exact Or.inl rfl | exact Or.inr rfl) .nil)) (T9 (N4 (pv 11))) (fun _ _ _ _=>R9 (i:=0) (show List.Nodup (["part", "covers"]:List Str) by decide +kernel) rfl (Or.inl rfl)) (fun _ _ _ _ _=>(pU (by wtm_at "T"))) (fun _ _ _ _ _=>(N4 (pv 0)))))) (v3 (by wtm_at "s") (G9 (O5 (FO.v (gX (caps:=[]) (idx:=[]) rfl (eu (by rfl) .nil (by decide +kernel) rfl (by decide +kernel) (by rfl) .nil) (T9 (N4 (pv 12))) (show List.Nodup (["begin", "end"]:List Str) by decide +kernel) (fun _ _ _ _=>rfl) (fun _ _ _ _=>rfl) (fun _ _ _ _ _=>W2) (fun _ _ _ _ _=>(by wtm_at "E"))))))))))))))
def Dg (U:vp P w K mg base m02) (Z:ou P w K mg base m0e) (Y:pc P w K mg base m0f) (J:FnV K mg "row_goes_ahead") (B:Blt mg) (F:GF K mg "bare_parts" (j7 19) f fd):rF P w K mg base (qO m02 m0e m0f):=
 w9 ["told", "shape", "a", "b", "part"] F (by wtm_at "p") (by wtm_at "f") fun nd _ _ _ _ _ _ g W=>
 (v3 (Fn (i:=1) nd rfl (by first | exact Or.inl rfl | exact Or.inr rfl)) (v3 (bo Jw rfl (N4 (pv 0)) (by wtm_at "G") (G9 (bo Jw rfl (by wtm_at "E") (by wtm_at "G") (G9 (bo Jw rfl (by wtm_at "E") (by wtm_at "G") (G9 (qe Aa (T1 W) (pv 1) (pv 5) eL))))))) (G9 (O5 (je U _ W #[] (by rfl) (ac (FO.v (oj rfl (by rfl) B.list (pv 1))) (ac (rQ J (by rfl)) bR)) (Y9 (Y9 eK)))))))
def EK (J:bK P w K mg base m00) (B:Blt mg) (F:GF K mg "_law_net" (j7 33) f fd):ug P w K mg base (vj m00):=
 w9 ["_law_some", "_law_found", "_law_x", "_law_y"] F (by wtm_at "p") (by wtm_at "f") (by unfold fQ;wtm_at "M")
def CB (B:Blt mg) (F:GF K mg "_law_edges" (j7 30) f fd):js P w K mg base (aN):=
 w9 [] F (by wtm_at "p") (by wtm_at "f") fun J _ _ _ _ _ _ g U=>
 (G9 (O5 (FO.v (fL (N':=["_law_k", "_law_ring"]) (idx:=[0]) rfl (bw (by rfl) (.cons rfl .nil) (by decide +kernel) rfl (by decide +kernel) (by rfl) (.cons rfl (by first | exact Or.inl rfl | exact Or.inr rfl) (by first | exact Or.inl rfl | exact Or.inr rfl) .nil)) (yo (by rfl) B.range (by wtm_at "E")) (fun _ _ _ _=>R9 (i:=0) (show List.Nodup (["_law_k", "_law_ring"]:List Str) by decide +kernel) rfl (Or.inl rfl)) (fun _ _ _ _ _=>W2) (fun _ _ _ _ _=>(by wtm_at "E"))))))
def Bk (B:Blt mg) (F:GF K mg "_law_det" (j7 28) f fd):lV P w K mg base (av):=
 w9 ["_law_first", "_law_second"] F (by wtm_at "p") (by wtm_at "f") (by unfold ik;wtm_at "M")
def EZ (J:jw P w K mg base m06) (U:lV P w K mg base m0a) (B:Blt mg) (F:GF K mg "_law_on" (j7 36) f fd):md P w K mg base (ck m06 m0a):=
 w9 ["_law_low", "_law_high"] F (by wtm_at "p") (by wtm_at "f") (by unfold eV;wtm_at "M")
def Da (J:js P w K mg base m0c) (U:lV P w K mg base m0a) (B:Blt mg) (F:GF K mg "_law_in" (j7 39) f fd):sQ P w K mg base (oS m0c m0a):=
 w9 [] F (by wtm_at "p") (by wtm_at "f") fun W _ _ _ _ _ _ g Y=>
 (G9 (O5 (eZ vD (mZ (fun i j=>decide (j<=i))) (EO.b (mf (vZ rfl) sm (by rfl) B.min tP (bc (EO.b (FO.v (gX (caps:=["_law_p"]) (idx:=[1]) rfl (eu (by rfl) (.cons rfl .nil) (by decide +kernel) rfl (by decide +kernel) (by rfl) (.cons rfl (by first | exact Or.inl rfl | exact Or.inr rfl) (by first | exact Or.inl rfl | exact Or.inr rfl) .nil)) (T9 (by wtm_at "E")) (show List.Nodup (["_law_a", "_law_b", "_law_p"]:List Str) by decide +kernel) (fun _ _ _ _=>rfl) (fun _ _ _ _=>rfl) (fun _ _ _ _ _=>W2) (fun _ _ _ _ _=>(by wtm_at "E"))))) jd))) (EO.b jR) (dY _))))
def Dy (J:sQ P w K mg base m0C) (B:Blt mg) (F:GF K mg "_law_area" (j7 40) f fd):lr P w K mg base (vL m0C):=
 w9 [] F (by wtm_at "p") (by wtm_at "f") fun W _ _ _ _ _ _ g U=>
 (G9 (O5 (eZ (gA (T1 U)) gf (EO.b aG) (EO.b (FO.v (fL (N':=["_law_shape", "_law_p"]) (idx:=[1]) rfl (bw (by rfl) (.cons rfl .nil) (by decide +kernel) rfl (by decide +kernel) (by rfl) (.cons rfl (by first | exact Or.inl rfl | exact Or.inr rfl) (by first | exact Or.inl rfl | exact Or.inr rfl) .nil)) (T9 (N4 (pv 0))) (fun _ _ _ _=>R9 (i:=0) (show List.Nodup (["_law_shape", "_law_p"]:List Str) by decide +kernel) rfl (Or.inl rfl)) (fun _ _ _ _ _=>W2) (fun _ _ _ _ _=>(by wtm_at "E"))))) (by rfl))))
def Ac (B:Blt mg) (F:GF K mg "_law_beside" (j7 38) f fd):jx P w K mg base (F1):=
 w9 ["_law_far", "_law_x", "_law_y"] F (by wtm_at "p") (by wtm_at "f") (by unfold gF;wtm_at "M")
def CA (C0a:lr P w K mg base m08) (U:jx P w K mg base m09) (W:md P w K mg base m0d) (Y:ig P w K mg base m03) (C01:bK P w K mg base m00) (Z:js P w K mg base m0c) (B:Blt mg) (F:GF K mg "_law_edge_right" (j7 42) f fd):nK P w K mg base (wv m08 m09 m0d m03 m00 m0c):=
 w9 ["_law_shape", "_law_a", "_law_b", "_law_at", "_law_x", "_law_spot"] F (by wtm_at "p") (by wtm_at "f") fun nd _ _ _ _ _ _ g J=>
 (v3 (by wtm_at "s") (v3 (by wtm_at "s") (v3 (by wtm_at "s") (v3 (by wtm_at "s") (v3 (by wtm_at "s") (v3 (bN (jX (gA (T1 J)) gf (EO.b aG) (EO.b (FO.v (gX (caps:=["_law_spot"]) (idx:=[8]) rfl (eu (by rfl) (.cons rfl .nil) (by decide +kernel) rfl (by decide +kernel) (by rfl) (.cons rfl (by first | exact Or.inl rfl | exact Or.inr rfl) (by first | exact Or.inl rfl | exact Or.inr rfl) .nil)) (T9 (N4 (pv 2))) (show List.Nodup (["_law_begin", "_law_end", "_law_spot"]:List Str) by decide +kernel) (fun _ _ _ _=>rfl) (fun _ _ _ _=>rfl) (fun _ _ _ _ _=>W2) (fun _ _ _ _ _=>(by wtm_at "E"))))) (by rfl)) (G9 (O5 aG)) cR) (G9 (O5 (eZ (vN (T1 J)) tw (EO.b aG) (EO.b (FO.v (fL (N':=["_law_side", "_law_shapes_here", "_law_a", "_law_b", "_law_spot"]) (idx:=[1,4,5,8]) rfl (bw (by rfl) (.cons rfl (.cons rfl (.cons rfl (.cons rfl .nil)))) (by decide +kernel) rfl (by decide +kernel) (by rfl) (.cons rfl (by first | exact Or.inl rfl | exact Or.inr rfl) (by first | exact Or.inl rfl | exact Or.inr rfl) (.cons rfl (by first | exact Or.inl rfl | exact Or.inr rfl) (by first | exact Or.inl rfl | exact Or.inr rfl) (.cons rfl (by first | exact Or.inl rfl | exact Or.inr rfl) (by first | exact Or.inl rfl | exact Or.inr rfl) (.cons rfl (by first | exact Or.inl rfl | exact Or.inr rfl) (by first | exact Or.inl rfl | exact Or.inr rfl) .nil))))) (T9 (by wtm_at "E")) (fun _ _ _ _=>R9 (i:=0) (show List.Nodup (["_law_side", "_law_shapes_here", "_law_a", "_law_b", "_law_spot"]:List Str) by decide +kernel) rfl (Or.inl rfl)) (fun _ _ _ _ _=>W2) (fun _ _ _ _ _=>(by wtm_at "E"))))) (by rfl))))))))))
def zt (J:ig P w K mg base m03) (B:Blt mg) (F:GF K mg "_law_midst" (j7 37) f fd):kK P w K mg base (tB m03):=
 w9 ["_law_x"] F (by wtm_at "p") (by wtm_at "f") (by unfold ja;wtm_at "M")
def yd (U:lr P w K mg base m08) (J:jx P w K mg base m09) (W:kK P w K mg base m07) (B:Blt mg) (F:GF K mg "_law_part_right" (j7 41) f fd):qY P w K mg base (pN m08 m09 m07):=
 w9 ["_law_middle", "_law_spot"] F (by wtm_at "p") (by wtm_at "f") (by unfold gD;wtm_at "M")
def xX (J:md P w K mg base m0d) (U:kK P w K mg base m07) (B:Blt mg) (F:GF K mg "_law_over" (j7 43) f fd):uE P w K mg base (po m0d m07):=
 w9 ["_law_spots"] F (by wtm_at "p") (by wtm_at "f") fun W _ _ _ _ _ _ g Y=>
 (v3 (by wtm_at "s") (G9 (O5 (eZ uR (mZ (fun i j=>decide (j<i))) (EO.b (mf sW tQ (by rfl) B.len pD (bc (EO.b (FO.v (fL (N':=["_law_spot", "_law_other"]) (idx:=[1]) rfl (bw (by rfl) (.cons rfl .nil) (by decide +kernel) rfl (by decide +kernel) (by rfl) (.cons rfl (by first | exact Or.inl rfl | exact Or.inr rfl) (by first | exact Or.inl rfl | exact Or.inr rfl) .nil)) (T9 (N4 (pv 2))) (fun _ _ _ _=>R9 (i:=0) (show List.Nodup (["_law_spot", "_law_other"]:List Str) by decide +kernel) rfl (Or.inl rfl)) (fun _ _ _ _ _=>(pU (by wtm_at "T"))) (fun _ _ _ _ _=>(N4 (pv 0)))))) jd))) (EO.b jR) (dY _)))))
def u01:FnScope ["_law_script", "_law_tape_here", "_law_shapes_here", "_law_parts", "_law_k", "_law_one", "_law_other"] ["_law_script"] (D5 (j7 44)):=by wtm_at "f"
def FB (C0w:uE P w K mg base m0h) (C01:bK P w K mg base m00) (W:nK P w K mg base m0m) (C0y:qY P w K mg base m0n) (C0z:rF P w K mg base m0o) (Z:nZ P w K mg base m0p) (Y:ug P w K mg base m0q) (U:qS P w K mg base m0r) {f:Addr}(B:Blt mg) (F:Fun K "law" "law" (j7 44) f fd):eJ P w K mg base 70 f fd ["_law_script"] (gR m0h m00 m0m m0n m0o m0p m0q m0r):=
 nR F u01 fun cdv A J s H E g hr=>
  have nd:=u01.nd
  (v3 (by wtm_at "s") (v3 (by wtm_at "s") (v3 (by wtm_at "s") (v3 (bN (WO.t (pZ (jX (gA (T1 hr)) gf (EO.b aG) (EO.b (FO.v (gX (caps:=["_law_shapes_here"]) (idx:=[2]) rfl (eu (by rfl) (.cons rfl .nil) (by decide +kernel) rfl (by decide +kernel) (by rfl) (.cons rfl (by first | exact Or.inl rfl | exact Or.inr rfl) (by first | exact Or.inl rfl | exact Or.inr rfl) .nil)) (T9 (N4 (pv 3))) (show List.Nodup (["_law_begin", "_law_end", "_law_shapes_here"]:List Str) by decide +kernel) (fun _ _ _ _=>rfl) (fun _ _ _ _=>rfl) (fun _ _ _ _ _=>W2) (fun _ _ _ _ _=>(by wtm_at "E"))))) (by rfl)) (by wtm_at "W"))) (G9 (O5 aG)) cR) (by wtm_at "S")))))
end
end T
namespace T
open PySem PySem.Spec L2 DL
abbrev whole:a9:=gR aX G3 df ah cJ dc dh aY
set_option autoImplicit true in
set_option relaxedAutoImplicit true in
def all_mk {l:PySem.W.OpenLaw}{w:World}{K:vF_}{fa:Addr}(X:K.In h) (G:h.Ns mainGlobals mg) (hfa:mg "law" = some (.ref fa))
  (g1:GF K mg "_law_tape" (j7 24) jf1 jd1)
  (g2:GF K mg "_law_draw" (j7 25) jf2 jd2)
  (g3:GF K mg "_law_common" (j7 26) jf3 jd3)
  (g4:GF K mg "_law_place" (j7 27) jf4 jd4)
  (g5:GF K mg "_law_laid" (j7 34) jf5 jd5)
  (g6:GF K mg "_law_form" (j7 32) jf6 jd6)
  (g7:GF K mg "_law_less" (j7 29) jf7 jd7)
  (g8:GF K mg "_law_begun" (j7 31) jf8 jd8)
  (g9:GF K mg "_law_shapes" (j7 35) jf9 jd9)
  (g10:GF K mg "is_lesser" (j7 5) jf10 jd10)
  (g11:GF K mg "row_goes_ahead" (j7 12) jf11 jd11)
  (g12:GF K mg "merged" (j7 11) jf12 jd12)
  (g13:GF K mg "in_order" (j7 10) jf13 jd13)
  (g14:GF K mg "neighbours" (j7 8) jf14 jd14)
  (g15:GF K mg "edges" (j7 9) jf15 jd15)
  (g16:GF K mg "span" (j7 13) jf16 jd16)
  (g17:GF K mg "upright" (j7 14) jf17 jd17)
  (g18:GF K mg "straight" (j7 15) jf18 jd18)
  (g19:GF K mg "divisor_of_two" (j7 1) jf19 jd19)
  (g20:GF K mg "divisor" (j7 2) jf20 jd20)
  (g21:GF K mg "lowest" (j7 3) jf21 jd21)
  (g22:GF K mg "crossing" (j7 17) jf22 jd22)
  (g23:GF K mg "places_on" (j7 21) jf23 jd23)
  (g24:GF K mg "sign" (j7 6) jf24 jd24)
  (g25:GF K mg "side_of" (j7 16) jf25 jd25)
  (g26:GF K mg "is_covered" (j7 22) jf26 jd26)
  (g27:GF K mg "bare_parts_of_edge" (j7 20) jf27 jd27)
  (g28:GF K mg "bare_parts" (j7 19) jf28 jd28)
  (g29:GF K mg "_law_net" (j7 33) jf29 jd29)
  (g30:GF K mg "_law_edges" (j7 30) jf30 jd30)
  (g31:GF K mg "_law_det" (j7 28) jf31 jd31)
  (g32:GF K mg "_law_on" (j7 36) jf32 jd32)
  (g33:GF K mg "_law_in" (j7 39) jf33 jd33)
  (g34:GF K mg "_law_area" (j7 40) jf34 jd34)
  (g35:GF K mg "_law_beside" (j7 38) jf35 jd35)
  (g36:GF K mg "_law_edge_right" (j7 42) jf36 jd36)
  (g37:GF K mg "_law_midst" (j7 37) jf37 jd37)
  (g38:GF K mg "_law_part_right" (j7 41) jf38 jd38)
  (g39:GF K mg "_law_over" (j7 43) jf39 jd39)
  (g40:GF K mg "law" (j7 44) jf40 jd40)
  (U:PySem.W.nsIn K mainGlobals "is_lesser" = some (some (.ref pf_is_lesser)))
  (J:PySem.W.nsIn K mainGlobals "row_goes_ahead" = some (some (.ref pf_row_goes_ahead)))
  (B:Blt mg) :
  ∃fd:FuncData,(∀(s:Shared) (v:Value),BindsTo s fd #[[v],[]] [("_law_script",v)])/\∀base:Heap,K.In base->base.Ns mainGlobals mg->FnOk l.prog w K mg base T8 70 fa fd ["_law_script"] (cM K 1 whole):=by
 have e:=hfa.symm.trans g40.m;cases e;refine#[jd40,HJ g40.F fun _ _ _ _ _ _ _ _=>.of_eq rfl,fun base _ _=>?_];have Z:FnV K mg "is_lesser" := #[_,Mf X G U,U]
 have Y:FnV K mg "row_goes_ahead" := #[_,Mf X G J,J]
 have C0C:=xx (P:=l.prog) (w:=w) (base:=base) B g1;have C01:=yQ (P:=l.prog) (w:=w) (base:=base) B g2;have C0g:=Fz (P:=l.prog) (w:=w) (base:=base) B g3;have C03:=EI C0g B g4;have C0j:=Cz C03 B g5;have C0i:=Hg C01 B g6;have C05:=ye (P:=l.prog) (w:=w) (base:=base) B g7;have C0h:=zv C05 B g8;have C0A:=zi C01 C0h C0i C0j B g9;have C00:=yK (P:=l.prog) (w:=w) (base:=base) B g10;have C0e:=Ds C00 B g11;have C0f:=xH C00 C0e B g12;have C02:=nJ C0f B g13 64;have C04:=CL (P:=l.prog) (w:=w) (base:=base) B g14;have C0u:=yU C04 B g15;have C0q:=yZ C00 B g16;have C06:=CP (P:=l.prog) (w:=w) (base:=base) B g17;have C07:=Cr C06 B g18;have C0k:=Ce (P:=l.prog) (w:=w) (base:=base) B g19;have C0l:=Cg C0k B g20;have C0m:=zq C0l B g21;have C0n:=zJ C0m C06 B g22;have C0r:=wR C0n C07 B g23;have C0o:=yu (P:=l.prog) (w:=w) (base:=base) B g24;have C0s:=AE C0o B g25;have C0p:=EL C00 B g26;have C0t:=DK C0p C04 C02 C0q C00 C0r C0s C07 Z B g27;have C0z:=Dg C02 C0t C0u Y B g28;have C0B:=EK C01 B g29;have C09:=CB (P:=l.prog) (w:=w) (base:=base) B g30;have C08:=Bk (P:=l.prog) (w:=w) (base:=base) B g31;have C0c:=EZ C05 C08 B g32;have C0v:=Da C09 C08 B g33;have C0a:=Dy C0v B g34;have C0b:=Ac (P:=l.prog) (w:=w) (base:=base) B g35;have C0x:=CA C0a C0b C0c C03 C01 C09 B g36;have C0d:=zt C03 B g37;have C0y:=yd C0a C0b C0d B g38;have C0w:=xX C0c C0d B g39;exact FB C0w C01 C0x C0y C0z C0A C0B C0C B g40.F
end T
abbrev GK:=@DL.gf_mk
end
open PySem PySem.W PyProof.Rows
set_option maxRecDepth 100000 in
set_option maxHeartbeats 0 in
theorem PySem.Challenge.cw_widelines_k24_whole_area_to_the_left_alo_holds : PySem.Challenge.rw_widelines_k24_whole_area_to_the_left_alo.Holds := by
 w_on; o_law; k_head; (case hw=>w_witness2)
 k_fill
 refine DL.walkD (l:=PySem.Challenge.rw_widelines_k24_whole_area_to_the_left_alo) (m:=T.whole) (k:=70) rfl rfl ⟨rfl,by decide,by decide,rfl⟩ (fun w h Y=>PySem.W.kIn_of Y) ?F T.math
 case F=>
  intro w mg fa h KX G hmg
  refine' T.all_mk KX G hmg (GK KX G ?_ ?_ ?_ ?_) (GK KX G ?_ ?_ ?_ ?_) (GK KX G ?_ ?_ ?_ ?_) (GK KX G ?_ ?_ ?_ ?_) (GK KX G ?_ ?_ ?_ ?_) (GK KX G ?_ ?_ ?_ ?_) (GK KX G ?_ ?_ ?_ ?_) (GK KX G ?_ ?_ ?_ ?_) (GK KX G ?_ ?_ ?_ ?_) (GK KX G ?_ ?_ ?_ ?_) (GK KX G ?_ ?_ ?_ ?_) (GK KX G ?_ ?_ ?_ ?_) (GK KX G ?_ ?_ ?_ ?_) (GK KX G ?_ ?_ ?_ ?_) (GK KX G ?_ ?_ ?_ ?_) (GK KX G ?_ ?_ ?_ ?_) (GK KX G ?_ ?_ ?_ ?_) (GK KX G ?_ ?_ ?_ ?_) (GK KX G ?_ ?_ ?_ ?_) (GK KX G ?_ ?_ ?_ ?_) (GK KX G ?_ ?_ ?_ ?_) (GK KX G ?_ ?_ ?_ ?_) (GK KX G ?_ ?_ ?_ ?_) (GK KX G ?_ ?_ ?_ ?_) (GK KX G ?_ ?_ ?_ ?_) (GK KX G ?_ ?_ ?_ ?_) (GK KX G ?_ ?_ ?_ ?_) (GK KX G ?_ ?_ ?_ ?_) (GK KX G ?_ ?_ ?_ ?_) (GK KX G ?_ ?_ ?_ ?_) (GK KX G ?_ ?_ ?_ ?_) (GK KX G ?_ ?_ ?_ ?_) (GK KX G ?_ ?_ ?_ ?_) (GK KX G ?_ ?_ ?_ ?_) (GK KX G ?_ ?_ ?_ ?_) (GK KX G ?_ ?_ ?_ ?_) (GK KX G ?_ ?_ ?_ ?_) (GK KX G ?_ ?_ ?_ ?_) (GK KX G ?_ ?_ ?_ ?_) (GK KX G ?_ ?_ ?_ ?_) ?_ ?_ (DL.blt_mk KX G ?_ ?_ ?_ ?_ ?_ ?_ ?_ ?_ ?_ ?_ ?_ ?_ ?_ ?_ ?_ ?_ ?_ ?_ ?_)
  all_goals try k_is
